import Derived.Test.YtjagijohfkffiabCHEM07
import Derived.Test.YtjagijohfkffiabCHEM31
import Derived.Test.YtjagijohfkffiabCHEM33
import Derived.Deep.AppendLies

/- The walks of the reference's read and kept. -/
namespace Go.Proofs.Ytjagijohfkffiab
open Go.RowKit
set_option linter.unusedVariables false

section
variable (F gp cap g scap : Nat) (ns : List Nd) (bs : List Nat) (S : Nat → Bool) (w : World)

set_option maxHeartbeats 4000000 in
set_option maxRecDepth 100000 in
theorem read_set (x : Nat) (hx : x < 8) (hf : FR w F gp cap ns bs) (hs : Rb w g ns.length S) (hg : Good ns) (hc : ns.length ≤ scap) :
    Calls Try.prog 49 #[.pointer (some ⟨F, 0, none⟩), .slice (some ⟨g, 0, none⟩) ns.length scap, .int .i64 x] w fun e w' => e = .returned (.bool (readB' ns S x)) ∧ w' = w := by
  have hle := hg.le
  have k0 := hf.c0
  have kc := hf.hcap
  have HN := hid (fun k hk h => allN_no (ns := ns) (p := fun nd k => readN nd k S x) (k := k) hk h)
  have HY := hid (allN_iff (ns := ns) (p := fun nd k => readN nd k S x)).2
  have HF := hid hf
  have HS := hid hs
  have HW := hid hg.wf
  unfold readB'
  generalize allN ns (fun nd k => readN nd k S x) = V at *
  have hlen : ∃ n, n = ns.length := ⟨_, rfl⟩
  obtain ⟨n, hn⟩ := hlen
  rw [← hn] at k0 kc hle hc ⊢
  have HNN := hid hn
  clear hn hf hs hg
  go_enter Try.func49, Try.ntmps49
  go_wp2_with fail
  go_loop [7] (fun i => ∃ j : Nat, j ≤ n ∧ i = .int .i64 j ∧ Hid (∀ k, k < j → readN (ndAt ns k) k S x = true)) (fun i => n - (intOf i).toNat)
  case atStart => exact ⟨0, Nat.zero_le _, rfl, hid (fun k hk => by omega)⟩
  case round =>
    obtain ⟨j, hj, rfl, HI⟩ := hrel
    by_cases hlt : j < n
    · have hjn : j < ns.length := by rw [← HNN.out]; exact hlt
      have c1 := HF.out.ptr j hjn
      have c2 := HF.out.op j hjn
      have sj := HS.out.cell j hjn
      have hcl := wf2_class HW.out (ndAt_some hjn)
      have HNX : Hid (readN (ndAt ns j) j S x = false → V = false) := hid (fun h => HN.out j hjn h)
      have HNS : Hid (readN (ndAt ns j) j S x = true → ∀ k, k < j + 1 → readN (ndAt ns k) k S x = true) := hid (fun h k hk => by
        by_cases e : k < j
        · exact HI.out k e
        · rw [show k = j by omega]; exact h)
      have ho8 : (ndAt ns j).op < 256 := by
        rcases hcl.1 with h | h | h
        · rcases leaf_is h with e | e | e | e | e <;> omega
        · rcases one_is h with e | e | e | e <;> omega
        · rcases two_is h with e | e | e | e <;> omega
      have HV : Hid (readN (ndAt ns j) j S x = if (ndAt ns j).op = 112 ∨ (ndAt ns j).op = 113 ∨ (ndAt ns j).op = 114 then saysB x (ndAt ns j).op == S j else true) := hid rfl
      generalize readN (ndAt ns j) j S x = rv at *
      generalize (ndAt ns j).op = op at *
      generalize bAt bs j = b at *
      clear hcl
      generalize S j = va at *
      by_cases hp : op = 112 ∨ op = 113 ∨ op = 114
      · have SY := says_any x op w hx hp
        have HV2 : Hid (rv = (saysB x op == va)) := hid (by rw [HV.out, if_pos hp])
        generalize saysB x op = sv at *
        rcases hp with rfl | rfl | rfl
        all_goals
          go_wp2_with fail
          refine SY.mono ?_
          rintro e w' ⟨rfl, rfl⟩
          go_wp2_with fail
          all_goals
            first
            | (go_round
               case rel => exact ⟨j + 1, by omega, by go_num, hid (HNS.out (by rw [HV2.out]; cases sv <;> cases va <;> first | rfl | contradiction))⟩
               case measure => simp [intOf]; omega)
            | (go_ret
               exact ⟨by rw [HNX.out (by rw [HV2.out]; cases sv <;> cases va <;> first | rfl | contradiction)]; rfl, rfl⟩)
      · have HV2 : Hid (rv = true) := hid (by rw [HV.out, if_neg hp])
        have k1 : ((op : Int) == 112) = false := beq_eq_false_iff_ne.2 (by omega)
        have k2 : ((op : Int) == 113) = false := beq_eq_false_iff_ne.2 (by omega)
        have k3 : ((op : Int) == 114) = false := beq_eq_false_iff_ne.2 (by omega)
        clear hp
        go_wp2_with fail
        go_round
        case rel => exact ⟨j + 1, by omega, by go_num, hid (HNS.out HV2.out)⟩
        case measure => simp [intOf]; omega
    · have HT : Hid (V = true) := hid (HY.out (fun k hk => HI.out k (by rw [← HNN.out] at hk; omega)))
      go_wp2_with fail
      go_ret
      exact ⟨by rw [HT.out]; rfl, rfl⟩

set_option maxHeartbeats 4000000 in
set_option maxRecDepth 100000 in
theorem kept_set (k : Nat) (hk : k < ns.length) (hf : FR w F gp cap ns bs) (hs : Rb w g ns.length S) (hg : Good ns) (hc : ns.length ≤ scap) :
    Calls Try.prog 51 #[.pointer (some ⟨F, 0, none⟩), .slice (some ⟨g, 0, none⟩) ns.length scap, .int .i64 k] w fun e w' => e = .returned (.bool (keptN (ndAt ns k) k S)) ∧ w' = w := by
  have hle := hg.le
  have k0 := hf.c0
  have kc := hf.hcap
  have c1 := hf.ptr k hk
  have c2 := hf.op k hk
  have sj := hs.cell k hk
  have hcl := wf2_class hg.wf (ndAt_some hk)
  have HLN := hid (fun i (hi : i < k) => (⟨hf.nn i (by omega), hs.cell i (by omega)⟩ : w.cell? ⟨bAt bs i, 3, none⟩ = some (.int .i64 i) ∧ w.cell? ⟨g, i, none⟩ = some (.bool (S i))))
  have lp := hid (hf.lp k hk)
  have rp := hid (hf.rp k hk)
  clear hf hs hg
  have HV : Hid (keptN (ndAt ns k) k S = if (ndAt ns k).op = 70 then S (ndAt ns k).l || !S k else if (ndAt ns k).op = 85 then S (ndAt ns k).r || !S k else if (ndAt ns k).op = 71 then S k || !S (ndAt ns k).l else if (ndAt ns k).op = 82 then S k || !S (ndAt ns k).r else true) := hid rfl
  generalize keptN (ndAt ns k) k S = V at *
  generalize ndAt ns k = nd at *
  generalize bAt bs k = b at *
  have hn8 : ns.length ≤ 8 := hle
  generalize ns.length = n at *
  by_cases h1 : nd.op = 70
  · have lpp := lp.out (by rw [h1]; rfl)
    obtain ⟨ln, ls⟩ := HLN.out nd.l (hcl.2.1 (by rw [h1]; rfl))
    have hlk := hcl.2.1 (by rw [h1]; rfl)
    have HV2 : Hid (V = (S nd.l || !S k)) := hid (by rw [HV.out, if_pos h1])
    rw [h1] at c2
    clear HV h1 lp rp hcl
    generalize nd.l = l at *
    generalize bAt bs l = bl at *
    generalize S l = vl at *
    generalize S k = vk at *
    cases vl <;> cases vk
    all_goals
      go_enter Try.func51, Try.ntmps51
      go_wp2_with fail
      go_ret
      exact ⟨by rw [HV2.out]; rfl, rfl⟩
  by_cases h2 : nd.op = 85
  · have rpp := rp.out (by rw [h2]; rfl)
    obtain ⟨rn, rs⟩ := HLN.out nd.r (hcl.2.2 (by rw [h2]; rfl))
    have hrk := hcl.2.2 (by rw [h2]; rfl)
    have HV2 : Hid (V = (S nd.r || !S k)) := hid (by rw [HV.out, if_neg h1, if_pos h2])
    rw [h2] at c2
    clear HV h1 h2 lp rp hcl
    generalize nd.r = r at *
    generalize bAt bs r = br at *
    generalize S r = vl at *
    generalize S k = vk at *
    cases vl <;> cases vk
    all_goals
      go_enter Try.func51, Try.ntmps51
      go_wp2_with fail
      go_ret
      exact ⟨by rw [HV2.out]; rfl, rfl⟩
  by_cases h3 : nd.op = 71
  · have lpp := lp.out (by rw [h3]; rfl)
    obtain ⟨ln, ls⟩ := HLN.out nd.l (hcl.2.1 (by rw [h3]; rfl))
    have hlk := hcl.2.1 (by rw [h3]; rfl)
    have HV2 : Hid (V = (S k || !S nd.l)) := hid (by rw [HV.out, if_neg h1, if_neg h2, if_pos h3])
    rw [h3] at c2
    clear HV h1 h2 h3 lp rp hcl
    generalize nd.l = l at *
    generalize bAt bs l = bl at *
    generalize S l = vl at *
    generalize S k = vk at *
    cases vl <;> cases vk
    all_goals
      go_enter Try.func51, Try.ntmps51
      go_wp2_with fail
      go_ret
      exact ⟨by rw [HV2.out]; rfl, rfl⟩
  by_cases h4 : nd.op = 82
  · have rpp := rp.out (by rw [h4]; rfl)
    obtain ⟨rn, rs⟩ := HLN.out nd.r (hcl.2.2 (by rw [h4]; rfl))
    have hrk := hcl.2.2 (by rw [h4]; rfl)
    have HV2 : Hid (V = (S k || !S nd.r)) := hid (by rw [HV.out, if_neg h1, if_neg h2, if_neg h3, if_pos h4])
    rw [h4] at c2
    clear HV h1 h2 h3 h4 lp rp hcl
    generalize nd.r = r at *
    generalize bAt bs r = br at *
    generalize S r = vl at *
    generalize S k = vk at *
    cases vl <;> cases vk
    all_goals
      go_enter Try.func51, Try.ntmps51
      go_wp2_with fail
      go_ret
      exact ⟨by rw [HV2.out]; rfl, rfl⟩
  have HV2 : Hid (V = true) := hid (by rw [HV.out, if_neg h1, if_neg h2, if_neg h3, if_neg h4])
  generalize nd.op = op at *
  have q1 : ((op : Int) == 70) = false := beq_eq_false_iff_ne.2 (by omega)
  have q2 : ((op : Int) == 85) = false := beq_eq_false_iff_ne.2 (by omega)
  have q3 : ((op : Int) == 71) = false := beq_eq_false_iff_ne.2 (by omega)
  have q4 : ((op : Int) == 82) = false := beq_eq_false_iff_ne.2 (by omega)
  clear HV h1 h2 h3 h4 lp rp hcl
  go_enter Try.func51, Try.ntmps51
  go_wp2_with fail
  go_ret
  exact ⟨by rw [HV2.out]; rfl, rfl⟩
end

end Go.Proofs.Ytjagijohfkffiab

/- The walk of the reference's sets. -/
namespace Go.Proofs.Ytjagijohfkffiab
open Go.RowKit
set_option linter.unusedVariables false

theorem Try.infoSet : (Try.prog.info? 105).map (fun i => (i.zero, i.size, i.bytes)) = some (some (.slice none 0 0), 1, 24) := by kernel_rfl

def bitF (v : Nat) : Nat → Bool := fun k => v.testBit k
def goodV (ns : List Nd) (v : Nat) : Bool := fitsB ns (bitF v) && (List.range 8).any fun a => readB' ns (bitF v) a
def vsTo (ns : List Nd) (j : Nat) : List Nat := (List.range j).filter (goodV ns)
def setVal (n : Nat) (b : Nat) : Value := .slice (some ⟨b, 0, none⟩) n n
def atN (vs : List Nat) (i : Nat) : Nat := vs.getD i 0

/-- A list of sets, by their numbers. -/
def SetL (w : World) (B : Nat) (v : Value) (n : Nat) (vs : List Nat) : Prop :=
  ∃ b : Nat → Nat, w.ownsRow B 105 1 v vs.length ((List.range vs.length).map fun i => setVal n (b i)) ∧ ∀ i, i < vs.length → w.ownsRow B 4 1 (setVal n (b i)) n (outTo (bitF (atN vs i)) n n)

theorem SetL.keeps {w w' : World} {B : Nat} {v : Value} {n : Nat} {vs : List Nat} (h : SetL w B v n vs) (hb : Below w.heap.size w w') : SetL w' B v n vs := by
  obtain ⟨b, h1, h2⟩ := h
  exact ⟨b, own_keeps h1 hb, fun i hi => own_keeps (h2 i hi) hb⟩

theorem set_rb {w : World} {B n b : Nat} {f : Nat → Bool} (hn : 0 < n) (h : w.ownsRow B 4 1 (setVal n b) n (outTo f n n)) : Rb w b n f := by
  unfold setVal at h
  refine ⟨?_, fun i hi => ?_⟩
  · rcases h.2 with ⟨e, h0⟩ | ⟨g, cap, cur, e, _, hg, _⟩
    · omega
    · cases e
      exact heap_lt hg
  · rw [h.cellAt i (by omega)]
    exact outTo_get f n i hi

theorem vsTo_yes {ns : List Nd} {j : Nat} (h : goodV ns j = true) : vsTo ns (j + 1) = vsTo ns j ++ [j] := by simp [vsTo, List.range_succ, List.filter_append, h]
theorem vsTo_no {ns : List Nd} {j : Nat} (h : goodV ns j = false) : vsTo ns (j + 1) = vsTo ns j := by simp [vsTo, List.range_succ, List.filter_append, h]
theorem vsTo_len (ns : List Nd) (j : Nat) : (vsTo ns j).length ≤ j := by
  have := List.length_filter_le (goodV ns) (List.range j)
  simpa [vsTo] using this

theorem map_range_snoc {f : Nat → Value} {l : List Nat} {x : Value} : (List.range (l.length + 1)).map (fun i => if i = l.length then x else f i) = (List.range l.length).map f ++ [x] := by
  rw [List.range_succ, List.map_append]
  congr 1
  · apply List.map_congr_left
    intro i hi
    rw [List.mem_range] at hi
    rw [if_neg (by omega)]
  · simp

/-- A set more. -/
theorem setl_push {w w0 w1 : World} {B : Nat} {v : Value} {n : Nat} {vs : List Nat} {b : Nat → Nat} {j g gg cc : Nat} (h1 : w.ownsRow B 105 1 v vs.length ((List.range vs.length).map fun i => setVal n (b i)))
    (h2 : ∀ i, i < vs.length → w.ownsRow B 4 1 (setVal n (b i)) n (outTo (bitF (atN vs i)) n n)) (hs : w.ownsRow B 4 1 (setVal n g) n (outTo (bitF j) n n)) (hb : Below w.heap.size w w0) (hgrow : w0.grownBy w1 v.ownBlock)
    (hown : w1.ownsRow B 105 1 (.slice (some ⟨gg, 0, none⟩) (vs.length + 1) cc) (vs.length + 1) (((List.range vs.length).map fun i => setVal n (b i)) ++ [setVal n g])) :
    SetL w1 B (.slice (some ⟨gg, 0, none⟩) (vs.length + 1) cc) n (vs ++ [j]) := by
  refine ⟨fun i => if i = vs.length then g else b i, ?_, fun i hi => ?_⟩
  · rw [List.length_append, List.length_singleton]
    have this := hown
    rw [← map_range_snoc (f := fun i => setVal n (b i))] at this
    have e : (List.range (vs.length + 1)).map (fun i => setVal n (if i = vs.length then g else b i)) = (List.range (vs.length + 1)).map (fun i => if i = vs.length then setVal n g else setVal n (b i)) := by
      apply List.map_congr_left
      intro i _
      by_cases e : i = vs.length <;> simp [e]
    rw [e]; exact this
  · rw [List.length_append, List.length_singleton] at hi
    by_cases e : i = vs.length
    · subst e
      simp only [if_true]
      rw [show atN (vs ++ [j]) vs.length = j by simp [atN, List.getD]]
      exact (own_keeps hs hb).kept hgrow (own_ne' (own_keeps hs hb) (own_keeps h1 hb) (by decide))
    · simp only [if_neg e]
      rw [show atN (vs ++ [j]) i = atN vs i by simp [atN, List.getD, List.getElem?_append_left (show i < vs.length by omega)]]
      exact (own_keeps (h2 i (by omega)) hb).kept hgrow (own_ne' (own_keeps (h2 i (by omega)) hb) (own_keeps h1 hb) (by decide))

theorem pow_wrap9 {k : Nat} (hk : k ≤ 8) : wrap64 (2 ^ k) = ((2 ^ k : Nat) : Int) ∧ 2 ^ k ≤ 256 := by
  have h : ∀ k : Fin 9, (2 : Int) ^ k.val ≤ 256 ∧ 0 ≤ (2 : Int) ^ k.val ∧ ((2 ^ k.val : Nat) : Int) = 2 ^ k.val ∧ 2 ^ k.val ≤ 256 := by decide
  have := h ⟨k, by omega⟩
  simp only at this
  exact ⟨by rw [this.2.2.1]; exact IntWalk.wrap64_in _ ⟨by omega, by omega⟩, this.2.2.2⟩
theorem any_succ {p : Nat → Bool} {a : Nat} : (List.range (a + 1)).any p = ((List.range a).any p || p a) := by simp [List.range_succ]

set_option maxHeartbeats 2000000 in
set_option maxRecDepth 100000 in
theorem sets_any (F gp cap : Nat) (ns : List Nd) (bs : List Nat) (w : World) (hf : FR w F gp cap ns bs) (hg : Good ns) :
    Calls Try.prog 92 #[.pointer (some ⟨F, 0, none⟩)] w fun e w' => ∃ v, e = .returned v ∧ SetL w' w.heap.size v ns.length (vsTo ns (2 ^ ns.length)) ∧ Below w.heap.size w w' := by
  have hle := hg.le
  have hpos := hg.pos
  have k0 := hf.c0
  have kc := hf.hcap
  have hF := hf.lt0
  have hgp := hf.ltp
  obtain ⟨i0, hi, hz0, hz1, hz2⟩ := info_parts Try.infoBool
  obtain ⟨i1, hi1, hz01, hz11, hz21⟩ := info_parts Try.infoSet
  have FT := hid (fun (W : World) (b : Nat) S (h1 : Below w.heap.size w W) (h2 : Rb W b ns.length S) => fits_set F gp cap b ns.length ns bs S W (hf.below h1) h2 hg (Nat.le_refl _))
  have RD := hid (fun (W : World) (b : Nat) S (a : Nat) (ha : a < 8) (h1 : Below w.heap.size w W) (h2 : Rb W b ns.length S) => read_set F gp cap b ns.length ns bs S W a ha (hf.below h1) h2 hg (Nat.le_refl _))
  have HGV : Hid (∀ v, goodV ns v = (fitsB ns (bitF v) && (List.range 8).any fun a => readB' ns (bitF v) a)) := hid (fun v => rfl)
  clear hf hg
  generalize ns.length = n at *
  obtain ⟨M, hM⟩ : ∃ M, M = 2 ^ n := ⟨_, rfl⟩
  have pw : wrap64 (2 ^ n) = (M : Int) := by rw [hM]; exact (pow_wrap9 hle).1
  have pm : M ≤ 256 := by rw [hM]; exact (pow_wrap9 hle).2
  rw [← hM]
  clear hM
  go_enter Try.func92, Try.ntmps92
  go_wp2_with fail
  go_loopw [5, 3] (fun i s wr => ∃ j : Nat, j ≤ M ∧ i = .int .i64 j ∧ Hid (SetL wr w.heap.size s n (vsTo ns j)) ∧ Below w.heap.size w wr) (fun i _ _ => M - (intOf i).toNat)
  case atStart => exact ⟨0, Nat.zero_le _, rfl, hid ⟨fun _ => 0, by simpa [vsTo] using World.ownsRow_nil _ _ _ _, fun i hi => by simp [vsTo] at hi⟩, Below.refl _ _⟩
  case round =>
    obtain ⟨j, hj, rfl, HL, hb⟩ := hrel
    rename World => W0
    have hsz := hb.size
    by_cases hlt : j < M
    · have kd : decide ((j : Int) < (M : Int)) = true := by simp; omega
      go_wp2_with (at_make; go_must (refine wpList_make_full _ rfl (.tmp 23) (.tmp 23) 105 rfl w.heap.size 4 i0 (.bool false) 1 Try.underlying105 hi hz0 hz1 .i64 .i64 n n n rfl rfl rfl rfl ?m2 ?m3 hsz ?_))
      case m2 => rw [hz2]; omega
      case m3 => unfold maxLen; omega
      intro w1 own1 grow1
      have eo : (madeCells #[Value.bool false] n).toList = List.replicate n (.bool false) := toList_madeCells_one _ _
      rw [eo, ← outTo_zero (bitF j)] at own1
      have hb1 : Below W0.heap.size W0 w1 := (Below.refl _ _).grown grow1 (Nat.le_refl _) (fun k h => by cases h)
      have hs1 : W0.heap.size < w1.heap.size := (own1.lt _ rfl).2
      have OS := hid own1
      have HB1 := hid hb1
      clear own1 grow1 eo hb1 pw kd
      go_wp2_with fail
      go_loopw [7] (fun i wq => ∃ k : Nat, k ≤ n ∧ i = .int .i64 k ∧ Hid (wq.ownsRow w.heap.size 4 1 (.slice (some ⟨W0.heap.size, 0, none⟩) n n) n (outTo (bitF j) n k)) ∧ Below W0.heap.size W0 wq) (fun i _ => n - (intOf i).toNat)
      case atStart => exact ⟨0, Nat.zero_le _, rfl, OS, HB1.out⟩
      case round =>
        obtain ⟨k, hk, rfl, HO, hbq⟩ := hrel
        by_cases hlk : k < n
        · have own := HO.out
          have q0 := own.frozenAt k
          have q1 : (wr.cell? ⟨W0.heap.size, k, none⟩).isSome = true := by
            rw [own.cellAt k (by omega)]
            simp [outTo, hlk]
          obtain ⟨qv, q2⟩ := Option.isSome_iff_exists.1 q1
          have hO := own.stored k (.bool (bitF j k))
          rw [outTo_set] at hO
          have HO2 := hid hO.1
          have HB2 := hid (hbq.setCell (p := ⟨W0.heap.size, k, none⟩) (Nat.le_refl _) (.bool (bitF j k)))
          have HBV : Hid ((bits BinOp.and IntKind.i64 ((j : Int) / 2 ^ k) 1 == 1) = bitF j k) := hid (has_fin ⟨j, by omega⟩ ⟨k, by omega⟩)
          clear hO q1 own HO
          go_wp2_with fail
          go_roundw
          case rel =>
            have o := HO2.out
            have g := HB2.out
            rw [← HBV.out] at o g
            exact ⟨k + 1, by omega, by go_num, hid o, g⟩
          case measure => simp [intOf]; omega
        · obtain rfl : k = n := by omega
          rename World => W1
          have own := HO.out
          have rb : Rb W1 W0.heap.size k (bitF j) := set_rb hpos own
          have bw : Below w.heap.size w W1 := hb.trans (hbq.mono hsz)
          have C := FT.out W1 W0.heap.size (bitF j) bw rb
          obtain ⟨rvf, hrvf⟩ : ∃ rvf : Nat → Bool, rvf = fun a => readB' ns (bitF j) a := ⟨_, rfl⟩
          have HGJ : Hid (goodV ns j = (fitsB ns (bitF j) && (List.range 8).any rvf)) := hid (by rw [hrvf]; exact HGV.out j)
          have HRV : Hid (∀ a, readB' ns (bitF j) a = rvf a) := hid (fun a => by rw [hrvf])
          clear hrvf
          have HOW := hid own
          have HRB := hid rb
          have HBW := hid bw
          have HL1 := hid (HL.out.keeps hbq)
          have hsz1 := hbq.size
          clear own rb bw hbq HO HL OS HB1
          generalize fitsB ns (bitF j) = fv at *
          go_wp2_with fail
          refine C.mono ?_
          rintro e w2 ⟨rfl, m, rfl⟩
          clear C
          have RD2 := hid (fun a ha => RD.out (W1.drewN m) W0.heap.size (bitF j) a ha (below_drewN HBW.out m) (HRB.out.drewN m))
          go_wp2_with fail
          go_loop [10, 9] (fun a s => ∃ x : Nat, x ≤ 8 ∧ a = .int .i64 x ∧ s = .bool ((List.range x).any rvf)) (fun a _ => 8 - (intOf a).toNat)
          case atStart => exact ⟨0, Nat.zero_le _, rfl, rfl⟩
          case round =>
            obtain ⟨x, hx, rfl, rfl⟩ := hrel
            by_cases hx8 : x < 8
            · have R := RD2.out x hx8
              rw [HRV.out x] at R
              have HAN : Hid ((List.range (x + 1)).any rvf = ((List.range x).any rvf || rvf x)) := hid any_succ
              generalize rvf x = rv at *
              generalize (List.range x).any rvf = cur at *
              cases cur
              · go_wp2_with fail
                refine R.mono ?_
                rintro e w3 ⟨rfl, rfl⟩
                go_wp2_with fail
                go_round
                case rel => exact ⟨x + 1, by omega, by go_num, by rw [HAN.out]; rfl⟩
                case measure => simp [intOf]; omega
              · go_wp2_with fail
                refine R.mono ?_
                rintro e w3 ⟨rfl, rfl⟩
                go_wp2_with fail
                go_round
                case rel => exact ⟨x + 1, by omega, by go_num, by rw [HAN.out]; rfl⟩
                case measure => simp [intOf]; omega
            · obtain rfl : x = 8 := by omega
              generalize (List.range 8).any rvf = sv at *
              cases fv
              · have HN := hid (vsTo_no (by rw [HGJ.out]; rfl) : vsTo ns (j + 1) = vsTo ns j)
                go_wp2_with fail
                go_roundw
                case rel => exact ⟨j + 1, by omega, by go_num, by rw [HN.out]; exact hid (HL1.out.keeps (below_drewN (Below.refl _ _) m)), below_drewN HBW.out m⟩
                case measure => simp [intOf]; omega
              · cases sv
                · have HN := hid (vsTo_no (by rw [HGJ.out]; rfl) : vsTo ns (j + 1) = vsTo ns j)
                  go_wp2_with fail
                  go_roundw
                  case rel => exact ⟨j + 1, by omega, by go_num, by rw [HN.out]; exact hid (HL1.out.keeps (below_drewN (Below.refl _ _) m)), below_drewN HBW.out m⟩
                  case measure => simp [intOf]; omega
                · have HN := hid (vsTo_yes (by rw [HGJ.out]; rfl) : vsTo ns (j + 1) = vsTo ns j ++ [j])
                  have hvl := vsTo_len ns j
                  have HL2 := hid (HL1.out.keeps (below_drewN (Below.refl W1.heap.size W1) m))
                  have HOW2 := hid (own_keeps HOW.out (below_drewN (Below.refl W1.heap.size W1) m))
                  obtain ⟨bb, so, sr⟩ := HL2.out
                  have HSR := hid sr
                  have hbd : Below w.heap.size w (W1.drewN m) := below_drewN HBW.out m
                  have HBD := hid hbd
                  have hsd := hbd.size
                  clear sr HL2 hbd RD2 HRV HL1 HOW HBW HRB
                  generalize vsTo ns j = vs at *
                  have hsl : vs.length ≤ 300 := by omega
                  generalize W1.drewN m = W2 at *
                  go_wp2_with (at_builtin; go_must (refine wpList_append_lies _ rfl (.tmp 57) (.tmp 59) 96 rfl w.heap.size 105 i1 (.slice none 0 0) 1 24 Try.underlying96 hi1 hz01 hz11 hz21 rfl (by decide) _ _ _ rfl (so.alloc _) ⟨W2.heap.size, 0, none⟩ 1 1 [.slice (some ⟨W0.heap.size, 0, none⟩) k k] rfl rfl ?e1 ?c2 (by decide) ?c3 ?c4 ?c5 _ rfl ?_))
                  case c2 => first | (intro u hu; simp at hu; subst hu; rfl) | rfl | (simp [Value.oneCell']; done) | (go_simp; done) | trace_state
                  case c3 => first | (unfold maxLen; omega) | omega
                  case c4 => omega
                  case c5 => first | omega | (simp; omega)
                  intro gg cc w3 hown hgrow hat hlt3
                  have PU := hid (setl_push (j := j) so HSR.out HOW2.out ((Below.refl _ _).alloc (Nat.le_refl _) _) hgrow hown)
                  have B3 := hid ((HBD.out.alloc hsd _).grown hgrow (by simp; omega) (fun k h => (so.lt k h).1))
                  clear hown hgrow hat so
                  go_wp2_with fail
                  go_roundw
                  case rel => exact ⟨j + 1, by omega, by go_num, by rw [HN.out]; exact PU, B3.out⟩
                  case measure => simp [intOf]; omega
    · obtain rfl : j = M := by omega
      have kd : decide ((j : Int) < (j : Int)) = false := by simp
      go_wp2_with fail
      go_ret
      exact ⟨_, rfl, HL.out, hb⟩

end Go.Proofs.Ytjagijohfkffiab
