import Derived.Test.YtjagijohfkffiaaLM03
import Derived.Test.YtjagijohfkffiaaLM21
import Derived.Test.YtjagijohfkffiaaLM22
import Derived.Laws.AppendOwnNone
import Derived.Laws.ResultCell

/- The walks of verdictkeep's small functions: pick, word, looped, joined, holding. -/
namespace Go.Proofs.Ytjagijohfkffiaa
open Go.RowKit
set_option linter.unusedVariables false

def pick8 (z : Int) : Nat := ((if z < 0 then -(z + 1) else z) % 8).toNat
theorem pick8_lt (z : Int) : pick8 z < 8 := by unfold pick8; omega

set_option maxHeartbeats 400000 in
theorem pick_any (z : Int) (w : World) (h1 : -9223372036854775808 ≤ z) (h2 : z ≤ 9223372036854775807) : Calls Try.prog 21 #[.int .i64 z, .int .i64 8] w fun e w' => e = .returned (.int .i64 (pick8 z : Nat)) ∧ w' = w := by
  by_cases h : z < 0
  · have E : Hid (((pick8 z : Nat) : Int) = -((z + 1).tmod 8)) := hid (by rw [← Int.neg_tmod, Int.tmod_eq_emod_of_nonneg (by omega)]; unfold pick8; rw [if_pos h]; omega)
    go_enter Try.func21, Try.ntmps21
    go_wp2
    go_ret
    exact ⟨ret_int E.out.symm, rfl⟩
  · have E : Hid (((pick8 z : Nat) : Int) = z % 8) := hid (by unfold pick8; rw [if_neg h]; omega)
    go_enter Try.func21, Try.ntmps21
    go_wp2
    go_ret
    exact ⟨ret_int E.out.symm, rfl⟩

/-- Numbers made letters, the first j of them. -/
def wordTo (zs : List Int) (j : Nat) : List Nat := (zs.take j).map pick8
theorem wordTo_len {zs : List Int} {j : Nat} (h : j ≤ zs.length) : (wordTo zs j).length = j := by simp [wordTo]; omega
theorem wordTo_succ {zs : List Int} {j : Nat} (h : j < zs.length) : wordTo zs (j + 1) = wordTo zs j ++ [pick8 (zs.getD j 0)] := by
  unfold wordTo
  rw [List.take_succ_eq_append_getElem h, List.map_append]
  simp [List.getD, List.getElem?_eq_getElem h]
theorem wordTo_8 (zs : List Int) (j : Nat) : ∀ x ∈ wordTo zs j, x < 8 := by
  intro x hx
  obtain ⟨z, _, rfl⟩ := List.mem_map.1 hx
  exact pick8_lt z

def intsOf (xs : List Nat) : List Int := xs.map fun x : Nat => (x : Int)
theorem intsOf_len (xs : List Nat) : (intsOf xs).length = xs.length := by simp [intsOf]
theorem natOf_ints (xs : List Nat) : natOf (intsOf xs) = xs := by
  unfold natOf intsOf
  rw [List.map_map]
  conv => rhs; rw [← List.map_id xs]
  apply List.map_congr_left
  intro x _; simp
theorem allL_ints {xs : List Nat} (h : ∀ x ∈ xs, x < 8) : allL (intsOf xs) = true := by
  unfold allL intsOf
  rw [List.all_eq_true]
  intro z hz
  obtain ⟨x, hx, rfl⟩ := List.mem_map.1 hz
  rw [isL_iff]
  have := h x hx
  omega

/-- A row of the call's own, as a slice that is read. -/
theorem own_ints {w : World} {B n : Nat} {v : Value} {xs : List Nat} (h : w.ownsRow B 3 1 v n (natInts xs)) (hl : xs.length = n) : ∃ ao cap, v = .slice ao n cap ∧ Ints w ao n cap (intsOf xs) := by
  rcases h.2 with ⟨rfl, rfl⟩ | ⟨g, cap, cur, rfl, hb, hh, hc, hm, _⟩
  · exact ⟨none, 0, rfl, by rw [intsOf_len, hl], Nat.le_refl _, by omega, fun _ => ⟨rfl, rfl⟩, fun h => by omega⟩
  · refine ⟨_, cap, rfl, by rw [intsOf_len, hl], hc, by unfold maxLen at hm; omega, fun h => by simp at h, fun _ => ⟨g, 0, rfl, heap_lt hh, fun i hi => ?_⟩⟩
    rw [Nat.zero_add, h.cellAt i (by omega)]
    simp [natInts, intsOf, List.getD, List.getElem?_eq_getElem (show i < xs.length by omega)]

/-- The numbers of an argument are int's. -/
def Fits (zs : List Int) : Prop := ∀ z ∈ zs, -9223372036854775808 ≤ z ∧ z ≤ 9223372036854775807

theorem fits_at {zs : List Int} (h : Fits zs) {j : Nat} (hj : j < zs.length) : -9223372036854775808 ≤ zs.getD j 0 ∧ zs.getD j 0 ≤ 9223372036854775807 := by
  rw [List.getD, List.getElem?_eq_getElem hj]
  exact h _ (List.getElem_mem hj)

/-- What 'word' and its kin leave: a word of letters. -/
def Made (xs : List Nat) (w : World) (e : Ending) (w' : World) : Prop := ∃ ao cap, e = .returned (.slice ao xs.length cap) ∧ Ints w' ao xs.length cap (intsOf xs) ∧ Below w.heap.size w w'

set_option maxHeartbeats 800000 in
set_option maxRecDepth 100000 in
theorem word_own (ao : Option Addr) (len cap n : Nat) (zs : List Int) (w : World) (h : Ints w ao len cap zs) (hf : Fits zs) (hn : n ≤ 1000) :
    Calls Try.prog 22 #[.slice ao len cap, .int .i64 n] w fun e w' => ∃ v, e = .returned v ∧ w'.ownsRow w.heap.size 3 1 v (min len n) (natInts (wordTo zs (min len n))) ∧ Below w.heap.size w w' := by
  have hl := h.hlen
  have hc := h.hcap
  have hm := h.hmax
  obtain ⟨i0, hi, hz0, hz1, hz2⟩ := info_parts Try.infoInt
  go_enter Try.func22, Try.ntmps22
  go_wp2_with fail
  go_loopw [5, 6] (fun v i wr => ∃ j : Nat, j ≤ len ∧ j ≤ n ∧ i = .int .i64 j ∧ wr.ownsRow w.heap.size 3 1 v j (natInts (wordTo zs j)) ∧ Below w.heap.size w wr) (fun _ i _ => n - (intOf i).toNat)
  case atStart => exact ⟨0, Nat.zero_le _, Nat.zero_le _, rfl, World.ownsRow_nil _ _ _ _, Below.refl _ _⟩
  case round =>
    obtain ⟨j, hj1, hj2, rfl, own, hbr⟩ := hrel
    by_cases hlt : j < len
    · by_cases hlt2 : j < n
      · obtain ⟨b, off, rfl, hb, hcell⟩ := (h.below hbr).hcell (by omega)
        have c := hcell j hlt
        have fa := fits_at hf (j := j) (by omega)
        have HS := hid (wordTo_succ (zs := zs) (j := j) (by omega))
        have hsz := hbr.size
        clear hcell
        generalize zs.getD j 0 = z at *
        go_wp2_with fail
        refine (pick_any z _ fa.1 fa.2).mono ?_
        rintro e w' ⟨rfl, rfl⟩
        have HO := hid own
        have HB := hid hbr
        generalize pick8 z = x at *
        go_wp2_with (at_builtin; go_must (refine wpList_append_own _ rfl (.tmp 24) (.tmp 26) 27 rfl w.heap.size 3 i0 (.int .i64 0) 1 8 Try.underlying27 hi hz0 hz1 hz2 rfl (by decide) _ _ _ rfl (HO.out.alloc _) ⟨w'.heap.size, 0, none⟩ 1 1 [.int .i64 x] rfl rfl ?c1 ?c2 ?c3 ?c4 ?c5 ?_))
        case c1 => exact cell_one_new _ _ _
        case c2 => intro u hu; simp at hu; subst hu; rfl
        case c3 => unfold maxLen; omega
        case c4 => omega
        case c5 => simp; omega
        intro v' w1 hown hgrow _
        have B1 := hid ((HB.out.alloc hsz _).grown hgrow (by simp; omega) (fun k h => (HO.out.lt k h).1))
        have e1 : natInts (wordTo zs j) ++ [.int .i64 (x : Nat)] = natInts (wordTo zs (j + 1)) := by rw [HS.out]; simp [natInts]
        rw [e1] at hown
        have O1 := hid hown
        clear hown hgrow e1 c own hbr
        go_wp2_with fail
        go_roundw
        case rel => exact ⟨j + 1, by omega, by omega, by go_num, O1.out, B1.out⟩
        case measure => simp [intOf]; omega
      · have hm2 : min len n = j := by omega
        have HO := hid own
        have HM := hid hm2
        clear own hm2
        go_wp2_with fail
        go_ret
        refine ⟨_, rfl, ?_, hbr⟩
        rw [HM.out]
        exact HO.out
    · have hm2 : min len n = j := by omega
      have HO := hid own
      have HM := hid hm2
      clear own hm2
      go_wp2_with fail
      go_ret
      refine ⟨_, rfl, ?_, hbr⟩
      rw [HM.out]
      exact HO.out

end Go.Proofs.Ytjagijohfkffiaa

/- The walks of verdictkeep's small functions: looped, joined, holding. -/
namespace Go.Proofs.Ytjagijohfkffiaa
open Go.RowKit
set_option linter.unusedVariables false

theorem word_any (ao : Option Addr) (len cap n : Nat) (zs : List Int) (w : World) (h : Ints w ao len cap zs) (hf : Fits zs) (hn : n ≤ 1000) :
    Calls Try.prog 22 #[.slice ao len cap, .int .i64 n] w (Made (wordTo zs (min zs.length n)) w) := by
  refine (word_own ao len cap n zs w h hf hn).mono ?_
  rintro e w' ⟨v, rfl, own, hb⟩
  rw [← h.hlen] at own
  have hl := wordTo_len (zs := zs) (j := min zs.length n) (by omega)
  obtain ⟨ao', cap', rfl, hI⟩ := own_ints own hl
  refine ⟨ao', cap', by rw [hl], by rw [hl]; exact hI, hb⟩

theorem word_le (zs : List Int) (n : Nat) : (wordTo zs (min zs.length n)).length ≤ n := by
  rw [wordTo_len (by omega)]; omega

theorem ints_one (w : World) (z : Int) : Ints (w.alloc (.cells #[.int .i64 z] 3)) (some ⟨w.heap.size, 0, none⟩) 1 1 [z] :=
  ⟨rfl, Nat.le_refl _, by omega, fun h => by simp at h, fun _ => ⟨w.heap.size, 0, rfl, by simp, fun i hi => by
    have : i = 0 := by omega
    subst this
    simp⟩⟩

end Go.Proofs.Ytjagijohfkffiaa

/- Plain mathematics: the endless word of a stem and a loop. -/
namespace Go.Proofs.Ytjagijohfkffiaa

theorem getD_app_left {A B : List Nat} {i : Nat} (h : i < A.length) : (A ++ B).getD i 0 = A.getD i 0 := by simp [List.getD, List.getElem?_append_left h]
end Go.Proofs.Ytjagijohfkffiaa

/- What Holds answers of letters. -/
namespace Go.Proofs.Ytjagijohfkffiaa
open Go.RowKit
set_option linter.unusedVariables false

/-- What Holds answers of letters. -/
def hv (s : ByteArray) (xs ys : List Nat) : Bool := if (parseOf s).1 = 0 then holdsB xs.length (parseOf s).2 (xs ++ ys) else false

theorem Ints.drew {w : World} {ao : Option Addr} {len cap : Nat} {zs : List Int} (h : Ints w ao len cap zs) : Ints w.drew ao len cap zs := ⟨h.hlen, h.hcap, h.hmax, h.hnil, h.hcell⟩

end Go.Proofs.Ytjagijohfkffiaa

/- Settled: plain mathematics, judging, the walk. -/
namespace Go.Proofs.Ytjagijohfkffiaa
open Go.RowKit
set_option linter.unusedVariables false

theorem begins_left {A B : List Nat} {x : Nat → Nat} (h : Begins (A ++ B) x) : Begins A x := fun i hi => by
  rw [h i (by rw [List.length_append]; omega), getD_app_left hi]
theorem settled_more {ns : List Nd} {A B : List Nat} {v u : Nat} (hab : ∀ x ∈ A ++ B, x < 8) (hv : Verdict ns A v) (hu : Verdict ns (A ++ B) u) : (v = 1 → u = 1) ∧ (v = 2 → u = 2) := by
  have d1 := verdict_doc (fun x hx => hab x (by simp [hx])) hv
  have d2 := verdict_doc hab hu
  exact ⟨fun h => d2.1.2 fun x h1 h2 => d1.1.1 h x h1 (begins_left h2), fun h => d2.2.2 fun x h1 h2 => d1.2.1 h x h1 (begins_left h2)⟩
/-- Judge of letters. -/
theorem judgeL (s : ByteArray) (hm : s.size ≤ maxLen) (a1 : Option Addr) (l1 c1 : Nat) (xs : List Nat) (w : World) (h1 : Ints w a1 l1 c1 (intsOf xs)) (x8 : ∀ x ∈ xs, x < 8) (q1 : xs.length ≤ 40) :
    Calls Try.prog 28 #[.string s, .slice a1 l1 c1] w fun e w' => ∃ v : Nat, e = .returned (.tuple #[.int .i64 v, .int .i64 (parseOf s).1]) ∧ ((parseOf s).1 = 0 → Verdict (parseOf s).2 xs v) ∧ ((parseOf s).1 ≠ 0 → v = 0) ∧ Below w.heap.size w w' := by
  have h := judge_any s a1 l1 c1 (intsOf xs) w hm h1
  unfold RJudged at h
  have e : judgeErr s (intsOf xs) = (parseOf s).1 := by
    unfold judgeErr
    split
    · rename_i h0; rw [intsOf_len, if_neg (by omega), if_pos (allL_ints x8), h0]
    · rfl
  rw [e, natOf_ints] at h
  exact h

theorem gp_parse : parseOf ⟨#[71, 112]⟩ = (0, [⟨112, 0, 0⟩, ⟨71, 0, 0⟩]) := by rfl
theorem gp_sem (x : Nat → Nat) : sem (fun i => i + 1) x [⟨112, 0, 0⟩, ⟨71, 0, 0⟩] 1 0 ↔ ∀ t, (x t).testBit 0 = true := by
  have e : ∀ s i, it (fun i => i + 1) s i = i + s := by
    intro s
    induction s with
    | zero => intro i; rfl
    | succ s ih => intro i; simp only [it]; rw [ih]; omega
  simp [sem, rows, den, e]
theorem gp_one {v : Nat} (h : Verdict [⟨112, 0, 0⟩, ⟨71, 0, 0⟩] [1] v) : v = 0 := by
  have d := verdict_doc (by simp) h
  have n1 : ¬ v = 1 := fun e => by
    have := d.1.1 e (fun t => if t = 0 then 1 else 0) (fun t => by dsimp only; split <;> omega) (fun i hi => by simp at hi; subst hi; rfl)
    have := (gp_sem _).1 this 1
    simp at this
  have n2 : ¬ v = 2 := fun e => by
    refine d.2.1 e (fun _ => 1) (fun t => by simp) (fun i hi => by simp at hi; subst hi; rfl) ((gp_sem _).2 fun t => by simp)
  rcases h with ⟨h, _⟩ | ⟨h, _⟩ | ⟨h, _⟩
  · exact absurd h n2
  · exact absurd h n1
  · exact h
theorem gp_two {v : Nat} (h : Verdict [⟨112, 0, 0⟩, ⟨71, 0, 0⟩] [0] v) : v = 2 := by
  have d := verdict_doc (by simp) h
  refine d.2.2 fun x h1 h2 h3 => ?_
  have h4 := (gp_sem x).1 h3 0
  have h5 := h2 0 (by simp)
  simp at h5
  rw [h5] at h4
  simp at h4

theorem intsOf_one (k : Nat) : intsOf [k] = [(k : Int)] := by simp [intsOf]

set_option maxHeartbeats 400000 in
theorem judging_any (w : World) : Calls Try.prog 39 #[] w fun e w' => e = .returned (.bool true) ∧ Below w.heap.size w w' := by
  have C1 := fun (W : World) => judgeL ⟨#[71, 112]⟩ (by decide) (some ⟨W.heap.size, 0, none⟩) 1 1 [1] (W.alloc (.cells #[.int .i64 1] 3)) (by rw [intsOf_one]; exact ints_one W 1) (by simp) (by simp)
  have C2 := fun (W : World) => judgeL ⟨#[71, 112]⟩ (by decide) (some ⟨W.heap.size, 0, none⟩) 1 1 [0] (W.alloc (.cells #[.int .i64 0] 3)) (by rw [intsOf_one]; exact ints_one W 0) (by simp) (by simp)
  rw [gp_parse] at C1 C2
  go_enter Try.func39, Try.ntmps39
  go_wp2_with fail
  refine (C1 _).mono ?_
  rintro e w1 ⟨v1, rfl, q1, _, hb1⟩
  obtain rfl := gp_one (q1 trivial)
  have B1 := hid (((Below.refl w.heap.size w).alloc (Nat.le_refl _) _).trans (hb1.mono (by simp)))
  clear hb1 q1
  go_wp2_with fail
  refine (C2 _).mono ?_
  rintro e w2 ⟨v2, rfl, q2, _, hb2⟩
  obtain rfl := gp_two (q2 trivial)
  have hz := B1.out.size
  have B2 := hid ((B1.out.alloc hz _).trans (hb2.mono (by simp; omega)))
  clear hb2 q2 C1 C2
  go_wp2_with fail
  go_ret
  exact ⟨rfl, B2.out⟩

end Go.Proofs.Ytjagijohfkffiaa

/- Plain mathematics: what evades means. -/
namespace Go.Proofs.Ytjagijohfkffiaa
set_option linter.unusedVariables false

/-- The first k letters. -/
def pre (x : Nat → Nat) (k : Nat) : List Nat := (List.range k).map x
theorem pre_succ (x : Nat → Nat) (k : Nat) : pre x (k + 1) = pre x k ++ [x k] := by simp [pre, List.range_succ]
theorem pre_lt {x : Nat → Nat} (h : Letters x) (k : Nat) : ∀ y ∈ pre x k, y < 8 := fun y hy => by
  obtain ⟨i, _, rfl⟩ := List.mem_map.1 hy
  exact h i

theorem geq_symm {g h : Nat → Bool} (k : geq g h = true) : geq h g = true := geq_iff.2 fun j hj => (geq_iff.1 k j hj).symm
theorem geq_trans {g h i : Nat → Bool} (k : geq g h = true) (l : geq h i = true) : geq g i = true := geq_iff.2 fun j hj => (geq_iff.1 k j hj).trans (geq_iff.1 l j hj)
theorem geq_step {ns : List Nd} (h8 : ns.length ≤ 8) {liv g h : Nat → Bool} (k : geq g h = true) (l : Nat) : geq (stepG ns liv g l) (stepG ns liv h l) = true := geq_iff.2 fun j hj => by
  unfold stepG
  rw [geq_iff.1 k _ (bef_lt h8 l j)]
theorem geq_verd {liv g h : Nat → Bool} (k : geq g h = true) : verdG liv g = verdG liv h := by
  have e : ∀ i, geq g i = geq h i := fun i => by
    rw [Bool.eq_iff_iff]
    exact ⟨fun a => geq_trans (geq_symm k) a, fun a => geq_trans k a⟩
  unfold verdG
  rw [e, e]

section
variable {ns : List Nd} {liv : Nat → Bool} {us : List (List Nat)} {xs : List Nat}

/-- The state that the first k letters lead to tells their verdict. -/
theorem spot_tells (hg : Good ns) (hl : LivP ns (calmsTo ns ns.length) liv) (hE : Expl ns liv (begB ns liv) us xs) (hx : xs.length = 8 * us.length) {x : Nat → Nat} (hL : Letters x) {sp : Nat → Nat} (h0 : sp 0 = 0) (hs : ∀ t, sp (t + 1) = nxL xs (sp t) (x t)) :
    ∀ t, sp t < us.length ∧ geq (runG ns liv (begB ns liv) (us.getD (sp t) [])) (runG ns liv (begB ns liv) (pre x t)) = true
  | 0 => by
    have hp := (List.getElem?_eq_some_iff.1 hE.first).1
    rw [h0]
    refine ⟨hp, ?_⟩
    have : us.getD 0 [] = [] := by simp [List.getD, hE.first]
    rw [this]
    exact geq_iff.2 fun _ _ => rfl
  | t + 1 => by
    obtain ⟨h1, h2⟩ := spot_tells hg hl hE hx hL h0 hs t
    have h3 := hL t
    obtain ⟨u0, u1, e0, e1, hq⟩ := hE.ok (8 * sp t + x t) (by omega)
    rw [show (8 * sp t + x t) / 8 = sp t by omega] at e0
    rw [show (8 * sp t + x t) % 8 = x t by omega] at hq
    have hn : nxL xs (sp t) (x t) = xs.getD (8 * sp t + x t) 0 := rfl
    rw [hs, hn]
    refine ⟨(List.getElem?_eq_some_iff.1 e1).1, ?_⟩
    have a1 : us.getD (xs.getD (8 * sp t + x t) 0) [] = u1 := by simp only [List.getD] at e1 ⊢; rw [e1]; rfl
    have a0 : us.getD (sp t) [] = u0 := by simp [List.getD, e0]
    rw [a0] at h2
    rw [a1, pre_succ, runG_snoc]
    exact geq_trans hq (geq_step hg.le h2 _)

theorem spot_verdict (hg : Good ns) (hl : LivP ns (calmsTo ns ns.length) liv) (hE : Expl ns liv (begB ns liv) us xs) (hx : xs.length = 8 * us.length) {x : Nat → Nat} (hL : Letters x) {sp : Nat → Nat} (h0 : sp 0 = 0) (hs : ∀ t, sp (t + 1) = nxL xs (sp t) (x t)) (t : Nat) :
    Verdict ns (pre x t) (outU ns liv (begB ns liv) us (sp t)) := by
  unfold outU
  rw [geq_verd (spot_tells hg hl hE hx hL h0 hs t).2]
  exact verdG_verdict hg hl (pre_lt hL t)

end

end Go.Proofs.Ytjagijohfkffiaa

/- What Class tells; the walk of the program's Class. -/
namespace Go.Proofs.Ytjagijohfkffiaa
open Go.RowKit
set_option linter.unusedVariables false

/-- A small row and a number are handed back. -/
theorem ret_cells_tmp {fn : Func} {p q b : Nat} {ty : TypeId} {d : TypeDesc} {cs : List Value} {v : Value} {a : Act} {w : World} {R : Ending → World → Prop} (h : fn.results = #[.cell p ty, .tmp q]) (hd : a.defers = []) (hp : a.tmps.getD p undef = .pointer (some ⟨b, 0, none⟩)) (hq : a.tmps.getD q undef = v)
    (hg : w.rangeAt b 0 cs) (hu : Try.prog.underlying ty = some d) (hr : d.isRow = true) (hs : (Try.prog.info? ty).map (·.size) = some cs.length) (hR : R (.returned (.tuple #[.agg cs.toArray, v])) w) : bodyPost Try.prog fn R .ret a w := by
  refine bodyPost_ret (v := .tuple #[.agg cs.toArray, v]) ?_ hd hR
  rw [results_cell_tmp h, hp, hq]
  simp only [asAddr, Sem.run_pure, Result.andThen_ok]
  rw [run_loadVar_mid w b 0 _ cs d hg hu hr hs]
  rfl

section
variable (s : ByteArray) (w : World)

end

end Go.Proofs.Ytjagijohfkffiaa

/- Plain mathematics: the machine of a formula. -/
namespace Go.Proofs.Ytjagijohfkffiaa
set_option linter.unusedVariables false

theorem numbered_lt {n : Nat} {nx : Nat → Nat → Nat} (h : Numbered n nx) {i a : Nat} (hi : i < n) (ha : a < 8) : nx i a < n := by
  have h1 := met_mono nx (show 8 * i + a + 1 ≤ 8 * n by omega)
  simp only [met] at h1
  rw [h.2, show (8 * i + a) / 8 = i by omega, show (8 * i + a) % 8 = a by omega] at h1
  omega
theorem numbered_pos {n : Nat} {nx : Nat → Nat → Nat} (h : Numbered n nx) : 0 < n := by
  have := met_pos nx (8 * n)
  rw [h.2] at this
  exact this
theorem run_lt {n : Nat} {nx : Nat → Nat → Nat} (hc : ∀ i a, i < n → a < 8 → nx i a < n) : ∀ (w : List Nat) (i : Nat), i < n → LettersL w → runM nx i w < n
  | [], i, hi, _ => hi
  | a :: w, i, hi, hw => run_lt hc w (nx i a) (hc i a hi (hw a (List.mem_cons_self ..))) (fun x hx => hw x (List.mem_cons_of_mem _ hx))

/-- The machine of a formula: it tells the verdicts, has no state too many, and numbers them as they are met. -/
structure Mach (ns : List Nd) (n : Nat) (out : Nat → Nat) (nx : Nat → Nat → Nat) : Prop where
  num : Numbered n nx
  apart : Apart n out nx
  tells : ∀ w, LettersL w → Verdict ns w (out (runM nx 0 w))
theorem mach_fun {ns : List Nd} {n n' : Nat} {out out' : Nat → Nat} {nx nx' : Nat → Nat → Nat} (h : Mach ns n out nx) (k : Mach ns n' out' nx') : n = n' ∧ (∀ i, i < n → out i = out' i) ∧ ∀ i a, i < n → a < 8 → nx i a = nx' i a :=
  same_machine h.num k.num h.apart k.apart fun w hw => verdict_fun (h.tells w hw) (k.tells w hw)

/-- It has more states than there may be. -/
def Big (ns : List Nd) : Prop := ∀ n out nx, Mach ns n out nx → 8 < n
section
variable {ns : List Nd} {liv : Nat → Bool} {us : List (List Nat)} {xs : List Nat}

theorem expl_lt (hE : Expl ns liv (begB ns liv) us xs) (hx : xs.length = 8 * us.length) : ∀ i a, i < us.length → a < 8 → nxL xs i a < us.length := fun i a hi ha => by
  obtain ⟨_, u1, _, h1, _⟩ := hE.ok (8 * i + a) (by omega)
  exact (List.getElem?_eq_some_iff.1 h1).1

theorem base_verdict (hg : Good ns) (hl : LivP ns (calmsTo ns ns.length) liv) (hE : Expl ns liv (begB ns liv) us xs) (hx : xs.length = 8 * us.length) {w : List Nat} (hw : LettersL w) : Verdict ns w (outU ns liv (begB ns liv) us (runM (nxL xs) 0 w)) := by
  let x : Nat → Nat := fun i => w.getD i 0
  have hL : Letters x := fun t => by
    show w.getD t 0 < 8
    rw [List.getD]
    cases e : w[t]? with
    | none => simp
    | some y => exact hw y (List.mem_of_getElem? e)
  let sp : Nat → Nat := fun t => Nat.rec 0 (fun t s => nxL xs s (x t)) t
  have e : pre x w.length = w := by
    unfold pre
    apply List.ext_getElem
    · simp
    · intro i h1 h2
      simp [x, List.getD, List.getElem?_eq_getElem h2]
  have hsp : ∀ t, sp t = runM (nxL xs) 0 (pre x t) := fun t => by
    induction t with
    | zero => rfl
    | succ t ih =>
      rw [pre_succ, runM_app, ← ih]
      rfl
  have := spot_verdict hg hl hE hx hL (sp := sp) rfl (fun t => rfl) w.length
  rw [hsp, e] at this
  exact this

/-- The kinds of the states, when none is added: the machine of the formula. -/
theorem kinds_mach (hg : Good ns) (hl : LivP ns (calmsTo ns ns.length) liv) (hE : Expl ns liv (begB ns liv) us xs) (hx : xs.length = 8 * us.length) {kd out' : Nat → Nat} {nx' : Nat → Nat → Nat} (hf : Fo kd us.length)
    (hh : Hom us.length (outU ns liv (begB ns liv) us) (nxL xs) kd out' nx') (hk : ∀ i j, i < us.length → j < us.length → Like (outU ns liv (begB ns liv) us) (nxL xs) (outU ns liv (begB ns liv) us) (nxL xs) i j → kd i = kd j) : Mach ns (cntK kd us.length) out' nx' := by
  have hpos : 0 < us.length := (List.getElem?_eq_some_iff.1 hE.first).1
  have hc := expl_lt hE hx
  have k0 : kd 0 = 0 := by
    have := hf 0 hpos
    simp only [cntK] at this
    omega
  refine ⟨quot_numbered hpos (expl_numbered hE hx) hh hc hf, hom_apart hh hc hf hk, fun w hw => ?_⟩
  have h1 := hom_like hh hc hpos w hw
  rw [k0] at h1
  rw [← h1]
  exact base_verdict hg hl hE hx hw

/-- A word that leads to a state. -/
theorem expl_word (hE : Expl ns liv (begB ns liv) us xs) (hx : xs.length = 8 * us.length) : ∀ i, i < us.length → ∃ w, LettersL w ∧ runM (nxL xs) 0 w = i := by
  have hn := expl_numbered hE hx
  have key : ∀ p, p ≤ 8 * us.length → ∀ i, i < met (nxL xs) p → ∃ w, LettersL w ∧ runM (nxL xs) 0 w = i := by
    intro p
    induction p with
    | zero =>
      intro _ i hi
      simp only [met] at hi
      exact ⟨[], fun x hx => by simp at hx, by show 0 = i; omega⟩
    | succ p ih =>
      intro hp i hi
      by_cases c : i < met (nxL xs) p
      · exact ih (by omega) i c
      · simp only [met] at hi
        obtain ⟨h1, h2⟩ := hn.1 p (by omega)
        obtain ⟨w, h3, h4⟩ := ih (by omega) _ h1
        refine ⟨w ++ [p % 8], fun x hx => ?_, ?_⟩
        · rcases List.mem_append.1 hx with hx | hx
          · exact h3 x hx
          · simp at hx; omega
        · rw [runM_app, h4]
          show nxL xs (p / 8) (p % 8) = i
          omega
  intro i hi
  exact key (8 * us.length) (Nat.le_refl _) i (by rw [hn.2]; exact hi)

/-- More kinds than there may be: no machine is small enough. -/
theorem kinds_big (hg : Good ns) (hl : LivP ns (calmsTo ns ns.length) liv) (hE : Expl ns liv (begB ns liv) us xs) (hx : xs.length = 8 * us.length) {kd : Nat → Nat} (hf : Fo kd us.length)
    (hk : ∀ i j, i < us.length → j < us.length → Like (outU ns liv (begB ns liv) us) (nxL xs) (outU ns liv (begB ns liv) us) (nxL xs) i j → kd i = kd j) (h8 : 8 < cntK kd us.length) : Big ns := by
  intro n out nx hm
  have hc := expl_lt hE hx
  have hpos : 0 < us.length := (List.getElem?_eq_some_iff.1 hE.first).1
  have hn := numbered_pos hm.num
  have L0 : Like (outU ns liv (begB ns liv) us) (nxL xs) out nx 0 0 := fun w hw => verdict_fun (base_verdict hg hl hE hx hw) (hm.tells w hw)
  have ex : ∀ c, ∃ s r, c < cntK kd us.length → s < n ∧ r < us.length ∧ kd r = c ∧ Like (outU ns liv (begB ns liv) us) (nxL xs) out nx r s := fun c => by
    by_cases hc0 : c < cntK kd us.length
    · obtain ⟨r, h1, h2, _⟩ := rep_ex hf hc0
      obtain ⟨w, h3, h4⟩ := expl_word hE hx r h1
      refine ⟨runM nx 0 w, r, fun _ => ⟨run_lt (fun i a hi ha => numbered_lt hm.num hi ha) w 0 hn h3, h1, h2, fun v hv => ?_⟩⟩
      have := L0 (w ++ v) (fun x hx => by
        rcases List.mem_append.1 hx with hx | hx
        · exact h3 x hx
        · exact hv x hx)
      rw [runM_app, runM_app, h4] at this
      exact this
    · exact ⟨0, 0, fun h => absurd h hc0⟩
  let s : Nat → Nat := fun c => Classical.choose (ex c)
  have hs : ∀ c, ∃ r, c < cntK kd us.length → s c < n ∧ r < us.length ∧ kd r = c ∧ Like (outU ns liv (begB ns liv) us) (nxL xs) out nx r (s c) := fun c => Classical.choose_spec (ex c)
  have inj : ∀ c d, c < cntK kd us.length → d < cntK kd us.length → s c = s d → c = d := fun c d h1 h2 e => by
    obtain ⟨r, hr⟩ := hs c
    obtain ⟨q, hq⟩ := hs d
    obtain ⟨_, a1, a2, a3⟩ := hr h1
    obtain ⟨_, b1, b2, b3⟩ := hq h2
    rw [e] at a3
    rw [← a2, ← b2]
    exact hk r q a1 b1 (like_trans a3 (like_symm b3))
  have hnd : ((List.range (cntK kd us.length)).map s).Nodup := by
    rw [List.nodup_iff_pairwise_ne, List.pairwise_map]
    refine List.Pairwise.imp_of_mem ?_ (List.nodup_iff_pairwise_ne.1 List.nodup_range)
    intro a b ha hb hne e
    exact hne (inj a b (by simpa using ha) (by simpa using hb) e)
  have := nodup_le _ _ hnd (fun y hy => by
    obtain ⟨c, h1, rfl⟩ := List.mem_map.1 hy
    obtain ⟨r, hr⟩ := hs c
    exact (hr (by simpa using h1)).1)
  simp only [List.length_map, List.length_range] at this
  omega
end

/-! ### The reference's way: through what is met -/
section
variable (out : Nat → Nat) (nx : Nat → Nat → Nat)

end

section
variable {out : Nat → Nat} {nx : Nat → Nat → Nat} {K : Nat} {ms xs : List Nat}

end

end Go.Proofs.Ytjagijohfkffiaa
