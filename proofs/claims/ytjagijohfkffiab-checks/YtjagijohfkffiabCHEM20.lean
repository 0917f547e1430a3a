import Derived.Test.YtjagijohfkffiabCHEM05
import Derived.Test.YtjagijohfkffiabCHEM12
import Derived.Test.YtjagijohfkffiabCHEM18
import Derived.Test.YtjagijohfkffiabCHEM19
import Derived.Laws.ResultCell

/- Plain mathematics: the endless word of a stem and a loop. -/
namespace Go.Proofs.Ytjagijohfkffiab

/-- The letter at place t of the endless word. -/
def wordAt (A B : List Nat) (t : Nat) : Nat := if t < A.length then A.getD t 0 else B.getD ((t - A.length) % B.length) 0

def posAt (a b t : Nat) : Nat := if t < a then t else a + (t - a) % b

theorem mod_step {q b : Nat} (hb : 0 < b) : (q + 1) % b = if q % b + 1 < b then q % b + 1 else 0 := by
  have h := Nat.mod_lt q hb
  rw [Nat.add_mod]
  by_cases h1 : b = 1
  · subst h1; simp [Nat.mod_one]
  · rw [Nat.mod_eq_of_lt (show 1 < b by omega)]
    split
    · exact Nat.mod_eq_of_lt ‹_›
    · rw [show q % b + 1 = b by omega]; exact Nat.mod_self b

theorem it_pos {a b : Nat} (hb : 0 < b) (t : Nat) : it (lnx (a + b) a) t 0 = posAt a b t := by
  induction t with
  | zero =>
    simp only [it, posAt]
    split
    · rfl
    · rename_i h
      have : a = 0 := by omega
      subst this
      simp
  | succ t ih =>
    rw [it_succ, ih]
    unfold posAt lnx
    by_cases h1 : t + 1 < a
    · rw [if_pos h1, if_pos (show t < a by omega), if_pos (by omega)]
    · rw [if_neg h1]
      by_cases h2 : t < a
      · rw [if_pos h2]
        have : t + 1 - a = 0 := by omega
        rw [this]
        split <;> simp <;> omega
      · rw [if_neg h2, show t + 1 - a = (t - a) + 1 by omega, mod_step hb]
        have := Nat.mod_lt (t - a) hb
        by_cases h3 : (t - a) % b + 1 < b
        · rw [if_pos h3, if_pos (by omega)]; omega
        · rw [if_neg h3, if_neg (by omega)]; rfl

theorem ltOf_pos {A B : List Nat} (hb : 0 < B.length) (t : Nat) : ltOf (A ++ B) (posAt A.length B.length t) = wordAt A B t := by
  unfold ltOf posAt wordAt
  have := Nat.mod_lt (t - A.length) hb
  by_cases h : t < A.length
  · rw [if_pos h, if_pos h]; simp [List.getD, List.getElem?_append_left h]
  · rw [if_neg h, if_neg h, List.getD, List.getD, List.getElem?_append_right (by omega), Nat.add_sub_cancel_left]

/-- At a time, and at the place where one is then. -/
theorem sem_time {A B : List Nat} (hb : 0 < B.length) (ns : List Nd) (k t : Nat) : sem (fun i => i + 1) (wordAt A B) ns k t ↔ sem (lnx (A.length + B.length) A.length) (ltOf (A ++ B)) ns k (posAt A.length B.length t) := by
  have h := sem_map (f := fun t => it (lnx (A.length + B.length) A.length) t 0) (nx1 := fun i => i + 1) (lt1 := wordAt A B) (nx2 := lnx (A.length + B.length) A.length) (lt2 := ltOf (A ++ B))
    (fun i => it_succ _ _ _) (fun i => by rw [it_pos hb, ltOf_pos hb]) ns k t
  rw [it_pos hb] at h
  exact h

/-- What Holds answers, by the document's own words. -/
theorem holdsB_inf {A B : List Nat} {ns : List Nd} (hg : Good ns) (hb : 0 < B.length) (hx : ∀ x ∈ A ++ B, x < 8) : holdsB A.length ns (A ++ B) = true ↔ sem (fun i => i + 1) (wordAt A B) ns (ns.length - 1) 0 := by
  rw [holdsB_sem hg (by simp; omega) hx, sem_time hb, List.length_append]
  have : posAt A.length B.length 0 = 0 := by
    unfold posAt
    split
    · rfl
    · rename_i h
      have h0 : A.length = 0 := by omega
      rw [h0]; simp
  rw [this]

end Go.Proofs.Ytjagijohfkffiab

/- What Holds answers of letters. -/
namespace Go.Proofs.Ytjagijohfkffiab
open Go.RowKit
set_option linter.unusedVariables false

/-- What Holds answers of letters. -/
def hv (s : ByteArray) (xs ys : List Nat) : Bool := if (parseOf s).1 = 0 then holdsB xs.length (parseOf s).2 (xs ++ ys) else false

theorem Ints.drew {w : World} {ao : Option Addr} {len cap : Nat} {zs : List Int} (h : Ints w ao len cap zs) : Ints w.drew ao len cap zs := ⟨h.hlen, h.hcap, h.hmax, h.hnil, h.hcell⟩

theorem below_undrew {B : Nat} {w w' : World} (h : Below B w.drew w') : Below B w w' := ⟨h.os, h.tape, h.output, h.size, h.block⟩

end Go.Proofs.Ytjagijohfkffiab

/- Settled: plain mathematics, judging, the walk. -/
namespace Go.Proofs.Ytjagijohfkffiab
open Go.RowKit
set_option linter.unusedVariables false

end Go.Proofs.Ytjagijohfkffiab

/- Plain mathematics: what evades means. -/
namespace Go.Proofs.Ytjagijohfkffiab
set_option linter.unusedVariables false

/-- The first k letters. -/
def pre (x : Nat → Nat) (k : Nat) : List Nat := (List.range k).map x
section
variable {ns : List Nd} {liv : Nat → Bool} {us : List (List Nat)} {xs : List Nat}

end

end Go.Proofs.Ytjagijohfkffiab

/- What Class tells; the walk of the program's Class. -/
namespace Go.Proofs.Ytjagijohfkffiab
open Go.RowKit
set_option linter.unusedVariables false

/-- A small row and a number are handed back. -/
theorem ret_cells_tmp {fn : Func} {p q b : Nat} {ty : TypeId} {d : TypeDesc} {cs : List Value} {v : Value} {a : Act} {w : World} {R : Ending → World → Prop} (h : fn.results = #[.cell p ty, .tmp q]) (hd : a.defers = []) (hp : a.tmps.getD p undef = .pointer (some ⟨b, 0, none⟩)) (hq : a.tmps.getD q undef = v)
    (hg : w.rangeAt b 0 cs) (hu : Try.prog.underlying ty = some d) (hr : d.isRow = true) (hs : (Try.prog.info? ty).map (·.size) = some cs.length) (hR : R (.returned (.tuple #[.agg cs.toArray, v])) w) : bodyPost Try.prog fn R .ret a w := by
  refine bodyPost_ret (v := .tuple #[.agg cs.toArray, v]) ?_ hd hR
  rw [results_cell_tmp h, hp, hq]
  simp only [asAddr, Sem.run_pure, Result.andThen_ok]
  rw [run_loadVar_mid w b 0 _ cs d hg hu hr hs]
  rfl

section
variable (s : ByteArray) (w : World)

end

end Go.Proofs.Ytjagijohfkffiab

/- Graphs that are handed in; the walks of among, edges. -/
namespace Go.Proofs.Ytjagijohfkffiab
open Go.RowKit
set_option linter.unusedVariables false

def inB (zs : List Int) (j : Nat) : Bool := zs.any fun z => z == (j : Int)
def numB (n : Nat) (zs : List Int) : Bool := zs.all fun z => decide (0 ≤ z) && decide (z < (n : Int))
theorem numB_iff {n : Nat} {zs : List Int} : numB n zs = true ↔ ∀ z ∈ zs, 0 ≤ z ∧ z < (n : Int) := by simp [numB, List.all_eq_true]
theorem inB_iff {zs : List Int} {j : Nat} : inB zs j = true ↔ (j : Int) ∈ zs := by
  unfold inB
  rw [List.any_eq_true]
  constructor
  · rintro ⟨z, h1, h2⟩
    have : z = (j : Int) := by simpa using h2
    rw [← this]; exact h1
  · intro h
    exact ⟨_, h, by simp⟩
theorem inB_take {zs : List Int} {k : Nat} {z : Int} (h : zs[k]? = some z) (j : Nat) : inB (zs.take (k + 1)) j = (inB (zs.take k) j || z == (j : Int)) := by
  unfold inB
  rw [List.take_add_one, h]
  simp
def six (e : Nat → Bool) : Array Value := #[.bool (e 0), .bool (e 1), .bool (e 2), .bool (e 3), .bool (e 4), .bool (e 5)]
theorem Try.sixSize : (Try.prog.info? 147).map (·.size) = some 6 := by kernel_rfl
theorem six_one (e : Nat → Bool) : One (fun i => Value.bool (e i)) 6 := fun i _ => rfl
def Amonged (n : Nat) (zs : List Int) (w : World) (e : Ending) (w' : World) : Prop :=
  ∃ f, e = .returned (.tuple #[.agg (six f), .bool (numB n zs)]) ∧ (numB n zs = true → ∀ j, j < 6 → f j = inB zs j) ∧ Below w.heap.size w w'

set_option maxHeartbeats 4000000 in
set_option maxRecDepth 100000 in
theorem among_any (a : Option Addr) (l c n : Nat) (zs : List Int) (w : World) (h : Ints w a l c zs) (hn : n ≤ 6) :
    Calls Try.prog 77 #[.slice a l c, .int .i64 (n : Nat)] w (Amonged n zs w) := by
  have hl := h.hlen
  have hcap := h.hcap
  have hmax := h.hmax
  have HI := hid (fun W (b : Below w.heap.size w W) => h.below b)
  clear h
  have R0 : RawAt (w.alloc (.cells #[.bool false, .bool false, .bool false, .bool false, .bool false, .bool false] 147)) w.heap.size 6 (fun _ => Value.bool false) := raw_new w (fun _ => Value.bool false) 6 147
  have I0 : RawAt ((w.alloc (.cells #[.bool false, .bool false, .bool false, .bool false, .bool false, .bool false] 147)).alloc (.cells #[.bool false, .bool false, .bool false, .bool false, .bool false, .bool false] 147)) (w.heap.size + 1) 6 (fun i => Value.bool (inB (zs.take 0) i)) := by
    have h1 := raw_new (w.alloc (.cells #[.bool false, .bool false, .bool false, .bool false, .bool false, .bool false] 147)) (fun _ => Value.bool false) 6 147
    rw [show (w.alloc (.cells #[.bool false, .bool false, .bool false, .bool false, .bool false, .bool false] 147)).heap.size = w.heap.size + 1 by simp] at h1
    exact h1
  have ba := (Below.refl w.heap.size w).alloc (Nat.le_refl _) (.cells #[.bool false, .bool false, .bool false, .bool false, .bool false, .bool false] 147)
  have HR0 := hid (R0.below ((Below.refl (w.heap.size + 1) (w.alloc (.cells #[.bool false, .bool false, .bool false, .bool false, .bool false, .bool false] 147))).alloc (by simp) (.cells #[.bool false, .bool false, .bool false, .bool false, .bool false, .bool false] 147)) (by omega))
  have HI0 := hid I0
  have HB0 := hid (ba.alloc (by simp) (.cells #[.bool false, .bool false, .bool false, .bool false, .bool false, .bool false] 147))
  clear R0 I0 ba
  go_enter Try.func77, Try.ntmps77
  go_wp2_with fail
  generalize hW : ((w.alloc (.cells #[.bool false, .bool false, .bool false, .bool false, .bool false, .bool false] 147)).alloc (.cells #[.bool false, .bool false, .bool false, .bool false, .bool false, .bool false] 147)) = W at *
  have hWs : W.heap.size = w.heap.size + 2 := by rw [← hW]; simp
  clear hW
  go_loopw [12] (fun i wq => ∃ k : Nat, k ≤ l ∧ i = .int .i64 k ∧ Hid (numB n (zs.take k) = true) ∧ Hid (RawAt wq (w.heap.size + 1) 6 (fun i => Value.bool (inB (zs.take k) i))) ∧ Hid (RawAt wq w.heap.size 6 (fun _ => Value.bool false)) ∧ Hid (Below w.heap.size w wq) ∧ wq.heap.size = w.heap.size + 2) (fun i _ => l - (intOf i).toNat)
  case atStart => exact ⟨0, Nat.zero_le _, rfl, hid (by simp [numB]), HI0, HR0, HB0, hWs⟩
  case round =>
    obtain ⟨k, hk, rfl, HN, HA, HR, HB, hsz⟩ := hrel
    rename World => W0
    clear HI0 HR0 HB0
    by_cases hlk : k < l
    · obtain ⟨z, hz⟩ : ∃ z, zs[k]? = some z := ⟨_, List.getElem?_eq_getElem (by omega)⟩
      obtain ⟨b, o, eb, hb, hc⟩ := (HI.out W0 HB.out).hcell (by omega)
      subst eb
      have ck := hc k hlk
      rw [show zs.getD k 0 = z by simp [List.getD, hz]] at ck
      have HZM := hid (List.mem_of_getElem? hz)
      have HNT : Hid (numB n (zs.take (k + 1)) = (numB n (zs.take k) && (decide (0 ≤ z) && decide (z < (n : Int))))) := hid (by unfold numB; rw [List.take_add_one, hz]; simp)
      have HIT := hid (inB_take hz)
      clear hc hz
      by_cases g1 : z < 0
      · have HNO : Hid (numB n zs = false) := hid (by
          cases e : numB n zs with
          | false => rfl
          | true => have := numB_iff.1 e z HZM.out; omega)
        go_wp2_with (first | (refine wpList_load_raw rfl 147 (.tmp 6) rfl (w.heap.size + 1) 6 _ _ rfl HA.out Try.underlying147 rfl Try.sixSize ?_) | (refine wpList_store_raw rfl 147 (.tmp 4) (.tmp 27) rfl w.heap.size 6 _ rfl rfl (HR.out.there 0 6 (by omega)) Try.sixSize (six_one _) ?_))
        intro w3 S3
        have HB3 := hid (S3.bel _ _ (Nat.le_refl _) HB.out)
        have RG := S3.at_.rng
        clear S3
        go_wp2_with fail
        refine ret_cells_tmp (cs := rv (fun i => Value.bool (inB (zs.take k) i)) 6) (v := .bool false) (b := w.heap.size) Try.results77 ?_ ?_ ?_ ?_ Try.underlying147 rfl (by rw [rv_len]; exact Try.sixSize) ?_
        · rfl
        · rfl
        · rfl
        · exact RG
        · unfold Amonged
          exact ⟨inB (zs.take k), (by rw [HNO.out]; rfl), (fun h => by rw [HNO.out] at h; cases h), HB3.out⟩
      · have g1' : decide (z < 0) = false := by simp; omega
        by_cases g2 : (n : Int) ≤ z
        · have HNO : Hid (numB n zs = false) := hid (by
            cases e : numB n zs with
            | false => rfl
            | true => have := numB_iff.1 e z HZM.out; omega)
          go_wp2_with (first | (refine wpList_load_raw rfl 147 (.tmp 6) rfl (w.heap.size + 1) 6 _ _ rfl HA.out Try.underlying147 rfl Try.sixSize ?_) | (refine wpList_store_raw rfl 147 (.tmp 4) (.tmp 27) rfl w.heap.size 6 _ rfl rfl (HR.out.there 0 6 (by omega)) Try.sixSize (six_one _) ?_))
          intro w3 S3
          have HB3 := hid (S3.bel _ _ (Nat.le_refl _) HB.out)
          have RG := S3.at_.rng
          clear S3
          go_wp2_with fail
          refine ret_cells_tmp (cs := rv (fun i => Value.bool (inB (zs.take k) i)) 6) (v := .bool false) (b := w.heap.size) Try.results77 ?_ ?_ ?_ ?_ Try.underlying147 rfl (by rw [rv_len]; exact Try.sixSize) ?_
          · rfl
          · rfl
          · rfl
          · exact RG
          · unfold Amonged
            exact ⟨inB (zs.take k), (by rw [HNO.out]; rfl), (fun h => by rw [HNO.out] at h; cases h), HB3.out⟩
        · have g2' : decide ((n : Int) ≤ z) = false := by simp; omega
          obtain ⟨m, rfl⟩ : ∃ m : Nat, z = (m : Int) := ⟨z.toNat, by omega⟩
          have g2n : decide (n ≤ m) = false := by simp; omega
          have g3 : decide ((6 : Int) ≤ (m : Int)) = false := by simp; omega
          have g3n : decide (6 ≤ m) = false := by simp; omega
          have hm6 : m < 6 := by omega
          have HN2 : Hid (numB n (zs.take (k + 1)) = true) := hid (by
            rw [HNT.out, HN.out]
            have e1 : decide ((0 : Int) ≤ (m : Int)) = true := by simp
            have e2 : decide ((m : Int) < (n : Int)) = true := by simp; omega
            rw [e1, e2]; rfl)
          have a0 := HA.out.c m hm6
          have a1 := HA.out.f m hm6
          have HA2 := hid (HA.out.set m (.bool true))
          have HA3 := hid (HA2.out.congr (d := fun i => Value.bool (inB (zs.take (k + 1)) i)) (fun j hj => by
            unfold updV
            rw [HIT.out j]
            by_cases e : j = m
            · subst e; simp
            · rw [if_neg e]
              have : ((m : Int) == (j : Int)) = false := beq_eq_false_iff_ne.2 (by omega)
              rw [this]; simp))
          have HR2 := hid (HR.out.other ⟨w.heap.size + 1, m, none⟩ (.bool true) (by show w.heap.size + 1 ≠ w.heap.size; omega))
          have HB2 := hid (HB.out.setCell (p := ⟨w.heap.size + 1, m, none⟩) (by show w.heap.size ≤ w.heap.size + 1; omega) (.bool true))
          have i1 : (0 : Int) ≤ (m : Int) := by omega
          have i2 : (m : Int) < 6 := by omega
          clear g1 g2
          go_wp2_with fail
          go_roundw
          case rel => exact ⟨k + 1, by omega, by go_num, HN2, HA3, HR2, HB2, by simp; omega⟩
          case measure => simp [intOf] <;> omega
    · obtain rfl : k = l := by omega
      have HFL : Hid (zs.take k = zs) := hid (List.take_of_length_le (by omega))
      have HYES : Hid (numB n zs = true) := hid (by have := HN.out; rwa [HFL.out] at this)
      rw [HFL.out] at HA
      go_wp2_with (first | (refine wpList_load_raw rfl 147 (.tmp 6) rfl (w.heap.size + 1) 6 _ _ rfl HA.out Try.underlying147 rfl Try.sixSize ?_) | (refine wpList_store_raw rfl 147 (.tmp 4) (.tmp 31) rfl w.heap.size 6 _ rfl rfl (HR.out.there 0 6 (by omega)) Try.sixSize (six_one _) ?_))
      intro w3 S3
      have HB3 := hid (S3.bel _ _ (Nat.le_refl _) HB.out)
      have RG := S3.at_.rng
      clear S3
      go_wp2_with fail
      refine ret_cells_tmp (cs := rv (fun i => Value.bool (inB zs i)) 6) (v := .bool true) (b := w.heap.size) Try.results77 ?_ ?_ ?_ ?_ Try.underlying147 rfl (by rw [rv_len]; exact Try.sixSize) ?_
      · rfl
      · rfl
      · rfl
      · exact RG
      · unfold Amonged
        exact ⟨inB zs, by rw [HYES.out]; rfl, fun _ j _ => rfl, HB3.out⟩

/-- The nodes to which edges go from a node. -/
def outZ (i : Nat) (zs : List Int) : List Int := if zs.length = 0 then [(i : Int)] else zs

set_option maxHeartbeats 4000000 in
set_option maxRecDepth 100000 in
theorem edges_any (a : Option Addr) (l c i n : Nat) (zs : List Int) (w : World) (h : Ints w a l c zs) (hn : n ≤ 6) :
    Calls Try.prog 78 #[.slice a l c, .int .i64 (i : Nat), .int .i64 (n : Nat)] w (Amonged n (outZ i zs) w) := by
  have hl := h.hlen
  have hcap := h.hcap
  have hmax := h.hmax
  have ba := (Below.refl w.heap.size w).alloc (Nat.le_refl _) (.cells #[.bool false, .bool false, .bool false, .bool false, .bool false, .bool false] 147)
  have R0 : RawAt (w.alloc (.cells #[.bool false, .bool false, .bool false, .bool false, .bool false, .bool false] 147)) w.heap.size 6 (fun _ => Value.bool false) := raw_new w (fun _ => Value.bool false) 6 147
  have HR0 := hid R0
  have HB0 := hid ba
  by_cases h0 : l = 0
  · subst h0
    have HO : Hid (outZ i zs = [(i : Int)]) := hid (by unfold outZ; rw [if_pos hl])
    have b1 := (Below.refl (w.heap.size + 1) (w.alloc (.cells #[.bool false, .bool false, .bool false, .bool false, .bool false, .bool false] 147))).alloc (by simp) (.cells #[.int .i64 (i : Nat)] 3)
    have HR1 := hid (R0.below b1 (by omega))
    have HB1 := hid (ba.trans (b1.mono (by omega)))
    have I1 : Ints ((w.alloc (.cells #[.bool false, .bool false, .bool false, .bool false, .bool false, .bool false] 147)).alloc (.cells #[.int .i64 (i : Nat)] 3)) (some ⟨w.heap.size + 1, 0, none⟩) 1 1 [(i : Int)] := by
      have h1 := ints_one (w.alloc (.cells #[.bool false, .bool false, .bool false, .bool false, .bool false, .bool false] 147)) i
      rw [show (w.alloc (.cells #[.bool false, .bool false, .bool false, .bool false, .bool false, .bool false] 147)).heap.size = w.heap.size + 1 by simp] at h1
      exact h1
    have AM := hid (among_any _ 1 1 n [(i : Int)] _ I1 hn)
    clear ba R0 b1 I1 h
    rw [HO.out]
    go_enter Try.func78, Try.ntmps78
    go_wp2_with fail
    refine (AM.out.mono ?_)
    intro e w2 ham
    unfold Amonged at ham
    obtain ⟨f, rfl, hf, hb2⟩ := ham
    simp only [World.size_alloc] at hb2
    have HR2 := hid (HR1.out.below hb2 (by omega))
    have HB2 := hid (HB1.out.trans (hb2.mono (by omega)))
    have HF := hid hf
    clear hf hb2 AM
    go_wp2_with (refine wpList_store_raw rfl 147 (.tmp 6) (.tmp 15) rfl w.heap.size 6 (fun i => Value.bool (f i)) rfl rfl (HR2.out.there 0 6 (by omega)) Try.sixSize (six_one _) ?_)
    intro w3 S3
    have HB3 := hid (S3.bel _ _ (Nat.le_refl _) HB2.out)
    have RG := S3.at_.rng
    clear S3
    go_wp2_with fail
    refine ret_cells_tmp (cs := rv (fun i => Value.bool (f i)) 6) (v := .bool (numB n [(i : Int)])) (b := w.heap.size) Try.results78 ?_ ?_ ?_ ?_ Try.underlying147 rfl (by rw [rv_len]; exact Try.sixSize) ?_
    · rfl
    · rfl
    · rfl
    · exact RG
    · unfold Amonged
      exact ⟨f, rfl, HF.out, HB3.out⟩
  · have HO : Hid (outZ i zs = zs) := hid (by unfold outZ; rw [if_neg (by omega)])
    have AM := hid (among_any a l c n zs _ (h.below ba) hn)
    have hz : ((l : Int) == 0) = false := beq_eq_false_iff_ne.2 (by omega)
    clear ba R0 h
    rw [HO.out]
    go_enter Try.func78, Try.ntmps78
    go_wp2_with fail
    refine (AM.out.mono ?_)
    intro e w2 ham
    unfold Amonged at ham
    obtain ⟨f, rfl, hf, hb2⟩ := ham
    simp only [World.size_alloc] at hb2
    have HR2 := hid (HR0.out.below hb2 (by omega))
    have HB2 := hid (HB0.out.trans (hb2.mono (by omega)))
    have HF := hid hf
    clear hf hb2 AM
    go_wp2_with (refine wpList_store_raw rfl 147 (.tmp 6) (.tmp 20) rfl w.heap.size 6 (fun i => Value.bool (f i)) rfl rfl (HR2.out.there 0 6 (by omega)) Try.sixSize (six_one _) ?_)
    intro w3 S3
    have HB3 := hid (S3.bel _ _ (Nat.le_refl _) HB2.out)
    have RG := S3.at_.rng
    clear S3
    go_wp2_with fail
    refine ret_cells_tmp (cs := rv (fun i => Value.bool (f i)) 6) (v := .bool (numB n zs)) (b := w.heap.size) Try.results78 ?_ ?_ ?_ ?_ Try.underlying147 rfl (by rw [rv_len]; exact Try.sixSize) ?_
    · rfl
    · rfl
    · rfl
    · exact RG
    · unfold Amonged
      exact ⟨f, rfl, HF.out, HB3.out⟩

end Go.Proofs.Ytjagijohfkffiab
