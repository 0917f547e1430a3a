import Derived.Test.YtjagijohfkffiabFOUM14
import Derived.Test.YtjagijohfkffiabFOUM19
import Derived.Test.YtjagijohfkffiabFOUM20
import Derived.Deep.AppendLies
import Derived.Deep.RegionHeld3
import Derived.Laws.IdiomStrings
import Derived.Laws.BitsLemmas

/- The walk of graph.Take. -/
namespace Go.Proofs.Ytjagijohfkffiab
open Go.RowKit
set_option linter.unusedVariables false

def rowsB (n : Nat) (zss : List (List Int)) (k : Nat) : Bool := (List.range k).all fun i => numB n (zss.getD i [])
theorem rowsB_succ (n : Nat) (zss : List (List Int)) (k : Nat) : rowsB n zss (k + 1) = (rowsB n zss k && numB n (zss.getD k [])) := by
  unfold rowsB
  rw [List.range_succ, List.all_append]
  simp
/-- What is handed in is a graph. -/
def graphB (zs : List Int) (zss : List (List Int)) (ss : List Int) : Bool := decide (1 ≤ zs.length) && decide (zs.length ≤ 6) && decide (zss.length = zs.length) && allL zs && decide (ss.length ≠ 0) && numB zs.length ss && rowsB zs.length zss zs.length
theorem numB_out {n i : Nat} (hi : i < n) (zs : List Int) : numB n (outZ i zs) = numB n zs := by
  unfold outZ
  by_cases h : zs.length = 0
  · rw [if_pos h, List.length_eq_zero_iff.1 h]
    have e1 : decide ((0 : Int) ≤ (i : Int)) = true := by simp
    have e2 : decide ((i : Int) < (n : Int)) = true := by simp; omega
    simp [numB, hi]
  · rw [if_neg h]
def gLt (zs : List Int) (i : Nat) : Nat := (zs.getD i 0).toNat
def gEd (zss : List (List Int)) (i j : Nat) : Bool := inB (outZ i (zss.getD i [])) j
def gSt (ss : List Int) (i : Nat) : Bool := inB ss i

def ndC (lt : Nat → Nat) (ed : Nat → Nat → Bool) (st : Nat → Bool) (i : Nat) : List Value := [.int .i64 (lt i : Nat), .bool (ed i 0), .bool (ed i 1), .bool (ed i 2), .bool (ed i 3), .bool (ed i 4), .bool (ed i 5), .bool (st i)]
def flatNd (lt : Nat → Nat) (ed : Nat → Nat → Bool) (st : Nat → Bool) (k : Nat) : List Value := (List.range k).flatMap (ndC lt ed st)
theorem flatNd_succ (lt : Nat → Nat) (ed : Nat → Nat → Bool) (st : Nat → Bool) (k : Nat) : flatNd lt ed st (k + 1) = flatNd lt ed st k ++ ndC lt ed st k := by simp [flatNd, List.range_succ]
theorem flatNd_len (lt : Nat → Nat) (ed : Nat → Nat → Bool) (st : Nat → Bool) : ∀ k, (flatNd lt ed st k).length = k * 8
  | 0 => rfl
  | k + 1 => by rw [flatNd_succ, List.length_append, flatNd_len lt ed st k]; simp [ndC]; omega
theorem flatNd_get (lt : Nat → Nat) (ed : Nat → Nat → Bool) (st : Nat → Bool) {j : Nat} (hj : j < 8) : ∀ {k i : Nat}, i < k → (flatNd lt ed st k)[i * 8 + j]? = (ndC lt ed st i)[j]?
  | 0, i, hi => by omega
  | k + 1, i, hi => by
    rw [flatNd_succ]
    by_cases h : i < k
    · rw [List.getElem?_append_left (by rw [flatNd_len]; omega)]
      exact flatNd_get lt ed st hj h
    · obtain rfl : i = k := by omega
      rw [List.getElem?_append_right (by rw [flatNd_len]; omega), flatNd_len]
      congr 1
      omega
theorem nodeM_of {w : World} {B g n cap : Nat} {lt : Nat → Nat} {ed : Nat → Nat → Bool} {st : Nat → Bool} (h : w.ownsRow B 152 8 (.slice (some ⟨g, 0, none⟩) n cap) n (flatNd lt ed st n)) : NodeM w g n lt ed st := by
  refine ⟨(h.lt g rfl).2, fun i hi => ?_, fun i j hi hj => ?_, fun i hi => ?_⟩
  · rw [h.cellAt (i * 8) (by omega)]
    have := flatNd_get lt ed st (j := 0) (by omega) hi
    exact this
  · rw [h.cellAt (i * 8 + (1 + j)) (by omega), flatNd_get lt ed st (by omega) hi]
    have : j = 0 ∨ j = 1 ∨ j = 2 ∨ j = 3 ∨ j = 4 ∨ j = 5 := by omega
    rcases this with rfl | rfl | rfl | rfl | rfl | rfl <;> rfl
  · rw [h.cellAt (i * 8 + 7) (by omega), flatNd_get lt ed st (by omega) hi]
    rfl

theorem Try.infoGNode : (Try.prog.info? 152).map (fun i => (i.zero, i.size, i.bytes)) = some (some (.agg #[.int .i64 0, .bool false, .bool false, .bool false, .bool false, .bool false, .bool false, .bool false]), 8, 16) := by kernel_rfl

def TakenG (zs : List Int) (zss : List (List Int)) (ss : List Int) (w : World) (e : Ending) (w' : World) : Prop :=
  Below w.heap.size w w' ∧ ((graphB zs zss ss = false ∧ e = .returned (.tuple #[.slice none 0 0, .bool false])) ∨
    (graphB zs zss ss = true ∧ ∃ g cap, e = .returned (.tuple #[.slice (some ⟨g, 0, none⟩) zs.length cap, .bool true]) ∧ NodeM w' g zs.length (gLt zs) (gEd zss) (gSt ss)))

section
variable (a1 a2 a3 : Option Addr) (l1 c1 l2 c2 l3 c3 : Nat) (zs : List Int) (zss : List (List Int)) (ss : List Int) (w : World)

set_option maxHeartbeats 4000000 in
set_option maxRecDepth 100000 in
theorem takeG_bad (h1 : Ints w a1 l1 c1 zs) (h2 : Lists w a2 l2 c2 zss) (h3 : Ints w a3 l3 c3 ss) (hb : l1 = 0 ∨ 6 < l1 ∨ l2 ≠ l1) :
    Calls Try.prog 44 #[.agg #[.slice a1 l1 c1, .slice a2 l2 c2, .slice a3 l3 c3]] w (TakenG zs zss ss w) := by
  have m1 := h1.hcap
  have m2 := h1.hmax
  have L1 := h1.hlen
  have L2 := h2.hlen
  have n1 := h2.hcap
  have n2 := h2.hmax
  have HE : Hid (graphB zs zss ss = false) := hid (by
    cases e : graphB zs zss ss with
    | false => rfl
    | true =>
      unfold graphB at e
      simp only [Bool.and_eq_true, decide_eq_true_eq] at e
      omega)
  have ba := hid ((Below.refl w.heap.size w).alloc (Nat.le_refl _) (.cells #[.slice a1 l1 c1, .slice a2 l2 c2, .slice a3 l3 c3] 46))
  have T0 := three_new w (.slice a1 l1 c1) (.slice a2 l2 c2) (.slice a3 l3 c3) 46
  have x0 := T0.c0
  have x1 := T0.c1
  clear h1 h2 h3 T0
  by_cases k1 : l1 = 0
  · subst k1
    go_enter Try.func44, Try.ntmps44
    go_wp2_with fail
    go_ret2
    unfold TakenG
    exact ⟨ba.out, Or.inl ⟨HE.out, rfl⟩⟩
  have q1 : decide ((l1 : Int) < 1) = false := by simp; omega
  by_cases k2 : 6 < l1
  · have q2 : (6 : Int) < (l1 : Int) := by omega
    go_enter Try.func44, Try.ntmps44
    go_wp2_with fail
    go_ret2
    unfold TakenG
    exact ⟨ba.out, Or.inl ⟨HE.out, rfl⟩⟩
  have q2 : decide ((6 : Int) < (l1 : Int)) = false := by simp; omega
  have k3 : ((l2 : Int) != (l1 : Int)) = true := bne_iff_ne.2 (by omega)
  go_enter Try.func44, Try.ntmps44
  go_wp2_with fail
  go_ret2
  unfold TakenG
  exact ⟨ba.out, Or.inl ⟨HE.out, rfl⟩⟩

set_option maxHeartbeats 4000000 in
set_option maxRecDepth 100000 in
theorem takeG_ok (h1 : Ints w a1 l1 c1 zs) (h2 : Lists w a2 l1 c2 zss) (h3 : Ints w a3 l3 c3 ss) (hp : 1 ≤ l1) (h6 : l1 ≤ 6) :
    Calls Try.prog 44 #[.agg #[.slice a1 l1 c1, .slice a2 l1 c2, .slice a3 l3 c3]] w (TakenG zs zss ss w) := by
  have m1 := h1.hcap
  have m2 := h1.hmax
  have L1 := h1.hlen
  have L2 := h2.hlen
  have L3 := h3.hlen
  have n1 := h2.hcap
  have n2 := h2.hmax
  have o1 := h3.hcap
  have o2 := h3.hmax
  have q1 : decide ((l1 : Int) < 1) = false := by simp; omega
  have q2 : decide ((6 : Int) < (l1 : Int)) = false := by simp; omega
  have q3 : ((l1 : Int) != (l1 : Int)) = false := by simp
  have HGE : Hid (graphB zs zss ss = (allL zs && decide (ss.length ≠ 0) && numB l1 ss && rowsB l1 zss l1)) := hid (by
    unfold graphB
    rw [L1, show decide (1 ≤ l1) = true by simp; omega, show decide (l1 ≤ 6) = true by simp; omega, show decide (zss.length = l1) = true by simp; omega]
    simp)
  have HI1 := hid (fun W (b : Below w.heap.size w W) => h1.below b)
  have HI2 := hid (fun W (b : Below w.heap.size w W) => h2.below b)
  have HI3 := hid (fun W (b : Below w.heap.size w W) => h3.below b)
  have ba := hid ((Below.refl w.heap.size w).alloc (Nat.le_refl _) (.cells #[.slice a1 l1 c1, .slice a2 l1 c2, .slice a3 l3 c3] 46))
  have T0 := hid (three_new w (.slice a1 l1 c1) (.slice a2 l1 c2) (.slice a3 l3 c3) 46)
  obtain ⟨i0, hi0, hz0, hz1, hz2⟩ := info_parts Try.infoGNode
  have x0 := T0.out.c0
  have x1 := T0.out.c1
  have x2 := T0.out.c2
  have AL := hid (allLetters_any a1 l1 c1 zs _ (HI1.out _ ba.out))
  clear h1 h2 h3
  go_enter Try.func44, Try.ntmps44
  go_wp2_with fail
  refine AL.out.mono ?_
  rintro e w1 ⟨rfl, rfl⟩
  cases hal : allL zs with
  | false =>
    have HE : Hid (graphB zs zss ss = false) := hid (by rw [HGE.out, hal]; rfl)
    clear hal
    go_wp2_with fail
    go_ret2
    unfold TakenG
    exact ⟨ba.out, Or.inl ⟨HE.out, rfl⟩⟩
  | true =>
    have HAL := hid hal
    clear hal
    by_cases hl3 : l3 = 0
    · subst hl3
      have HE : Hid (graphB zs zss ss = false) := hid (by rw [HGE.out, L3]; simp)
      go_wp2_with fail
      go_ret2
      unfold TakenG
      exact ⟨ba.out, Or.inl ⟨HE.out, rfl⟩⟩
    · have hz3 : ((l3 : Int) == 0) = false := beq_eq_false_iff_ne.2 (by omega)
      have AM := hid (among_any a3 l3 c3 l1 ss _ (HI3.out _ ba.out) h6)
      go_wp2_with fail
      generalize hW : (w.alloc (.cells #[.slice a1 l1 c1, .slice a2 l1 c2, .slice a3 l3 c3] 46)) = W at *
      have hWs : W.heap.size = w.heap.size + 1 := by rw [← hW]; simp
      clear hW
      refine AM.out.mono ?_
      intro e w2 ham
      unfold Amonged at ham
      obtain ⟨fs, rfl, hfs, hb2⟩ := ham
      have HFS := hid hfs
      have T2 := hid (T0.out.below hb2 (by omega))
      have HB2 := hid (ba.out.trans (hb2.mono (by omega)))
      have hs2 := hb2.size
      clear hfs hb2 AM x0 x1 x2 T0 ba AL
      have bs := (Below.refl w2.heap.size w2).alloc (Nat.le_refl _) (.cells (six fs) 147)
      have RS := hid (raw_new w2 (fun i => Value.bool (fs i)) 6 147)
      have T3 := hid (T2.out.below bs (by omega))
      have HB3 := hid (HB2.out.trans (bs.mono (by omega)))
      clear bs T2 HB2
      unfold six
      cases hns : numB l1 ss with
      | false =>
        have HE : Hid (graphB zs zss ss = false) := hid (by rw [HGE.out, hns]; simp)
        clear hns
        go_wp2_with fail
        go_ret2
        unfold TakenG
        exact ⟨HB3.out, Or.inl ⟨HE.out, rfl⟩⟩
      | true =>
        have HNS := hid hns
        have HFS2 := hid (HFS.out hns)
        clear hns HFS
        have x0 := T3.out.c0
        have x1 := T3.out.c1
        have hw3 : (w2.alloc (.cells (six fs) 147)).heap.size = w2.heap.size + 1 := by simp
        have RS3 : Hid (RawAt (w2.alloc (.cells #[.bool (fs 0), .bool (fs 1), .bool (fs 2), .bool (fs 3), .bool (fs 4), .bool (fs 5)] 147)) w2.heap.size 6 (fun i => Value.bool (fs i))) := RS
        unfold six at T3 HB3 hw3 x0 x1
        clear RS
        go_wp2_with fail
        clear x0 x1
        generalize hW3 : (w2.alloc (.cells #[.bool (fs 0), .bool (fs 1), .bool (fs 2), .bool (fs 3), .bool (fs 4), .bool (fs 5)] 147)) = W3 at *
        clear hW3
        go_loopw [7, 50] (fun v i wq => ∃ k : Nat, k ≤ l1 ∧ i = .int .i64 k ∧ Hid (rowsB l1 zss k = true) ∧ Hid (wq.ownsRow (w2.heap.size + 1) 152 8 v k (flatNd (gLt zs) (gEd zss) (gSt ss) k)) ∧ Hid (Below (w2.heap.size + 1) W3 wq)) (fun _ i _ => l1 - (intOf i).toNat)
        case atStart => exact ⟨0, Nat.zero_le _, rfl, hid (by simp [rowsB]), hid (World.ownsRow_nil _ _ _ _), hid (Below.refl _ _)⟩
        case round =>
          obtain ⟨k, hk, rfl, HRB, HO, HX⟩ := hrel
          rename World => W4
          obtain ⟨aV, cV, rfl⟩ := own_slice HO.out
          have hs4 := HX.out.size
          have HB4 := hid (HB3.out.trans (HX.out.mono (by omega)))
          by_cases hlk : k < l1
          · have T4 := T3.out.below HX.out (by omega)
            have x0 := T4.c0
            have x1 := T4.c1
            obtain ⟨b1, o1', e1, hb1, hc1⟩ := (HI1.out W4 HB4.out).hcell (by omega)
            obtain ⟨b2, o2', e2, hb2, hc2⟩ := (HI2.out W4 HB4.out).hcell (by omega)
            subst e1
            subst e2
            have cz := hc1 k hlk
            obtain ⟨ra, rl, rc, cr, hr⟩ := hc2 k hlk
            have hzl : isL (zs.getD k 0) = true := by
              have h9 := HAL.out
              unfold allL at h9
              rw [List.all_eq_true] at h9
              refine h9 _ ?_
              rw [List.getD, List.getElem?_eq_getElem (by omega)]
              exact List.getElem_mem _
            have hzl2 := isL_iff.1 hzl
            have HGL : Hid (zs.getD k 0 = ((gLt zs k : Nat) : Int)) := hid (by unfold gLt; omega)
            rw [HGL.out] at cz
            have HED : Hid (∀ j, gEd zss k j = inB (outZ k (zss.getD k [])) j) := hid (fun j => rfl)
            have HNO := hid (numB_out hlk (zss.getD k []))
            have HRS := hid (rowsB_succ l1 zss k)
            have HCT : Hid (rowsB l1 zss l1 = true → numB l1 (zss.getD k []) = true) := hid (fun h9 => by
              unfold rowsB at h9
              rw [List.all_eq_true] at h9
              exact h9 k (by simpa using hlk))
            have ED := hid (edges_any ra rl rc k l1 (zss.getD k []) W4 hr h6)
            have HFN := hid (flatNd_succ (gLt zs) (gEd zss) (gSt ss) k)
            unfold ndC at HFN
            have HTB := hid (fun q h => (HO.out.lt q h).1)
            have i1 : (0 : Int) ≤ (k : Int) := by omega
            have i2 : (k : Int) < (l1 : Int) := by omega
            clear hc1 hc2 hr hzl hzl2 T4
            generalize zss.getD k [] = row at *
            generalize gLt zs k = m at *
            go_wp2_with fail
            refine ED.out.mono ?_
            intro e w5 ham
            unfold Amonged at ham
            obtain ⟨f, rfl, hf, hb5⟩ := ham
            have HF := hid hf
            have HX5 := hid (HX.out.trans (hb5.mono (by omega)))
            have O5 := hid (own_keeps HO.out hb5)
            have hs5 := hb5.size
            clear hf hb5 ED x0 x1 cz cr
            have bs := (Below.refl w5.heap.size w5).alloc (Nat.le_refl _) (.cells (six f) 147)
            have HX6 := hid (HX5.out.trans (bs.mono (by omega)))
            have O6 := hid (own_keeps O5.out bs)
            have HB6 := hid (HB3.out.trans (HX6.out.mono (by omega)))
            clear bs HX5 O5
            unfold six
            unfold six at HX6 O6 HB6
            cases hnr : numB l1 (outZ k row) with
            | false =>
              have HE : Hid (graphB zs zss ss = false) := hid (by
                rw [HGE.out]
                have h9 : rowsB l1 zss l1 = false := by
                  cases e : rowsB l1 zss l1 with
                  | false => rfl
                  | true =>
                    have h10 := HCT.out e
                    rw [← HNO.out, hnr] at h10
                    cases h10
                rw [h9]; simp)
              clear hnr
              go_wp2_with fail
              go_ret2
              unfold TakenG
              exact ⟨HB6.out, Or.inl ⟨HE.out, rfl⟩⟩
            | true =>
              have HRK : Hid (rowsB l1 zss (k + 1) = true) := hid (by rw [HRS.out, HRB.out, ← HNO.out, hnr]; rfl)
              have HFE := hid (HF.out hnr)
              clear hnr HF
              have f0 : (w5.alloc (.cells #[.bool (f 0), .bool (f 1), .bool (f 2), .bool (f 3), .bool (f 4), .bool (f 5)] 147)).cell? ⟨w5.heap.size, 0, none⟩ = some (.bool (f 0)) := by simp
              have f1 : (w5.alloc (.cells #[.bool (f 0), .bool (f 1), .bool (f 2), .bool (f 3), .bool (f 4), .bool (f 5)] 147)).cell? ⟨w5.heap.size, 1, none⟩ = some (.bool (f 1)) := by simp
              have f2 : (w5.alloc (.cells #[.bool (f 0), .bool (f 1), .bool (f 2), .bool (f 3), .bool (f 4), .bool (f 5)] 147)).cell? ⟨w5.heap.size, 2, none⟩ = some (.bool (f 2)) := by simp
              have f3 : (w5.alloc (.cells #[.bool (f 0), .bool (f 1), .bool (f 2), .bool (f 3), .bool (f 4), .bool (f 5)] 147)).cell? ⟨w5.heap.size, 3, none⟩ = some (.bool (f 3)) := by simp
              have f4 : (w5.alloc (.cells #[.bool (f 0), .bool (f 1), .bool (f 2), .bool (f 3), .bool (f 4), .bool (f 5)] 147)).cell? ⟨w5.heap.size, 4, none⟩ = some (.bool (f 4)) := by simp
              have f5 : (w5.alloc (.cells #[.bool (f 0), .bool (f 1), .bool (f 2), .bool (f 3), .bool (f 4), .bool (f 5)] 147)).cell? ⟨w5.heap.size, 5, none⟩ = some (.bool (f 5)) := by simp
              have sk := ((RS3.out.below HX6.out (by omega)).c k (by omega))
              have hw6s : (w5.alloc (.cells #[.bool (f 0), .bool (f 1), .bool (f 2), .bool (f 3), .bool (f 4), .bool (f 5)] 147)).heap.size = w5.heap.size + 1 := by simp
              have HROW : Hid (([.int .i64 (m : Nat), .bool (gEd zss k 0), .bool (gEd zss k 1), .bool (gEd zss k 2), .bool (gEd zss k 3), .bool (gEd zss k 4), .bool (gEd zss k 5), .bool (gSt ss k)] : List Value) = [.int .i64 (m : Nat), .bool (f 0), .bool (f 1), .bool (f 2), .bool (f 3), .bool (f 4), .bool (f 5), .bool (fs k)]) := hid (by
                rw [HED.out 0, HED.out 1, HED.out 2, HED.out 3, HED.out 4, HED.out 5, ← HFE.out 0 (by omega), ← HFE.out 1 (by omega), ← HFE.out 2 (by omega), ← HFE.out 3 (by omega), ← HFE.out 4 (by omega), ← HFE.out 5 (by omega), HFS2.out k (by omega)]
                rfl)
              have i3 : (k : Int) < 6 := by omega
              go_wp2_with fail
              generalize hW6 : (w5.alloc (.cells #[.bool (f 0), .bool (f 1), .bool (f 2), .bool (f 3), .bool (f 4), .bool (f 5)] 147)) = W6 at *
              clear hW6
              have yE : w5.heap.size < W6.heap.size := by omega
              have yS : w2.heap.size < W6.heap.size := by omega
              have yB : w2.heap.size + 1 ≤ W6.heap.size := by omega
              clear hw6s
              refine wp_region_held_drew (S := fun w' => w'.cell? ⟨w5.heap.size, 0, none⟩ = some (.bool (f 0)) ∧ w'.cell? ⟨w5.heap.size, 1, none⟩ = some (.bool (f 1)) ∧ w'.cell? ⟨w5.heap.size, 2, none⟩ = some (.bool (f 2)) ∧ w'.cell? ⟨w5.heap.size, 3, none⟩ = some (.bool (f 3)) ∧ w'.cell? ⟨w5.heap.size, 4, none⟩ = some (.bool (f 4)) ∧ w'.cell? ⟨w5.heap.size, 5, none⟩ = some (.bool (f 5)) ∧ w'.cell? ⟨w2.heap.size, k, none⟩ = some (.bool (fs k))) (by kernel_rfl) ⟨f0, f1, f2, f3, f4, f5, sk⟩ (fun hHeld => ?_)
              refine wpAnyH_take (i := 0) (oi := { dst := some 68, op := Op.move (.tmp 7), type := _, pos := _, after := _, guard := none }) (v := (Value.slice aV k cV)) rfl (by kernel_rfl) (by kernel_rfl) (by kernel_rfl) (fun _ _ _ h => h) (Or.inl ⟨by rfl, by intro w' hSw; (try dsimp only at hSw); go_simp⟩) (by assumption) ?_
              simp only [Act.put, List.setIfInBounds_toArray, List.set_cons_zero, List.set_cons_succ]
              refine wpAnyH_take (i := 1) (oi := { dst := some 69, op := Op.move (.tmp 9), type := _, pos := _, after := _, guard := none }) (v := (Value.int .i64 (m : Nat))) rfl (by kernel_rfl) (by kernel_rfl) (by kernel_rfl) (fun _ _ _ h => h) (Or.inl ⟨by rfl, by intro w' hSw; (try dsimp only at hSw); go_simp⟩) (by assumption) ?_
              simp only [Act.put, List.setIfInBounds_toArray, List.set_cons_zero, List.set_cons_succ]
              refine wpAnyH_take (i := 2) (oi := { dst := some 70, op := Op.load _ (.tmp 10), type := _, pos := _, after := _, guard := none }) (v := (Value.agg #[.bool (f 0), .bool (f 1), .bool (f 2), .bool (f 3), .bool (f 4), .bool (f 5)])) rfl (by kernel_rfl) (by kernel_rfl) (by kernel_rfl) (fun _ _ _ h => h) (Or.inl ⟨by rfl, by intro w' hSw; (try dsimp only at hSw); go_simp⟩) (by assumption) ?_
              simp only [Act.put, List.setIfInBounds_toArray, List.set_cons_zero, List.set_cons_succ]
              refine wpAnyH_take (i := 3) (oi := { dst := some 71, op := Op.move (.tmp 8), type := _, pos := _, after := _, guard := none }) (v := (Value.int .i64 (k : Nat))) rfl (by kernel_rfl) (by kernel_rfl) (by kernel_rfl) (fun _ _ _ h => h) (Or.inl ⟨by rfl, by intro w' hSw; (try dsimp only at hSw); go_simp⟩) (by assumption) ?_
              simp only [Act.put, List.setIfInBounds_toArray, List.set_cons_zero, List.set_cons_succ]
              refine wpAnyH_take (i := 4) (oi := { dst := some 72, op := Op.indexAddr _ (.tmp 5) (.tmp 71), type := _, pos := _, after := _, guard := none }) (v := (Value.pointer (some ⟨w2.heap.size, k, none⟩))) rfl (by kernel_rfl) (by kernel_rfl) (by kernel_rfl) (fun _ _ _ h => h) (Or.inl ⟨by rfl, by intro w' hSw; (try dsimp only at hSw); go_simp⟩) (by assumption) ?_
              simp only [Act.put, List.setIfInBounds_toArray, List.set_cons_zero, List.set_cons_succ]
              refine wpAnyH_take (i := 5) (oi := { dst := some 73, op := Op.load _ (.tmp 72), type := _, pos := _, after := _, guard := none }) (v := (Value.bool (fs k))) rfl (by kernel_rfl) (by kernel_rfl) (by kernel_rfl) (fun _ _ _ h => h) (Or.inl ⟨by rfl, by intro w' hSw; (try dsimp only at hSw); go_simp⟩) (by assumption) ?_
              simp only [Act.put, List.setIfInBounds_toArray, List.set_cons_zero, List.set_cons_succ]
              refine wpAnyH_take (i := 6) (oi := { dst := some 74, op := Op.build _ #[(0, .tmp 69), (1, .tmp 70), (2, .tmp 73)], type := _, pos := _, after := _, guard := none }) (v := (Value.agg #[.int .i64 (m : Nat), .bool (f 0), .bool (f 1), .bool (f 2), .bool (f 3), .bool (f 4), .bool (f 5), .bool (fs k)])) rfl (by kernel_rfl) (by kernel_rfl) (by kernel_rfl) (fun _ _ _ h => h) (Or.inl ⟨by rfl, by intro w' hSw; (try dsimp only at hSw); go_simp⟩) (by assumption) ?_
              simp only [Act.put, List.setIfInBounds_toArray, List.set_cons_zero, List.set_cons_succ]
              refine wpAnyH_ready (rs := [7]) (by kernel_rfl) (by simp) ?_
              refine AllReadyH.cons rfl (fun K hK => ?_) AllReadyH.nil
              go_simp
              have xa : Below W6.heap.size W6 (W6.alloc (.cells #[.int .i64 (m : Nat), .bool (f 0), .bool (f 1), .bool (f 2), .bool (f 3), .bool (f 4), .bool (f 5), .bool (fs k)] 152)) := (Below.refl W6.heap.size W6).alloc (Nat.le_refl _) _
              refine hK.out _ _ ⟨(xa.cell (p := ⟨w5.heap.size, 0, none⟩) yE).trans f0, (xa.cell (p := ⟨w5.heap.size, 1, none⟩) yE).trans f1, (xa.cell (p := ⟨w5.heap.size, 2, none⟩) yE).trans f2, (xa.cell (p := ⟨w5.heap.size, 3, none⟩) yE).trans f3, (xa.cell (p := ⟨w5.heap.size, 4, none⟩) yE).trans f4, (xa.cell (p := ⟨w5.heap.size, 5, none⟩) yE).trans f5, (xa.cell (p := ⟨w2.heap.size, k, none⟩) yS).trans sk⟩ (fun hHeld => ?_)
              clear hK K
              refine wpAnyH_ready (rs := [8]) (by kernel_rfl) (by simp) ?_
              refine AllReadyH.cons rfl (fun K hK => ?_) AllReadyH.nil
              refine step_append_lies _ (by rfl) (.tmp 68) (.tmp 75) 85 (by rfl) (w2.heap.size + 1) 152 i0 (.agg #[.int .i64 0, .bool false, .bool false, .bool false, .bool false, .bool false, .bool false, .bool false]) 8 16 Try.underlying85 hi0 hz0 hz1 hz2 rfl (by decide) _ k (flatNd (gLt zs) (gEd zss) (gSt ss) k) (by rfl) ((O6.out.alloc _).drew) ⟨W6.heap.size, 0, none⟩ 1 1 [.int .i64 (m : Nat), .bool (f 0), .bool (f 1), .bool (f 2), .bool (f 3), .bool (f 4), .bool (f 5), .bool (fs k)] (by rfl) (by rfl) (World.news_of_block (cs := #[.int .i64 (m : Nat), .bool (f 0), .bool (f 1), .bool (f 2), .bool (f 3), .bool (f 4), .bool (f 5), .bool (fs k)]) (t := 152) (fr := (0, 0)) (heap_alloc_new W6 _)) (by simp [Value.oneCell']) (by decide) (by unfold maxLen; omega) (by omega) (by simp; omega) (W6.heap.size + 1) (by simp) ?_
              intro gg cc w7 hown hgrow hat hlt7
              have HX7 := hid ((HX6.out.trans ((below_drewN xa 1).mono (by omega))).grown hgrow (by show w2.heap.size + 1 ≤ (W6.alloc (.cells #[.int .i64 (m : Nat), .bool (f 0), .bool (f 1), .bool (f 2), .bool (f 3), .bool (f 4), .bool (f 5), .bool (fs k)] 152)).heap.size; rw [World.size_alloc]; omega) (fun q h => HTB.out q h))
              have O7 : Hid (w7.ownsRow (w2.heap.size + 1) 152 8 (.slice (some ⟨gg, 0, none⟩) (k + 1) cc) (k + 1) (flatNd (gLt zs) (gEd zss) (gSt ss) (k + 1))) := hid (by rw [HFN.out, HROW.out]; exact hown)
              have KS : ∀ (b o : Nat) {v : Value}, b < W6.heap.size → some b ≠ (Value.slice aV k cV).ownBlock → W6.cell? ⟨b, o, none⟩ = some v → w7.cell? ⟨b, o, none⟩ = some v := fun b o v hb hne hv => hgrow.cell ((xa.cell (p := ⟨b, o, none⟩) hb).trans hv) hne
              have neE : some w5.heap.size ≠ (Value.slice aV k cV).ownBlock := fun h => by have := (HO.out.lt _ h.symm).2; omega
              have neS : some w2.heap.size ≠ (Value.slice aV k cV).ownBlock := fun h => by have := HTB.out _ h.symm; omega
              refine hK.out _ _ ⟨KS _ _ yE neE f0, KS _ _ yE neE f1, KS _ _ yE neE f2, KS _ _ yE neE f3, KS _ _ yE neE f4, KS _ _ yE neE f5, KS _ _ yS neS sk⟩ (fun hHeld => ?_)
              clear hK K hown hgrow hat KS neE neS xa
              (try simp only [Act.put, List.setIfInBounds_toArray])
              refine wpAnyH_take (i := 9) (oi := { dst := some 7, op := Op.assign (.tmp 76), type := _, pos := _, after := _, guard := none }) (v := (Value.slice (some ⟨gg, 0, none⟩) (k + 1) cc)) rfl (by kernel_rfl) (by kernel_rfl) (by kernel_rfl) (fun _ _ _ h => h) (Or.inl ⟨by rfl, by intro w' hSw; (try dsimp only at hSw); go_simp⟩) (by assumption) ?_
              simp only [Act.put]
              refine wpAnyH_done (by kernel_rfl) ?_ _
              clear hHeld f0 f1 f2 f3 f4 f5 sk
              go_wp2_with fail
              go_roundw
              case rel => exact ⟨k + 1, by omega, by go_num, HRK, O7, HX7⟩
              case measure => simp [intOf] <;> omega
          · obtain rfl : k = l1 := by omega
            have HE : Hid (graphB zs zss ss = true) := hid (by rw [HGE.out, HAL.out, HNS.out, HRB.out]; simp; intro h; rw [h] at L3; simp at L3; omega)
            obtain ⟨gV, eV, _, _, _⟩ := own_at' HO.out (by omega)
            subst eV
            have HNM := hid (nodeM_of HO.out)
            go_wp2_with fail
            go_ret2
            unfold TakenG
            exact ⟨HB4.out, Or.inr ⟨HE.out, gV, cV, (by rw [L1]; rfl), (by rw [L1]; exact HNM.out)⟩⟩

theorem takeG_any (h1 : Ints w a1 l1 c1 zs) (h2 : Lists w a2 l2 c2 zss) (h3 : Ints w a3 l3 c3 ss) : Calls Try.prog 44 #[.agg #[.slice a1 l1 c1, .slice a2 l2 c2, .slice a3 l3 c3]] w (TakenG zs zss ss w) := by
  by_cases h : l1 = 0 ∨ 6 < l1 ∨ l2 ≠ l1
  · exact takeG_bad a1 a2 a3 l1 c1 l2 c2 l3 c3 zs zss ss w h1 h2 h3 h
  · obtain rfl : l2 = l1 := by omega
    exact takeG_ok a1 a2 a3 l2 c1 c2 l3 c3 zs zss ss w h1 h2 h3 (by omega) (by omega)
end

end Go.Proofs.Ytjagijohfkffiab

/- The walks of machine.Bytes and Write. -/
namespace Go.Proofs.Ytjagijohfkffiab
open Go.RowKit
set_option linter.unusedVariables false

theorem cell_one_new (w : World) (a : Value) (t : TypeId) : ∀ j u, [a][j]? = some u → (w.alloc (.cells #[a] t)).cell? ((⟨w.heap.size, 0, none⟩ : Addr).add j) = some u := cell_nine_new w [a] t

theorem wrap_u8 {x : Int} (h0 : 0 ≤ x) (h1 : x < 256) : IntKind.u8.wrap x = x := by
  rw [IntKind.wrap_u8]; omega

section
variable (a1 a2 : Option Addr) (l1 c1 l2 c2 : Nat) (os : List Int) (ls : List (List Int)) (w : World)

end

end Go.Proofs.Ytjagijohfkffiab

/- The walk of machine.FromBytes. -/
namespace Go.Proofs.Ytjagijohfkffiab
open Go.RowKit
set_option linter.unusedVariables false

section
variable (s : ByteArray) (w : World)

end

end Go.Proofs.Ytjagijohfkffiab

/- The walks of machine.Run and Run. -/
namespace Go.Proofs.Ytjagijohfkffiab
open Go.RowKit
set_option linter.unusedVariables false

end Go.Proofs.Ytjagijohfkffiab

/- The walk of machine.Plain: a plain machine whose lists have room of their own. -/
namespace Go.Proofs.Ytjagijohfkffiab
open Go.RowKit
set_option linter.unusedVariables false

theorem Try.infoInts : (Try.prog.info? 22).map (fun i => (i.zero, i.size, i.bytes)) = some (some (.slice none 0 0), 1, 24) := by kernel_rfl

def intVs (l : List Int) : List Value := l.map (Value.int .i64)
def outsTo (ss : List St) (j : Nat) : List Int := (List.range j).map fun i => (stAt ss i).out
theorem vs_succ (V : Nat → Value) (j : Nat) (v : Value) : (List.range (j + 1)).map (fun i => if i = j then v else V i) = (List.range j).map V ++ [v] := by
  rw [List.range_succ, List.map_append]
  congr 1
  · apply List.map_congr_left
    intro i hi
    rw [List.mem_range] at hi
    rw [if_neg (by omega)]
  · simp

/-- The lists of a plain machine, each in a row of its own: v1 the Out, v2 the Next, V the lists of Next. -/
structure Lies (w : World) (B : Nat) (v1 v2 : Value) (V : Nat → Value) (ss : List St) (j : Nat) : Prop where
  out : w.ownsRow B 3 1 v1 j (intVs (outsTo ss j))
  nxt : w.ownsRow B 22 1 v2 j ((List.range j).map V)
  row : ∀ i, i < j → w.ownsRow B 3 1 (V i) 8 (intVs (stAt ss i).next)
  sep : ∀ i k, i < k → k < j → (V i).ownBlock ≠ (V k).ownBlock
  far : ∀ i, i < j → v1.ownBlock ≠ (V i).ownBlock

/-- Nothing of it has turned. -/
theorem Lies.keeps {w w' : World} {B : Nat} {v1 v2 : Value} {V : Nat → Value} {ss : List St} {j : Nat} (h : Lies w B v1 v2 V ss j) (hb : Below w.heap.size w w') : Lies w' B v1 v2 V ss j :=
  ⟨own_keeps h.out hb, own_keeps h.nxt hb, fun i hi => own_keeps (h.row i hi) hb, h.sep, h.far⟩

theorem Lies.mono {w : World} {B B' : Nat} {v1 v2 : Value} {V : Nat → Value} {ss : List St} {j : Nat} (h : Lies w B v1 v2 V ss j) (hb : B' ≤ B) : Lies w B' v1 v2 V ss j :=
  ⟨own_mono h.out hb, own_mono h.nxt hb, fun i hi => own_mono (h.row i hi) hb, h.sep, h.far⟩

/-- A cell below all the rows is written. -/
theorem Lies.set {w : World} {B : Nat} {v1 v2 : Value} {V : Nat → Value} {ss : List St} {j : Nat} (h : Lies w B v1 v2 V ss j) {k : Nat} (hk : k < B) (o : Nat) (u : Value) : Lies (w.setCell ⟨k, o, none⟩ u) B v1 v2 V ss j :=
  ⟨own_set_other h.out hk o u, own_set_other h.nxt hk o u, fun i hi => own_set_other (h.row i hi) hk o u, h.sep, h.far⟩

/-- Between the two appends of a round. -/
structure Mid (w : World) (B : Nat) (v1 v2 : Value) (V : Nat → Value) (ss : List St) (j : Nat) (v6 : Value) : Prop where
  out : w.ownsRow B 3 1 v1 (j + 1) (intVs (outsTo ss (j + 1)))
  nxt : w.ownsRow B 22 1 v2 j ((List.range j).map V)
  row : ∀ i, i < j → w.ownsRow B 3 1 (V i) 8 (intVs (stAt ss i).next)
  row6 : w.ownsRow B 3 1 v6 8 (intVs (stAt ss j).next)
  sep : ∀ i k, i < k → k < j → (V i).ownBlock ≠ (V k).ownBlock
  sep6 : ∀ i, i < j → (V i).ownBlock ≠ v6.ownBlock
  far : ∀ i, i < j → v1.ownBlock ≠ (V i).ownBlock
  far6 : v1.ownBlock ≠ v6.ownBlock

theorem Mid.set {w : World} {B : Nat} {v1 v2 v6 : Value} {V : Nat → Value} {ss : List St} {j : Nat} (h : Mid w B v1 v2 V ss j v6) {k : Nat} (hk : k < B) (o : Nat) (u : Value) : Mid (w.setCell ⟨k, o, none⟩ u) B v1 v2 V ss j v6 :=
  ⟨own_set_other h.out hk o u, own_set_other h.nxt hk o u, fun i hi => own_set_other (h.row i hi) hk o u, own_set_other h.row6 hk o u, h.sep, h.sep6, h.far, h.far6⟩
theorem Mid.alloc {w : World} {B : Nat} {v1 v2 v6 : Value} {V : Nat → Value} {ss : List St} {j : Nat} (h : Mid w B v1 v2 V ss j v6) (o : Obj) : Mid (w.alloc o) B v1 v2 V ss j v6 :=
  ⟨h.out.alloc o, h.nxt.alloc o, fun i hi => (h.row i hi).alloc o, h.row6.alloc o, h.sep, h.sep6, h.far, h.far6⟩

end Go.Proofs.Ytjagijohfkffiab
