import Derived.Test.YtjagijohfkffiabFOUM01
import Derived.Test.YtjagijohfkffiabFOUM04
import Derived.Outline

/- The walks of AllLetters, IsLetter and the reference's word; slices of ints that are read. -/
namespace Go.Proofs.Ytjagijohfkffiab
open Go.RowKit
set_option linter.unusedVariables false

/-- The slice value has the numbers zs. -/
structure Ints (w : World) (ao : Option Addr) (len cap : Nat) (zs : List Int) : Prop where
  hlen : zs.length = len
  hcap : len ≤ cap
  hmax : cap ≤ 9223372036854775807
  hnil : ao = none → len = 0 ∧ cap = 0
  hcell : 0 < len → ∃ b off, ao = some ⟨b, off, none⟩ ∧ b < w.heap.size ∧ ∀ i, i < len → w.cell? ⟨b, off + i, none⟩ = some (.int .i64 (zs.getD i 0))

theorem Ints.below {w w' : World} {ao : Option Addr} {len cap : Nat} {zs : List Int} (h : Ints w ao len cap zs) (hb : Below w.heap.size w w') : Ints w' ao len cap zs := by
  refine ⟨h.hlen, h.hcap, h.hmax, h.hnil, fun h0 => ?_⟩
  obtain ⟨b, off, e, hlt, hc⟩ := h.hcell h0
  exact ⟨b, off, e, Nat.lt_of_lt_of_le hlt hb.size, fun i hi => by rw [hb.cell (p := ⟨b, off + i, none⟩) hlt]; exact hc i hi⟩

def isL (z : Int) : Bool := decide (0 ≤ z) && decide (z < 8)
def allL (zs : List Int) : Bool := zs.all isL

theorem isL_iff {z : Int} : isL z = true ↔ 0 ≤ z ∧ z < 8 := by simp [isL]
set_option maxHeartbeats 400000 in
theorem isLetter_any (z : Int) (w : World) : Calls Try.prog 63 #[.int .i64 z] w fun e w' => e = .returned (.bool (isL z)) ∧ w' = w := by
  by_cases h1 : 0 ≤ z
  · by_cases h2 : z < 8
    · have H : Hid (isL z = true) := hid (by simp [isL, h1, h2])
      go_enter Try.func63, Try.ntmps63
      go_wp2
      go_ret
      exact ⟨by rw [H.out]; rfl, rfl⟩
    · have H : Hid (isL z = false) := hid (by simp [isL]; omega)
      go_enter Try.func63, Try.ntmps63
      go_wp2
      go_ret
      exact ⟨by rw [H.out]; rfl, rfl⟩
  · have H : Hid (isL z = false) := hid (by simp [isL]; omega)
    go_enter Try.func63, Try.ntmps63
    go_wp2
    go_ret
    exact ⟨by rw [H.out]; rfl, rfl⟩

theorem all_take {zs : List Int} (h : ∀ m, m < zs.length → isL (zs.getD m 0) = true) : allL zs = true := by
  unfold allL
  rw [List.all_eq_true]
  intro x hx
  obtain ⟨i, hi, rfl⟩ := List.getElem_of_mem hx
  have := h i hi
  simpa [List.getD, List.getElem?_eq_getElem hi] using this
theorem all_not {zs : List Int} {m : Nat} (hm : m < zs.length) (h : isL (zs.getD m 0) = false) : allL zs = false := by
  unfold allL
  rw [List.all_eq_false]
  refine ⟨zs[m], List.getElem_mem hm, ?_⟩
  simpa [List.getD, List.getElem?_eq_getElem hm] using h

set_option maxHeartbeats 400000 in
theorem allLetters_any (ao : Option Addr) (len cap : Nat) (zs : List Int) (w : World) (h : Ints w ao len cap zs) : Calls Try.prog 35 #[.slice ao len cap] w fun e w' => e = .returned (.bool (allL zs)) ∧ w' = w := by
  have hl := h.hlen
  have hc := h.hcap
  have hm := h.hmax
  go_enter Try.func35, Try.ntmps35
  go_wp2_with fail
  go_loop [7] (fun i => ∃ j : Nat, j ≤ len ∧ i = .int .i64 j ∧ Hid (∀ m, m < j → isL (zs.getD m 0) = true)) (fun i => len - (intOf i).toNat)
  case atStart => exact ⟨0, Nat.zero_le _, rfl, hid (fun m hm => by omega)⟩
  case round =>
    obtain ⟨j, hj, rfl, HI⟩ := hrel
    by_cases hlt : j < len
    · obtain ⟨b, off, rfl, hb, hcell⟩ := h.hcell (by omega)
      have c := hcell j hlt
      clear hcell
      cases hz : isL (zs.getD j 0) with
      | true =>
        have HZ := hid hz
        clear hz
        generalize hx : zs.getD j 0 = x at *
        have HX := hid hx
        clear hx
        go_wp2_with fail
        refine (isLetter_any x w).mono ?_
        rintro e w' ⟨rfl, rfl⟩
        rw [HZ.out]
        go_wp2_with fail
        go_round
        case rel =>
          refine ⟨j + 1, by omega, by go_num, hid (fun m hm => ?_)⟩
          by_cases e : m < j
          · exact HI.out m e
          · rw [show m = j by omega, HX.out]; exact HZ.out
        case measure => simp [intOf]; omega
      | false =>
        have HN := hid (all_not (zs := zs) (m := j) (by omega) hz)
        have HZ := hid hz
        clear hz
        generalize zs.getD j 0 = x at *
        go_wp2_with fail
        refine (isLetter_any x w).mono ?_
        rintro e w' ⟨rfl, rfl⟩
        rw [HZ.out]
        go_wp2_with fail
        go_ret
        exact ⟨by rw [HN.out]; rfl, rfl⟩
    · have HA := hid (all_take (zs := zs) (fun m hm => HI.out m (by omega)))
      go_wp2_with fail
      go_ret
      exact ⟨by rw [HA.out]; rfl, rfl⟩

end Go.Proofs.Ytjagijohfkffiab

/- The walk of Join. -/
namespace Go.Proofs.Ytjagijohfkffiab
open Go.RowKit
set_option linter.unusedVariables false

theorem Try.infoInt : (Try.prog.info? 3).map (fun i => (i.zero, i.size, i.bytes)) = some (some (.int .i64 0), 1, 8) := by kernel_rfl

theorem add_off (b off j : Nat) : (⟨b, off, none⟩ : Addr).add j = ⟨b, off + j, none⟩ := by simp [Addr.add]

theorem Ints.src {w : World} {ao : Option Addr} {len cap : Nat} {zs : List Int} (h : Ints w ao len cap zs) : ∀ ad, ao = some ad → ∀ j u, (zs.map (Value.int .i64))[j]? = some u → w.cell? (ad.add j) = some u := by
  intro ad e j u hj
  have hj2 := (List.getElem?_eq_some_iff.1 hj).1
  simp at hj2
  have hl := h.hlen
  obtain ⟨b, off, e2, _, hc⟩ := h.hcell (by omega)
  rw [e] at e2
  cases e2
  rw [add_off, hc j (by omega)]
  simp [List.getElem?_eq_getElem hj2] at hj
  simp [List.getD, List.getElem?_eq_getElem hj2, hj]

theorem int_one (zs : List Int) : ∀ u ∈ zs.map (Value.int .i64), u.oneCell' = true := by
  intro u hu
  obtain ⟨x, _, rfl⟩ := List.mem_map.1 hu
  rfl

/-- The error of a stem and a loop. -/
def joinErr (z1 z2 : List Int) : Nat := if z2.length = 0 then 4 else if 40 < z1.length ∨ 40 < z2.length then 5 else if allL z1 = true ∧ allL z2 = true then 0 else 6

def Joined (z1 z2 : List Int) (w : World) (e : Ending) (w' : World) : Prop :=
  Below w.heap.size w w' ∧
  ((joinErr z1 z2 ≠ 0 ∧ e = .returned (.tuple #[.agg #[.slice none 0 0, .int .i64 0], .int .i64 (joinErr z1 z2)])) ∨
   (joinErr z1 z2 = 0 ∧ ∃ g cap, e = .returned (.tuple #[.agg #[.slice (some ⟨g, 0, none⟩) (z1.length + z2.length) cap, .int .i64 z1.length], .int .i64 0]) ∧
     w'.ownsRow w.heap.size 3 1 (.slice (some ⟨g, 0, none⟩) (z1.length + z2.length) cap) (z1.length + z2.length) ((z1 ++ z2).map (Value.int .i64))))

section
variable (a1 a2 : Option Addr) (l1 c1 l2 c2 : Nat) (z1 z2 : List Int) (w : World)

set_option maxHeartbeats 400000 in
theorem join_loop (h1 : Ints w a1 l1 c1 z1) (h2 : Ints w a2 l2 c2 z2) (h : l2 = 0) : Calls Try.prog 42 #[.slice a1 l1 c1, .slice a2 l2 c2] w (Joined z1 z2 w) := by
  have E : Hid (joinErr z1 z2 = 4) := hid (by simp [joinErr, h2.hlen, h])
  subst h
  go_enter Try.func42, Try.ntmps42
  go_wp2_with fail
  refine bodyPost_ret (v := .tuple #[.agg #[.slice none 0 0, .int .i64 0], .int .i64 4]) (by simp [results, Try.results42, go_sem]) rfl ?_
  unfold Joined
  rw [E.out]
  exact ⟨(Below.refl _ _).alloc (Nat.le_refl _) _, Or.inl ⟨by decide, rfl⟩⟩

set_option maxHeartbeats 400000 in
theorem join_word (h1 : Ints w a1 l1 c1 z1) (h2 : Ints w a2 l2 c2 z2) (h : ¬ l2 = 0) (hw : 40 < l1 ∨ 40 < l2) : Calls Try.prog 42 #[.slice a1 l1 c1, .slice a2 l2 c2] w (Joined z1 z2 w) := by
  have E : Hid (joinErr z1 z2 = 5) := hid (by unfold joinErr; rw [h1.hlen, h2.hlen, if_neg h, if_pos hw])
  have k : ((l2 : Int) == 0) = false := beq_eq_false_iff_ne.2 (by omega)
  have m1 := h1.hmax
  have m2 := h2.hmax
  have m3 := h1.hcap
  have m4 := h2.hcap
  by_cases hc : 40 < l1
  · go_enter Try.func42, Try.ntmps42
    go_wp2_with fail
    refine bodyPost_ret (v := .tuple #[.agg #[.slice none 0 0, .int .i64 0], .int .i64 5]) (by simp [results, Try.results42, go_sem]) rfl ?_
    unfold Joined
    rw [E.out]
    exact ⟨(Below.refl _ _).alloc (Nat.le_refl _) _, Or.inl ⟨by decide, rfl⟩⟩
  · have hd : 40 < l2 := by omega
    go_enter Try.func42, Try.ntmps42
    go_wp2_with fail
    refine bodyPost_ret (v := .tuple #[.agg #[.slice none 0 0, .int .i64 0], .int .i64 5]) (by simp [results, Try.results42, go_sem]) rfl ?_
    unfold Joined
    rw [E.out]
    exact ⟨(Below.refl _ _).alloc (Nat.le_refl _) _, Or.inl ⟨by decide, rfl⟩⟩

set_option maxHeartbeats 400000 in
theorem join_letter (h1 : Ints w a1 l1 c1 z1) (h2 : Ints w a2 l2 c2 z2) (h : ¬ l2 = 0) (hw : ¬ (40 < l1 ∨ 40 < l2)) (hl : ¬ (allL z1 = true ∧ allL z2 = true)) : Calls Try.prog 42 #[.slice a1 l1 c1, .slice a2 l2 c2] w (Joined z1 z2 w) := by
  have E : Hid (joinErr z1 z2 = 6) := hid (by unfold joinErr; rw [h1.hlen, h2.hlen, if_neg h, if_neg hw, if_neg hl])
  have k : ((l2 : Int) == 0) = false := beq_eq_false_iff_ne.2 (by omega)
  have k1 : ¬ 40 < l1 := by omega
  have k2 : ¬ 40 < l2 := by omega
  have C1 := allLetters_any a1 l1 c1 z1 _ (h1.below ((Below.refl _ _).alloc (Nat.le_refl _) (.cells #[.slice none 0 0, .int .i64 0] 81)))
  have C2 := allLetters_any a2 l2 c2 z2 _ (h2.below ((Below.refl _ _).alloc (Nat.le_refl _) (.cells #[.slice none 0 0, .int .i64 0] 81)))
  cases e1 : allL z1 with
  | false =>
    have E1 := hid e1
    clear e1 hl hw
    go_enter Try.func42, Try.ntmps42
    go_wp2_with fail
    refine C1.mono ?_
    rintro e w' ⟨rfl, rfl⟩
    rw [E1.out]
    go_wp2_with fail
    refine C2.mono ?_
    rintro e w' ⟨rfl, rfl⟩
    go_wp2_with fail
    refine bodyPost_ret (v := .tuple #[.agg #[.slice none 0 0, .int .i64 0], .int .i64 6]) (by simp [results, Try.results42, go_sem]) rfl ?_
    unfold Joined
    rw [E.out]
    exact ⟨(Below.refl _ _).alloc (Nat.le_refl _) _, Or.inl ⟨by decide, rfl⟩⟩
  | true =>
    have e2 : allL z2 = false := by
      cases e2 : allL z2 with
      | false => rfl
      | true => exact absurd ⟨e1, e2⟩ hl
    have E1 := hid e1
    have E2 := hid e2
    clear e1 e2 hl hw
    go_enter Try.func42, Try.ntmps42
    go_wp2_with fail
    refine C1.mono ?_
    rintro e w' ⟨rfl, rfl⟩
    rw [E1.out]
    go_wp2_with fail
    refine C2.mono ?_
    rintro e w' ⟨rfl, rfl⟩
    rw [E2.out]
    go_wp2_with fail
    refine bodyPost_ret (v := .tuple #[.agg #[.slice none 0 0, .int .i64 0], .int .i64 6]) (by simp [results, Try.results42, go_sem]) rfl ?_
    unfold Joined
    rw [E.out]
    exact ⟨(Below.refl _ _).alloc (Nat.le_refl _) _, Or.inl ⟨by decide, rfl⟩⟩

set_option maxHeartbeats 800000 in
set_option maxRecDepth 100000 in
theorem join_ok (h1 : Ints w a1 l1 c1 z1) (h2 : Ints w a2 l2 c2 z2) (h : ¬ l2 = 0) (hw : ¬ (40 < l1 ∨ 40 < l2)) (hl : allL z1 = true ∧ allL z2 = true) : Calls Try.prog 42 #[.slice a1 l1 c1, .slice a2 l2 c2] w (Joined z1 z2 w) := by
  have E : Hid (joinErr z1 z2 = 0) := hid (by unfold joinErr; rw [h1.hlen, h2.hlen, if_neg h, if_neg hw, if_pos hl])
  have k : ((l2 : Int) == 0) = false := beq_eq_false_iff_ne.2 (by omega)
  have k1 : ¬ 40 < l1 := by omega
  have k2 : ¬ 40 < l2 := by omega
  have C1 := allLetters_any a1 l1 c1 z1 _ (h1.below ((Below.refl _ _).alloc (Nat.le_refl _) (.cells #[.slice none 0 0, .int .i64 0] 81)))
  have C2 := allLetters_any a2 l2 c2 z2 _ (h2.below ((Below.refl _ _).alloc (Nat.le_refl _) (.cells #[.slice none 0 0, .int .i64 0] 81)))
  have E1 := hid hl.1
  have E2 := hid hl.2
  have L1 := h1.hlen
  have L2 := h2.hlen
  obtain ⟨i0, hi, hz0, hz1, hz2⟩ := info_parts Try.infoInt
  clear hl hw
  go_enter Try.func42, Try.ntmps42
  go_wp2_with fail
  refine C1.mono ?_
  rintro e w' ⟨rfl, rfl⟩
  rw [E1.out]
  go_wp2_with fail
  refine C2.mono ?_
  rintro e w' ⟨rfl, rfl⟩
  rw [E2.out]
  clear C1 C2
  go_wp2_with (at_make; go_must (refine wpList_make_own _ rfl (.const (.int .i64 0)) (.tmp 37) 22 rfl (w.heap.size + 1) 3 i0 (.int .i64 0) 1 Try.underlying22 hi hz0 hz1 .i64 .i64 _ (l1 + l2) rfl rfl ?m1 ?m2 ?m3 ?m4 ?_))
  case m1 => omega
  case m2 => rw [hz2]; omega
  case m3 => unfold maxLen; omega
  case m4 => simp
  intro w1 own1 grow1
  try simp only [World.size_alloc] at own1
  have bw1 : Below (w.heap.size + 1) (w.alloc (.cells #[.slice none 0 0, .int .i64 0] 81)) w1 := (Below.refl _ _).grown grow1 (by simp) (fun k h => by cases h)
  have b0 : Below w.heap.size w w1 := ((Below.refl _ _).alloc (Nat.le_refl _) _).trans (bw1.mono (Nat.le_succ _))
  have s1 := (h1.below b0).src
  have N1 := (h1.below b0).hnil
  have HB0 := hid b0
  have HBW1 := hid bw1
  have hsz1 := b0.size
  clear b0 bw1 grow1
  go_wp2_with (at_builtin; go_must (refine wpList_append_fits_any _ rfl (.tmp 39) (.tmp 40) 22 rfl (w.heap.size + 1) 3 i0 1 Try.underlying22 hi hz1 (w.heap.size + 1) 0 (l1 + l2) [] rfl own1 a1 l1 c1 (z1.map (Value.int .i64)) rfl ?n1 N1 s1 (int_one z1) ?n2 ?_))
  case n1 => simp [L1]
  case n2 => omega
  intro w2 own2 grow2
  try simp only [Nat.zero_add, List.nil_append] at own2
  have b2 : Below w.heap.size w w2 := HB0.out.grown grow2 (by omega) (fun k h => by cases h; omega)
  have bw2 : Below (w.heap.size + 1) (w.alloc (.cells #[.slice none 0 0, .int .i64 0] 81)) w2 := HBW1.out.grown grow2 (by have := HBW1.out.size; simpa using this) (fun k h => by cases h; omega)
  have s2 := (h2.below b2).src
  have N2 := (h2.below b2).hnil
  have HB2 := hid b2
  have HBW2 := hid bw2
  have hsz2 := b2.size
  clear b2 bw2 grow2 s1 N1 own1
  go_wp2_with (at_builtin; go_must (refine wpList_append_fits_any _ rfl (.tmp 42) (.tmp 43) 22 rfl (w.heap.size + 1) 3 i0 1 Try.underlying22 hi hz1 (w.heap.size + 1) l1 (l1 + l2) (z1.map (Value.int .i64)) rfl own2 a2 l2 c2 (z2.map (Value.int .i64)) rfl ?n3 N2 s2 (int_one z2) ?n4 ?_))
  case n3 => simp [L2]
  case n4 => omega
  intro w3 own3 grow3
  rw [← List.map_append] at own3
  have b3 : Below w.heap.size w w3 := HB2.out.grown grow3 (by omega) (fun k h => by cases h; omega)
  have bw3 : Below (w.heap.size + 1) (w.alloc (.cells #[.slice none 0 0, .int .i64 0] 81)) w3 := HBW2.out.grown grow3 (by have := HBW2.out.size; simpa using this) (fun k h => by cases h; omega)
  have r0 := (bw3.cell (p := ⟨w.heap.size, 0, none⟩) (Nat.lt_succ_self _)).trans (World.cell?_alloc_new w _ _ 0)
  have r1 := (bw3.cell (p := ⟨w.heap.size, 1, none⟩) (Nat.lt_succ_self _)).trans (World.cell?_alloc_new w _ _ 1)
  have q0 := (bw3.frozen (p := ⟨w.heap.size, 0, none⟩) (Nat.lt_succ_self _)).trans (World.frozen?_alloc_new w _ _ 0)
  have q1 := (bw3.frozen (p := ⟨w.heap.size, 1, none⟩) (Nat.lt_succ_self _)).trans (World.frozen?_alloc_new w _ _ 1)
  simp at r0 r1
  have HB3 := hid b3
  have O3 := hid own3
  clear b3 bw3 grow3 own3 own2 s2 N2
  go_wp2_with fail
  refine bodyPost_ret (v := .tuple #[.agg #[.slice (some ⟨w.heap.size + 1, 0, none⟩) (l1 + l2) (l1 + l2), .int .i64 l1], .int .i64 0]) (by simp [results, Try.results42, go_sem, r0, r1]) rfl ?_
  unfold Joined
  rw [E.out, L1, L2]
  refine ⟨(HB3.out.setCell (p := ⟨w.heap.size, 0, none⟩) (Nat.le_refl _) _).setCell (p := ⟨w.heap.size, 1, none⟩) (Nat.le_refl _) _, Or.inr ⟨rfl, w.heap.size + 1, l1 + l2, rfl, ?_⟩⟩
  exact own_mono (ownsRow_setCell_below (ownsRow_setCell_below O3.out (a := ⟨w.heap.size, 0, none⟩) (Nat.lt_succ_self _) _) (a := ⟨w.heap.size, 1, none⟩) (Nat.lt_succ_self _) _) (Nat.le_succ _)

theorem join_any (h1 : Ints w a1 l1 c1 z1) (h2 : Ints w a2 l2 c2 z2) : Calls Try.prog 42 #[.slice a1 l1 c1, .slice a2 l2 c2] w (Joined z1 z2 w) := by
  by_cases h : l2 = 0
  · exact join_loop a1 a2 l1 c1 l2 c2 z1 z2 w h1 h2 h
  by_cases hw : 40 < l1 ∨ 40 < l2
  · exact join_word a1 a2 l1 c1 l2 c2 z1 z2 w h1 h2 h hw
  by_cases hl : allL z1 = true ∧ allL z2 = true
  · exact join_ok a1 a2 l1 c1 l2 c2 z1 z2 w h1 h2 h hw hl
  · exact join_letter a1 a2 l1 c1 l2 c2 z1 z2 w h1 h2 h hw hl
end

end Go.Proofs.Ytjagijohfkffiab

/- The walk of Endless.Holds. -/
namespace Go.Proofs.Ytjagijohfkffiab
open Go.RowKit
set_option linter.unusedVariables false

theorem Try.infoPlace : (Try.prog.info? 145).map (fun i => (i.zero, i.size, i.bytes)) = some (some (.agg #[.int .i64 0, .int .i64 0]), 2, 16) := by kernel_rfl

def natInts (xs : List Nat) : List Value := xs.map fun x => Value.int .i64 (x : Nat)

theorem flat_get (ns : List Nd) (i : Nat) (hi : i < ns.length) : (flat ns)[i * 3]? = some (.int .u8 (ndAt ns i).op) ∧ (flat ns)[i * 3 + 1]? = some (.int .i64 (ndAt ns i).l) ∧ (flat ns)[i * 3 + 2]? = some (.int .i64 (ndAt ns i).r) := by
  induction ns generalizing i with
  | nil => simp at hi
  | cons p ps ih =>
    cases i with
    | zero => simp [flat, ndAt]
    | succ i =>
      have := ih i (by simpa using hi)
      rw [show ndAt (p :: ps) (i + 1) = ndAt ps i by simp [ndAt], show flat (p :: ps) = [.int .u8 p.op, .int .i64 p.l, .int .i64 p.r] ++ flat ps by simp [flat]]
      rw [List.getElem?_append_right (by simp; omega), List.getElem?_append_right (by simp; omega), List.getElem?_append_right (by simp; omega)]
      simpa [show (i + 1) * 3 - 3 = i * 3 by omega, show (i + 1) * 3 + 1 - 3 = i * 3 + 1 by omega, show (i + 1) * 3 + 2 - 3 = i * 3 + 2 by omega] using this

/-- The places of the first j letters, nothing known of them yet. -/
def prefTo (xs : List Nat) (j : Nat) : List (Nat × Nat) := (xs.take j).map fun x => (x, 0)
theorem prefTo_len {xs : List Nat} {j : Nat} (h : j ≤ xs.length) : (prefTo xs j).length = j := by simp [prefTo]; omega
theorem prefTo_succ {xs : List Nat} {j : Nat} (h : j < xs.length) : prefTo xs (j + 1) = prefTo xs j ++ [(ltOf xs j, 0)] := by
  unfold prefTo
  rw [List.take_succ_eq_append_getElem h, List.map_append]
  simp [ltOf, List.getD, List.getElem?_eq_getElem h]
theorem prefTo_all (xs : List Nat) : prefTo xs xs.length = xs.map fun x => (x, 0) := by unfold prefTo; rw [List.take_length]

/-- A row of the call's own that has something in it: where it lies. -/
theorem own_at {w : World} {B e size n cap : Nat} {ao : Option Addr} {xs : List Value} (h : w.ownsRow B e size (.slice ao n cap) n xs) (hn : 0 < n) : ∃ g, ao = some ⟨g, 0, none⟩ ∧ B ≤ g ∧ g < w.heap.size ∧ n ≤ cap := by
  rcases h.2 with ⟨e, h0⟩ | ⟨g, cap', cur, e, hb, hh, hc, _⟩
  · omega
  · cases e
    exact ⟨g, rfl, hb, heap_lt hh, hc⟩

theorem tb_new (w : World) (back : Nat) : Tb (w.alloc (.cells #[.slice none 0 0, .int .i64 back] 143)) w.heap.size back [] :=
  ⟨⟨none, 0, by simp, World.ownsRow_nil _ _ _ _⟩, by simp, by simp⟩

theorem tb_push {w w' : World} {T back : Nat} {ps : List (Nat × Nat)} (h : Tb w T back ps) (hb : Below (T + 1) w w') (p : Nat × Nat) (ao : Option Addr) (cap : Nat) (n : Nat) (hn : n = ps.length + 1)
    (ho : w'.ownsRow (T + 1) 145 2 (.slice ao n cap) n (flatP (ps ++ [p]))) : Tb (w'.setCell ⟨T, 0, none⟩ (.slice ao n cap)) T back (ps ++ [p]) := by
  subst hn
  have hR : T < T + 1 := Nat.lt_succ_self _
  obtain ⟨_, _, hc, _⟩ := h.c0
  refine ⟨⟨ao, cap, ?_, ?_⟩, ?_, ?_⟩
  · rw [List.length_append, List.length_singleton]
    exact World.cell?_setCell_same _ _ _ ((hb.cell (p := ⟨T, 0, none⟩) hR).trans hc)
  · rw [List.length_append, List.length_singleton]
    exact ownsRow_setCell_below ho (by simp) _
  · rw [World.cell?_setCell_other _ _ _ _ (by simp), hb.cell hR]; exact h.c1
  · rw [World.frozen?_setCell, hb.frozen hR]; exact h.f0

set_option maxHeartbeats 1600000 in
set_option maxRecDepth 100000 in
theorem eholds_any (B1 B2 g n cap back m ncap : Nat) (ao : Option Addr) (xs : List Nat) (ns : List Nd) (w : World)
    (hx : w.ownsRow B1 3 1 (.slice (some ⟨g, 0, none⟩) n cap) n (natInts xs)) (hns : w.ownsRow B2 124 3 (.slice ao m ncap) m (flat ns))
    (hg : Good ns) (hlm : ns.length = m) (hlx : xs.length = n) (hb : back < n) (hn : n ≤ 80) (h8 : ∀ x ∈ xs, x < 8) :
    Calls Try.prog 43 #[.agg #[.slice (some ⟨g, 0, none⟩) n cap, .int .i64 back], .slice ao m ncap] w fun e w' => e = .returned (.bool (holdsB back ns xs)) ∧ Below w.heap.size w w' := by
  have hpos := hg.pos
  have hle := hg.le
  obtain ⟨gn, rfl, hgn0, hgn, hncap⟩ := own_at hns (by omega)
  obtain ⟨g', e, hg0, hgg, hcap⟩ := own_at hx (by omega)
  cases e
  have X : ∀ i, i < n → w.cell? ⟨g, i, none⟩ = some (.int .i64 (ltOf xs i : Nat)) := fun i hi => by
    rw [hx.cellAt i (by omega)]; simp [natInts, ltOf, List.getD, List.getElem?_eq_getElem (show i < xs.length by omega)]
  have N0 : ∀ i, i < m → w.cell? ⟨gn, i * 3, none⟩ = some (.int .u8 (ndAt ns i).op) := fun i hi => (hns.cellAt (i * 3) (by omega)).trans (flat_get ns i (by omega)).1
  have N1 : ∀ i, i < m → w.cell? ⟨gn, i * 3 + 1, none⟩ = some (.int .i64 (ndAt ns i).l) := fun i hi => (hns.cellAt (i * 3 + 1) (by omega)).trans (flat_get ns i (by omega)).2.1
  have N2 : ∀ i, i < m → w.cell? ⟨gn, i * 3 + 2, none⟩ = some (.int .i64 (ndAt ns i).r) := fun i hi => (hns.cellAt (i * 3 + 2) (by omega)).trans (flat_get ns i (by omega)).2.2
  obtain ⟨i0, hi, hz0, hz1, hz2⟩ := info_parts Try.infoPlace
  have HX := hid X
  have HN0 := hid N0
  have HN1 := hid N1
  have HN2 := hid N2
  clear X N0 N1 N2 hx hns
  go_enter Try.func43, Try.ntmps43
  go_wp2_with fail
  go_loopw [16] (fun i wr => ∃ j : Nat, j ≤ n ∧ i = .int .i64 j ∧ Tb wr (w.heap.size + 1) back (prefTo xs j) ∧ Below w.heap.size w wr) (fun i _ => n - (intOf i).toNat)
  case atStart =>
    refine ⟨0, Nat.zero_le _, rfl, ?_, ((Below.refl _ _).alloc (Nat.le_refl _) _).alloc (by simp) _⟩
    have := tb_new (w.alloc (.cells #[.slice (some ⟨g, 0, none⟩) n cap, .int .i64 back] 81)) back
    simpa [prefTo] using this
  case round =>
    obtain ⟨j, hj, rfl, htr, hbr⟩ := hrel
    by_cases hlt : j < n
    · have c := (hbr.cell (p := ⟨g, j, none⟩) hgg).trans (HX.out j hlt)
      obtain ⟨ao, tcap, d0, own⟩ := htr.c0
      have q0 := htr.f0
      have hl : (prefTo xs j).length = j := prefTo_len (by omega)
      rw [hl] at d0 own
      have hTw := htr.lt
      have HT := hid htr
      have HS := hid (prefTo_succ (xs := xs) (j := j) (by omega))
      have HL := hid hl
      clear htr hl
      generalize ltOf xs j = x at *
      go_wp2_with (at_builtin; go_must (refine wpList_append_own _ rfl (.tmp 21) (.tmp 24) 141 rfl (w.heap.size + 1 + 1) 145 i0 (.agg #[.int .i64 0, .int .i64 0]) 2 16 Try.underlying141 hi hz0 hz1 hz2 rfl (by decide) _ _ _ rfl (own.alloc _) ⟨wr.heap.size, 0, none⟩ 1 1 [.int .i64 x, .int .i64 0] rfl rfl ?c1 ?c2 ?c3 ?c4 ?c5 ?_))
      case c1 => exact cell_two_new _ _ _ _
      case c2 => intro u hu; simp at hu; rcases hu with rfl | rfl <;> rfl
      case c3 => unfold maxLen; omega
      case c4 => omega
      case c5 => simp; omega
      intro v' w1 hown hgrow _
      have hbel : Below (w.heap.size + 1 + 1) wr w1 := ((Below.refl _ _).alloc (by omega) _).grown hgrow (by simp; omega) (fun k h => (own.lt k h).1)
      have e2 : flatP (prefTo xs j) ++ [.int .i64 (x : Nat), .int .i64 0] = flatP (prefTo xs j ++ [(x, 0)]) := (flatP_snoc (prefTo xs j) (x, 0)).symm
      rw [e2] at hown
      clear e2
      obtain ⟨ao', cap', hv⟩ : ∃ ao' cap', v' = .slice ao' (j + 1) cap' := by
        rcases hown.2 with ⟨h, h0⟩ | ⟨g, cap', _, h, _⟩
        · omega
        · exact ⟨_, cap', h⟩
      subst hv
      have P1 := hid (tb_push HT.out hbel (x, 0) ao' cap' (j + 1) (by rw [HL.out]) hown)
      have k2 := (hbel.cell (p := ⟨w.heap.size + 1, 0, none⟩) (Nat.lt_succ_self _)).trans d0
      have g2 := (hbel.frozen (p := ⟨w.heap.size + 1, 0, none⟩) (Nat.lt_succ_self _)).trans q0
      have B1 := hid ((hbr.trans (hbel.mono (by omega))).setCell (p := ⟨w.heap.size + 1, 0, none⟩) (by show w.heap.size ≤ w.heap.size + 1; omega) (.slice ao' (j + 1) cap'))
      clear hown hgrow hbel own d0 q0 c
      go_wp2_with fail
      go_roundw
      case rel => exact ⟨j + 1, by omega, by go_num, by rw [HS.out]; exact P1.out, B1.out⟩
      case measure => simp [intOf]; omega
    · have hj2 : j = n := by omega
      have hps : prefTo xs j = xs.map fun x => (x, 0) := by rw [hj2, ← hlx]; exact prefTo_all xs
      rw [hps] at htr
      have hf : Fine (xs.map fun x => (x, 0)) := fine_of (by intro p hp; simp at hp; obtain ⟨x, hm, rfl⟩ := hp; exact ⟨h8 x hm, by show 0 < 256; decide⟩)
      have hpl : (xs.map fun x => (x, 0)).length = n := by rw [List.length_map]; exact hlx
      have HB : Hid (holdsB back ns xs = (heldAt (tabTo back ns (xs.map fun x => (x, 0)) ns.length) 0).testBit (ns.length - 1)) := hid rfl
      have HW := hid hg.wf
      generalize (xs.map fun x => (x, 0)) = ps at *
      clear hps HX h8 hj2 hj
      have HTR := hid htr
      clear htr
      go_wp2_with fail
      go_loopw [30] (fun i wr => ∃ k : Nat, k ≤ m ∧ i = .int .i64 k ∧ Tb wr (w.heap.size + 1) back (tabTo back ns ps k) ∧ Below w.heap.size w wr) (fun i _ => m - (intOf i).toNat)
      case atStart => exact ⟨0, Nat.zero_le _, rfl, HTR.out, hbr⟩
      case round =>
        obtain ⟨k, hk, rfl, htk, hbk⟩ := hrel
        have tl := tabTo_len back ns ps k
        by_cases hlk : k < m
        · have c0 := (hbk.cell (p := ⟨gn, k * 3, none⟩) hgn).trans (HN0.out k hlk)
          have c1 := (hbk.cell (p := ⟨gn, k * 3 + 1, none⟩) hgn).trans (HN1.out k hlk)
          have c2 := (hbk.cell (p := ⟨gn, k * 3 + 2, none⟩) hgn).trans (HN2.out k hlk)
          have hsm := HW.out.small hle (i := k) (n := ndAt ns k) (by simp [ndAt, List.getD, List.getElem?_eq_getElem (show k < ns.length by omega)])
          have F := fun W h => fill_any (w.heap.size + 1) back k (ndAt ns k) (tabTo back ns ps k) W h (tabTo_fine hf k (by omega)) (by omega) (by omega) (by omega) hsm.1 hsm.2
          have HS : Hid (tabTo back ns ps (k + 1) = fillL (ndAt ns k) k back (tabTo back ns ps k)) := hid rfl
          have HT := hid htk
          have hTw := htk.lt
          clear htk hsm
          generalize tabTo back ns ps k = pk at *
          generalize ndAt ns k = nd at *
          go_wp2_with fail
          refine (F _ (HT.out.below ((Below.refl _ _).alloc (Nat.le_refl _) _))).mono ?_
          rintro e w2 ⟨rfl, ht2, hb2, hk2⟩
          clear F c0 c1 c2
          have B2 := hid ((hbk.trans ((Below.refl _ _).alloc (by omega) _)).trans (hb2.mono (by omega)))
          have T2 := hid ht2
          clear hb2 ht2 hk2
          go_wp2_with fail
          go_roundw
          case rel => exact ⟨k + 1, by omega, by go_num, by rw [HS.out]; exact T2.out, B2.out⟩
          case measure => simp [intOf]; omega
        · have hkm : k = m := by omega
          rw [hkm, ← hlm] at htk
          have tl2 : (tabTo back ns ps ns.length).length = n := by rw [tabTo_len]; exact hpl
          obtain ⟨gp, pcap, d0, own, _, hgp, hpcap⟩ := htk.row (by omega)
          have y := (own.cellAt 1 (by omega)).trans (flatP_get _ 0 (by omega)).2
          have hS := (tabTo_fine (back := back) (ns := ns) hf ns.length hle 0).2
          rw [tl2] at d0 hpcap
          generalize heldAt (tabTo back ns ps ns.length) 0 = S at *
          have kz : ((n : Int) == 0) = false := beq_eq_false_iff_ne.2 (by omega)
          clear own tl
          go_wp2_with fail
          rw [show ((m : Int) - 1) = ((m - 1 : Nat) : Int) from by omega]
          refine (has_any S (m - 1) _ hS (by omega)).mono ?_
          rintro e w2 ⟨rfl, rfl⟩
          go_wp2_with fail
          go_ret
          refine ⟨?_, hbk⟩
          rw [HB.out, hlm]
          rfl

end Go.Proofs.Ytjagijohfkffiab
