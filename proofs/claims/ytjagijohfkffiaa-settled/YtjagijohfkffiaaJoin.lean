/- The walk of Join. -/
import Derived.Test.YtjagijohfkffiaaWords
import Derived.Outline
namespace Go.Proofs.Ytjagijohfkffiaa
open Go.RowKit
set_option linter.unusedVariables false

theorem Try.infoInt : (Try.prog.info? 3).map (fun i => (i.zero, i.size, i.bytes)) = some (some (.int .i64 0), 1, 8) := by kernel_rfl

theorem add_off (b off j : Nat) : (⟨b, off, none⟩ : Addr).add j = ⟨b, off + j, none⟩ := by simp [Addr.add]

theorem Ints.src {w : World} {ao : Option Addr} {len cap : Nat} {zs : List Int} (h : Ints w ao len cap zs) : ∀ ad, ao = some ad → ∀ j u, (zs.map (Value.int .i64))[j]? = some u → w.cell? (ad.add j) = some u := by
  intro ad e j u hj
  have hj2 := (List.getElem?_eq_some_iff.1 hj).1
  simp at hj2
  have hl := h.hlen
  obtain ⟨b, off, e2, _, hc⟩ := h.hcell (by omega)
  rw [e] at e2
  cases e2
  rw [add_off, hc j (by omega)]
  simp [List.getElem?_eq_getElem hj2] at hj
  simp [List.getD, List.getElem?_eq_getElem hj2, hj]

theorem int_one (zs : List Int) : ∀ u ∈ zs.map (Value.int .i64), u.oneCell' = true := by
  intro u hu
  obtain ⟨x, _, rfl⟩ := List.mem_map.1 hu
  rfl

/-- The error of a stem and a loop. -/
def joinErr (z1 z2 : List Int) : Nat := if z2.length = 0 then 4 else if 40 < z1.length ∨ 40 < z2.length then 5 else if allL z1 = true ∧ allL z2 = true then 0 else 6

def Joined (z1 z2 : List Int) (w : World) (e : Ending) (w' : World) : Prop :=
  Below w.heap.size w w' ∧
  ((joinErr z1 z2 ≠ 0 ∧ e = .returned (.tuple #[.agg #[.slice none 0 0, .int .i64 0], .int .i64 (joinErr z1 z2)])) ∨
   (joinErr z1 z2 = 0 ∧ ∃ g cap, e = .returned (.tuple #[.agg #[.slice (some ⟨g, 0, none⟩) (z1.length + z2.length) cap, .int .i64 z1.length], .int .i64 0]) ∧
     w'.ownsRow w.heap.size 3 1 (.slice (some ⟨g, 0, none⟩) (z1.length + z2.length) cap) (z1.length + z2.length) ((z1 ++ z2).map (Value.int .i64))))

section
variable (a1 a2 : Option Addr) (l1 c1 l2 c2 : Nat) (z1 z2 : List Int) (w : World)

set_option maxHeartbeats 400000 in
theorem join_loop (h1 : Ints w a1 l1 c1 z1) (h2 : Ints w a2 l2 c2 z2) (h : l2 = 0) : Calls Try.prog 49 #[.slice a1 l1 c1, .slice a2 l2 c2] w (Joined z1 z2 w) := by
  have E : Hid (joinErr z1 z2 = 4) := hid (by simp [joinErr, h2.hlen, h])
  subst h
  go_enter Try.func49, Try.ntmps49
  go_wp2_with fail
  refine bodyPost_ret (v := .tuple #[.agg #[.slice none 0 0, .int .i64 0], .int .i64 4]) (by simp [results, Try.results49, go_sem]) rfl ?_
  unfold Joined
  rw [E.out]
  exact ⟨(Below.refl _ _).alloc (Nat.le_refl _) _, Or.inl ⟨by decide, rfl⟩⟩

set_option maxHeartbeats 400000 in
theorem join_word (h1 : Ints w a1 l1 c1 z1) (h2 : Ints w a2 l2 c2 z2) (h : ¬ l2 = 0) (hw : 40 < l1 ∨ 40 < l2) : Calls Try.prog 49 #[.slice a1 l1 c1, .slice a2 l2 c2] w (Joined z1 z2 w) := by
  have E : Hid (joinErr z1 z2 = 5) := hid (by unfold joinErr; rw [h1.hlen, h2.hlen, if_neg h, if_pos hw])
  have k : ((l2 : Int) == 0) = false := beq_eq_false_iff_ne.2 (by omega)
  have m1 := h1.hmax
  have m2 := h2.hmax
  have m3 := h1.hcap
  have m4 := h2.hcap
  by_cases hc : 40 < l1
  · go_enter Try.func49, Try.ntmps49
    go_wp2_with fail
    refine bodyPost_ret (v := .tuple #[.agg #[.slice none 0 0, .int .i64 0], .int .i64 5]) (by simp [results, Try.results49, go_sem]) rfl ?_
    unfold Joined
    rw [E.out]
    exact ⟨(Below.refl _ _).alloc (Nat.le_refl _) _, Or.inl ⟨by decide, rfl⟩⟩
  · have hd : 40 < l2 := by omega
    go_enter Try.func49, Try.ntmps49
    go_wp2_with fail
    refine bodyPost_ret (v := .tuple #[.agg #[.slice none 0 0, .int .i64 0], .int .i64 5]) (by simp [results, Try.results49, go_sem]) rfl ?_
    unfold Joined
    rw [E.out]
    exact ⟨(Below.refl _ _).alloc (Nat.le_refl _) _, Or.inl ⟨by decide, rfl⟩⟩

set_option maxHeartbeats 400000 in
theorem join_letter (h1 : Ints w a1 l1 c1 z1) (h2 : Ints w a2 l2 c2 z2) (h : ¬ l2 = 0) (hw : ¬ (40 < l1 ∨ 40 < l2)) (hl : ¬ (allL z1 = true ∧ allL z2 = true)) : Calls Try.prog 49 #[.slice a1 l1 c1, .slice a2 l2 c2] w (Joined z1 z2 w) := by
  have E : Hid (joinErr z1 z2 = 6) := hid (by unfold joinErr; rw [h1.hlen, h2.hlen, if_neg h, if_neg hw, if_neg hl])
  have k : ((l2 : Int) == 0) = false := beq_eq_false_iff_ne.2 (by omega)
  have k1 : ¬ 40 < l1 := by omega
  have k2 : ¬ 40 < l2 := by omega
  have C1 := allLetters_any a1 l1 c1 z1 _ (h1.below ((Below.refl _ _).alloc (Nat.le_refl _) (.cells #[.slice none 0 0, .int .i64 0] 69)))
  have C2 := allLetters_any a2 l2 c2 z2 _ (h2.below ((Below.refl _ _).alloc (Nat.le_refl _) (.cells #[.slice none 0 0, .int .i64 0] 69)))
  cases e1 : allL z1 with
  | false =>
    have E1 := hid e1
    clear e1 hl hw
    go_enter Try.func49, Try.ntmps49
    go_wp2_with fail
    refine C1.mono ?_
    rintro e w' ⟨rfl, rfl⟩
    rw [E1.out]
    go_wp2_with fail
    refine C2.mono ?_
    rintro e w' ⟨rfl, rfl⟩
    go_wp2_with fail
    refine bodyPost_ret (v := .tuple #[.agg #[.slice none 0 0, .int .i64 0], .int .i64 6]) (by simp [results, Try.results49, go_sem]) rfl ?_
    unfold Joined
    rw [E.out]
    exact ⟨(Below.refl _ _).alloc (Nat.le_refl _) _, Or.inl ⟨by decide, rfl⟩⟩
  | true =>
    have e2 : allL z2 = false := by
      cases e2 : allL z2 with
      | false => rfl
      | true => exact absurd ⟨e1, e2⟩ hl
    have E1 := hid e1
    have E2 := hid e2
    clear e1 e2 hl hw
    go_enter Try.func49, Try.ntmps49
    go_wp2_with fail
    refine C1.mono ?_
    rintro e w' ⟨rfl, rfl⟩
    rw [E1.out]
    go_wp2_with fail
    refine C2.mono ?_
    rintro e w' ⟨rfl, rfl⟩
    rw [E2.out]
    go_wp2_with fail
    refine bodyPost_ret (v := .tuple #[.agg #[.slice none 0 0, .int .i64 0], .int .i64 6]) (by simp [results, Try.results49, go_sem]) rfl ?_
    unfold Joined
    rw [E.out]
    exact ⟨(Below.refl _ _).alloc (Nat.le_refl _) _, Or.inl ⟨by decide, rfl⟩⟩

set_option maxHeartbeats 800000 in
set_option maxRecDepth 100000 in
theorem join_ok (h1 : Ints w a1 l1 c1 z1) (h2 : Ints w a2 l2 c2 z2) (h : ¬ l2 = 0) (hw : ¬ (40 < l1 ∨ 40 < l2)) (hl : allL z1 = true ∧ allL z2 = true) : Calls Try.prog 49 #[.slice a1 l1 c1, .slice a2 l2 c2] w (Joined z1 z2 w) := by
  have E : Hid (joinErr z1 z2 = 0) := hid (by unfold joinErr; rw [h1.hlen, h2.hlen, if_neg h, if_neg hw, if_pos hl])
  have k : ((l2 : Int) == 0) = false := beq_eq_false_iff_ne.2 (by omega)
  have k1 : ¬ 40 < l1 := by omega
  have k2 : ¬ 40 < l2 := by omega
  have C1 := allLetters_any a1 l1 c1 z1 _ (h1.below ((Below.refl _ _).alloc (Nat.le_refl _) (.cells #[.slice none 0 0, .int .i64 0] 69)))
  have C2 := allLetters_any a2 l2 c2 z2 _ (h2.below ((Below.refl _ _).alloc (Nat.le_refl _) (.cells #[.slice none 0 0, .int .i64 0] 69)))
  have E1 := hid hl.1
  have E2 := hid hl.2
  have L1 := h1.hlen
  have L2 := h2.hlen
  obtain ⟨i0, hi, hz0, hz1, hz2⟩ := info_parts Try.infoInt
  clear hl hw
  go_enter Try.func49, Try.ntmps49
  go_wp2_with fail
  refine C1.mono ?_
  rintro e w' ⟨rfl, rfl⟩
  rw [E1.out]
  go_wp2_with fail
  refine C2.mono ?_
  rintro e w' ⟨rfl, rfl⟩
  rw [E2.out]
  clear C1 C2
  go_wp2_with (at_make; go_must (refine wpList_make_own _ rfl (.const (.int .i64 0)) (.tmp 37) 27 rfl (w.heap.size + 1) 3 i0 (.int .i64 0) 1 Try.underlying27 hi hz0 hz1 .i64 .i64 _ (l1 + l2) rfl rfl ?m1 ?m2 ?m3 ?m4 ?_))
  case m1 => omega
  case m2 => rw [hz2]; omega
  case m3 => unfold maxLen; omega
  case m4 => simp
  intro w1 own1 grow1
  try simp only [World.size_alloc] at own1
  have bw1 : Below (w.heap.size + 1) (w.alloc (.cells #[.slice none 0 0, .int .i64 0] 69)) w1 := (Below.refl _ _).grown grow1 (by simp) (fun k h => by cases h)
  have b0 : Below w.heap.size w w1 := ((Below.refl _ _).alloc (Nat.le_refl _) _).trans (bw1.mono (Nat.le_succ _))
  have s1 := (h1.below b0).src
  have N1 := (h1.below b0).hnil
  have HB0 := hid b0
  have HBW1 := hid bw1
  have hsz1 := b0.size
  clear b0 bw1 grow1
  go_wp2_with (at_builtin; go_must (refine wpList_append_fits_any _ rfl (.tmp 39) (.tmp 40) 27 rfl (w.heap.size + 1) 3 i0 1 Try.underlying27 hi hz1 (w.heap.size + 1) 0 (l1 + l2) [] rfl own1 a1 l1 c1 (z1.map (Value.int .i64)) rfl ?n1 N1 s1 (int_one z1) ?n2 ?_))
  case n1 => simp [L1]
  case n2 => omega
  intro w2 own2 grow2
  try simp only [Nat.zero_add, List.nil_append] at own2
  have b2 : Below w.heap.size w w2 := HB0.out.grown grow2 (by omega) (fun k h => by cases h; omega)
  have bw2 : Below (w.heap.size + 1) (w.alloc (.cells #[.slice none 0 0, .int .i64 0] 69)) w2 := HBW1.out.grown grow2 (by have := HBW1.out.size; simpa using this) (fun k h => by cases h; omega)
  have s2 := (h2.below b2).src
  have N2 := (h2.below b2).hnil
  have HB2 := hid b2
  have HBW2 := hid bw2
  have hsz2 := b2.size
  clear b2 bw2 grow2 s1 N1 own1
  go_wp2_with (at_builtin; go_must (refine wpList_append_fits_any _ rfl (.tmp 42) (.tmp 43) 27 rfl (w.heap.size + 1) 3 i0 1 Try.underlying27 hi hz1 (w.heap.size + 1) l1 (l1 + l2) (z1.map (Value.int .i64)) rfl own2 a2 l2 c2 (z2.map (Value.int .i64)) rfl ?n3 N2 s2 (int_one z2) ?n4 ?_))
  case n3 => simp [L2]
  case n4 => omega
  intro w3 own3 grow3
  rw [← List.map_append] at own3
  have b3 : Below w.heap.size w w3 := HB2.out.grown grow3 (by omega) (fun k h => by cases h; omega)
  have bw3 : Below (w.heap.size + 1) (w.alloc (.cells #[.slice none 0 0, .int .i64 0] 69)) w3 := HBW2.out.grown grow3 (by have := HBW2.out.size; simpa using this) (fun k h => by cases h; omega)
  have r0 := (bw3.cell (p := ⟨w.heap.size, 0, none⟩) (Nat.lt_succ_self _)).trans (World.cell?_alloc_new w _ _ 0)
  have r1 := (bw3.cell (p := ⟨w.heap.size, 1, none⟩) (Nat.lt_succ_self _)).trans (World.cell?_alloc_new w _ _ 1)
  have q0 := (bw3.frozen (p := ⟨w.heap.size, 0, none⟩) (Nat.lt_succ_self _)).trans (World.frozen?_alloc_new w _ _ 0)
  have q1 := (bw3.frozen (p := ⟨w.heap.size, 1, none⟩) (Nat.lt_succ_self _)).trans (World.frozen?_alloc_new w _ _ 1)
  simp at r0 r1
  have HB3 := hid b3
  have O3 := hid own3
  clear b3 bw3 grow3 own3 own2 s2 N2
  go_wp2_with fail
  refine bodyPost_ret (v := .tuple #[.agg #[.slice (some ⟨w.heap.size + 1, 0, none⟩) (l1 + l2) (l1 + l2), .int .i64 l1], .int .i64 0]) (by simp [results, Try.results49, go_sem, r0, r1]) rfl ?_
  unfold Joined
  rw [E.out, L1, L2]
  refine ⟨(HB3.out.setCell (p := ⟨w.heap.size, 0, none⟩) (Nat.le_refl _) _).setCell (p := ⟨w.heap.size, 1, none⟩) (Nat.le_refl _) _, Or.inr ⟨rfl, w.heap.size + 1, l1 + l2, rfl, ?_⟩⟩
  exact own_mono (ownsRow_setCell_below (ownsRow_setCell_below O3.out (a := ⟨w.heap.size, 0, none⟩) (Nat.lt_succ_self _) _) (a := ⟨w.heap.size, 1, none⟩) (Nat.lt_succ_self _) _) (Nat.le_succ _)

theorem join_any (h1 : Ints w a1 l1 c1 z1) (h2 : Ints w a2 l2 c2 z2) : Calls Try.prog 49 #[.slice a1 l1 c1, .slice a2 l2 c2] w (Joined z1 z2 w) := by
  by_cases h : l2 = 0
  · exact join_loop a1 a2 l1 c1 l2 c2 z1 z2 w h1 h2 h
  by_cases hw : 40 < l1 ∨ 40 < l2
  · exact join_word a1 a2 l1 c1 l2 c2 z1 z2 w h1 h2 h hw
  by_cases hl : allL z1 = true ∧ allL z2 = true
  · exact join_ok a1 a2 l1 c1 l2 c2 z1 z2 w h1 h2 h hw hl
  · exact join_letter a1 a2 l1 c1 l2 c2 z1 z2 w h1 h2 h hw hl
end

end Go.Proofs.Ytjagijohfkffiaa
