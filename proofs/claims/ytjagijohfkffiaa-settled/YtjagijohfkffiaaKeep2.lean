/- The walks of verdictkeep's small functions: looped, joined, holding. -/
import Derived.Test.YtjagijohfkffiaaKeep
namespace Go.Proofs.Ytjagijohfkffiaa
open Go.RowKit
set_option linter.unusedVariables false

theorem word_any (ao : Option Addr) (len cap n : Nat) (zs : List Int) (w : World) (h : Ints w ao len cap zs) (hf : Fits zs) (hn : n ≤ 1000) :
    Calls Try.prog 22 #[.slice ao len cap, .int .i64 n] w (Made (wordTo zs (min zs.length n)) w) := by
  refine (word_own ao len cap n zs w h hf hn).mono ?_
  rintro e w' ⟨v, rfl, own, hb⟩
  rw [← h.hlen] at own
  have hl := wordTo_len (zs := zs) (j := min zs.length n) (by omega)
  obtain ⟨ao', cap', rfl, hI⟩ := own_ints own hl
  refine ⟨ao', cap', by rw [hl], by rw [hl]; exact hI, hb⟩

/-- A loop has a letter. -/
def loopTo (zs : List Int) (n : Nat) : List Nat := if min zs.length n = 0 then [0] else wordTo zs (min zs.length n)
theorem loopTo_8 (zs : List Int) (n : Nat) : ∀ x ∈ loopTo zs n, x < 8 := by
  unfold loopTo
  split
  · intro x hx; simp at hx; omega
  · exact wordTo_8 _ _
theorem loopTo_pos (zs : List Int) (n : Nat) : 0 < (loopTo zs n).length := by
  unfold loopTo
  split
  · decide
  · rw [wordTo_len (by omega)]; omega
theorem loopTo_le (zs : List Int) (n : Nat) (hn : 0 < n) : (loopTo zs n).length ≤ n := by
  unfold loopTo
  split
  · simp; omega
  · rw [wordTo_len (by omega)]; omega
theorem word_le (zs : List Int) (n : Nat) : (wordTo zs (min zs.length n)).length ≤ n := by
  rw [wordTo_len (by omega)]; omega

set_option maxHeartbeats 400000 in
set_option maxRecDepth 100000 in
theorem looped_any (ao : Option Addr) (len cap n : Nat) (zs : List Int) (w : World) (h : Ints w ao len cap zs) (hf : Fits zs) (hn : n ≤ 1000) :
    Calls Try.prog 23 #[.slice ao len cap, .int .i64 n] w (Made (loopTo zs n) w) := by
  have C := word_own ao len cap n zs w h hf hn
  have L : Hid (loopTo zs n = if min len n = 0 then [0] else wordTo zs (min len n)) := hid (by unfold loopTo; rw [h.hlen])
  have hwl := wordTo_len (zs := zs) (j := min len n) (by have := h.hlen; omega)
  have hml : min len n ≤ 1000 := by omega
  have HWL := hid hwl
  clear hwl
  generalize min len n = m at *
  obtain ⟨i0, hi, hz0, hz1, hz2⟩ := info_parts Try.infoInt
  by_cases hm : m = 0
  · subst hm
    have L0 : Hid (loopTo zs n = [0]) := hid (by rw [L.out, if_pos rfl])
    clear L
    go_enter Try.func23, Try.ntmps23
    go_wp2_with fail
    refine C.mono ?_
    rintro e w1 ⟨v, rfl, own, hb⟩
    obtain ⟨ao1, cap1, rfl, hI⟩ := own_ints own HWL.out
    have O1 := hid own
    have hsz := hb.size
    clear C own
    go_wp2_with (at_builtin; go_must (refine wpList_append_own _ rfl (.tmp 12) (.tmp 13) 27 rfl w.heap.size 3 i0 (.int .i64 0) 1 8 Try.underlying27 hi hz0 hz1 hz2 rfl (by decide) _ _ _ rfl (O1.out.alloc _) ⟨w1.heap.size, 0, none⟩ 1 1 [.int .i64 0] rfl rfl ?c1 ?c2 ?c3 ?c4 ?c5 ?_))
    case c1 => exact cell_one_new _ _ _
    case c2 => intro u hu; simp at hu; subst hu; rfl
    case c3 => unfold maxLen; omega
    case c4 => omega
    case c5 => simp; omega
    intro v' w2 hown hgrow _
    have e1 : natInts (wordTo zs 0) ++ [.int .i64 0] = natInts [0] := by simp [natInts, wordTo]
    have hown2 : w2.ownsRow w.heap.size 3 1 v' 1 (natInts [0]) := by rw [← e1]; simpa using hown
    obtain ⟨ao2, cap2, rfl, hI2⟩ := own_ints hown2 rfl
    have B1 := hid ((hb.alloc hsz _).grown hgrow (by simp; omega) (fun k h => (O1.out.lt k h).1))
    have HI := hid hI2
    clear hown hown2 hgrow hI2 e1
    go_wp2_with fail
    go_ret
    unfold Made
    rw [L0.out]
    exact ⟨ao2, cap2, rfl, HI.out, B1.out⟩
  · have k0 : ((m : Int) == 0) = false := beq_eq_false_iff_ne.2 (by omega)
    go_enter Try.func23, Try.ntmps23
    go_wp2_with fail
    refine C.mono ?_
    rintro e w1 ⟨v, rfl, own, hb⟩
    obtain ⟨ao1, cap1, rfl, hI⟩ := own_ints own HWL.out
    have HI := hid hI
    clear C own hI
    go_wp2_with fail
    go_ret
    unfold Made
    rw [L.out, if_neg hm, HWL.out]
    exact ⟨ao1, cap1, rfl, HI.out, hb⟩

set_option maxHeartbeats 400000 in
set_option maxRecDepth 100000 in
theorem joined_any (a1 a2 : Option Addr) (l1 c1 l2 c2 : Nat) (xs ys : List Nat) (w : World) (h1 : Ints w a1 l1 c1 (intsOf xs)) (h2 : Ints w a2 l2 c2 (intsOf ys)) (hn1 : l1 ≤ 1000) (hn2 : l2 ≤ 1000) :
    Calls Try.prog 27 #[.slice a1 l1 c1, .slice a2 l2 c2] w (Made (xs ++ ys) w) := by
  have L1 : xs.length = l1 := by rw [← intsOf_len]; exact h1.hlen
  have L2 : ys.length = l2 := by rw [← intsOf_len]; exact h2.hlen
  have s1 := h1.src
  rw [intsOf_vals] at s1
  have N1 := h1.hnil
  have o1 : ∀ u ∈ natInts xs, u.oneCell' = true := by rw [← intsOf_vals]; exact int_one _
  have o2 : ∀ u ∈ natInts ys, u.oneCell' = true := by rw [← intsOf_vals]; exact int_one _
  obtain ⟨i0, hi, hz0, hz1, hz2⟩ := info_parts Try.infoInt
  go_enter Try.func27, Try.ntmps27
  go_wp2_with (at_builtin; go_must (refine wpList_append_any _ rfl (.tmp 6) (.tmp 7) 27 rfl w.heap.size 3 i0 (.int .i64 0) 1 8 Try.underlying27 hi hz0 hz1 hz2 rfl (by decide) _ 0 [] rfl (World.ownsRow_nil _ _ _ _) a1 l1 c1 (natInts xs) rfl ?n1 N1 s1 o1 ?n2 ?n3 (Nat.le_refl _) ?_))
  case n1 => simp [natInts, L1]
  case n2 => unfold maxLen; omega
  case n3 => omega
  intro v1 w1 own1 grow1
  try simp only [Nat.zero_add, List.nil_append] at own1
  have hb1 : Below w.heap.size w w1 := (Below.refl _ _).grown grow1 (Nat.le_refl _) (fun k h => by cases h)
  have s2 := (h2.below hb1).src
  rw [intsOf_vals] at s2
  have N2 := (h2.below hb1).hnil
  have hs1 := hb1.size
  have HB1 := hid hb1
  clear hb1 grow1 s1 N1
  go_wp2_with (at_builtin; go_must (refine wpList_append_any _ rfl (.tmp 9) (.tmp 10) 27 rfl w.heap.size 3 i0 (.int .i64 0) 1 8 Try.underlying27 hi hz0 hz1 hz2 rfl (by decide) _ l1 (natInts xs) rfl own1 a2 l2 c2 (natInts ys) rfl ?n4 N2 s2 o2 ?n5 ?n6 hs1 ?_))
  case n4 => simp [natInts, L2]
  case n5 => unfold maxLen; omega
  case n6 => omega
  intro v2 w2 own2 grow2
  have e1 : natInts xs ++ natInts ys = natInts (xs ++ ys) := by simp [natInts]
  rw [e1] at own2
  have B2 := hid (HB1.out.grown grow2 hs1 (fun k h => (own1.lt k h).1))
  obtain ⟨ao, cap, rfl, hI⟩ := own_ints own2 (by simp [L1, L2])
  have HI := hid hI
  clear own1 own2 grow2 s2 N2 hI e1
  go_wp2_with fail
  go_ret
  unfold Made
  rw [List.length_append, L1, L2]
  exact ⟨ao, cap, rfl, HI.out, B2.out⟩

theorem p_parse : parseOf ⟨#[112]⟩ = (0, [⟨112, 0, 0⟩]) := by rfl
theorem p_yes : holdVal ⟨#[112]⟩ [] [1] = true ∧ holdErr ⟨#[112]⟩ [] [1] = 0 := by decide +kernel
theorem p_no : holdVal ⟨#[112]⟩ [] [0] = false ∧ holdErr ⟨#[112]⟩ [] [0] = 0 := by decide +kernel

theorem ints_none (w : World) : Ints w none 0 0 [] := ⟨rfl, Nat.le_refl _, by omega, fun _ => ⟨rfl, rfl⟩, fun h => by omega⟩
theorem ints_one (w : World) (z : Int) : Ints (w.alloc (.cells #[.int .i64 z] 3)) (some ⟨w.heap.size, 0, none⟩) 1 1 [z] :=
  ⟨rfl, Nat.le_refl _, by omega, fun h => by simp at h, fun _ => ⟨w.heap.size, 0, rfl, by simp, fun i hi => by
    have : i = 0 := by omega
    subst this
    simp⟩⟩

set_option maxHeartbeats 400000 in
theorem holding_any (w : World) : Calls Try.prog 20 #[] w fun e w' => e = .returned (.bool true) ∧ Below w.heap.size w w' := by
  have C1 := size_any ⟨#[112]⟩ w (by decide)
  rw [p_parse] at C1
  have C2 := fun W => holds_any ⟨#[112]⟩ none (some ⟨W.heap.size, 0, none⟩) 0 0 1 1 [] [1] (W.alloc (.cells #[.int .i64 1] 3)) (by decide) (ints_none _) (ints_one W 1)
  rw [p_yes.1, p_yes.2] at C2
  have C3 := fun W => holds_any ⟨#[112]⟩ none (some ⟨W.heap.size, 0, none⟩) 0 0 1 1 [] [0] (W.alloc (.cells #[.int .i64 0] 3)) (by decide) (ints_none _) (ints_one W 0)
  rw [p_no.1, p_no.2] at C3
  go_enter Try.func20, Try.ntmps20
  go_wp2_with fail
  refine C1.mono ?_
  rintro e w1 ⟨rfl, hb1⟩
  go_wp2_with fail
  refine (C2 _).mono ?_
  rintro e w2 ⟨rfl, hb2⟩
  have B2 := hid ((hb1.alloc hb1.size _).trans (hb2.mono (by have := hb1.size; simp; omega)))
  clear hb1 hb2
  go_wp2_with fail
  refine (C3 _).mono ?_
  rintro e w3 ⟨rfl, hb3⟩
  have hz := B2.out.size
  have B3 := hid ((B2.out.alloc hz _).trans (hb3.mono (by simp; omega)))
  clear hb3 C1 C2 C3
  go_wp2_with fail
  go_ret
  exact ⟨rfl, B3.out⟩

end Go.Proofs.Ytjagijohfkffiaa
