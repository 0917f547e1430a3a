import Derived.Test.YtjagijohfkffiaaJM07
import Derived.Test.YtjagijohfkffiaaJM29

/- The walks of Parse and Size. -/
namespace Go.Proofs.Ytjagijohfkffiaa
open Go.RowKit
set_option linter.unusedVariables false

/-- What Parse answers: the error, the nodes in memory of its own. -/
def Parsed (s : ByteArray) (w : World) (e : Ending) (w' : World) : Prop :=
  ∃ ao cap, e = .returned (.tuple #[.slice ao (parseOf s).2.length cap, .int .i64 (parseOf s).1]) ∧ w'.ownsRow w.heap.size 123 3 (.slice ao (parseOf s).2.length cap) (parseOf s).2.length (flat (parseOf s).2) ∧ Below w.heap.size w w'

theorem parsed_err {s : ByteArray} {w w' : World} {k : Nat} (h : parseOf s = (k, [])) (hb : Below w.heap.size w w') : Parsed s w (.returned (.tuple #[.slice none 0 0, .int .i64 k])) w' := by
  unfold Parsed
  rw [h]
  exact ⟨none, 0, rfl, World.ownsRow_nil _ _ _ _, hb⟩

theorem rd_new (w : World) (s : ByteArray) : Rd (w.alloc (.cells #[.string s, .int .i64 0, .slice none 0 0] 113)) w.heap.size s 0 [] :=
  ⟨by simp, by simp, ⟨none, 0, by simp, World.ownsRow_nil _ _ _ _⟩, by simp, by simp⟩

set_option maxHeartbeats 400000 in
theorem parse_long (s : ByteArray) (w : World) (hm : s.size ≤ maxLen) (h : 24 < s.size) : Calls Try.prog 47 #[.string s] w (Parsed s w) := by
  unfold maxLen at hm
  have P := hid (parsed_err (s := s) (w := w) (w' := w) (k := 1) (by simp [parseOf, h]) (Below.refl _ _))
  go_enter Try.func47, Try.ntmps47
  go_wp2_with fail
  go_ret2
  exact P.out

set_option maxHeartbeats 400000 in
theorem parse_short (s : ByteArray) (w : World) (h : ¬ 24 < s.size) : Calls Try.prog 47 #[.string s] w (Parsed s w) := by
  have C := formula_any w.heap.size s (by omega) 25 0 [] _ (rd_new w s) (by omega) (by omega) (by simp)
  cases e0 : ps 25 s 0 [] with
  | none =>
    have P := hid (fun w' => parsed_err (s := s) (w := w) (w' := w') (k := 2) (by simp [parseOf, h, e0]))
    have E0 := hid e0
    clear e0
    go_enter Try.func47, Try.ntmps47
    go_wp2_with fail
    refine C.mono ?_
    rintro e w1 (⟨_, rfl, hb⟩ | ⟨a', ns', h, _⟩)
    · go_wp2_with fail
      go_ret2
      exact P.out _ (((Below.refl _ _).alloc (Nat.le_refl _) _).trans hb)
    · rw [E0.out] at h; cases h
  | some x =>
    obtain ⟨a, ns⟩ := x
    have g := ps_grows 25 s 0 [] a ns e0
    by_cases h1 : a = s.size
    · by_cases h2 : 8 < ns.length
      · have P := hid (fun w' => parsed_err (s := s) (w := w) (w' := w') (k := 3) (by simp [parseOf, h, e0, h1, h2]))
        have E0 := hid e0
        have h3 : ((a : Int) != (s.size : Int)) = false := by rw [bne_eq_false_iff_eq]; omega
        clear e0 h1
        go_enter Try.func47, Try.ntmps47
        go_wp2_with fail
        refine C.mono ?_
        rintro e w1 (⟨h, _⟩ | ⟨a', ns', h, rfl, hr1, hb⟩)
        · rw [E0.out] at h; cases h
        rw [E0.out] at h
        simp only [Option.some.injEq, Prod.mk.injEq] at h
        obtain ⟨rfl, rfl⟩ := h
        have c1 := hr1.c1
        obtain ⟨ao, cap, c2, own⟩ := hr1.c2
        go_wp2_with fail
        go_ret2
        exact P.out _ (((Below.refl _ _).alloc (Nat.le_refl _) _).trans hb)
      · have P : Hid (parseOf s = (0, ns)) := hid (by simp [parseOf, h, e0, h1, h2])
        have E0 := hid e0
        have h3 : ((a : Int) != (s.size : Int)) = false := by rw [bne_eq_false_iff_eq]; omega
        clear e0 h1
        go_enter Try.func47, Try.ntmps47
        go_wp2_with fail
        refine C.mono ?_
        rintro e w1 (⟨h, _⟩ | ⟨a', ns', h, rfl, hr1, hb⟩)
        · rw [E0.out] at h; cases h
        rw [E0.out] at h
        simp only [Option.some.injEq, Prod.mk.injEq] at h
        obtain ⟨rfl, rfl⟩ := h
        have c1 := hr1.c1
        obtain ⟨ao, cap, c2, own⟩ := hr1.c2
        go_wp2_with fail
        go_ret2
        unfold Parsed
        rw [P.out]
        exact ⟨ao, cap, rfl, own_mono own (Nat.le_succ _), ((Below.refl _ _).alloc (Nat.le_refl _) _).trans hb⟩
    · have P := hid (fun w' => parsed_err (s := s) (w := w) (w' := w') (k := 2) (by simp [parseOf, h, e0, h1]))
      have E0 := hid e0
      have h3 : ((a : Int) != (s.size : Int)) = true := by rw [bne_iff_ne]; omega
      clear e0
      go_enter Try.func47, Try.ntmps47
      go_wp2_with fail
      refine C.mono ?_
      rintro e w1 (⟨h, _⟩ | ⟨a', ns', h, rfl, hr1, hb⟩)
      · rw [E0.out] at h; cases h
      rw [E0.out] at h
      simp only [Option.some.injEq, Prod.mk.injEq] at h
      obtain ⟨rfl, rfl⟩ := h
      have c1 := hr1.c1
      obtain ⟨ao, cap, c2, own⟩ := hr1.c2
      go_wp2_with fail
      go_ret2
      exact P.out _ (((Below.refl _ _).alloc (Nat.le_refl _) _).trans hb)

theorem parse_any (s : ByteArray) (w : World) (hm : s.size ≤ maxLen) : Calls Try.prog 47 #[.string s] w (Parsed s w) := by
  by_cases h : 24 < s.size
  · exact parse_long s w hm h
  · exact parse_short s w h

set_option maxHeartbeats 400000 in
theorem size_any (s : ByteArray) (w : World) (hm : s.size ≤ maxLen) : Calls Try.prog 15 #[.string s] w fun e w' => e = .returned (.tuple #[.int .i64 (parseOf s).2.length, .int .i64 (parseOf s).1]) ∧ Below w.heap.size w w' := by
  go_enter Try.func15, Try.ntmps15
  go_wp2_with fail
  refine (parse_any s _ hm).mono ?_
  rintro e w1 ⟨ao, cap, rfl, _, hb⟩
  go_wp2_with fail
  go_ret2
  exact ⟨rfl, hb⟩

end Go.Proofs.Ytjagijohfkffiaa

/- The walk of the program's Holds. -/
namespace Go.Proofs.Ytjagijohfkffiaa
open Go.RowKit
set_option linter.unusedVariables false

def natOf (zs : List Int) : List Nat := zs.map Int.toNat

/-- The error of Holds. -/
def holdErr (s : ByteArray) (z1 z2 : List Int) : Nat := if (parseOf s).1 = 0 then joinErr z1 z2 else (parseOf s).1
/-- What Holds answers. -/
def holdVal (s : ByteArray) (z1 z2 : List Int) : Bool := if holdErr s z1 z2 = 0 then holdsB z1.length (parseOf s).2 (natOf (z1 ++ z2)) else false

theorem letters_nat {zs : List Int} (h : allL zs = true) : zs.map (Value.int .i64) = natInts (natOf zs) ∧ ∀ x ∈ natOf zs, x < 8 := by
  unfold allL at h
  rw [List.all_eq_true] at h
  constructor
  · unfold natInts natOf
    rw [List.map_map]
    apply List.map_congr_left
    intro z hz
    have := isL_iff.1 (h z hz)
    simp only [Function.comp]
    rw [Int.toNat_of_nonneg this.1]
  · intro x hx
    unfold natOf at hx
    obtain ⟨z, hz, rfl⟩ := List.mem_map.1 hx
    have := isL_iff.1 (h z hz)
    omega

theorem joinErr_zero {z1 z2 : List Int} (h : joinErr z1 z2 = 0) : 0 < z2.length ∧ z1.length ≤ 40 ∧ z2.length ≤ 40 ∧ allL z1 = true ∧ allL z2 = true := by
  unfold joinErr at h
  split at h
  · simp at h
  · split at h
    · simp at h
    · split at h
      · rename_i h1 h2 h3; exact ⟨by omega, by omega, by omega, h3.1, h3.2⟩
      · simp at h

theorem allL_append {a b : List Int} (h1 : allL a = true) (h2 : allL b = true) : allL (a ++ b) = true := by
  unfold allL at *
  rw [List.all_append, h1, h2]; rfl

section
variable (s : ByteArray) (a1 a2 : Option Addr) (l1 c1 l2 c2 : Nat) (z1 z2 : List Int) (w : World)

set_option maxHeartbeats 400000 in
theorem holds_no (hm : s.size ≤ maxLen) (h : (parseOf s).1 ≠ 0) : Calls Try.prog 18 #[.string s, .slice a1 l1 c1, .slice a2 l2 c2] w fun e w' => e = .returned (.tuple #[.bool (holdVal s z1 z2), .int .i64 (holdErr s z1 z2)]) ∧ Below w.heap.size w w' := by
  have E : Hid (holdErr s z1 z2 = (parseOf s).1) := hid (by unfold holdErr; rw [if_neg h])
  have V : Hid (holdVal s z1 z2 = false) := hid (by unfold holdVal; rw [E.out, if_neg h])
  have C := parse_any s w hm
  unfold Parsed at C
  generalize parseOf s = p at *
  have k : ((p.1 : Int) != 0) = true := by rw [bne_iff_ne]; omega
  go_enter Try.func18, Try.ntmps18
  go_wp2_with fail
  refine C.mono ?_
  rintro e w1 ⟨ao, cap, rfl, _, hb⟩
  go_wp2_with fail
  go_ret2
  exact ⟨by rw [E.out, V.out]; rfl, hb⟩

set_option maxHeartbeats 400000 in
theorem holds_bad (hm : s.size ≤ maxLen) (h : (parseOf s).1 = 0) (h1 : Ints w a1 l1 c1 z1) (h2 : Ints w a2 l2 c2 z2) (hj : joinErr z1 z2 ≠ 0) : Calls Try.prog 18 #[.string s, .slice a1 l1 c1, .slice a2 l2 c2] w fun e w' => e = .returned (.tuple #[.bool (holdVal s z1 z2), .int .i64 (holdErr s z1 z2)]) ∧ Below w.heap.size w w' := by
  have E : Hid (holdErr s z1 z2 = joinErr z1 z2) := hid (by unfold holdErr; rw [if_pos h])
  have V : Hid (holdVal s z1 z2 = false) := hid (by unfold holdVal; rw [E.out, if_neg hj])
  have C := parse_any s w hm
  unfold Parsed at C
  have J := fun W (b : Below w.heap.size w W) => join_any a1 a2 l1 c1 l2 c2 z1 z2 W (h1.below b) (h2.below b)
  unfold Joined at J
  generalize parseOf s = p at *
  obtain ⟨p1, p2⟩ := p
  dsimp only at *
  subst h
  have k : ((joinErr z1 z2 : Int) != 0) = true := by rw [bne_iff_ne]; omega
  generalize joinErr z1 z2 = je at *
  go_enter Try.func18, Try.ntmps18
  go_wp2_with fail
  refine C.mono ?_
  rintro e w1 ⟨ao, cap, rfl, own, hb⟩
  clear C own
  go_wp2_with fail
  refine (J _ hb).mono ?_
  rintro e w2 ⟨hb2, ⟨_, rfl⟩ | ⟨h0, _⟩⟩
  · have hz := hb.size
    clear J
    go_wp2_with fail
    go_ret2
    exact ⟨by rw [E.out, V.out]; rfl, (hb.trans (hb2.mono hz)).alloc (Nat.le_trans hz hb2.size) _⟩
  · exact absurd h0 hj

set_option maxHeartbeats 800000 in
theorem holds_ok (hm : s.size ≤ maxLen) (h : (parseOf s).1 = 0) (h1 : Ints w a1 l1 c1 z1) (h2 : Ints w a2 l2 c2 z2) (hj : joinErr z1 z2 = 0) : Calls Try.prog 18 #[.string s, .slice a1 l1 c1, .slice a2 l2 c2] w fun e w' => e = .returned (.tuple #[.bool (holdVal s z1 z2), .int .i64 (holdErr s z1 z2)]) ∧ Below w.heap.size w w' := by
  have E : Hid (holdErr s z1 z2 = 0) := hid (by unfold holdErr; rw [if_pos h]; exact hj)
  have V : Hid (holdVal s z1 z2 = holdsB z1.length (parseOf s).2 (natOf (z1 ++ z2))) := hid (by unfold holdVal; rw [E.out, if_pos rfl])
  have C := parse_any s w hm
  unfold Parsed at C
  have J := fun W (b : Below w.heap.size w W) => join_any a1 a2 l1 c1 l2 c2 z1 z2 W (h1.below b) (h2.below b)
  unfold Joined at J
  have G := hid (parse_good h)
  obtain ⟨q1, q2, q3, q4, q5⟩ := joinErr_zero hj
  have LN := letters_nat (allL_append q4 q5)
  rw [LN.1] at J
  have L8 := hid LN.2
  have hnl : (natOf (z1 ++ z2)).length = z1.length + z2.length := by simp [natOf]
  clear LN q4 q5
  generalize parseOf s = p at *
  obtain ⟨p1, p2⟩ := p
  dsimp only at *
  subst h
  rw [hj] at J
  generalize natOf (z1 ++ z2) = xs at *
  have HNL := hid hnl
  clear hnl hj
  generalize z1.length = n1 at *
  generalize z2.length = n2 at *
  go_enter Try.func18, Try.ntmps18
  go_wp2_with fail
  refine C.mono ?_
  rintro e w1 ⟨ao, cap, rfl, own, hb⟩
  have OWN := hid own
  clear C own
  go_wp2_with fail
  refine (J _ hb).mono ?_
  rintro e w2 ⟨hb2, ⟨h0, _⟩ | ⟨_, g, cap2, rfl, own2⟩⟩
  · exact absurd rfl h0
  have hz := hb.size
  have OWN2 := hid own2
  have HB2 := hid hb2
  clear J own2 hb2
  go_wp2_with fail
  have ownN := (OWN.out.kept (row := none) ⟨HB2.out.os, HB2.out.tape, HB2.out.output, HB2.out.size, fun k hk _ => HB2.out.block k hk⟩ (by cases hv : (Value.slice ao p2.length cap).ownBlock <;> simp)).alloc (.cells #[.slice (some ⟨g, 0, none⟩) (n1 + n2) cap2, .int .i64 n1] 69)
  refine (eholds_any _ _ g (n1 + n2) cap2 n1 p2.length cap ao xs p2 _ (OWN2.out.alloc _) ownN G.out rfl HNL.out (by omega) (by omega) L8.out).mono ?_
  rintro e w3 ⟨rfl, hb3⟩
  clear ownN
  have hz2 := HB2.out.size
  have B3 := hid (((hb.trans (HB2.out.mono hz)).alloc (Nat.le_trans hz hz2) _).trans (hb3.mono (by simp; omega)))
  clear hb3
  go_wp2_with fail
  go_ret2
  exact ⟨by rw [E.out, V.out]; rfl, B3.out⟩

theorem holds_any (hm : s.size ≤ maxLen) (h1 : Ints w a1 l1 c1 z1) (h2 : Ints w a2 l2 c2 z2) : Calls Try.prog 18 #[.string s, .slice a1 l1 c1, .slice a2 l2 c2] w fun e w' => e = .returned (.tuple #[.bool (holdVal s z1 z2), .int .i64 (holdErr s z1 z2)]) ∧ Below w.heap.size w w' := by
  by_cases h : (parseOf s).1 = 0
  · by_cases hj : joinErr z1 z2 = 0
    · exact holds_ok s a1 a2 l1 c1 l2 c2 z1 z2 w hm h h1 h2 hj
    · exact holds_bad s a1 a2 l1 c1 l2 c2 z1 z2 w hm h h1 h2 hj
  · exact holds_no s a1 a2 l1 c1 l2 c2 z1 z2 w hm h
end

end Go.Proofs.Ytjagijohfkffiaa
