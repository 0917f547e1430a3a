import Derived.Test.YtjagijohfkffiabKINM04
import Derived.Test.YtjagijohfkffiabKINM15
import Derived.Test.YtjagijohfkffiabKINM16
import Derived.Test.YtjagijohfkffiabKINM17
import Derived.Test.YtjagijohfkffiabKINM24
import Derived.Laws.AppendOwnNone

/- The walks of Parse and Size. -/
namespace Go.Proofs.Ytjagijohfkffiab
open Go.RowKit
set_option linter.unusedVariables false

/-- What Parse answers: the error, the nodes in memory of its own. -/
def Parsed (s : ByteArray) (w : World) (e : Ending) (w' : World) : Prop :=
  ∃ ao cap, e = .returned (.tuple #[.slice ao (parseOf s).2.length cap, .int .i64 (parseOf s).1]) ∧ w'.ownsRow w.heap.size 124 3 (.slice ao (parseOf s).2.length cap) (parseOf s).2.length (flat (parseOf s).2) ∧ Below w.heap.size w w'

theorem parsed_err {s : ByteArray} {w w' : World} {k : Nat} (h : parseOf s = (k, [])) (hb : Below w.heap.size w w') : Parsed s w (.returned (.tuple #[.slice none 0 0, .int .i64 k])) w' := by
  unfold Parsed
  rw [h]
  exact ⟨none, 0, rfl, World.ownsRow_nil _ _ _ _, hb⟩

theorem rd_new (w : World) (s : ByteArray) : Rd (w.alloc (.cells #[.string s, .int .i64 0, .slice none 0 0] 120)) w.heap.size s 0 [] :=
  ⟨by simp, by simp, ⟨none, 0, by simp, World.ownsRow_nil _ _ _ _⟩, by simp, by simp⟩

set_option maxHeartbeats 400000 in
theorem parse_long (s : ByteArray) (w : World) (hm : s.size ≤ maxLen) (h : 24 < s.size) : Calls Try.prog 33 #[.string s] w (Parsed s w) := by
  unfold maxLen at hm
  have P := hid (parsed_err (s := s) (w := w) (w' := w) (k := 1) (by simp [parseOf, h]) (Below.refl _ _))
  go_enter Try.func33, Try.ntmps33
  go_wp2_with fail
  go_ret2
  exact P.out

set_option maxHeartbeats 400000 in
theorem parse_short (s : ByteArray) (w : World) (h : ¬ 24 < s.size) : Calls Try.prog 33 #[.string s] w (Parsed s w) := by
  have C := formula_any w.heap.size s (by omega) 25 0 [] _ (rd_new w s) (by omega) (by omega) (by simp)
  cases e0 : ps 25 s 0 [] with
  | none =>
    have P := hid (fun w' => parsed_err (s := s) (w := w) (w' := w') (k := 2) (by simp [parseOf, h, e0]))
    have E0 := hid e0
    clear e0
    go_enter Try.func33, Try.ntmps33
    go_wp2_with fail
    refine C.mono ?_
    rintro e w1 (⟨_, rfl, hb⟩ | ⟨a', ns', h, _⟩)
    · go_wp2_with fail
      go_ret2
      exact P.out _ (((Below.refl _ _).alloc (Nat.le_refl _) _).trans hb)
    · rw [E0.out] at h; cases h
  | some x =>
    obtain ⟨a, ns⟩ := x
    have g := ps_grows 25 s 0 [] a ns e0
    by_cases h1 : a = s.size
    · by_cases h2 : 8 < ns.length
      · have P := hid (fun w' => parsed_err (s := s) (w := w) (w' := w') (k := 3) (by simp [parseOf, h, e0, h1, h2]))
        have E0 := hid e0
        have h3 : ((a : Int) != (s.size : Int)) = false := by rw [bne_eq_false_iff_eq]; omega
        clear e0 h1
        go_enter Try.func33, Try.ntmps33
        go_wp2_with fail
        refine C.mono ?_
        rintro e w1 (⟨h, _⟩ | ⟨a', ns', h, rfl, hr1, hb⟩)
        · rw [E0.out] at h; cases h
        rw [E0.out] at h
        simp only [Option.some.injEq, Prod.mk.injEq] at h
        obtain ⟨rfl, rfl⟩ := h
        have c1 := hr1.c1
        obtain ⟨ao, cap, c2, own⟩ := hr1.c2
        go_wp2_with fail
        go_ret2
        exact P.out _ (((Below.refl _ _).alloc (Nat.le_refl _) _).trans hb)
      · have P : Hid (parseOf s = (0, ns)) := hid (by simp [parseOf, h, e0, h1, h2])
        have E0 := hid e0
        have h3 : ((a : Int) != (s.size : Int)) = false := by rw [bne_eq_false_iff_eq]; omega
        clear e0 h1
        go_enter Try.func33, Try.ntmps33
        go_wp2_with fail
        refine C.mono ?_
        rintro e w1 (⟨h, _⟩ | ⟨a', ns', h, rfl, hr1, hb⟩)
        · rw [E0.out] at h; cases h
        rw [E0.out] at h
        simp only [Option.some.injEq, Prod.mk.injEq] at h
        obtain ⟨rfl, rfl⟩ := h
        have c1 := hr1.c1
        obtain ⟨ao, cap, c2, own⟩ := hr1.c2
        go_wp2_with fail
        go_ret2
        unfold Parsed
        rw [P.out]
        exact ⟨ao, cap, rfl, own_mono own (Nat.le_succ _), ((Below.refl _ _).alloc (Nat.le_refl _) _).trans hb⟩
    · have P := hid (fun w' => parsed_err (s := s) (w := w) (w' := w') (k := 2) (by simp [parseOf, h, e0, h1]))
      have E0 := hid e0
      have h3 : ((a : Int) != (s.size : Int)) = true := by rw [bne_iff_ne]; omega
      clear e0
      go_enter Try.func33, Try.ntmps33
      go_wp2_with fail
      refine C.mono ?_
      rintro e w1 (⟨h, _⟩ | ⟨a', ns', h, rfl, hr1, hb⟩)
      · rw [E0.out] at h; cases h
      rw [E0.out] at h
      simp only [Option.some.injEq, Prod.mk.injEq] at h
      obtain ⟨rfl, rfl⟩ := h
      have c1 := hr1.c1
      obtain ⟨ao, cap, c2, own⟩ := hr1.c2
      go_wp2_with fail
      go_ret2
      exact P.out _ (((Below.refl _ _).alloc (Nat.le_refl _) _).trans hb)

theorem parse_any (s : ByteArray) (w : World) (hm : s.size ≤ maxLen) : Calls Try.prog 33 #[.string s] w (Parsed s w) := by
  by_cases h : 24 < s.size
  · exact parse_long s w hm h
  · exact parse_short s w h

set_option maxHeartbeats 400000 in
theorem size_any (s : ByteArray) (w : World) (hm : s.size ≤ maxLen) : Calls Try.prog 10 #[.string s] w fun e w' => e = .returned (.tuple #[.int .i64 (parseOf s).2.length, .int .i64 (parseOf s).1]) ∧ Below w.heap.size w w' := by
  go_enter Try.func10, Try.ntmps10
  go_wp2_with fail
  refine (parse_any s _ hm).mono ?_
  rintro e w1 ⟨ao, cap, rfl, _, hb⟩
  go_wp2_with fail
  go_ret2
  exact ⟨rfl, hb⟩

end Go.Proofs.Ytjagijohfkffiab

/- The walk of the program's Holds. -/
namespace Go.Proofs.Ytjagijohfkffiab
open Go.RowKit
set_option linter.unusedVariables false

def natOf (zs : List Int) : List Nat := zs.map Int.toNat

/-- The error of Holds. -/
def holdErr (s : ByteArray) (z1 z2 : List Int) : Nat := if (parseOf s).1 = 0 then joinErr z1 z2 else (parseOf s).1
/-- What Holds answers. -/
def holdVal (s : ByteArray) (z1 z2 : List Int) : Bool := if holdErr s z1 z2 = 0 then holdsB z1.length (parseOf s).2 (natOf (z1 ++ z2)) else false

theorem letters_nat {zs : List Int} (h : allL zs = true) : zs.map (Value.int .i64) = natInts (natOf zs) ∧ ∀ x ∈ natOf zs, x < 8 := by
  unfold allL at h
  rw [List.all_eq_true] at h
  constructor
  · unfold natInts natOf
    rw [List.map_map]
    apply List.map_congr_left
    intro z hz
    have := isL_iff.1 (h z hz)
    simp only [Function.comp]
    rw [Int.toNat_of_nonneg this.1]
  · intro x hx
    unfold natOf at hx
    obtain ⟨z, hz, rfl⟩ := List.mem_map.1 hx
    have := isL_iff.1 (h z hz)
    omega

theorem joinErr_zero {z1 z2 : List Int} (h : joinErr z1 z2 = 0) : 0 < z2.length ∧ z1.length ≤ 40 ∧ z2.length ≤ 40 ∧ allL z1 = true ∧ allL z2 = true := by
  unfold joinErr at h
  split at h
  · simp at h
  · split at h
    · simp at h
    · split at h
      · rename_i h1 h2 h3; exact ⟨by omega, by omega, by omega, h3.1, h3.2⟩
      · simp at h

theorem allL_append {a b : List Int} (h1 : allL a = true) (h2 : allL b = true) : allL (a ++ b) = true := by
  unfold allL at *
  rw [List.all_append, h1, h2]; rfl

section
variable (s : ByteArray) (a1 a2 : Option Addr) (l1 c1 l2 c2 : Nat) (z1 z2 : List Int) (w : World)

set_option maxHeartbeats 400000 in
theorem holds_no (hm : s.size ≤ maxLen) (h : (parseOf s).1 ≠ 0) : Calls Try.prog 19 #[.string s, .slice a1 l1 c1, .slice a2 l2 c2] w fun e w' => e = .returned (.tuple #[.bool (holdVal s z1 z2), .int .i64 (holdErr s z1 z2)]) ∧ Below w.heap.size w w' := by
  have E : Hid (holdErr s z1 z2 = (parseOf s).1) := hid (by unfold holdErr; rw [if_neg h])
  have V : Hid (holdVal s z1 z2 = false) := hid (by unfold holdVal; rw [E.out, if_neg h])
  have C := parse_any s w hm
  unfold Parsed at C
  generalize parseOf s = p at *
  have k : ((p.1 : Int) != 0) = true := by rw [bne_iff_ne]; omega
  go_enter Try.func19, Try.ntmps19
  go_wp2_with fail
  refine C.mono ?_
  rintro e w1 ⟨ao, cap, rfl, _, hb⟩
  go_wp2_with fail
  go_ret2
  exact ⟨by rw [E.out, V.out]; rfl, hb⟩

set_option maxHeartbeats 400000 in
theorem holds_bad (hm : s.size ≤ maxLen) (h : (parseOf s).1 = 0) (h1 : Ints w a1 l1 c1 z1) (h2 : Ints w a2 l2 c2 z2) (hj : joinErr z1 z2 ≠ 0) : Calls Try.prog 19 #[.string s, .slice a1 l1 c1, .slice a2 l2 c2] w fun e w' => e = .returned (.tuple #[.bool (holdVal s z1 z2), .int .i64 (holdErr s z1 z2)]) ∧ Below w.heap.size w w' := by
  have E : Hid (holdErr s z1 z2 = joinErr z1 z2) := hid (by unfold holdErr; rw [if_pos h])
  have V : Hid (holdVal s z1 z2 = false) := hid (by unfold holdVal; rw [E.out, if_neg hj])
  have C := parse_any s w hm
  unfold Parsed at C
  have J := fun W (b : Below w.heap.size w W) => join_any a1 a2 l1 c1 l2 c2 z1 z2 W (h1.below b) (h2.below b)
  unfold Joined at J
  generalize parseOf s = p at *
  obtain ⟨p1, p2⟩ := p
  dsimp only at *
  subst h
  have k : ((joinErr z1 z2 : Int) != 0) = true := by rw [bne_iff_ne]; omega
  generalize joinErr z1 z2 = je at *
  go_enter Try.func19, Try.ntmps19
  go_wp2_with fail
  refine C.mono ?_
  rintro e w1 ⟨ao, cap, rfl, own, hb⟩
  clear C own
  go_wp2_with fail
  refine (J _ hb).mono ?_
  rintro e w2 ⟨hb2, ⟨_, rfl⟩ | ⟨h0, _⟩⟩
  · have hz := hb.size
    clear J
    go_wp2_with fail
    go_ret2
    exact ⟨by rw [E.out, V.out]; rfl, (hb.trans (hb2.mono hz)).alloc (Nat.le_trans hz hb2.size) _⟩
  · exact absurd h0 hj

set_option maxHeartbeats 800000 in
theorem holds_ok (hm : s.size ≤ maxLen) (h : (parseOf s).1 = 0) (h1 : Ints w a1 l1 c1 z1) (h2 : Ints w a2 l2 c2 z2) (hj : joinErr z1 z2 = 0) : Calls Try.prog 19 #[.string s, .slice a1 l1 c1, .slice a2 l2 c2] w fun e w' => e = .returned (.tuple #[.bool (holdVal s z1 z2), .int .i64 (holdErr s z1 z2)]) ∧ Below w.heap.size w w' := by
  have E : Hid (holdErr s z1 z2 = 0) := hid (by unfold holdErr; rw [if_pos h]; exact hj)
  have V : Hid (holdVal s z1 z2 = holdsB z1.length (parseOf s).2 (natOf (z1 ++ z2))) := hid (by unfold holdVal; rw [E.out, if_pos rfl])
  have C := parse_any s w hm
  unfold Parsed at C
  have J := fun W (b : Below w.heap.size w W) => join_any a1 a2 l1 c1 l2 c2 z1 z2 W (h1.below b) (h2.below b)
  unfold Joined at J
  have G := hid (parse_good h)
  obtain ⟨q1, q2, q3, q4, q5⟩ := joinErr_zero hj
  have LN := letters_nat (allL_append q4 q5)
  rw [LN.1] at J
  have L8 := hid LN.2
  have hnl : (natOf (z1 ++ z2)).length = z1.length + z2.length := by simp [natOf]
  clear LN q4 q5
  generalize parseOf s = p at *
  obtain ⟨p1, p2⟩ := p
  dsimp only at *
  subst h
  rw [hj] at J
  generalize natOf (z1 ++ z2) = xs at *
  have HNL := hid hnl
  clear hnl hj
  generalize z1.length = n1 at *
  generalize z2.length = n2 at *
  go_enter Try.func19, Try.ntmps19
  go_wp2_with fail
  refine C.mono ?_
  rintro e w1 ⟨ao, cap, rfl, own, hb⟩
  have OWN := hid own
  clear C own
  go_wp2_with fail
  refine (J _ hb).mono ?_
  rintro e w2 ⟨hb2, ⟨h0, _⟩ | ⟨_, g, cap2, rfl, own2⟩⟩
  · exact absurd rfl h0
  have hz := hb.size
  have OWN2 := hid own2
  have HB2 := hid hb2
  clear J own2 hb2
  go_wp2_with fail
  have ownN := (OWN.out.kept (row := none) ⟨HB2.out.os, HB2.out.tape, HB2.out.output, HB2.out.size, fun k hk _ => HB2.out.block k hk⟩ (by cases hv : (Value.slice ao p2.length cap).ownBlock <;> simp)).alloc (.cells #[.slice (some ⟨g, 0, none⟩) (n1 + n2) cap2, .int .i64 n1] 81)
  refine (eholds_any _ _ g (n1 + n2) cap2 n1 p2.length cap ao xs p2 _ (OWN2.out.alloc _) ownN G.out rfl HNL.out (by omega) (by omega) L8.out).mono ?_
  rintro e w3 ⟨rfl, hb3⟩
  clear ownN
  have hz2 := HB2.out.size
  have B3 := hid (((hb.trans (HB2.out.mono hz)).alloc (Nat.le_trans hz hz2) _).trans (hb3.mono (by simp; omega)))
  clear hb3
  go_wp2_with fail
  go_ret2
  exact ⟨by rw [E.out, V.out]; rfl, B3.out⟩

theorem holds_any (hm : s.size ≤ maxLen) (h1 : Ints w a1 l1 c1 z1) (h2 : Ints w a2 l2 c2 z2) : Calls Try.prog 19 #[.string s, .slice a1 l1 c1, .slice a2 l2 c2] w fun e w' => e = .returned (.tuple #[.bool (holdVal s z1 z2), .int .i64 (holdErr s z1 z2)]) ∧ Below w.heap.size w w' := by
  by_cases h : (parseOf s).1 = 0
  · by_cases hj : joinErr z1 z2 = 0
    · exact holds_ok s a1 a2 l1 c1 l2 c2 z1 z2 w hm h h1 h2 hj
    · exact holds_bad s a1 a2 l1 c1 l2 c2 z1 z2 w hm h h1 h2 hj
  · exact holds_no s a1 a2 l1 c1 l2 c2 z1 z2 w hm h
end

end Go.Proofs.Ytjagijohfkffiab

/- What Judge answers. -/
namespace Go.Proofs.Ytjagijohfkffiab
open Go.RowKit
set_option linter.unusedVariables false

end Go.Proofs.Ytjagijohfkffiab

/- The walk of the program's Judge. -/
namespace Go.Proofs.Ytjagijohfkffiab
open Go.RowKit
set_option linter.unusedVariables false

theorem ndM_of {w : World} {B gn m ncap : Nat} {ns : List Nd} (h : w.ownsRow B 124 3 (.slice (some ⟨gn, 0, none⟩) m ncap) m (flat ns)) (hl : ns.length = m) : NdM w gn ns :=
  ⟨(h.lt _ rfl).2, fun i hi => (h.cellAt (i * 3) (by omega)).trans (flat_get ns i (by omega)).1, fun i hi => (h.cellAt (i * 3 + 1) (by omega)).trans (flat_get ns i (by omega)).2.1, fun i hi => (h.cellAt (i * 3 + 2) (by omega)).trans (flat_get ns i (by omega)).2.2⟩

section
variable (s : ByteArray) (a1 : Option Addr) (l1 c1 : Nat) (z1 : List Int) (w : World)

end

end Go.Proofs.Ytjagijohfkffiab

/- The walks of verdictkeep's small functions: pick, word, looped, joined, holding. -/
namespace Go.Proofs.Ytjagijohfkffiab
open Go.RowKit
set_option linter.unusedVariables false

def pick8 (z : Int) : Nat := ((if z < 0 then -(z + 1) else z) % 8).toNat
theorem pick8_lt (z : Int) : pick8 z < 8 := by unfold pick8; omega

set_option maxHeartbeats 400000 in
theorem pick_any (z : Int) (w : World) (h1 : -9223372036854775808 ≤ z) (h2 : z ≤ 9223372036854775807) : Calls Try.prog 34 #[.int .i64 z, .int .i64 8] w fun e w' => e = .returned (.int .i64 (pick8 z : Nat)) ∧ w' = w := by
  by_cases h : z < 0
  · have E : Hid (((pick8 z : Nat) : Int) = -((z + 1).tmod 8)) := hid (by rw [← Int.neg_tmod, Int.tmod_eq_emod_of_nonneg (by omega)]; unfold pick8; rw [if_pos h]; omega)
    go_enter Try.func34, Try.ntmps34
    go_wp2
    go_ret
    exact ⟨ret_int E.out.symm, rfl⟩
  · have E : Hid (((pick8 z : Nat) : Int) = z % 8) := hid (by unfold pick8; rw [if_neg h]; omega)
    go_enter Try.func34, Try.ntmps34
    go_wp2
    go_ret
    exact ⟨ret_int E.out.symm, rfl⟩

/-- Numbers made letters, the first j of them. -/
def wordTo (zs : List Int) (j : Nat) : List Nat := (zs.take j).map pick8
theorem wordTo_len {zs : List Int} {j : Nat} (h : j ≤ zs.length) : (wordTo zs j).length = j := by simp [wordTo]; omega
theorem wordTo_succ {zs : List Int} {j : Nat} (h : j < zs.length) : wordTo zs (j + 1) = wordTo zs j ++ [pick8 (zs.getD j 0)] := by
  unfold wordTo
  rw [List.take_succ_eq_append_getElem h, List.map_append]
  simp [List.getD, List.getElem?_eq_getElem h]
theorem wordTo_8 (zs : List Int) (j : Nat) : ∀ x ∈ wordTo zs j, x < 8 := by
  intro x hx
  obtain ⟨z, _, rfl⟩ := List.mem_map.1 hx
  exact pick8_lt z

def intsOf (xs : List Nat) : List Int := xs.map fun x : Nat => (x : Int)
theorem intsOf_len (xs : List Nat) : (intsOf xs).length = xs.length := by simp [intsOf]
theorem intsOf_app (xs ys : List Nat) : intsOf (xs ++ ys) = intsOf xs ++ intsOf ys := by simp [intsOf]
theorem natOf_ints (xs : List Nat) : natOf (intsOf xs) = xs := by
  unfold natOf intsOf
  rw [List.map_map]
  conv => rhs; rw [← List.map_id xs]
  apply List.map_congr_left
  intro x _; simp
theorem allL_ints {xs : List Nat} (h : ∀ x ∈ xs, x < 8) : allL (intsOf xs) = true := by
  unfold allL intsOf
  rw [List.all_eq_true]
  intro z hz
  obtain ⟨x, hx, rfl⟩ := List.mem_map.1 hz
  rw [isL_iff]
  have := h x hx
  omega

/-- A row of the call's own, as a slice that is read. -/
theorem own_ints {w : World} {B n : Nat} {v : Value} {xs : List Nat} (h : w.ownsRow B 3 1 v n (natInts xs)) (hl : xs.length = n) : ∃ ao cap, v = .slice ao n cap ∧ Ints w ao n cap (intsOf xs) := by
  rcases h.2 with ⟨rfl, rfl⟩ | ⟨g, cap, cur, rfl, hb, hh, hc, hm, _⟩
  · exact ⟨none, 0, rfl, by rw [intsOf_len, hl], Nat.le_refl _, by omega, fun _ => ⟨rfl, rfl⟩, fun h => by omega⟩
  · refine ⟨_, cap, rfl, by rw [intsOf_len, hl], hc, by unfold maxLen at hm; omega, fun h => by simp at h, fun _ => ⟨g, 0, rfl, heap_lt hh, fun i hi => ?_⟩⟩
    rw [Nat.zero_add, h.cellAt i (by omega)]
    simp [natInts, intsOf, List.getD, List.getElem?_eq_getElem (show i < xs.length by omega)]

/-- The numbers of an argument are int's. -/
def Fits (zs : List Int) : Prop := ∀ z ∈ zs, -9223372036854775808 ≤ z ∧ z ≤ 9223372036854775807

theorem fits_at {zs : List Int} (h : Fits zs) {j : Nat} (hj : j < zs.length) : -9223372036854775808 ≤ zs.getD j 0 ∧ zs.getD j 0 ≤ 9223372036854775807 := by
  rw [List.getD, List.getElem?_eq_getElem hj]
  exact h _ (List.getElem_mem hj)

/-- What 'word' and its kin leave: a word of letters. -/
def Made (xs : List Nat) (w : World) (e : Ending) (w' : World) : Prop := ∃ ao cap, e = .returned (.slice ao xs.length cap) ∧ Ints w' ao xs.length cap (intsOf xs) ∧ Below w.heap.size w w'

set_option maxHeartbeats 800000 in
set_option maxRecDepth 100000 in
theorem word_own (ao : Option Addr) (len cap n : Nat) (zs : List Int) (w : World) (h : Ints w ao len cap zs) (hf : Fits zs) (hn : n ≤ 1000) :
    Calls Try.prog 11 #[.slice ao len cap, .int .i64 n] w fun e w' => ∃ v, e = .returned v ∧ w'.ownsRow w.heap.size 3 1 v (min len n) (natInts (wordTo zs (min len n))) ∧ Below w.heap.size w w' := by
  have hl := h.hlen
  have hc := h.hcap
  have hm := h.hmax
  obtain ⟨i0, hi, hz0, hz1, hz2⟩ := info_parts Try.infoInt
  go_enter Try.func11, Try.ntmps11
  go_wp2_with fail
  go_loopw [5, 6] (fun v i wr => ∃ j : Nat, j ≤ len ∧ j ≤ n ∧ i = .int .i64 j ∧ wr.ownsRow w.heap.size 3 1 v j (natInts (wordTo zs j)) ∧ Below w.heap.size w wr) (fun _ i _ => n - (intOf i).toNat)
  case atStart => exact ⟨0, Nat.zero_le _, Nat.zero_le _, rfl, World.ownsRow_nil _ _ _ _, Below.refl _ _⟩
  case round =>
    obtain ⟨j, hj1, hj2, rfl, own, hbr⟩ := hrel
    by_cases hlt : j < len
    · by_cases hlt2 : j < n
      · obtain ⟨b, off, rfl, hb, hcell⟩ := (h.below hbr).hcell (by omega)
        have c := hcell j hlt
        have fa := fits_at hf (j := j) (by omega)
        have HS := hid (wordTo_succ (zs := zs) (j := j) (by omega))
        have hsz := hbr.size
        clear hcell
        generalize zs.getD j 0 = z at *
        go_wp2_with fail
        refine (pick_any z _ fa.1 fa.2).mono ?_
        rintro e w' ⟨rfl, rfl⟩
        have HO := hid own
        have HB := hid hbr
        generalize pick8 z = x at *
        go_wp2_with (at_builtin; go_must (refine wpList_append_own _ rfl (.tmp 24) (.tmp 26) 22 rfl w.heap.size 3 i0 (.int .i64 0) 1 8 Try.underlying22 hi hz0 hz1 hz2 rfl (by decide) _ _ _ rfl (HO.out.alloc _) ⟨w'.heap.size, 0, none⟩ 1 1 [.int .i64 x] rfl rfl ?c1 ?c2 ?c3 ?c4 ?c5 ?_))
        case c1 => exact cell_one_new _ _ _
        case c2 => intro u hu; simp at hu; subst hu; rfl
        case c3 => unfold maxLen; omega
        case c4 => omega
        case c5 => simp; omega
        intro v' w1 hown hgrow _
        have B1 := hid ((HB.out.alloc hsz _).grown hgrow (by simp; omega) (fun k h => (HO.out.lt k h).1))
        have e1 : natInts (wordTo zs j) ++ [.int .i64 (x : Nat)] = natInts (wordTo zs (j + 1)) := by rw [HS.out]; simp [natInts]
        rw [e1] at hown
        have O1 := hid hown
        clear hown hgrow e1 c own hbr
        go_wp2_with fail
        go_roundw
        case rel => exact ⟨j + 1, by omega, by omega, by go_num, O1.out, B1.out⟩
        case measure => simp [intOf]; omega
      · have hm2 : min len n = j := by omega
        have HO := hid own
        have HM := hid hm2
        clear own hm2
        go_wp2_with fail
        go_ret
        refine ⟨_, rfl, ?_, hbr⟩
        rw [HM.out]
        exact HO.out
    · have hm2 : min len n = j := by omega
      have HO := hid own
      have HM := hid hm2
      clear own hm2
      go_wp2_with fail
      go_ret
      refine ⟨_, rfl, ?_, hbr⟩
      rw [HM.out]
      exact HO.out

end Go.Proofs.Ytjagijohfkffiab

/- The walks of verdictkeep's small functions: looped, joined, holding. -/
namespace Go.Proofs.Ytjagijohfkffiab
open Go.RowKit
set_option linter.unusedVariables false

theorem word_any (ao : Option Addr) (len cap n : Nat) (zs : List Int) (w : World) (h : Ints w ao len cap zs) (hf : Fits zs) (hn : n ≤ 1000) :
    Calls Try.prog 11 #[.slice ao len cap, .int .i64 n] w (Made (wordTo zs (min zs.length n)) w) := by
  refine (word_own ao len cap n zs w h hf hn).mono ?_
  rintro e w' ⟨v, rfl, own, hb⟩
  rw [← h.hlen] at own
  have hl := wordTo_len (zs := zs) (j := min zs.length n) (by omega)
  obtain ⟨ao', cap', rfl, hI⟩ := own_ints own hl
  refine ⟨ao', cap', by rw [hl], by rw [hl]; exact hI, hb⟩

/-- A loop has a letter. -/
def loopTo (zs : List Int) (n : Nat) : List Nat := if min zs.length n = 0 then [0] else wordTo zs (min zs.length n)
theorem loopTo_8 (zs : List Int) (n : Nat) : ∀ x ∈ loopTo zs n, x < 8 := by
  unfold loopTo
  split
  · intro x hx; simp at hx; omega
  · exact wordTo_8 _ _
theorem loopTo_pos (zs : List Int) (n : Nat) : 0 < (loopTo zs n).length := by
  unfold loopTo
  split
  · decide
  · rw [wordTo_len (by omega)]; omega
theorem loopTo_le (zs : List Int) (n : Nat) (hn : 0 < n) : (loopTo zs n).length ≤ n := by
  unfold loopTo
  split
  · simp; omega
  · rw [wordTo_len (by omega)]; omega
theorem word_le (zs : List Int) (n : Nat) : (wordTo zs (min zs.length n)).length ≤ n := by
  rw [wordTo_len (by omega)]; omega

set_option maxHeartbeats 400000 in
set_option maxRecDepth 100000 in
theorem looped_any (ao : Option Addr) (len cap n : Nat) (zs : List Int) (w : World) (h : Ints w ao len cap zs) (hf : Fits zs) (hn : n ≤ 1000) :
    Calls Try.prog 18 #[.slice ao len cap, .int .i64 n] w (Made (loopTo zs n) w) := by
  have C := word_own ao len cap n zs w h hf hn
  have L : Hid (loopTo zs n = if min len n = 0 then [0] else wordTo zs (min len n)) := hid (by unfold loopTo; rw [h.hlen])
  have hwl := wordTo_len (zs := zs) (j := min len n) (by have := h.hlen; omega)
  have hml : min len n ≤ 1000 := by omega
  have HWL := hid hwl
  clear hwl
  generalize min len n = m at *
  obtain ⟨i0, hi, hz0, hz1, hz2⟩ := info_parts Try.infoInt
  by_cases hm : m = 0
  · subst hm
    have L0 : Hid (loopTo zs n = [0]) := hid (by rw [L.out, if_pos rfl])
    clear L
    go_enter Try.func18, Try.ntmps18
    go_wp2_with fail
    refine C.mono ?_
    rintro e w1 ⟨v, rfl, own, hb⟩
    obtain ⟨ao1, cap1, rfl, hI⟩ := own_ints own HWL.out
    have O1 := hid own
    have hsz := hb.size
    clear C own
    go_wp2_with (at_builtin; go_must (refine wpList_append_own _ rfl (.tmp 12) (.tmp 13) 22 rfl w.heap.size 3 i0 (.int .i64 0) 1 8 Try.underlying22 hi hz0 hz1 hz2 rfl (by decide) _ _ _ rfl (O1.out.alloc _) ⟨w1.heap.size, 0, none⟩ 1 1 [.int .i64 0] rfl rfl ?c1 ?c2 ?c3 ?c4 ?c5 ?_))
    case c1 => exact cell_one_new _ _ _
    case c2 => intro u hu; simp at hu; subst hu; rfl
    case c3 => unfold maxLen; omega
    case c4 => omega
    case c5 => simp; omega
    intro v' w2 hown hgrow _
    have e1 : natInts (wordTo zs 0) ++ [.int .i64 0] = natInts [0] := by simp [natInts, wordTo]
    have hown2 : w2.ownsRow w.heap.size 3 1 v' 1 (natInts [0]) := by rw [← e1]; simpa using hown
    obtain ⟨ao2, cap2, rfl, hI2⟩ := own_ints hown2 rfl
    have B1 := hid ((hb.alloc hsz _).grown hgrow (by simp; omega) (fun k h => (O1.out.lt k h).1))
    have HI := hid hI2
    clear hown hown2 hgrow hI2 e1
    go_wp2_with fail
    go_ret
    unfold Made
    rw [L0.out]
    exact ⟨ao2, cap2, rfl, HI.out, B1.out⟩
  · have k0 : ((m : Int) == 0) = false := beq_eq_false_iff_ne.2 (by omega)
    go_enter Try.func18, Try.ntmps18
    go_wp2_with fail
    refine C.mono ?_
    rintro e w1 ⟨v, rfl, own, hb⟩
    obtain ⟨ao1, cap1, rfl, hI⟩ := own_ints own HWL.out
    have HI := hid hI
    clear C own hI
    go_wp2_with fail
    go_ret
    unfold Made
    rw [L.out, if_neg hm, HWL.out]
    exact ⟨ao1, cap1, rfl, HI.out, hb⟩

theorem p_parse : parseOf ⟨#[112]⟩ = (0, [⟨112, 0, 0⟩]) := by rfl
theorem p_yes : holdVal ⟨#[112]⟩ [] [1] = true ∧ holdErr ⟨#[112]⟩ [] [1] = 0 := by decide +kernel
theorem p_no : holdVal ⟨#[112]⟩ [] [0] = false ∧ holdErr ⟨#[112]⟩ [] [0] = 0 := by decide +kernel

theorem ints_none (w : World) : Ints w none 0 0 [] := ⟨rfl, Nat.le_refl _, by omega, fun _ => ⟨rfl, rfl⟩, fun h => by omega⟩
theorem ints_one (w : World) (z : Int) : Ints (w.alloc (.cells #[.int .i64 z] 3)) (some ⟨w.heap.size, 0, none⟩) 1 1 [z] :=
  ⟨rfl, Nat.le_refl _, by omega, fun h => by simp at h, fun _ => ⟨w.heap.size, 0, rfl, by simp, fun i hi => by
    have : i = 0 := by omega
    subst this
    simp⟩⟩

set_option maxHeartbeats 400000 in
theorem holding_any (w : World) : Calls Try.prog 17 #[] w fun e w' => e = .returned (.bool true) ∧ Below w.heap.size w w' := by
  have C1 := size_any ⟨#[112]⟩ w (by decide)
  rw [p_parse] at C1
  have C2 := fun W => holds_any ⟨#[112]⟩ none (some ⟨W.heap.size, 0, none⟩) 0 0 1 1 [] [1] (W.alloc (.cells #[.int .i64 1] 3)) (by decide) (ints_none _) (ints_one W 1)
  rw [p_yes.1, p_yes.2] at C2
  have C3 := fun W => holds_any ⟨#[112]⟩ none (some ⟨W.heap.size, 0, none⟩) 0 0 1 1 [] [0] (W.alloc (.cells #[.int .i64 0] 3)) (by decide) (ints_none _) (ints_one W 0)
  rw [p_no.1, p_no.2] at C3
  go_enter Try.func17, Try.ntmps17
  go_wp2_with fail
  refine C1.mono ?_
  rintro e w1 ⟨rfl, hb1⟩
  go_wp2_with fail
  refine (C2 _).mono ?_
  rintro e w2 ⟨rfl, hb2⟩
  have B2 := hid ((hb1.alloc hb1.size _).trans (hb2.mono (by have := hb1.size; simp; omega)))
  clear hb1 hb2
  go_wp2_with fail
  refine (C3 _).mono ?_
  rintro e w3 ⟨rfl, hb3⟩
  have hz := B2.out.size
  have B3 := hid ((B2.out.alloc hz _).trans (hb3.mono (by simp; omega)))
  clear hb3 C1 C2 C3
  go_wp2_with fail
  go_ret
  exact ⟨rfl, B3.out⟩

end Go.Proofs.Ytjagijohfkffiab

/- Plain mathematics: the endless word of a stem and a loop. -/
namespace Go.Proofs.Ytjagijohfkffiab

/-- The letter at place t of the endless word. -/
def wordAt (A B : List Nat) (t : Nat) : Nat := if t < A.length then A.getD t 0 else B.getD ((t - A.length) % B.length) 0

def posAt (a b t : Nat) : Nat := if t < a then t else a + (t - a) % b

theorem mod_step {q b : Nat} (hb : 0 < b) : (q + 1) % b = if q % b + 1 < b then q % b + 1 else 0 := by
  have h := Nat.mod_lt q hb
  rw [Nat.add_mod]
  by_cases h1 : b = 1
  · subst h1; simp [Nat.mod_one]
  · rw [Nat.mod_eq_of_lt (show 1 < b by omega)]
    split
    · exact Nat.mod_eq_of_lt ‹_›
    · rw [show q % b + 1 = b by omega]; exact Nat.mod_self b

theorem it_pos {a b : Nat} (hb : 0 < b) (t : Nat) : it (lnx (a + b) a) t 0 = posAt a b t := by
  induction t with
  | zero =>
    simp only [it, posAt]
    split
    · rfl
    · rename_i h
      have : a = 0 := by omega
      subst this
      simp
  | succ t ih =>
    rw [it_succ, ih]
    unfold posAt lnx
    by_cases h1 : t + 1 < a
    · rw [if_pos h1, if_pos (show t < a by omega), if_pos (by omega)]
    · rw [if_neg h1]
      by_cases h2 : t < a
      · rw [if_pos h2]
        have : t + 1 - a = 0 := by omega
        rw [this]
        split <;> simp <;> omega
      · rw [if_neg h2, show t + 1 - a = (t - a) + 1 by omega, mod_step hb]
        have := Nat.mod_lt (t - a) hb
        by_cases h3 : (t - a) % b + 1 < b
        · rw [if_pos h3, if_pos (by omega)]; omega
        · rw [if_neg h3, if_neg (by omega)]; rfl

theorem ltOf_pos {A B : List Nat} (hb : 0 < B.length) (t : Nat) : ltOf (A ++ B) (posAt A.length B.length t) = wordAt A B t := by
  unfold ltOf posAt wordAt
  have := Nat.mod_lt (t - A.length) hb
  by_cases h : t < A.length
  · rw [if_pos h, if_pos h]; simp [List.getD, List.getElem?_append_left h]
  · rw [if_neg h, if_neg h, List.getD, List.getD, List.getElem?_append_right (by omega), Nat.add_sub_cancel_left]

/-- At a time, and at the place where one is then. -/
theorem sem_time {A B : List Nat} (hb : 0 < B.length) (ns : List Nd) (k t : Nat) : sem (fun i => i + 1) (wordAt A B) ns k t ↔ sem (lnx (A.length + B.length) A.length) (ltOf (A ++ B)) ns k (posAt A.length B.length t) := by
  have h := sem_map (f := fun t => it (lnx (A.length + B.length) A.length) t 0) (nx1 := fun i => i + 1) (lt1 := wordAt A B) (nx2 := lnx (A.length + B.length) A.length) (lt2 := ltOf (A ++ B))
    (fun i => it_succ _ _ _) (fun i => by rw [it_pos hb, ltOf_pos hb]) ns k t
  rw [it_pos hb] at h
  exact h

/-- What Holds answers, by the document's own words. -/
theorem holdsB_inf {A B : List Nat} {ns : List Nd} (hg : Good ns) (hb : 0 < B.length) (hx : ∀ x ∈ A ++ B, x < 8) : holdsB A.length ns (A ++ B) = true ↔ sem (fun i => i + 1) (wordAt A B) ns (ns.length - 1) 0 := by
  rw [holdsB_sem hg (by simp; omega) hx, sem_time hb, List.length_append]
  have : posAt A.length B.length 0 = 0 := by
    unfold posAt
    split
    · rfl
    · rename_i h
      have h0 : A.length = 0 := by omega
      rw [h0]; simp
  rw [this]

theorem getD_app_left {A B : List Nat} {i : Nat} (h : i < A.length) : (A ++ B).getD i 0 = A.getD i 0 := by simp [List.getD, List.getElem?_append_left h]
theorem getD_app_right {A B : List Nat} {i : Nat} (h : A.length ≤ i) : (A ++ B).getD i 0 = B.getD (i - A.length) 0 := by simp [List.getD, List.getElem?_append_right h]

end Go.Proofs.Ytjagijohfkffiab

/- What Holds answers of letters. -/
namespace Go.Proofs.Ytjagijohfkffiab
open Go.RowKit
set_option linter.unusedVariables false

/-- What Holds answers of letters. -/
def hv (s : ByteArray) (xs ys : List Nat) : Bool := if (parseOf s).1 = 0 then holdsB xs.length (parseOf s).2 (xs ++ ys) else false

theorem joinErr_ok {xs ys : List Nat} (h1 : ∀ x ∈ xs, x < 8) (h2 : ∀ x ∈ ys, x < 8) (p : 0 < ys.length) (l1 : xs.length ≤ 40) (l2 : ys.length ≤ 40) : joinErr (intsOf xs) (intsOf ys) = 0 := by
  unfold joinErr
  rw [intsOf_len, intsOf_len, if_neg (by omega), if_neg (by omega), if_pos ⟨allL_ints h1, allL_ints h2⟩]
theorem hold_val {s : ByteArray} {xs ys : List Nat} (h : joinErr (intsOf xs) (intsOf ys) = 0) : holdVal s (intsOf xs) (intsOf ys) = hv s xs ys ∧ holdErr s (intsOf xs) (intsOf ys) = (parseOf s).1 := by
  have e : holdErr s (intsOf xs) (intsOf ys) = (parseOf s).1 := by
    unfold holdErr
    split
    · rename_i h0; rw [h, h0]
    · rfl
  refine ⟨?_, e⟩
  unfold holdVal hv
  rw [e, intsOf_len, ← intsOf_app, natOf_ints]

theorem holdsW (s : ByteArray) (hm : s.size ≤ maxLen) (a1 a2 : Option Addr) (l1 c1 l2 c2 : Nat) (xs ys : List Nat) (w : World) (h1 : Ints w a1 l1 c1 (intsOf xs)) (h2 : Ints w a2 l2 c2 (intsOf ys))
    (x8 : ∀ x ∈ xs, x < 8) (y8 : ∀ x ∈ ys, x < 8) (p : 0 < ys.length) (q1 : xs.length ≤ 40) (q2 : ys.length ≤ 40) :
    Calls Try.prog 19 #[.string s, .slice a1 l1 c1, .slice a2 l2 c2] w fun e w' => e = .returned (.tuple #[.bool (hv s xs ys), .int .i64 (parseOf s).1]) ∧ Below w.heap.size w w' := by
  have h := holds_any s a1 a2 l1 c1 l2 c2 (intsOf xs) (intsOf ys) w hm h1 h2
  obtain ⟨e1, e2⟩ := hold_val (s := s) (joinErr_ok x8 y8 p q1 q2)
  rw [e1, e2] at h
  exact h

theorem hv_inf {s : ByteArray} {xs ys : List Nat} (h0 : (parseOf s).1 = 0) (p : 0 < ys.length) (h8 : ∀ x ∈ xs ++ ys, x < 8) : hv s xs ys = true ↔ sem (fun i => i + 1) (wordAt xs ys) (parseOf s).2 ((parseOf s).2.length - 1) 0 := by
  unfold hv
  rw [if_pos h0]
  exact holdsB_inf (parse_good h0) p h8

theorem Ints.drew {w : World} {ao : Option Addr} {len cap : Nat} {zs : List Int} (h : Ints w ao len cap zs) : Ints w.drew ao len cap zs := ⟨h.hlen, h.hcap, h.hmax, h.hnil, h.hcell⟩

end Go.Proofs.Ytjagijohfkffiab
