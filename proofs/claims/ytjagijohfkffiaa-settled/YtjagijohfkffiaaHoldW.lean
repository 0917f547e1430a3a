/- What Holds answers of letters. -/
import Derived.Test.YtjagijohfkffiaaKeep2
import Derived.Test.YtjagijohfkffiaaLasso
namespace Go.Proofs.Ytjagijohfkffiaa
open Go.RowKit
set_option linter.unusedVariables false

/-- What Holds answers of letters. -/
def hv (s : ByteArray) (xs ys : List Nat) : Bool := if (parseOf s).1 = 0 then holdsB xs.length (parseOf s).2 (xs ++ ys) else false

theorem joinErr_ok {xs ys : List Nat} (h1 : ∀ x ∈ xs, x < 8) (h2 : ∀ x ∈ ys, x < 8) (p : 0 < ys.length) (l1 : xs.length ≤ 40) (l2 : ys.length ≤ 40) : joinErr (intsOf xs) (intsOf ys) = 0 := by
  unfold joinErr
  rw [intsOf_len, intsOf_len, if_neg (by omega), if_neg (by omega), if_pos ⟨allL_ints h1, allL_ints h2⟩]
theorem hold_val {s : ByteArray} {xs ys : List Nat} (h : joinErr (intsOf xs) (intsOf ys) = 0) : holdVal s (intsOf xs) (intsOf ys) = hv s xs ys ∧ holdErr s (intsOf xs) (intsOf ys) = (parseOf s).1 := by
  have e : holdErr s (intsOf xs) (intsOf ys) = (parseOf s).1 := by
    unfold holdErr
    split
    · rename_i h0; rw [h, h0]
    · rfl
  refine ⟨?_, e⟩
  unfold holdVal hv
  rw [e, intsOf_len, ← intsOf_app, natOf_ints]

theorem holdsW (s : ByteArray) (hm : s.size ≤ maxLen) (a1 a2 : Option Addr) (l1 c1 l2 c2 : Nat) (xs ys : List Nat) (w : World) (h1 : Ints w a1 l1 c1 (intsOf xs)) (h2 : Ints w a2 l2 c2 (intsOf ys))
    (x8 : ∀ x ∈ xs, x < 8) (y8 : ∀ x ∈ ys, x < 8) (p : 0 < ys.length) (q1 : xs.length ≤ 40) (q2 : ys.length ≤ 40) :
    Calls Try.prog 18 #[.string s, .slice a1 l1 c1, .slice a2 l2 c2] w fun e w' => e = .returned (.tuple #[.bool (hv s xs ys), .int .i64 (parseOf s).1]) ∧ Below w.heap.size w w' := by
  have h := holds_any s a1 a2 l1 c1 l2 c2 (intsOf xs) (intsOf ys) w hm h1 h2
  obtain ⟨e1, e2⟩ := hold_val (s := s) (joinErr_ok x8 y8 p q1 q2)
  rw [e1, e2] at h
  exact h

theorem hv_inf {s : ByteArray} {xs ys : List Nat} (h0 : (parseOf s).1 = 0) (p : 0 < ys.length) (h8 : ∀ x ∈ xs ++ ys, x < 8) : hv s xs ys = true ↔ sem (fun i => i + 1) (wordAt xs ys) (parseOf s).2 ((parseOf s).2.length - 1) 0 := by
  unfold hv
  rw [if_pos h0]
  exact holdsB_inf (parse_good h0) p h8

theorem hv_same {s : ByteArray} {xs ys us vs : List Nat} (p : 0 < ys.length) (h8 : ∀ x ∈ xs ++ ys, x < 8) (p2 : 0 < vs.length) (g8 : ∀ x ∈ us ++ vs, x < 8) (e : wordAt us vs = wordAt xs ys) : hv s us vs = hv s xs ys := by
  by_cases h0 : (parseOf s).1 = 0
  · rw [Bool.eq_iff_iff, hv_inf h0 p2 g8, hv_inf h0 p h8, e]
  · unfold hv; rw [if_neg h0, if_neg h0]

theorem Ints.drew {w : World} {ao : Option Addr} {len cap : Nat} {zs : List Int} (h : Ints w ao len cap zs) : Ints w.drew ao len cap zs := ⟨h.hlen, h.hcap, h.hmax, h.hnil, h.hcell⟩

theorem below_undrew {B : Nat} {w w' : World} (h : Below B w.drew w') : Below B w w' := ⟨h.os, h.tape, h.output, h.size, h.block⟩

end Go.Proofs.Ytjagijohfkffiaa
