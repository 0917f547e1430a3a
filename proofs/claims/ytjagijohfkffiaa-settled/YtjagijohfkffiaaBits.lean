/- Sets of nodes as ints: Has, With. -/
import Derived.Test.YtjagijohfkffiaaReader
import Derived.WalkLawsBesides
namespace Go.Proofs.Ytjagijohfkffiaa
open Go.RowKit
set_option linter.unusedVariables false

/-- The set with node k in it, or without it. -/
def wth (S k : Nat) (b : Bool) : Nat := if b then S ||| 2 ^ k else S - (if S.testBit k then 2 ^ k else 0)

theorem has_fin : ∀ S : Fin 256, ∀ k : Fin 8, (bits BinOp.and IntKind.i64 ((S.val : Int) / 2 ^ k.val) 1 == 1) = S.val.testBit k.val := by decide +kernel
theorem wth_t_fin : ∀ S : Fin 256, ∀ k : Fin 8, bits BinOp.or IntKind.i64 (S.val : Int) (2 ^ k.val) = ((wth S.val k.val true : Nat) : Int) := by decide +kernel
theorem wth_f_fin : ∀ S : Fin 256, ∀ k : Fin 8, bits BinOp.andNot IntKind.i64 (S.val : Int) (2 ^ k.val) = ((wth S.val k.val false : Nat) : Int) := by decide +kernel
theorem wth_lt_fin : ∀ S : Fin 256, ∀ k : Fin 8, ∀ b : Bool, wth S.val k.val b < 256 := by decide +kernel
theorem wth_bit_fin : ∀ S : Fin 256, ∀ k : Fin 8, ∀ j : Fin 8, ∀ b : Bool, (wth S.val k.val b).testBit j.val = if j.val = k.val then b else S.val.testBit j.val := by decide +kernel

theorem wth_lt {S k : Nat} {b : Bool} (hS : S < 256) (hk : k < 8) : wth S k b < 256 := wth_lt_fin ⟨S, hS⟩ ⟨k, hk⟩ b
theorem wth_bit {S k j : Nat} {b : Bool} (hS : S < 256) (hk : k < 8) (hj : j < 8) : (wth S k b).testBit j = if j = k then b else S.testBit j := wth_bit_fin ⟨S, hS⟩ ⟨k, hk⟩ ⟨j, hj⟩ b
theorem pow_wrap {k : Nat} (hk : k < 8) : wrap64 (2 ^ k) = 2 ^ k := by
  have : (2 : Int) ^ k ≤ 128 ∧ 0 ≤ (2 : Int) ^ k := by
    have h : ∀ k : Fin 8, (2 : Int) ^ k.val ≤ 128 ∧ 0 ≤ (2 : Int) ^ k.val := by decide
    exact h ⟨k, hk⟩
  exact IntWalk.wrap64_in _ ⟨by omega, by omega⟩

theorem ret_bool {a b : Bool} (h : a = b) : Ending.returned (.bool a) = .returned (.bool b) := by rw [h]
theorem ret_int {k : IntKind} {a b : Int} (h : a = b) : Ending.returned (.int k a) = .returned (.int k b) := by rw [h]

set_option maxHeartbeats 400000 in
theorem has_any (S k : Nat) (w : World) (hS : S < 256) (hk : k < 8) : Calls Try.prog 79 #[.int .i64 S, .int .i64 k] w fun e w' => e = .returned (.bool (S.testBit k)) ∧ w' = w := by
  have H := hid (has_fin ⟨S, hS⟩ ⟨k, hk⟩)
  go_enter Try.func79, Try.ntmps79
  go_wp2
  go_ret
  exact ⟨ret_bool H.out, rfl⟩

set_option maxHeartbeats 400000 in
theorem with_any (S k : Nat) (b : Bool) (w : World) (hS : S < 256) (hk : k < 8) : Calls Try.prog 106 #[.int .i64 S, .int .i64 k, .bool b] w fun e w' => e = .returned (.int .i64 (wth S k b : Nat)) ∧ w' = w := by
  have HT : Hid (bits BinOp.or IntKind.i64 (S : Int) (wrap64 (2 ^ k)) = ((wth S k true : Nat) : Int)) := hid (by rw [pow_wrap hk]; exact wth_t_fin ⟨S, hS⟩ ⟨k, hk⟩)
  have HF : Hid (bits BinOp.andNot IntKind.i64 (S : Int) (wrap64 (2 ^ k)) = ((wth S k false : Nat) : Int)) := hid (by rw [pow_wrap hk]; exact wth_f_fin ⟨S, hS⟩ ⟨k, hk⟩)
  cases b with
  | true =>
    go_enter Try.func106, Try.ntmps106
    go_wp2
    go_ret
    exact ⟨ret_int HT.out, rfl⟩
  | false =>
    go_enter Try.func106, Try.ntmps106
    go_wp2
    go_ret
    exact ⟨ret_int HF.out, rfl⟩

end Go.Proofs.Ytjagijohfkffiaa
