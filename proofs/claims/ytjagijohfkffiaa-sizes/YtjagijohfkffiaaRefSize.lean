/- The walks of the reference's parse (whole), Formulate and Size. -/
import Derived.Test.YtjagijohfkffiaaRefParse2
namespace Go.Proofs.Ytjagijohfkffiaa
open Go.RowKit
set_option linter.unusedVariables false

set_option maxHeartbeats 1600000 in
set_option maxRecDepth 100000 in
theorem rparse_no (k F : Nat) (s : ByteArray) (hs : s.size ≤ 24) (a : Nat) (ns : List Nd) (bs : List Nat) (w : World) (hf : Fm w F ns bs) (ha : a ≤ s.size) (h1 : leafB (bt s a) = false) (h2 : oneB (bt s a) = false) (h3 : ¬ bt s a = 40) :
    Calls Try.prog 77 #[.pointer (some ⟨F, 0, none⟩), .string s, .int .i64 a] w (Rff (ps (k + 1) s a ns) F a bs w) := by
  have e1 := hid (ps_no (k := k) (ns := ns) h1 h2 h3)
  have hF := hf.ltF
  by_cases hl : a < s.size
  · have hx := bt_in hl
    rw [hx] at h1 h2 h3
    have k48 : (((s[a]'hl).toNat : Int) == 48) = false := beq_eq_false_iff_ne.2 (fun h => by rw [show (s[a]'hl).toNat = 48 by omega] at h1; revert h1; decide)
    have k49 : (((s[a]'hl).toNat : Int) == 49) = false := beq_eq_false_iff_ne.2 (fun h => by rw [show (s[a]'hl).toNat = 49 by omega] at h1; revert h1; decide)
    have k112 : (((s[a]'hl).toNat : Int) == 112) = false := beq_eq_false_iff_ne.2 (fun h => by rw [show (s[a]'hl).toNat = 112 by omega] at h1; revert h1; decide)
    have k113 : (((s[a]'hl).toNat : Int) == 113) = false := beq_eq_false_iff_ne.2 (fun h => by rw [show (s[a]'hl).toNat = 113 by omega] at h1; revert h1; decide)
    have k114 : (((s[a]'hl).toNat : Int) == 114) = false := beq_eq_false_iff_ne.2 (fun h => by rw [show (s[a]'hl).toNat = 114 by omega] at h1; revert h1; decide)
    have k33 : (((s[a]'hl).toNat : Int) == 33) = false := beq_eq_false_iff_ne.2 (fun h => by rw [show (s[a]'hl).toNat = 33 by omega] at h2; revert h2; decide)
    have k88 : (((s[a]'hl).toNat : Int) == 88) = false := beq_eq_false_iff_ne.2 (fun h => by rw [show (s[a]'hl).toNat = 88 by omega] at h2; revert h2; decide)
    have k70 : (((s[a]'hl).toNat : Int) == 70) = false := beq_eq_false_iff_ne.2 (fun h => by rw [show (s[a]'hl).toNat = 70 by omega] at h2; revert h2; decide)
    have k71 : (((s[a]'hl).toNat : Int) == 71) = false := beq_eq_false_iff_ne.2 (fun h => by rw [show (s[a]'hl).toNat = 71 by omega] at h2; revert h2; decide)
    have k40 : (((s[a]'hl).toNat : Int) == 40) = false := beq_eq_false_iff_ne.2 (by omega)
    clear h1 h2 h3 hx
    go_enter Try.func77, Try.ntmps77
    go_wp2_with fail
    go_ret3
    exact Or.inl ⟨e1.out, rfl, (Below.refl F w).alloc (by omega) _⟩
  · clear h1 h2 h3
    go_enter Try.func77, Try.ntmps77
    go_wp2_with fail
    go_ret3
    exact Or.inl ⟨e1.out, rfl, Below.refl F w⟩

theorem rparse_any (F : Nat) (s : ByteArray) (hs : s.size ≤ 24) (k : Nat) : RparseAt k F s := by
  induction k with
  | zero => intro x a ns bs w hx hf hk ha hn; omega
  | succ k ih =>
    intro x a ns bs w hx hf hk ha hn
    subst hx
    by_cases h1 : leafB (bt s a) = true
    · exact rparse_leaf k F s hs a ns bs w hf hn h1
    rw [Bool.not_eq_true] at h1
    by_cases h2 : oneB (bt s a) = true
    · exact rparse_one k F s hs ih a ns bs w hf hk hn h2
    rw [Bool.not_eq_true] at h2
    by_cases h3 : bt s a = 40
    · cases e0 : ps k s (a + 1) ns with
      | none => exact rparse_two_none k F s hs ih a ns bs w hf hk hn h3 e0
      | some y =>
        obtain ⟨a1, n1⟩ := y
        cases b4 : twoB (bt s a1) with
        | false => exact rparse_two_noop k F s hs ih a ns bs w hf hk hn h3 a1 n1 e0 b4
        | true =>
          cases e3 : ps k s (a1 + 1) n1 with
          | none => exact rparse_two_none2 k F s hs ih a ns bs w hf hk hn h3 a1 n1 e0 b4 e3
          | some y =>
            obtain ⟨a2, n2⟩ := y
            by_cases b5 : bt s a2 = 41
            · exact rparse_two_yes k F s hs ih a ns bs w hf hk hn h3 a1 a2 n1 n2 e0 b4 e3 b5
            · by_cases hl : a2 < s.size
              · exact rparse_two_open k F s hs ih a ns bs w hf hk hn h3 a1 a2 n1 n2 e0 b4 e3 b5 hl
              · exact rparse_two_end k F s hs ih a ns bs w hf hk hn h3 a1 a2 n1 n2 e0 b4 e3 b5 hl
    · exact rparse_no k F s hs a ns bs w hf ha h1 h2 h3

end Go.Proofs.Ytjagijohfkffiaa
