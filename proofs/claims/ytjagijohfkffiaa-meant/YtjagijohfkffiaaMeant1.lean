/- The walk of verdictkeep's meant. -/
import Derived.Test.YtjagijohfkffiaaAt
namespace Go.Proofs.Ytjagijohfkffiaa
open Go.RowKit
set_option linter.unusedVariables false

set_option maxHeartbeats 400000 in
theorem meant_0 (gf gg n cf cg back : Nat) (X Z : Nat → Bool) (w : World) (hf : Rb w gf n X) (hg : Rb w gg n Z) (hn : 0 < n) (hn2 : n ≤ 80) (hb : back < n) (kf : n ≤ cf) (kg : n ≤ cg) :
    Calls Try.prog 26 #[.int .i64 0, .slice (some ⟨gf, 0, none⟩) n cf, .slice (some ⟨gg, 0, none⟩) n cg, .int .i64 back] w fun e w' => e = .returned (.bool (meantV 0 n back X Z)) ∧ w' = w := by
  have x0 := hf.cell 0 hn
  have z0 := hg.cell 0 hn
  have V : Hid (meantV 0 n back X Z = !X 0) := hid rfl
  generalize X 0 = x at *
  by_cases h1 : n = 1
  · have ke : ((1 : Int) == (n : Int)) = true := beq_iff_eq.2 (by omega)
    go_enter Try.func26, Try.ntmps26
    go_wp2_with fail
    go_ret
    exact ⟨by rw [V.out]; rfl, rfl⟩
  · have ke : ((1 : Int) == (n : Int)) = false := beq_eq_false_iff_ne.2 (by omega)
    go_enter Try.func26, Try.ntmps26
    go_wp2_with fail
    go_ret
    exact ⟨by rw [V.out]; rfl, rfl⟩

set_option maxHeartbeats 400000 in
theorem meant_1 (gf gg n cf cg back : Nat) (X Z : Nat → Bool) (w : World) (hf : Rb w gf n X) (hg : Rb w gg n Z) (hn : 0 < n) (hn2 : n ≤ 80) (hb : back < n) (kf : n ≤ cf) (kg : n ≤ cg) :
    Calls Try.prog 26 #[.int .i64 1, .slice (some ⟨gf, 0, none⟩) n cf, .slice (some ⟨gg, 0, none⟩) n cg, .int .i64 back] w fun e w' => e = .returned (.bool (meantV 1 n back X Z)) ∧ w' = w := by
  by_cases h1 : n = 1
  · have V : Hid (meantV 1 n back X Z = X back) := hid (by simp [meantV, h1])
    have ke : ((1 : Int) == (n : Int)) = true := beq_iff_eq.2 (by omega)
    have xb := hf.cell back hb
    generalize X back = x at *
    go_enter Try.func26, Try.ntmps26
    go_wp2_with fail
    go_ret
    exact ⟨by rw [V.out]; rfl, rfl⟩
  · have V : Hid (meantV 1 n back X Z = X 1) := hid (by simp [meantV]; rw [if_neg (by omega)])
    have ke : ((1 : Int) == (n : Int)) = false := beq_eq_false_iff_ne.2 (by omega)
    have h2 : 1 < n := by omega
    have xb := hf.cell 1 h2
    generalize X 1 = x at *
    go_enter Try.func26, Try.ntmps26
    go_wp2_with fail
    go_ret
    exact ⟨by rw [V.out]; rfl, rfl⟩

set_option maxHeartbeats 400000 in
theorem meant_4 (gf gg n cf cg back : Nat) (X Z : Nat → Bool) (w : World) (hf : Rb w gf n X) (hg : Rb w gg n Z) (hn : 0 < n) (hn2 : n ≤ 80) (hb : back < n) (kf : n ≤ cf) (kg : n ≤ cg) :
    Calls Try.prog 26 #[.int .i64 4, .slice (some ⟨gf, 0, none⟩) n cf, .slice (some ⟨gg, 0, none⟩) n cg, .int .i64 back] w fun e w' => e = .returned (.bool (meantV 4 n back X Z)) ∧ w' = w := by
  have x0 := hf.cell 0 hn
  have z0 := hg.cell 0 hn
  have V : Hid (meantV 4 n back X Z = (X 0 && Z 0)) := hid rfl
  generalize X 0 = x at *
  generalize Z 0 = z at *
  by_cases h1 : n = 1
  · have ke : ((1 : Int) == (n : Int)) = true := beq_iff_eq.2 (by omega)
    cases x <;> cases z
    all_goals
      go_enter Try.func26, Try.ntmps26
      go_wp2_with fail
      go_ret
      exact ⟨by rw [V.out]; rfl, rfl⟩
  · have ke : ((1 : Int) == (n : Int)) = false := beq_eq_false_iff_ne.2 (by omega)
    cases x <;> cases z
    all_goals
      go_enter Try.func26, Try.ntmps26
      go_wp2_with fail
      go_ret
      exact ⟨by rw [V.out]; rfl, rfl⟩

set_option maxHeartbeats 400000 in
theorem meant_5 (gf gg n cf cg back : Nat) (X Z : Nat → Bool) (w : World) (hf : Rb w gf n X) (hg : Rb w gg n Z) (hn : 0 < n) (hn2 : n ≤ 80) (hb : back < n) (kf : n ≤ cf) (kg : n ≤ cg) :
    Calls Try.prog 26 #[.int .i64 5, .slice (some ⟨gf, 0, none⟩) n cf, .slice (some ⟨gg, 0, none⟩) n cg, .int .i64 back] w fun e w' => e = .returned (.bool (meantV 5 n back X Z)) ∧ w' = w := by
  have x0 := hf.cell 0 hn
  have z0 := hg.cell 0 hn
  have V : Hid (meantV 5 n back X Z = (X 0 || Z 0)) := hid rfl
  generalize X 0 = x at *
  generalize Z 0 = z at *
  by_cases h1 : n = 1
  · have ke : ((1 : Int) == (n : Int)) = true := beq_iff_eq.2 (by omega)
    cases x <;> cases z
    all_goals
      go_enter Try.func26, Try.ntmps26
      go_wp2_with fail
      go_ret
      exact ⟨by rw [V.out]; rfl, rfl⟩
  · have ke : ((1 : Int) == (n : Int)) = false := beq_eq_false_iff_ne.2 (by omega)
    cases x <;> cases z
    all_goals
      go_enter Try.func26, Try.ntmps26
      go_wp2_with fail
      go_ret
      exact ⟨by rw [V.out]; rfl, rfl⟩

set_option maxHeartbeats 1600000 in
set_option maxRecDepth 100000 in
theorem meant_2 (gf gg n cf cg back : Nat) (X Z : Nat → Bool) (w : World) (hf : Rb w gf n X) (hg : Rb w gg n Z) (hn : 0 < n) (hn2 : n ≤ 80) (hb : back < n) (kf : n ≤ cf) (kg : n ≤ cg) :
    Calls Try.prog 26 #[.int .i64 2, .slice (some ⟨gf, 0, none⟩) n cf, .slice (some ⟨gg, 0, none⟩) n cg, .int .i64 back] w fun e w' => e = .returned (.bool (meantV 2 n back X Z)) ∧ w' = w := by
  obtain ⟨V, hV⟩ : ∃ V, V = meantV 2 n back X Z := ⟨_, rfl⟩
  rw [← hV]
  have HV : Hid (V = anyTo X n) := hid hV
  clear hV
  obtain ⟨nb, hnb⟩ : ∃ nb : Bool, ((1 : Int) == (n : Int)) = nb := ⟨_, rfl⟩
  cases nb
  all_goals
    go_enter Try.func26, Try.ntmps26
    go_wp2_with fail
    go_loop [10, 11, 12, 13, 14] (fun sm ev up fr i => ∃ j : Nat, j ≤ n ∧ sm = .bool (anyTo X j) ∧ ev = .bool true ∧ up = .bool true ∧ fr = .bool false ∧ i = .int .i64 j) (fun _ _ _ _ i => n - (intOf i).toNat)
    case atStart => exact ⟨0, Nat.zero_le _, rfl, rfl, rfl, rfl, rfl⟩
    case round =>
      obtain ⟨j, hj, rfl, rfl, rfl, rfl, rfl⟩ := hrel
      by_cases hlt : j < n
      · have c := hf.cell j hlt
        have c2 := hg.cell j hlt
        have D0 : Hid (anyTo X (j + 1) = (anyTo X j || X j)) := hid rfl
        generalize X j = x at *
        generalize Z j = z at *
        generalize anyTo X j = p0 at *
        cases x <;> cases p0
        all_goals
          go_wp2_with fail
          go_round
          case rel => exact ⟨j + 1, by omega, by rw [D0.out]; rfl, rfl, rfl, rfl, by go_num⟩
          case measure => simp [intOf]; omega
      · have hj2 : n = j := by omega
        subst hj2
        go_wp2_with fail
        go_ret
        exact ⟨by rw [HV.out]; rfl, rfl⟩

set_option maxHeartbeats 1600000 in
set_option maxRecDepth 100000 in
theorem meant_3 (gf gg n cf cg back : Nat) (X Z : Nat → Bool) (w : World) (hf : Rb w gf n X) (hg : Rb w gg n Z) (hn : 0 < n) (hn2 : n ≤ 80) (hb : back < n) (kf : n ≤ cf) (kg : n ≤ cg) :
    Calls Try.prog 26 #[.int .i64 3, .slice (some ⟨gf, 0, none⟩) n cf, .slice (some ⟨gg, 0, none⟩) n cg, .int .i64 back] w fun e w' => e = .returned (.bool (meantV 3 n back X Z)) ∧ w' = w := by
  obtain ⟨V, hV⟩ : ∃ V, V = meantV 3 n back X Z := ⟨_, rfl⟩
  rw [← hV]
  have HV : Hid (V = allTo X n) := hid hV
  clear hV
  obtain ⟨nb, hnb⟩ : ∃ nb : Bool, ((1 : Int) == (n : Int)) = nb := ⟨_, rfl⟩
  cases nb
  all_goals
    go_enter Try.func26, Try.ntmps26
    go_wp2_with fail
    go_loop [10, 11, 12, 13, 14] (fun sm ev up fr i => ∃ j : Nat, j ≤ n ∧ sm = .bool false ∧ ev = .bool (allTo X j) ∧ up = .bool true ∧ fr = .bool false ∧ i = .int .i64 j) (fun _ _ _ _ i => n - (intOf i).toNat)
    case atStart => exact ⟨0, Nat.zero_le _, rfl, rfl, rfl, rfl, rfl⟩
    case round =>
      obtain ⟨j, hj, rfl, rfl, rfl, rfl, rfl⟩ := hrel
      by_cases hlt : j < n
      · have c := hf.cell j hlt
        have c2 := hg.cell j hlt
        have D0 : Hid (allTo X (j + 1) = (allTo X j && X j)) := hid rfl
        generalize X j = x at *
        generalize Z j = z at *
        generalize allTo X j = p0 at *
        cases x <;> cases p0
        all_goals
          go_wp2_with fail
          go_round
          case rel => exact ⟨j + 1, by omega, rfl, by rw [D0.out]; rfl, rfl, rfl, by go_num⟩
          case measure => simp [intOf]; omega
      · have hj2 : n = j := by omega
        subst hj2
        go_wp2_with fail
        go_ret
        exact ⟨by rw [HV.out]; rfl, rfl⟩

set_option maxHeartbeats 1600000 in
set_option maxRecDepth 100000 in
theorem meant_6 (gf gg n cf cg back : Nat) (X Z : Nat → Bool) (w : World) (hf : Rb w gf n X) (hg : Rb w gg n Z) (hn : 0 < n) (hn2 : n ≤ 80) (hb : back < n) (kf : n ≤ cf) (kg : n ≤ cg) :
    Calls Try.prog 26 #[.int .i64 6, .slice (some ⟨gf, 0, none⟩) n cf, .slice (some ⟨gg, 0, none⟩) n cg, .int .i64 back] w fun e w' => e = .returned (.bool (meantV 6 n back X Z)) ∧ w' = w := by
  obtain ⟨V, hV⟩ : ∃ V, V = meantV 6 n back X Z := ⟨_, rfl⟩
  rw [← hV]
  have HV : Hid (V = untTo X Z n) := hid hV
  clear hV
  obtain ⟨nb, hnb⟩ : ∃ nb : Bool, ((1 : Int) == (n : Int)) = nb := ⟨_, rfl⟩
  cases nb
  all_goals
    go_enter Try.func26, Try.ntmps26
    go_wp2_with fail
    go_loop [10, 11, 12, 13, 14] (fun sm ev up fr i => ∃ j : Nat, j ≤ n ∧ sm = .bool (untTo X Z j) ∧ ev = .bool true ∧ up = .bool (allTo X j) ∧ fr = .bool false ∧ i = .int .i64 j) (fun _ _ _ _ i => n - (intOf i).toNat)
    case atStart => exact ⟨0, Nat.zero_le _, rfl, rfl, rfl, rfl, rfl⟩
    case round =>
      obtain ⟨j, hj, rfl, rfl, rfl, rfl, rfl⟩ := hrel
      by_cases hlt : j < n
      · have c := hf.cell j hlt
        have c2 := hg.cell j hlt
        have D0 : Hid (untTo X Z (j + 1) = (untTo X Z j || (allTo X j && Z j))) := hid rfl
        have D1 : Hid (allTo X (j + 1) = (allTo X j && X j)) := hid rfl
        generalize X j = x at *
        generalize Z j = z at *
        generalize untTo X Z j = p0 at *
        generalize allTo X j = p1 at *
        cases x <;> cases z <;> cases p0 <;> cases p1
        all_goals
          go_wp2_with fail
          go_round
          case rel => exact ⟨j + 1, by omega, by rw [D0.out]; rfl, rfl, by rw [D1.out]; rfl, rfl, by go_num⟩
          case measure => simp [intOf]; omega
      · have hj2 : n = j := by omega
        subst hj2
        go_wp2_with fail
        go_ret
        exact ⟨by rw [HV.out]; rfl, rfl⟩

set_option maxHeartbeats 1600000 in
set_option maxRecDepth 100000 in
theorem meant_7 (gf gg n cf cg back : Nat) (X Z : Nat → Bool) (w : World) (hf : Rb w gf n X) (hg : Rb w gg n Z) (hn : 0 < n) (hn2 : n ≤ 80) (hb : back < n) (kf : n ≤ cf) (kg : n ≤ cg) :
    Calls Try.prog 26 #[.int .i64 7, .slice (some ⟨gf, 0, none⟩) n cf, .slice (some ⟨gg, 0, none⟩) n cg, .int .i64 back] w fun e w' => e = .returned (.bool (meantV 7 n back X Z)) ∧ w' = w := by
  obtain ⟨V, hV⟩ : ∃ V, V = meantV 7 n back X Z := ⟨_, rfl⟩
  rw [← hV]
  have HV : Hid (V = relTo X Z n) := hid hV
  clear hV
  obtain ⟨nb, hnb⟩ : ∃ nb : Bool, ((1 : Int) == (n : Int)) = nb := ⟨_, rfl⟩
  cases nb
  all_goals
    go_enter Try.func26, Try.ntmps26
    go_wp2_with fail
    go_loop [10, 11, 12, 13, 14] (fun sm ev up fr i => ∃ j : Nat, j ≤ n ∧ sm = .bool false ∧ ev = .bool (relTo X Z j) ∧ up = .bool true ∧ fr = .bool (anyTo X j) ∧ i = .int .i64 j) (fun _ _ _ _ i => n - (intOf i).toNat)
    case atStart => exact ⟨0, Nat.zero_le _, rfl, rfl, rfl, rfl, rfl⟩
    case round =>
      obtain ⟨j, hj, rfl, rfl, rfl, rfl, rfl⟩ := hrel
      by_cases hlt : j < n
      · have c := hf.cell j hlt
        have c2 := hg.cell j hlt
        have D0 : Hid (relTo X Z (j + 1) = (relTo X Z j && (anyTo X j || Z j))) := hid rfl
        have D1 : Hid (anyTo X (j + 1) = (anyTo X j || X j)) := hid rfl
        generalize X j = x at *
        generalize Z j = z at *
        generalize relTo X Z j = p0 at *
        generalize anyTo X j = p1 at *
        cases x <;> cases z <;> cases p0 <;> cases p1
        all_goals
          go_wp2_with fail
          go_round
          case rel => exact ⟨j + 1, by omega, rfl, by rw [D0.out]; rfl, rfl, by rw [D1.out]; rfl, by go_num⟩
          case measure => simp [intOf]; omega
      · have hj2 : n = j := by omega
        subst hj2
        go_wp2_with fail
        go_ret
        exact ⟨by rw [HV.out]; rfl, rfl⟩

theorem meant_any (k : Nat) (hk : k < 8) (gf gg n cf cg back : Nat) (X Z : Nat → Bool) (w : World) (hf : Rb w gf n X) (hg : Rb w gg n Z) (hn : 0 < n) (hn2 : n ≤ 80) (hb : back < n) (kf : n ≤ cf) (kg : n ≤ cg) :
    Calls Try.prog 26 #[.int .i64 k, .slice (some ⟨gf, 0, none⟩) n cf, .slice (some ⟨gg, 0, none⟩) n cg, .int .i64 back] w fun e w' => e = .returned (.bool (meantV k n back X Z)) ∧ w' = w := by
  have cases8 : k = 0 ∨ k = 1 ∨ k = 2 ∨ k = 3 ∨ k = 4 ∨ k = 5 ∨ k = 6 ∨ k = 7 := by omega
  rcases cases8 with rfl | rfl | rfl | rfl | rfl | rfl | rfl | rfl
  · exact meant_0 gf gg n cf cg back X Z w hf hg hn hn2 hb kf kg
  · exact meant_1 gf gg n cf cg back X Z w hf hg hn hn2 hb kf kg
  · exact meant_2 gf gg n cf cg back X Z w hf hg hn hn2 hb kf kg
  · exact meant_3 gf gg n cf cg back X Z w hf hg hn hn2 hb kf kg
  · exact meant_4 gf gg n cf cg back X Z w hf hg hn hn2 hb kf kg
  · exact meant_5 gf gg n cf cg back X Z w hf hg hn hn2 hb kf kg
  · exact meant_6 gf gg n cf cg back X Z w hf hg hn hn2 hb kf kg
  · exact meant_7 gf gg n cf cg back X Z w hf hg hn hn2 hb kf kg

end Go.Proofs.Ytjagijohfkffiaa
