/- The walk of verdictkeep's composed; what the composed text is. -/
import Derived.Test.YtjagijohfkffiaaMeant1
import Derived.WalkLawsBesides
namespace Go.Proofs.Ytjagijohfkffiaa
open Go.RowKit
set_option linter.unusedVariables false

def opsB : ByteArray := ⟨#[33, 88, 70, 71, 38, 124, 85, 82]⟩
/-- The sign alone. -/
def sgn (k : Nat) : ByteArray := opsB.extract k (k + 1)
def compT (k : Nat) (f g : ByteArray) : ByteArray := if k < 4 then sgn k ++ f else (⟨#[40]⟩ : ByteArray) ++ f ++ sgn k ++ g ++ (⟨#[41]⟩ : ByteArray)
def compN (k n m : Nat) : Nat := if k < 4 then n + 1 else n + m + 1

theorem bt_list (s : ByteArray) (i : Nat) : bt s i = (s.data.toList.getD i 0).toNat := by
  by_cases h : i < s.size
  · rw [bt_in h]
    have h2 : i < s.data.toList.length := by simpa using h
    rw [List.getD, List.getElem?_eq_getElem h2]
    simp
    rfl
  · rw [bt_out h]
    have h2 : s.data.toList.length ≤ i := by simpa using h
    rw [List.getD, List.getElem?_eq_none h2]
    rfl
theorem app_list (x y : ByteArray) : (x ++ y).data.toList = x.data.toList ++ y.data.toList := by simp
theorem size_list (x : ByteArray) : x.size = x.data.toList.length := by simp

theorem sgn_list (k : Nat) (hk : k < 8) : ∃ b : UInt8, (sgn k).data.toList = [b] ∧ b.toNat = opOf k := by
  have cases8 : k = 0 ∨ k = 1 ∨ k = 2 ∨ k = 3 ∨ k = 4 ∨ k = 5 ∨ k = 6 ∨ k = 7 := by omega
  rcases cases8 with rfl | rfl | rfl | rfl | rfl | rfl | rfl | rfl
  · exact ⟨33, by decide +kernel, by decide⟩
  · exact ⟨88, by decide +kernel, by decide⟩
  · exact ⟨70, by decide +kernel, by decide⟩
  · exact ⟨71, by decide +kernel, by decide⟩
  · exact ⟨38, by decide +kernel, by decide⟩
  · exact ⟨124, by decide +kernel, by decide⟩
  · exact ⟨85, by decide +kernel, by decide⟩
  · exact ⟨82, by decide +kernel, by decide⟩

theorem comp_one {k : Nat} (hk : k < 4) (f g : ByteArray) : (compT k f g).size = f.size + 1 ∧ bt (compT k f g) 0 = opOf k ∧ ∀ i, i < f.size → bt (compT k f g) (i + 1) = bt f i := by
  obtain ⟨b, h1, h2⟩ := sgn_list k (by omega)
  have e : (compT k f g).data.toList = b :: f.data.toList := by
    unfold compT
    rw [if_pos hk, app_list, h1]; rfl
  refine ⟨by rw [size_list, e, size_list f]; rfl, by rw [bt_list, e]; simpa using h2, fun i hi => ?_⟩
  rw [bt_list, bt_list, e]
  simp

theorem comp_two {k : Nat} (hk : ¬ k < 4) (hk2 : k < 8) (f g : ByteArray) : (compT k f g).size = f.size + g.size + 3 ∧ bt (compT k f g) 0 = 40 ∧ (∀ i, i < f.size → bt (compT k f g) (i + 1) = bt f i) ∧ bt (compT k f g) (f.size + 1) = opOf k ∧
    (∀ i, i < g.size → bt (compT k f g) (i + (f.size + 2)) = bt g i) ∧ bt (compT k f g) (f.size + g.size + 2) = 41 := by
  obtain ⟨b, h1, h2⟩ := sgn_list k hk2
  have e : (compT k f g).data.toList = 40 :: (f.data.toList ++ (b :: (g.data.toList ++ [41]))) := by
    unfold compT
    rw [if_neg hk, app_list, app_list, app_list, app_list, h1]; simp
  have lf := size_list f
  have lg := size_list g
  refine ⟨?_, ?_, ?_, ?_, ?_, ?_⟩
  · rw [size_list, e, lf, lg]; simp; omega
  · rw [bt_list, e]; rfl
  · intro i hi
    rw [bt_list, bt_list, e, List.getD, List.getD, List.getElem?_cons_succ, List.getElem?_append_left (by omega)]
  · rw [bt_list, e, List.getD, List.getElem?_cons_succ, List.getElem?_append_right (by omega), lf, Nat.sub_self]
    exact h2
  · intro i hi
    rw [bt_list, bt_list, e, List.getD, List.getD, show i + (f.size + 2) = (i + f.size + 1) + 1 by omega, List.getElem?_cons_succ, List.getElem?_append_right (by omega), show i + f.size + 1 - f.data.toList.length = i + 1 by omega, List.getElem?_cons_succ, List.getElem?_append_left (by omega)]
  · rw [bt_list, e, List.getD, show f.size + g.size + 2 = (f.size + g.size + 1) + 1 by omega, List.getElem?_cons_succ, List.getElem?_append_right (by omega), show f.size + g.size + 1 - f.data.toList.length = g.size + 1 by omega, List.getElem?_cons_succ, List.getElem?_append_right (by omega), show g.size - g.data.toList.length = 0 by omega]
    rfl

theorem op_one {k : Nat} (hk : k < 4) : oneB (opOf k) = true := by
  have cases4 : k = 0 ∨ k = 1 ∨ k = 2 ∨ k = 3 := by omega
  rcases cases4 with rfl | rfl | rfl | rfl <;> decide
theorem op_two {k : Nat} (hk : ¬ k < 4) (hk2 : k < 8) : twoB (opOf k) = true := by
  have cases4 : k = 4 ∨ k = 5 ∨ k = 6 ∨ k = 7 := by omega
  rcases cases4 with rfl | rfl | rfl | rfl <;> decide

/-- What the composed text is, read. -/
theorem comp_parse {k : Nat} (hk : k < 8) {f g : ByteArray} (hf : (parseOf f).1 = 0) (hg : (parseOf g).1 = 0) :
    (24 < (compT k f g).size → parseOf (compT k f g) = (1, [])) ∧
    (¬ 24 < (compT k f g).size → 8 < compN k (parseOf f).2.length (parseOf g).2.length → parseOf (compT k f g) = (3, [])) ∧
    (¬ 24 < (compT k f g).size → ¬ 8 < compN k (parseOf f).2.length (parseOf g).2.length → (parseOf (compT k f g)).1 = 0 ∧ (parseOf (compT k f g)).2.length = compN k (parseOf f).2.length (parseOf g).2.length ∧
      ∀ lt, sem (fun i => i + 1) lt (parseOf (compT k f g)).2 ((parseOf (compT k f g)).2.length - 1) 0 ↔ Comp (opOf k) (sem (fun i => i + 1) lt (parseOf f).2 ((parseOf f).2.length - 1)) (sem (fun i => i + 1) lt (parseOf g).2 ((parseOf g).2.length - 1))) := by
  have gf := parse_good hf
  have gg := parse_good hg
  refine ⟨fun h => by unfold parseOf; rw [if_pos h], ?_, ?_⟩
  · intro hs h8
    unfold compN at h8
    by_cases h4 : k < 4
    · obtain ⟨s1, s2, s3⟩ := comp_one h4 f g
      rw [if_pos h4] at h8
      rw [parse_one (op_one h4) hf s1 s2 s3 hs, if_pos h8]
    · obtain ⟨s1, s2, s3, s4, s5, s6⟩ := comp_two h4 hk f g
      rw [if_neg h4] at h8
      rw [parse_two (op_two h4 hk) hf hg s1 s2 s3 s4 s5 s6 hs, if_pos h8]
  · intro hs h8
    unfold compN at h8 ⊢
    by_cases h4 : k < 4
    · obtain ⟨s1, s2, s3⟩ := comp_one h4 f g
      rw [if_pos h4] at h8 ⊢
      rw [parse_one (op_one h4) hf s1 s2 s3 hs, if_neg h8]
      refine ⟨rfl, by simp, fun lt => ?_⟩
      have h := sem_one (lt := lt) (nf := (parseOf f).2) (op_one h4) (sem (fun i => i + 1) lt (parseOf g).2 ((parseOf g).2.length - 1))
      simpa using h
    · obtain ⟨s1, s2, s3, s4, s5, s6⟩ := comp_two h4 hk f g
      rw [if_neg h4] at h8 ⊢
      rw [parse_two (op_two h4 hk) hf hg s1 s2 s3 s4 s5 s6 hs, if_neg h8]
      refine ⟨rfl, by simp; omega, fun lt => ?_⟩
      have h := sem_two (lt := lt) (op_two h4 hk) gf.pos gg.wf gg.pos
      dsimp only
      rw [List.length_append, List.length_append, List.length_map, List.length_singleton, Nat.add_sub_cancel]
      exact h

set_option maxHeartbeats 400000 in
set_option maxRecDepth 100000 in
theorem composed_any (k : Nat) (hk : k < 8) (f g : ByteArray) (n m : Nat) (w : World) (hf : f.size ≤ 24) (hg : g.size ≤ 24) (hn : n ≤ 8) (hm : m ≤ 8) :
    Calls Try.prog 24 #[.int .i64 k, .string f, .string g, .int .i64 n, .int .i64 m] w fun e w' => e = .returned (.tuple #[.string (compT k f g), .int .i64 (compN k n m : Nat)]) ∧ w' = w := by
  have cases8 : k = 0 ∨ k = 1 ∨ k = 2 ∨ k = 3 ∨ k = 4 ∨ k = 5 ∨ k = 6 ∨ k = 7 := by omega
  rcases cases8 with rfl | rfl | rfl | rfl | rfl | rfl | rfl | rfl
  all_goals
    go_enter Try.func24, Try.ntmps24
    go_wp2
    go_ret2
    exact ⟨rfl, rfl⟩

end Go.Proofs.Ytjagijohfkffiaa
