/- The walks of the reference's Formulate and Size. -/
import Derived.Test.YtjagijohfkffiaaRefSize
namespace Go.Proofs.Ytjagijohfkffiaa
open Go.RowKit
set_option linter.unusedVariables false

def Formulated (s : ByteArray) (w : World) (e : Ending) (w' : World) : Prop :=
  Below w.heap.size w w' ∧
  (((parseOf s).1 ≠ 0 ∧ e = .returned (.tuple #[.pointer none, .int .i64 (parseOf s).1])) ∨
   ((parseOf s).1 = 0 ∧ ∃ bs, e = .returned (.tuple #[.pointer (some ⟨w.heap.size, 0, none⟩), .int .i64 0]) ∧ Fm w' w.heap.size (parseOf s).2 bs))

theorem fm_new (w : World) : Fm (w.alloc (.cells #[.slice none 0 0] 67)) w.heap.size [] [] :=
  ⟨⟨none, 0, by simp, World.ownsRow_nil _ _ _ _⟩, by simp, rfl, wf_nil, by intro i n h; simp at h⟩

set_option maxHeartbeats 400000 in
theorem formulate_long (s : ByteArray) (w : World) (hm : s.size ≤ maxLen) (h : 24 < s.size) : Calls Try.prog 48 #[.string s] w (Formulated s w) := by
  unfold maxLen at hm
  have P : Hid (parseOf s = (1, [])) := hid (by simp [parseOf, h])
  go_enter Try.func48, Try.ntmps48
  go_wp2_with fail
  go_ret2
  unfold Formulated
  rw [P.out]
  exact ⟨Below.refl _ _, Or.inl ⟨by decide, rfl⟩⟩

set_option maxHeartbeats 400000 in
theorem formulate_none (s : ByteArray) (w : World) (h : ¬ 24 < s.size) (e0 : ps 25 s 0 [] = none) : Calls Try.prog 48 #[.string s] w (Formulated s w) := by
  have C := rparse_any w.heap.size s (by omega) 25 0 0 [] [] _ (by omega) (fm_new w) (by omega) (by omega) (by simp)
  have P : Hid (parseOf s = (2, [])) := hid (by simp [parseOf, h, e0])
  have E0 := hid e0
  clear e0
  go_enter Try.func48, Try.ntmps48
  go_wp2_with fail
  refine C.mono ?_
  rintro e w1 (⟨_, rfl, hb⟩ | ⟨a', ns', _, _, h, _⟩)
  · go_wp2_with fail
    go_ret2
    unfold Formulated
    rw [P.out]
    exact ⟨((Below.refl _ _).alloc (Nat.le_refl _) _).trans hb, Or.inl ⟨by decide, rfl⟩⟩
  · rw [E0.out] at h; cases h

set_option maxHeartbeats 400000 in
theorem formulate_rest (s : ByteArray) (w : World) (h : ¬ 24 < s.size) (a : Nat) (ns : List Nd) (e0 : ps 25 s 0 [] = some (a, ns)) (h1 : ¬ a = s.size) : Calls Try.prog 48 #[.string s] w (Formulated s w) := by
  have C := rparse_any w.heap.size s (by omega) 25 0 0 [] [] _ (by omega) (fm_new w) (by omega) (by omega) (by simp)
  have P : Hid (parseOf s = (2, [])) := hid (by simp [parseOf, h, e0, h1])
  have g := ps_grows 25 s 0 [] a ns e0
  have E0 := hid e0
  have h3 : ((a : Int) != (s.size : Int)) = true := by rw [bne_iff_ne]; omega
  clear e0
  go_enter Try.func48, Try.ntmps48
  go_wp2_with fail
  refine C.mono ?_
  rintro e w1 (⟨h, _⟩ | ⟨a', ns', ext, L, h, rfl, hf1, hL, hext, hb, hkp⟩)
  · rw [E0.out] at h; cases h
  rw [E0.out] at h
  simp only [Option.some.injEq, Prod.mk.injEq] at h
  obtain ⟨rfl, rfl⟩ := h
  go_wp2_with fail
  go_ret2
  unfold Formulated
  rw [P.out]
  exact ⟨((Below.refl _ _).alloc (Nat.le_refl _) _).trans hb, Or.inl ⟨by decide, rfl⟩⟩

set_option maxHeartbeats 800000 in
theorem formulate_whole (s : ByteArray) (w : World) (h : ¬ 24 < s.size) (ns : List Nd) (e0 : ps 25 s 0 [] = some (s.size, ns)) : Calls Try.prog 48 #[.string s] w (Formulated s w) := by
  have C := rparse_any w.heap.size s (by omega) 25 0 0 [] [] _ (by omega) (fm_new w) (by omega) (by omega) (by simp)
  have g := ps_grows 25 s 0 [] s.size ns e0
  have hc : cntTo s s.size = ns.length := by have := ps_cnt 25 s 0 [] s.size ns e0; simp [cntTo] at this; omega
  have P3 : Hid (8 < ns.length → parseOf s = (3, [])) := hid (fun h2 => by simp [parseOf, h, e0, h2])
  have P0 : Hid (¬ 8 < ns.length → parseOf s = (0, ns)) := hid (fun h2 => by simp [parseOf, h, e0, h2])
  have E0 := hid e0
  have HC := hid hc
  clear e0 hc
  go_enter Try.func48, Try.ntmps48
  go_wp2_with fail
  refine C.mono ?_
  rintro e w1 (⟨h, _⟩ | ⟨a', ns', ext, L, h, rfl, hf1, hL, hext, hb, hkp⟩)
  · rw [E0.out] at h; cases h
  rw [E0.out] at h
  simp only [Option.some.injEq, Prod.mk.injEq] at h
  obtain ⟨rfl, rfl⟩ := h
  have HB := hid (((Below.refl w.heap.size w).alloc (Nat.le_refl _) _).trans hb)
  have HF := hid hf1
  have hnl : ns.length ≤ 24 := by simp at g; omega
  clear hb hf1 hL hext hkp C g
  go_wp2_with fail
  go_loop [8, 9] (fun n i => ∃ k : Nat, k ≤ s.size ∧ i = .int .i64 k ∧ n = .int .i64 (cntTo s k)) (fun _ i => s.size - (intOf i).toNat)
  case atStart => exact ⟨0, Nat.zero_le _, rfl, rfl⟩
  case round =>
    obtain ⟨k, hk, rfl, rfl⟩ := hrel
    have hd := cntTo_le s k
    by_cases hlt : k < s.size
    · have hx := bt_in hlt
      by_cases h40 : bt s k = 40
      · have k1 : (((s[k]'hlt).toNat : Int) != 40) = false := by rw [bne_eq_false_iff_eq]; omega
        have HS := hid (cnt_out (s := s) (k := k) (Or.inl h40))
        clear h40 hx
        go_wp2_with fail
        go_round
        case rel => exact ⟨k + 1, by omega, by go_num, by rw [HS.out]⟩
        case measure => simp [intOf]; omega
      by_cases h41 : bt s k = 41
      · have k1 : (((s[k]'hlt).toNat : Int) != 40) = true := by rw [bne_iff_ne]; omega
        have k2 : (((s[k]'hlt).toNat : Int) != 41) = false := by rw [bne_eq_false_iff_eq]; omega
        have HS := hid (cnt_out (s := s) (k := k) (Or.inr h41))
        clear h40 h41 hx
        go_wp2_with fail
        go_round
        case rel => exact ⟨k + 1, by omega, by go_num, by rw [HS.out]⟩
        case measure => simp [intOf]; omega
      have k1 : (((s[k]'hlt).toNat : Int) != 40) = true := by rw [bne_iff_ne]; omega
      have k2 : (((s[k]'hlt).toNat : Int) != 41) = true := by rw [bne_iff_ne]; omega
      have HS := hid (cnt_in (s := s) (k := k) h40 h41)
      clear h40 h41 hx
      go_wp2_with fail
      go_round
      case rel => exact ⟨k + 1, by omega, by go_num, by rw [HS.out]; go_num⟩
      case measure => simp [intOf]; omega
    · have hk2 : k = s.size := by omega
      subst hk2
      by_cases h8 : 8 < ns.length
      · have h9 : 8 < cntTo s s.size := by rw [HC.out]; exact h8
        go_wp2_with fail
        go_ret2
        unfold Formulated
        rw [P3.out h8]
        exact ⟨HB.out, Or.inl ⟨by decide, rfl⟩⟩
      · have h9 : ¬ 8 < cntTo s s.size := by rw [HC.out]; exact h8
        go_wp2_with fail
        go_ret2
        unfold Formulated
        rw [P0.out h8]
        exact ⟨HB.out, Or.inr ⟨rfl, _, rfl, HF.out⟩⟩

theorem formulate_any (s : ByteArray) (w : World) (hm : s.size ≤ maxLen) : Calls Try.prog 48 #[.string s] w (Formulated s w) := by
  by_cases h : 24 < s.size
  · exact formulate_long s w hm h
  cases e0 : ps 25 s 0 [] with
  | none => exact formulate_none s w h e0
  | some x =>
    obtain ⟨a, ns⟩ := x
    by_cases h1 : a = s.size
    · subst h1; exact formulate_whole s w h ns e0
    · exact formulate_rest s w h a ns e0 h1

set_option maxHeartbeats 400000 in
theorem rsize_any (s : ByteArray) (w : World) (hm : s.size ≤ maxLen) : Calls Try.prog 16 #[.string s] w fun e w' => e = .returned (.tuple #[.int .i64 (parseOf s).2.length, .int .i64 (parseOf s).1]) ∧ Below w.heap.size w w' := by
  have he : (parseOf s).1 ≠ 0 → (parseOf s).2 = [] := by
    unfold parseOf
    split
    · intro _; rfl
    · split
      · intro _; rfl
      · split
        · split
          · intro _; rfl
          · intro h; exact absurd rfl h
        · intro _; rfl
  have HE := hid he
  clear he
  generalize hp : parseOf s = p at *
  obtain ⟨er, ns⟩ := p
  have HP := hid hp
  clear hp
  by_cases h0 : er = 0
  · subst h0
    go_enter Try.func16, Try.ntmps16
    go_wp2_with fail
    refine (formulate_any s _ hm).mono ?_
    unfold Formulated
    rw [HP.out]
    rintro e w1 ⟨hb, ⟨h, _⟩ | ⟨_, bs, rfl, hf⟩⟩
    · exact absurd rfl h
    obtain ⟨ao, cap, c0, _⟩ := hf.c0
    go_wp2_with fail
    go_ret2
    exact ⟨rfl, hb⟩
  · have hz : ((er : Int) != 0) = true := by rw [bne_iff_ne]; omega
    go_enter Try.func16, Try.ntmps16
    go_wp2_with fail
    refine (formulate_any s _ hm).mono ?_
    unfold Formulated
    rw [HP.out]
    rintro e w1 ⟨hb, ⟨_, rfl⟩ | ⟨h, _⟩⟩
    · go_wp2_with fail
      go_ret2
      have this : ns = [] := HE.out h0
      subst this
      exact ⟨rfl, hb⟩
    · exact absurd h h0

end Go.Proofs.Ytjagijohfkffiaa
