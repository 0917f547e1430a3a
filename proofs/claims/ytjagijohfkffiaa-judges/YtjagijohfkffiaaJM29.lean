import Derived.Test.YtjagijohfkffiaaJM02
import Derived.Test.YtjagijohfkffiaaJM28

/- The walks of the reference's Formulate and Size. -/
namespace Go.Proofs.Ytjagijohfkffiaa
open Go.RowKit
set_option linter.unusedVariables false

def Formulated (s : ByteArray) (w : World) (e : Ending) (w' : World) : Prop :=
  Below w.heap.size w w' ∧
  (((parseOf s).1 ≠ 0 ∧ e = .returned (.tuple #[.pointer none, .int .i64 (parseOf s).1])) ∨
   ((parseOf s).1 = 0 ∧ ∃ bs, e = .returned (.tuple #[.pointer (some ⟨w.heap.size, 0, none⟩), .int .i64 0]) ∧ Fm w' w.heap.size (parseOf s).2 bs))

theorem fm_new (w : World) : Fm (w.alloc (.cells #[.slice none 0 0] 67)) w.heap.size [] [] :=
  ⟨⟨none, 0, by simp, World.ownsRow_nil _ _ _ _⟩, by simp, rfl, wf_nil, by intro i n h; simp at h⟩

set_option maxHeartbeats 400000 in
theorem formulate_long (s : ByteArray) (w : World) (hm : s.size ≤ maxLen) (h : 24 < s.size) : Calls Try.prog 48 #[.string s] w (Formulated s w) := by
  unfold maxLen at hm
  have P : Hid (parseOf s = (1, [])) := hid (by simp [parseOf, h])
  go_enter Try.func48, Try.ntmps48
  go_wp2_with fail
  go_ret2
  unfold Formulated
  rw [P.out]
  exact ⟨Below.refl _ _, Or.inl ⟨by decide, rfl⟩⟩

set_option maxHeartbeats 400000 in
theorem formulate_none (s : ByteArray) (w : World) (h : ¬ 24 < s.size) (e0 : ps 25 s 0 [] = none) : Calls Try.prog 48 #[.string s] w (Formulated s w) := by
  have C := rparse_any w.heap.size s (by omega) 25 0 0 [] [] _ (by omega) (fm_new w) (by omega) (by omega) (by simp)
  have P : Hid (parseOf s = (2, [])) := hid (by simp [parseOf, h, e0])
  have E0 := hid e0
  clear e0
  go_enter Try.func48, Try.ntmps48
  go_wp2_with fail
  refine C.mono ?_
  rintro e w1 (⟨_, rfl, hb⟩ | ⟨a', ns', _, _, h, _⟩)
  · go_wp2_with fail
    go_ret2
    unfold Formulated
    rw [P.out]
    exact ⟨((Below.refl _ _).alloc (Nat.le_refl _) _).trans hb, Or.inl ⟨by decide, rfl⟩⟩
  · rw [E0.out] at h; cases h

set_option maxHeartbeats 400000 in
theorem formulate_rest (s : ByteArray) (w : World) (h : ¬ 24 < s.size) (a : Nat) (ns : List Nd) (e0 : ps 25 s 0 [] = some (a, ns)) (h1 : ¬ a = s.size) : Calls Try.prog 48 #[.string s] w (Formulated s w) := by
  have C := rparse_any w.heap.size s (by omega) 25 0 0 [] [] _ (by omega) (fm_new w) (by omega) (by omega) (by simp)
  have P : Hid (parseOf s = (2, [])) := hid (by simp [parseOf, h, e0, h1])
  have g := ps_grows 25 s 0 [] a ns e0
  have E0 := hid e0
  have h3 : ((a : Int) != (s.size : Int)) = true := by rw [bne_iff_ne]; omega
  clear e0
  go_enter Try.func48, Try.ntmps48
  go_wp2_with fail
  refine C.mono ?_
  rintro e w1 (⟨h, _⟩ | ⟨a', ns', ext, L, h, rfl, hf1, hL, hext, hb, hkp⟩)
  · rw [E0.out] at h; cases h
  rw [E0.out] at h
  simp only [Option.some.injEq, Prod.mk.injEq] at h
  obtain ⟨rfl, rfl⟩ := h
  go_wp2_with fail
  go_ret2
  unfold Formulated
  rw [P.out]
  exact ⟨((Below.refl _ _).alloc (Nat.le_refl _) _).trans hb, Or.inl ⟨by decide, rfl⟩⟩

set_option maxHeartbeats 800000 in
theorem formulate_whole (s : ByteArray) (w : World) (h : ¬ 24 < s.size) (ns : List Nd) (e0 : ps 25 s 0 [] = some (s.size, ns)) : Calls Try.prog 48 #[.string s] w (Formulated s w) := by
  have C := rparse_any w.heap.size s (by omega) 25 0 0 [] [] _ (by omega) (fm_new w) (by omega) (by omega) (by simp)
  have g := ps_grows 25 s 0 [] s.size ns e0
  have hc : cntTo s s.size = ns.length := by have := ps_cnt 25 s 0 [] s.size ns e0; simp [cntTo] at this; omega
  have P3 : Hid (8 < ns.length → parseOf s = (3, [])) := hid (fun h2 => by simp [parseOf, h, e0, h2])
  have P0 : Hid (¬ 8 < ns.length → parseOf s = (0, ns)) := hid (fun h2 => by simp [parseOf, h, e0, h2])
  have E0 := hid e0
  have HC := hid hc
  clear e0 hc
  go_enter Try.func48, Try.ntmps48
  go_wp2_with fail
  refine C.mono ?_
  rintro e w1 (⟨h, _⟩ | ⟨a', ns', ext, L, h, rfl, hf1, hL, hext, hb, hkp⟩)
  · rw [E0.out] at h; cases h
  rw [E0.out] at h
  simp only [Option.some.injEq, Prod.mk.injEq] at h
  obtain ⟨rfl, rfl⟩ := h
  have HB := hid (((Below.refl w.heap.size w).alloc (Nat.le_refl _) _).trans hb)
  have HF := hid hf1
  have hnl : ns.length ≤ 24 := by simp at g; omega
  clear hb hf1 hL hext hkp C g
  go_wp2_with fail
  go_loop [8, 9] (fun n i => ∃ k : Nat, k ≤ s.size ∧ i = .int .i64 k ∧ n = .int .i64 (cntTo s k)) (fun _ i => s.size - (intOf i).toNat)
  case atStart => exact ⟨0, Nat.zero_le _, rfl, rfl⟩
  case round =>
    obtain ⟨k, hk, rfl, rfl⟩ := hrel
    have hd := cntTo_le s k
    by_cases hlt : k < s.size
    · have hx := bt_in hlt
      by_cases h40 : bt s k = 40
      · have k1 : (((s[k]'hlt).toNat : Int) != 40) = false := by rw [bne_eq_false_iff_eq]; omega
        have HS := hid (cnt_out (s := s) (k := k) (Or.inl h40))
        clear h40 hx
        go_wp2_with fail
        go_round
        case rel => exact ⟨k + 1, by omega, by go_num, by rw [HS.out]⟩
        case measure => simp [intOf]; omega
      by_cases h41 : bt s k = 41
      · have k1 : (((s[k]'hlt).toNat : Int) != 40) = true := by rw [bne_iff_ne]; omega
        have k2 : (((s[k]'hlt).toNat : Int) != 41) = false := by rw [bne_eq_false_iff_eq]; omega
        have HS := hid (cnt_out (s := s) (k := k) (Or.inr h41))
        clear h40 h41 hx
        go_wp2_with fail
        go_round
        case rel => exact ⟨k + 1, by omega, by go_num, by rw [HS.out]⟩
        case measure => simp [intOf]; omega
      have k1 : (((s[k]'hlt).toNat : Int) != 40) = true := by rw [bne_iff_ne]; omega
      have k2 : (((s[k]'hlt).toNat : Int) != 41) = true := by rw [bne_iff_ne]; omega
      have HS := hid (cnt_in (s := s) (k := k) h40 h41)
      clear h40 h41 hx
      go_wp2_with fail
      go_round
      case rel => exact ⟨k + 1, by omega, by go_num, by rw [HS.out]; go_num⟩
      case measure => simp [intOf]; omega
    · have hk2 : k = s.size := by omega
      subst hk2
      by_cases h8 : 8 < ns.length
      · have h9 : 8 < cntTo s s.size := by rw [HC.out]; exact h8
        go_wp2_with fail
        go_ret2
        unfold Formulated
        rw [P3.out h8]
        exact ⟨HB.out, Or.inl ⟨by decide, rfl⟩⟩
      · have h9 : ¬ 8 < cntTo s s.size := by rw [HC.out]; exact h8
        go_wp2_with fail
        go_ret2
        unfold Formulated
        rw [P0.out h8]
        exact ⟨HB.out, Or.inr ⟨rfl, _, rfl, HF.out⟩⟩

theorem formulate_any (s : ByteArray) (w : World) (hm : s.size ≤ maxLen) : Calls Try.prog 48 #[.string s] w (Formulated s w) := by
  by_cases h : 24 < s.size
  · exact formulate_long s w hm h
  cases e0 : ps 25 s 0 [] with
  | none => exact formulate_none s w h e0
  | some x =>
    obtain ⟨a, ns⟩ := x
    by_cases h1 : a = s.size
    · subst h1; exact formulate_whole s w h ns e0
    · exact formulate_rest s w h a ns e0 h1

set_option maxHeartbeats 400000 in
theorem rsize_any (s : ByteArray) (w : World) (hm : s.size ≤ maxLen) : Calls Try.prog 16 #[.string s] w fun e w' => e = .returned (.tuple #[.int .i64 (parseOf s).2.length, .int .i64 (parseOf s).1]) ∧ Below w.heap.size w w' := by
  have he : (parseOf s).1 ≠ 0 → (parseOf s).2 = [] := by
    unfold parseOf
    split
    · intro _; rfl
    · split
      · intro _; rfl
      · split
        · split
          · intro _; rfl
          · intro h; exact absurd rfl h
        · intro _; rfl
  have HE := hid he
  clear he
  generalize hp : parseOf s = p at *
  obtain ⟨er, ns⟩ := p
  have HP := hid hp
  clear hp
  by_cases h0 : er = 0
  · subst h0
    go_enter Try.func16, Try.ntmps16
    go_wp2_with fail
    refine (formulate_any s _ hm).mono ?_
    unfold Formulated
    rw [HP.out]
    rintro e w1 ⟨hb, ⟨h, _⟩ | ⟨_, bs, rfl, hf⟩⟩
    · exact absurd rfl h
    obtain ⟨ao, cap, c0, _⟩ := hf.c0
    go_wp2_with fail
    go_ret2
    exact ⟨rfl, hb⟩
  · have hz : ((er : Int) != 0) = true := by rw [bne_iff_ne]; omega
    go_enter Try.func16, Try.ntmps16
    go_wp2_with fail
    refine (formulate_any s _ hm).mono ?_
    unfold Formulated
    rw [HP.out]
    rintro e w1 ⟨hb, ⟨_, rfl⟩ | ⟨h, _⟩⟩
    · go_wp2_with fail
      go_ret2
      have this : ns = [] := HE.out h0
      subst this
      exact ⟨rfl, hb⟩
    · exact absurd h h0

end Go.Proofs.Ytjagijohfkffiaa

/- The walks of the program's reader: single, pair, formula (by induction), Parse, Size. -/
namespace Go.Proofs.Ytjagijohfkffiaa
open Go.RowKit
set_option linter.unusedVariables false

/-- What a reading leaves. -/
def Rdd (o : Option (Nat × List Nd)) (R : Nat) (s : ByteArray) (w : World) (e : Ending) (w' : World) : Prop :=
  (o = none ∧ e = .returned (.bool false) ∧ Below R w w') ∨ (∃ a' ns', o = some (a', ns') ∧ e = .returned (.bool true) ∧ Rd w' R s a' ns' ∧ Below R w w')

/-- The contract of 'formula' at fuel k. -/
def FormulaAt (k R : Nat) (s : ByteArray) : Prop :=
  ∀ (a : Nat) (ns : List Nd) (w : World), Rd w R s a ns → s.size < a + k → a ≤ s.size → ns.length ≤ a → Calls Try.prog 76 #[.pointer (some ⟨R, 0, none⟩)] w (Rdd (ps k s a ns) R s w)

set_option maxHeartbeats 400000 in
theorem single_any (k R : Nat) (s : ByteArray) (hs : s.size ≤ 24) (H : FormulaAt k R s) (op : Int) (ho : 0 ≤ op) (a : Nat) (ns : List Nd) (w : World) (hr : Rd w R s a ns) (hk : s.size < a + k) (ha : a ≤ s.size) (hn : ns.length ≤ a) :
    Calls Try.prog 103 #[.pointer (some ⟨R, 0, none⟩), .int .u8 op] w (Rdd (ps1 op.toNat k s a ns) R s w) := by
  have C := H a ns w hr hk ha hn
  cases e0 : ps k s a ns with
  | none =>
    have e1 : Hid (ps1 op.toNat k s a ns = none) := hid (by simp [ps1, e0])
    have E0 := hid e0
    clear e0
    go_enter Try.func103, Try.ntmps103
    go_wp2_with fail
    refine C.mono ?_
    rintro e w1 (⟨_, rfl, hb⟩ | ⟨a', ns', h, _⟩)
    · go_wp2_with fail
      go_ret
      exact Or.inl ⟨e1.out, rfl, hb⟩
    · rw [E0.out] at h; cases h
  | some x =>
    obtain ⟨a1, n1⟩ := x
    have e1 : Hid (ps1 op.toNat k s a ns = some (a1, n1 ++ [⟨op.toNat, n1.length - 1, 0⟩])) := hid (by simp [ps1, e0])
    have E0 := hid e0
    have g := ps_grows k s a ns a1 n1 e0
    clear e0
    go_enter Try.func103, Try.ntmps103
    go_wp2_with fail
    refine C.mono ?_
    rintro e w1 (⟨h, _⟩ | ⟨a', ns', h, rfl, hr1, hb⟩)
    · rw [E0.out] at h; cases h
    · rw [E0.out] at h
      simp only [Option.some.injEq, Prod.mk.injEq] at h
      obtain ⟨rfl, rfl⟩ := h
      obtain ⟨ao, cap, c2, _⟩ := hr1.c2
      go_wp2_with fail
      refine (add_any R a1 op _ 0 s n1 w1 (by omega) ho (by omega) (by omega) hr1).mono ?_
      rintro e w2 ⟨rfl, hr2, hb2⟩
      clear c2
      go_wp2_with fail
      go_ret
      refine Or.inr ⟨_, _, e1.out, rfl, ?_, hb.trans hb2⟩
      rw [show ((n1.length : Int) - 1).toNat = n1.length - 1 from by omega] at hr2
      exact hr2

theorem nxt_in {s : ByteArray} {a : Nat} (h : bt s a ≠ 0) : nxt s a = a + 1 := by unfold nxt; rw [if_pos (bt_lt h)]

theorem ret_u8 {a b : Nat} (h : a = b) : Value.int .u8 (a : Int) = Value.int .u8 (b : Int) := by rw [h]

set_option maxHeartbeats 800000 in
theorem pair_any (k R : Nat) (s : ByteArray) (hs : s.size ≤ 24) (H : FormulaAt k R s) (a : Nat) (ns : List Nd) (w : World) (hr : Rd w R s a ns) (hk : s.size < a + k) (ha : a ≤ s.size) (hn : ns.length ≤ a) :
    Calls Try.prog 104 #[.pointer (some ⟨R, 0, none⟩)] w (Rdd (ps2 k s a ns) R s w) := by
  have C := H a ns w hr hk ha hn
  cases e0 : ps k s a ns with
  | none =>
    have e1 : Hid (ps2 k s a ns = none) := hid (by simp [ps2, e0])
    have E0 := hid e0
    clear e0
    go_enter Try.func104, Try.ntmps104
    go_wp2_with fail
    refine C.mono ?_
    rintro e w1 (⟨_, rfl, hb⟩ | ⟨a', ns', h, _⟩)
    · go_wp2_with fail
      go_ret
      exact Or.inl ⟨e1.out, rfl, hb⟩
    · rw [E0.out] at h; cases h
  | some x =>
    obtain ⟨a1, n1⟩ := x
    have g1 := ps_grows k s a ns a1 n1 e0
    have H1 : a1 + 1 ≤ s.size → Hid (∀ (w : World), Rd w R s (a1 + 1) n1 → Calls Try.prog 76 #[.pointer (some ⟨R, 0, none⟩)] w (Rdd (ps k s (a1 + 1) n1) R s w)) := fun hl => hid (fun w h => H (a1 + 1) n1 w h (by omega) hl (by omega))
    by_cases b4 : twoB (bt s a1) = true
    · have hlt := bt_lt (two_ne b4)
      have hnx := hid (nxt_in (two_ne b4))
      cases e2 : ps k s (a1 + 1) n1 with
      | none =>
        have e1 : Hid (ps2 k s a ns = none) := hid (by simp [ps2, e0, b4, e2])
        have E0 := hid e0
        have E2 := hid e2
        have B4 := hid b4
        clear e0 e2 b4
        go_enter Try.func104, Try.ntmps104
        go_wp2_with fail
        refine C.mono ?_
        rintro e w1 (⟨h, _⟩ | ⟨a', ns', h, rfl, hr1, hb⟩)
        · rw [E0.out] at h; cases h
        rw [E0.out] at h
        simp only [Option.some.injEq, Prod.mk.injEq] at h
        obtain ⟨rfl, rfl⟩ := h
        obtain ⟨ao, cap, c2, _⟩ := hr1.c2
        go_wp2_with fail
        refine (take_any R a1 s n1 w1 hs (by omega) hr1).mono ?_
        rintro e w2 ⟨rfl, hr2, hb2⟩
        rw [hnx.out] at hr2
        go_wp2_with fail
        refine (joins_any (bt s a1) w2 (bt_256 _ _)).mono ?_
        rintro e w3 ⟨rfl, rfl⟩
        rw [B4.out]
        go_wp2_with fail
        refine ((H1 hlt).out _ hr2).mono ?_
        rintro e w4 (⟨_, rfl, hb4⟩ | ⟨a', ns', h, _⟩)
        · go_wp2_with fail
          go_ret
          exact Or.inl ⟨e1.out, rfl, (hb.trans hb2).trans hb4⟩
        · rw [E2.out] at h; cases h
      | some x =>
        obtain ⟨a2, n2⟩ := x
        have g2 := ps_grows k s _ n1 a2 n2 e2
        by_cases b5 : bt s a2 = 41
        · have e1 : Hid (ps2 k s a ns = some (a2 + 1, n2 ++ [⟨bt s a1, n1.length - 1, n2.length - 1⟩])) := hid (by simp [ps2, e0, b4, e2, b5])
          have hnx2 := hid (nxt_in (s := s) (a := a2) (by omega))
          have B5 := hid b5
          have E0 := hid e0
          have E2 := hid e2
          have B4 := hid b4
          clear e0 e2 b4 b5
          go_enter Try.func104, Try.ntmps104
          go_wp2_with fail
          refine C.mono ?_
          rintro e w1 (⟨h, _⟩ | ⟨a', ns', h, rfl, hr1, hb⟩)
          · rw [E0.out] at h; cases h
          rw [E0.out] at h
          simp only [Option.some.injEq, Prod.mk.injEq] at h
          obtain ⟨rfl, rfl⟩ := h
          obtain ⟨ao, cap, c2, _⟩ := hr1.c2
          go_wp2_with fail
          refine (take_any R a1 s n1 w1 hs (by omega) hr1).mono ?_
          rintro e w2 ⟨rfl, hr2, hb2⟩
          rw [hnx.out] at hr2
          clear c2
          go_wp2_with fail
          refine (joins_any (bt s a1) w2 (bt_256 _ _)).mono ?_
          rintro e w3 ⟨rfl, rfl⟩
          rw [B4.out]
          go_wp2_with fail
          refine ((H1 hlt).out _ hr2).mono ?_
          rintro e w4 (⟨h, _⟩ | ⟨a', ns', h, rfl, hr4, hb4⟩)
          · rw [E2.out] at h; cases h
          rw [E2.out] at h
          simp only [Option.some.injEq, Prod.mk.injEq] at h
          obtain ⟨rfl, rfl⟩ := h
          obtain ⟨ao2, cap2, c4, _⟩ := hr4.c2
          go_wp2_with fail
          refine (take_any R a2 s n2 w4 hs (by omega) hr4).mono ?_
          rintro e w5 ⟨rfl, hr5, hb5⟩
          rw [hnx2.out] at hr5
          rw [B5.out]
          clear c4
          go_wp2_with fail
          refine (add_any R (a2 + 1) _ _ _ s n2 w5 (by omega) (by omega) (by omega) (by omega) hr5).mono ?_
          rintro e w6 ⟨rfl, hr6, hb6⟩
          go_wp2_with fail
          go_ret
          refine Or.inr ⟨_, _, e1.out, rfl, ?_, (((hb.trans hb2).trans hb4).trans hb5).trans hb6⟩
          rw [show ((n1.length : Int) - 1).toNat = n1.length - 1 from by omega, show ((n2.length : Int) - 1).toNat = n2.length - 1 from by omega, Int.toNat_natCast] at hr6
          exact hr6
        · have e1 : Hid (ps2 k s a ns = none) := hid (by simp [ps2, e0, b4, e2, b5])
          have b6 : ((bt s a2 : Int) != 41) = true := by rw [bne_iff_ne]; omega
          have E0 := hid e0
          have E2 := hid e2
          have B4 := hid b4
          clear e0 e2 b4 b5
          go_enter Try.func104, Try.ntmps104
          go_wp2_with fail
          refine C.mono ?_
          rintro e w1 (⟨h, _⟩ | ⟨a', ns', h, rfl, hr1, hb⟩)
          · rw [E0.out] at h; cases h
          rw [E0.out] at h
          simp only [Option.some.injEq, Prod.mk.injEq] at h
          obtain ⟨rfl, rfl⟩ := h
          obtain ⟨ao, cap, c2, _⟩ := hr1.c2
          go_wp2_with fail
          refine (take_any R a1 s n1 w1 hs (by omega) hr1).mono ?_
          rintro e w2 ⟨rfl, hr2, hb2⟩
          rw [hnx.out] at hr2
          clear c2
          go_wp2_with fail
          refine (joins_any (bt s a1) w2 (bt_256 _ _)).mono ?_
          rintro e w3 ⟨rfl, rfl⟩
          rw [B4.out]
          go_wp2_with fail
          refine ((H1 hlt).out _ hr2).mono ?_
          rintro e w4 (⟨h, _⟩ | ⟨a', ns', h, rfl, hr4, hb4⟩)
          · rw [E2.out] at h; cases h
          rw [E2.out] at h
          simp only [Option.some.injEq, Prod.mk.injEq] at h
          obtain ⟨rfl, rfl⟩ := h
          obtain ⟨ao2, cap2, c4, _⟩ := hr4.c2
          go_wp2_with fail
          refine (take_any R a2 s n2 w4 hs (by omega) hr4).mono ?_
          rintro e w5 ⟨rfl, hr5, hb5⟩
          clear c4
          go_wp2_with fail
          go_ret
          exact Or.inl ⟨e1.out, rfl, ((hb.trans hb2).trans hb4).trans hb5⟩
    · rw [Bool.not_eq_true] at b4
      have e1 : Hid (ps2 k s a ns = none) := hid (by simp [ps2, e0, b4])
      have E0 := hid e0
      have B4 := hid b4
      clear e0 b4
      go_enter Try.func104, Try.ntmps104
      go_wp2_with fail
      refine C.mono ?_
      rintro e w1 (⟨h, _⟩ | ⟨a', ns', h, rfl, hr1, hb⟩)
      · rw [E0.out] at h; cases h
      rw [E0.out] at h
      simp only [Option.some.injEq, Prod.mk.injEq] at h
      obtain ⟨rfl, rfl⟩ := h
      obtain ⟨ao, cap, c2, _⟩ := hr1.c2
      go_wp2_with fail
      refine (take_any R a1 s n1 w1 hs (by omega) hr1).mono ?_
      rintro e w2 ⟨rfl, hr2, hb2⟩
      clear c2
      go_wp2_with fail
      refine (joins_any (bt s a1) w2 (bt_256 _ _)).mono ?_
      rintro e w3 ⟨rfl, rfl⟩
      rw [B4.out]
      go_wp2_with fail
      go_ret
      exact Or.inl ⟨e1.out, rfl, hb.trans hb2⟩

set_option maxHeartbeats 800000 in
theorem formula_any (R : Nat) (s : ByteArray) (hs : s.size ≤ 24) (k : Nat) : FormulaAt k R s := by
  induction k with
  | zero => intro a ns w hr hk ha hn; omega
  | succ k ih =>
    intro a ns w hr hk ha hn
    have T := take_any R a s ns w hs ha hr
    by_cases h48 : bt s a = 48
    · have e1 : Hid (ps (k + 1) s a ns = some (a + 1, ns ++ [⟨48, 0, 0⟩])) := hid (by rw [ps_leaf (by rw [h48]; decide), h48])
      have hnx := hid (nxt_in (s := s) (a := a) (by omega))
      have B := hid h48
      clear h48
      go_enter Try.func76, Try.ntmps76
      go_wp2_with fail
      refine T.mono ?_
      rintro e w1 ⟨rfl, hr1, hb⟩
      rw [hnx.out] at hr1
      rw [B.out]
      go_wp2_with fail
      refine (add_any R (a + 1) _ 0 0 s ns w1 (by omega) (by omega) (by omega) (by omega) hr1).mono ?_
      rintro e w2 ⟨rfl, hr2, hb2⟩
      go_wp2_with fail
      go_ret
      exact Or.inr ⟨_, _, e1.out, rfl, hr2, hb.trans hb2⟩
    by_cases h49 : bt s a = 49
    · have e1 : Hid (ps (k + 1) s a ns = some (a + 1, ns ++ [⟨49, 0, 0⟩])) := hid (by rw [ps_leaf (by rw [h49]; decide), h49])
      have hnx := hid (nxt_in (s := s) (a := a) (by omega))
      have B := hid h49
      clear h49
      go_enter Try.func76, Try.ntmps76
      go_wp2_with fail
      refine T.mono ?_
      rintro e w1 ⟨rfl, hr1, hb⟩
      rw [hnx.out] at hr1
      rw [B.out]
      go_wp2_with fail
      refine (add_any R (a + 1) _ 0 0 s ns w1 (by omega) (by omega) (by omega) (by omega) hr1).mono ?_
      rintro e w2 ⟨rfl, hr2, hb2⟩
      go_wp2_with fail
      go_ret
      exact Or.inr ⟨_, _, e1.out, rfl, hr2, hb.trans hb2⟩
    by_cases h112 : bt s a = 112
    · have e1 : Hid (ps (k + 1) s a ns = some (a + 1, ns ++ [⟨112, 0, 0⟩])) := hid (by rw [ps_leaf (by rw [h112]; decide), h112])
      have hnx := hid (nxt_in (s := s) (a := a) (by omega))
      have B := hid h112
      clear h112
      go_enter Try.func76, Try.ntmps76
      go_wp2_with fail
      refine T.mono ?_
      rintro e w1 ⟨rfl, hr1, hb⟩
      rw [hnx.out] at hr1
      rw [B.out]
      go_wp2_with fail
      refine (add_any R (a + 1) _ 0 0 s ns w1 (by omega) (by omega) (by omega) (by omega) hr1).mono ?_
      rintro e w2 ⟨rfl, hr2, hb2⟩
      go_wp2_with fail
      go_ret
      exact Or.inr ⟨_, _, e1.out, rfl, hr2, hb.trans hb2⟩
    by_cases h113 : bt s a = 113
    · have e1 : Hid (ps (k + 1) s a ns = some (a + 1, ns ++ [⟨113, 0, 0⟩])) := hid (by rw [ps_leaf (by rw [h113]; decide), h113])
      have hnx := hid (nxt_in (s := s) (a := a) (by omega))
      have B := hid h113
      clear h113
      go_enter Try.func76, Try.ntmps76
      go_wp2_with fail
      refine T.mono ?_
      rintro e w1 ⟨rfl, hr1, hb⟩
      rw [hnx.out] at hr1
      rw [B.out]
      go_wp2_with fail
      refine (add_any R (a + 1) _ 0 0 s ns w1 (by omega) (by omega) (by omega) (by omega) hr1).mono ?_
      rintro e w2 ⟨rfl, hr2, hb2⟩
      go_wp2_with fail
      go_ret
      exact Or.inr ⟨_, _, e1.out, rfl, hr2, hb.trans hb2⟩
    by_cases h114 : bt s a = 114
    · have e1 : Hid (ps (k + 1) s a ns = some (a + 1, ns ++ [⟨114, 0, 0⟩])) := hid (by rw [ps_leaf (by rw [h114]; decide), h114])
      have hnx := hid (nxt_in (s := s) (a := a) (by omega))
      have B := hid h114
      clear h114
      go_enter Try.func76, Try.ntmps76
      go_wp2_with fail
      refine T.mono ?_
      rintro e w1 ⟨rfl, hr1, hb⟩
      rw [hnx.out] at hr1
      rw [B.out]
      go_wp2_with fail
      refine (add_any R (a + 1) _ 0 0 s ns w1 (by omega) (by omega) (by omega) (by omega) hr1).mono ?_
      rintro e w2 ⟨rfl, hr2, hb2⟩
      go_wp2_with fail
      go_ret
      exact Or.inr ⟨_, _, e1.out, rfl, hr2, hb.trans hb2⟩
    by_cases h33 : bt s a = 33
    · have e1 : Hid (ps (k + 1) s a ns = ps1 33 k s (a + 1) ns) := hid (by rw [ps_one (by rw [h33]; decide), h33])
      have hlt := bt_lt (s := s) (i := a) (by omega)
      have hnx := hid (nxt_in (s := s) (a := a) (by omega))
      have B := hid h33
      clear h33
      go_enter Try.func76, Try.ntmps76
      go_wp2_with fail
      refine T.mono ?_
      rintro e w1 ⟨rfl, hr1, hb⟩
      rw [hnx.out] at hr1
      rw [B.out]
      go_wp2_with fail
      refine (single_any k R s hs ih _ (by omega) (a + 1) ns w1 hr1 (by omega) (by omega) (by omega)).mono ?_
      rintro e w2 h
      rcases h with ⟨h, rfl, hb2⟩ | ⟨a', ns', h, rfl, hr2, hb2⟩
      · go_wp2_with fail
        go_ret
        exact Or.inl ⟨e1.out.trans h, rfl, hb.trans hb2⟩
      · go_wp2_with fail
        go_ret
        exact Or.inr ⟨a', ns', e1.out.trans h, rfl, hr2, hb.trans hb2⟩
    by_cases h88 : bt s a = 88
    · have e1 : Hid (ps (k + 1) s a ns = ps1 88 k s (a + 1) ns) := hid (by rw [ps_one (by rw [h88]; decide), h88])
      have hlt := bt_lt (s := s) (i := a) (by omega)
      have hnx := hid (nxt_in (s := s) (a := a) (by omega))
      have B := hid h88
      clear h88
      go_enter Try.func76, Try.ntmps76
      go_wp2_with fail
      refine T.mono ?_
      rintro e w1 ⟨rfl, hr1, hb⟩
      rw [hnx.out] at hr1
      rw [B.out]
      go_wp2_with fail
      refine (single_any k R s hs ih _ (by omega) (a + 1) ns w1 hr1 (by omega) (by omega) (by omega)).mono ?_
      rintro e w2 h
      rcases h with ⟨h, rfl, hb2⟩ | ⟨a', ns', h, rfl, hr2, hb2⟩
      · go_wp2_with fail
        go_ret
        exact Or.inl ⟨e1.out.trans h, rfl, hb.trans hb2⟩
      · go_wp2_with fail
        go_ret
        exact Or.inr ⟨a', ns', e1.out.trans h, rfl, hr2, hb.trans hb2⟩
    by_cases h70 : bt s a = 70
    · have e1 : Hid (ps (k + 1) s a ns = ps1 70 k s (a + 1) ns) := hid (by rw [ps_one (by rw [h70]; decide), h70])
      have hlt := bt_lt (s := s) (i := a) (by omega)
      have hnx := hid (nxt_in (s := s) (a := a) (by omega))
      have B := hid h70
      clear h70
      go_enter Try.func76, Try.ntmps76
      go_wp2_with fail
      refine T.mono ?_
      rintro e w1 ⟨rfl, hr1, hb⟩
      rw [hnx.out] at hr1
      rw [B.out]
      go_wp2_with fail
      refine (single_any k R s hs ih _ (by omega) (a + 1) ns w1 hr1 (by omega) (by omega) (by omega)).mono ?_
      rintro e w2 h
      rcases h with ⟨h, rfl, hb2⟩ | ⟨a', ns', h, rfl, hr2, hb2⟩
      · go_wp2_with fail
        go_ret
        exact Or.inl ⟨e1.out.trans h, rfl, hb.trans hb2⟩
      · go_wp2_with fail
        go_ret
        exact Or.inr ⟨a', ns', e1.out.trans h, rfl, hr2, hb.trans hb2⟩
    by_cases h71 : bt s a = 71
    · have e1 : Hid (ps (k + 1) s a ns = ps1 71 k s (a + 1) ns) := hid (by rw [ps_one (by rw [h71]; decide), h71])
      have hlt := bt_lt (s := s) (i := a) (by omega)
      have hnx := hid (nxt_in (s := s) (a := a) (by omega))
      have B := hid h71
      clear h71
      go_enter Try.func76, Try.ntmps76
      go_wp2_with fail
      refine T.mono ?_
      rintro e w1 ⟨rfl, hr1, hb⟩
      rw [hnx.out] at hr1
      rw [B.out]
      go_wp2_with fail
      refine (single_any k R s hs ih _ (by omega) (a + 1) ns w1 hr1 (by omega) (by omega) (by omega)).mono ?_
      rintro e w2 h
      rcases h with ⟨h, rfl, hb2⟩ | ⟨a', ns', h, rfl, hr2, hb2⟩
      · go_wp2_with fail
        go_ret
        exact Or.inl ⟨e1.out.trans h, rfl, hb.trans hb2⟩
      · go_wp2_with fail
        go_ret
        exact Or.inr ⟨a', ns', e1.out.trans h, rfl, hr2, hb.trans hb2⟩
    by_cases h40 : bt s a = 40
    · have e1 : Hid (ps (k + 1) s a ns = ps2 k s (a + 1) ns) := hid (ps_two h40)
      have hlt := bt_lt (s := s) (i := a) (by omega)
      have hnx := hid (nxt_in (s := s) (a := a) (by omega))
      have B := hid h40
      clear h40
      go_enter Try.func76, Try.ntmps76
      go_wp2_with fail
      refine T.mono ?_
      rintro e w1 ⟨rfl, hr1, hb⟩
      rw [hnx.out] at hr1
      rw [B.out]
      go_wp2_with fail
      refine (pair_any k R s hs ih (a + 1) ns w1 hr1 (by omega) (by omega) (by omega)).mono ?_
      rintro e w2 h
      rcases h with ⟨h, rfl, hb2⟩ | ⟨a', ns', h, rfl, hr2, hb2⟩
      · go_wp2_with fail
        go_ret
        exact Or.inl ⟨e1.out.trans h, rfl, hb.trans hb2⟩
      · go_wp2_with fail
        go_ret
        exact Or.inr ⟨a', ns', e1.out.trans h, rfl, hr2, hb.trans hb2⟩
    have e1 : Hid (ps (k + 1) s a ns = none) := hid (ps_no (by simp [leafB, h48, h49, h112, h113, h114]) (by simp [oneB, h33, h88, h70, h71]) h40)
    have k48 : ((bt s a : Int) == 48) = false := beq_eq_false_iff_ne.2 (by omega)
    have k49 : ((bt s a : Int) == 49) = false := beq_eq_false_iff_ne.2 (by omega)
    have k112 : ((bt s a : Int) == 112) = false := beq_eq_false_iff_ne.2 (by omega)
    have k113 : ((bt s a : Int) == 113) = false := beq_eq_false_iff_ne.2 (by omega)
    have k114 : ((bt s a : Int) == 114) = false := beq_eq_false_iff_ne.2 (by omega)
    have k33 : ((bt s a : Int) == 33) = false := beq_eq_false_iff_ne.2 (by omega)
    have k88 : ((bt s a : Int) == 88) = false := beq_eq_false_iff_ne.2 (by omega)
    have k70 : ((bt s a : Int) == 70) = false := beq_eq_false_iff_ne.2 (by omega)
    have k71 : ((bt s a : Int) == 71) = false := beq_eq_false_iff_ne.2 (by omega)
    have k40 : ((bt s a : Int) == 40) = false := beq_eq_false_iff_ne.2 (by omega)
    clear h48 h49 h112 h113 h114 h33 h88 h70 h71 h40
    go_enter Try.func76, Try.ntmps76
    go_wp2_with fail
    refine T.mono ?_
    rintro e w1 ⟨rfl, hr1, hb⟩
    go_wp2_with fail
    go_ret
    exact Or.inl ⟨e1.out, rfl, hb⟩

end Go.Proofs.Ytjagijohfkffiaa
