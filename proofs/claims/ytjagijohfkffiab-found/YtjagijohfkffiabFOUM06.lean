import Derived.Test.YtjagijohfkffiabFOUM01
import Derived.Test.YtjagijohfkffiabFOUM05

/- The walks of the program's reader: single, pair, formula (by induction), Parse, Size. -/
namespace Go.Proofs.Ytjagijohfkffiab
open Go.RowKit
set_option linter.unusedVariables false

/-- What a reading leaves. -/
def Rdd (o : Option (Nat × List Nd)) (R : Nat) (s : ByteArray) (w : World) (e : Ending) (w' : World) : Prop :=
  (o = none ∧ e = .returned (.bool false) ∧ Below R w w') ∨ (∃ a' ns', o = some (a', ns') ∧ e = .returned (.bool true) ∧ Rd w' R s a' ns' ∧ Below R w w')

/-- The contract of 'formula' at fuel k. -/
def FormulaAt (k R : Nat) (s : ByteArray) : Prop :=
  ∀ (a : Nat) (ns : List Nd) (w : World), Rd w R s a ns → s.size < a + k → a ≤ s.size → ns.length ≤ a → Calls Try.prog 62 #[.pointer (some ⟨R, 0, none⟩)] w (Rdd (ps k s a ns) R s w)

set_option maxHeartbeats 400000 in
theorem single_any (k R : Nat) (s : ByteArray) (hs : s.size ≤ 24) (H : FormulaAt k R s) (op : Int) (ho : 0 ≤ op) (a : Nat) (ns : List Nd) (w : World) (hr : Rd w R s a ns) (hk : s.size < a + k) (ha : a ≤ s.size) (hn : ns.length ≤ a) :
    Calls Try.prog 102 #[.pointer (some ⟨R, 0, none⟩), .int .u8 op] w (Rdd (ps1 op.toNat k s a ns) R s w) := by
  have C := H a ns w hr hk ha hn
  cases e0 : ps k s a ns with
  | none =>
    have e1 : Hid (ps1 op.toNat k s a ns = none) := hid (by simp [ps1, e0])
    have E0 := hid e0
    clear e0
    go_enter Try.func102, Try.ntmps102
    go_wp2_with fail
    refine C.mono ?_
    rintro e w1 (⟨_, rfl, hb⟩ | ⟨a', ns', h, _⟩)
    · go_wp2_with fail
      go_ret
      exact Or.inl ⟨e1.out, rfl, hb⟩
    · rw [E0.out] at h; cases h
  | some x =>
    obtain ⟨a1, n1⟩ := x
    have e1 : Hid (ps1 op.toNat k s a ns = some (a1, n1 ++ [⟨op.toNat, n1.length - 1, 0⟩])) := hid (by simp [ps1, e0])
    have E0 := hid e0
    have g := ps_grows k s a ns a1 n1 e0
    clear e0
    go_enter Try.func102, Try.ntmps102
    go_wp2_with fail
    refine C.mono ?_
    rintro e w1 (⟨h, _⟩ | ⟨a', ns', h, rfl, hr1, hb⟩)
    · rw [E0.out] at h; cases h
    · rw [E0.out] at h
      simp only [Option.some.injEq, Prod.mk.injEq] at h
      obtain ⟨rfl, rfl⟩ := h
      obtain ⟨ao, cap, c2, _⟩ := hr1.c2
      go_wp2_with fail
      refine (add_any R a1 op _ 0 s n1 w1 (by omega) ho (by omega) (by omega) hr1).mono ?_
      rintro e w2 ⟨rfl, hr2, hb2⟩
      clear c2
      go_wp2_with fail
      go_ret
      refine Or.inr ⟨_, _, e1.out, rfl, ?_, hb.trans hb2⟩
      rw [show ((n1.length : Int) - 1).toNat = n1.length - 1 from by omega] at hr2
      exact hr2

theorem nxt_in {s : ByteArray} {a : Nat} (h : bt s a ≠ 0) : nxt s a = a + 1 := by unfold nxt; rw [if_pos (bt_lt h)]

set_option maxHeartbeats 800000 in
theorem pair_any (k R : Nat) (s : ByteArray) (hs : s.size ≤ 24) (H : FormulaAt k R s) (a : Nat) (ns : List Nd) (w : World) (hr : Rd w R s a ns) (hk : s.size < a + k) (ha : a ≤ s.size) (hn : ns.length ≤ a) :
    Calls Try.prog 103 #[.pointer (some ⟨R, 0, none⟩)] w (Rdd (ps2 k s a ns) R s w) := by
  have C := H a ns w hr hk ha hn
  cases e0 : ps k s a ns with
  | none =>
    have e1 : Hid (ps2 k s a ns = none) := hid (by simp [ps2, e0])
    have E0 := hid e0
    clear e0
    go_enter Try.func103, Try.ntmps103
    go_wp2_with fail
    refine C.mono ?_
    rintro e w1 (⟨_, rfl, hb⟩ | ⟨a', ns', h, _⟩)
    · go_wp2_with fail
      go_ret
      exact Or.inl ⟨e1.out, rfl, hb⟩
    · rw [E0.out] at h; cases h
  | some x =>
    obtain ⟨a1, n1⟩ := x
    have g1 := ps_grows k s a ns a1 n1 e0
    have H1 : a1 + 1 ≤ s.size → Hid (∀ (w : World), Rd w R s (a1 + 1) n1 → Calls Try.prog 62 #[.pointer (some ⟨R, 0, none⟩)] w (Rdd (ps k s (a1 + 1) n1) R s w)) := fun hl => hid (fun w h => H (a1 + 1) n1 w h (by omega) hl (by omega))
    by_cases b4 : twoB (bt s a1) = true
    · have hlt := bt_lt (two_ne b4)
      have hnx := hid (nxt_in (two_ne b4))
      cases e2 : ps k s (a1 + 1) n1 with
      | none =>
        have e1 : Hid (ps2 k s a ns = none) := hid (by simp [ps2, e0, b4, e2])
        have E0 := hid e0
        have E2 := hid e2
        have B4 := hid b4
        clear e0 e2 b4
        go_enter Try.func103, Try.ntmps103
        go_wp2_with fail
        refine C.mono ?_
        rintro e w1 (⟨h, _⟩ | ⟨a', ns', h, rfl, hr1, hb⟩)
        · rw [E0.out] at h; cases h
        rw [E0.out] at h
        simp only [Option.some.injEq, Prod.mk.injEq] at h
        obtain ⟨rfl, rfl⟩ := h
        obtain ⟨ao, cap, c2, _⟩ := hr1.c2
        go_wp2_with fail
        refine (take_any R a1 s n1 w1 hs (by omega) hr1).mono ?_
        rintro e w2 ⟨rfl, hr2, hb2⟩
        rw [hnx.out] at hr2
        go_wp2_with fail
        refine (joins_any (bt s a1) w2 (bt_256 _ _)).mono ?_
        rintro e w3 ⟨rfl, rfl⟩
        rw [B4.out]
        go_wp2_with fail
        refine ((H1 hlt).out _ hr2).mono ?_
        rintro e w4 (⟨_, rfl, hb4⟩ | ⟨a', ns', h, _⟩)
        · go_wp2_with fail
          go_ret
          exact Or.inl ⟨e1.out, rfl, (hb.trans hb2).trans hb4⟩
        · rw [E2.out] at h; cases h
      | some x =>
        obtain ⟨a2, n2⟩ := x
        have g2 := ps_grows k s _ n1 a2 n2 e2
        by_cases b5 : bt s a2 = 41
        · have e1 : Hid (ps2 k s a ns = some (a2 + 1, n2 ++ [⟨bt s a1, n1.length - 1, n2.length - 1⟩])) := hid (by simp [ps2, e0, b4, e2, b5])
          have hnx2 := hid (nxt_in (s := s) (a := a2) (by omega))
          have B5 := hid b5
          have E0 := hid e0
          have E2 := hid e2
          have B4 := hid b4
          clear e0 e2 b4 b5
          go_enter Try.func103, Try.ntmps103
          go_wp2_with fail
          refine C.mono ?_
          rintro e w1 (⟨h, _⟩ | ⟨a', ns', h, rfl, hr1, hb⟩)
          · rw [E0.out] at h; cases h
          rw [E0.out] at h
          simp only [Option.some.injEq, Prod.mk.injEq] at h
          obtain ⟨rfl, rfl⟩ := h
          obtain ⟨ao, cap, c2, _⟩ := hr1.c2
          go_wp2_with fail
          refine (take_any R a1 s n1 w1 hs (by omega) hr1).mono ?_
          rintro e w2 ⟨rfl, hr2, hb2⟩
          rw [hnx.out] at hr2
          clear c2
          go_wp2_with fail
          refine (joins_any (bt s a1) w2 (bt_256 _ _)).mono ?_
          rintro e w3 ⟨rfl, rfl⟩
          rw [B4.out]
          go_wp2_with fail
          refine ((H1 hlt).out _ hr2).mono ?_
          rintro e w4 (⟨h, _⟩ | ⟨a', ns', h, rfl, hr4, hb4⟩)
          · rw [E2.out] at h; cases h
          rw [E2.out] at h
          simp only [Option.some.injEq, Prod.mk.injEq] at h
          obtain ⟨rfl, rfl⟩ := h
          obtain ⟨ao2, cap2, c4, _⟩ := hr4.c2
          go_wp2_with fail
          refine (take_any R a2 s n2 w4 hs (by omega) hr4).mono ?_
          rintro e w5 ⟨rfl, hr5, hb5⟩
          rw [hnx2.out] at hr5
          rw [B5.out]
          clear c4
          go_wp2_with fail
          refine (add_any R (a2 + 1) _ _ _ s n2 w5 (by omega) (by omega) (by omega) (by omega) hr5).mono ?_
          rintro e w6 ⟨rfl, hr6, hb6⟩
          go_wp2_with fail
          go_ret
          refine Or.inr ⟨_, _, e1.out, rfl, ?_, (((hb.trans hb2).trans hb4).trans hb5).trans hb6⟩
          rw [show ((n1.length : Int) - 1).toNat = n1.length - 1 from by omega, show ((n2.length : Int) - 1).toNat = n2.length - 1 from by omega, Int.toNat_natCast] at hr6
          exact hr6
        · have e1 : Hid (ps2 k s a ns = none) := hid (by simp [ps2, e0, b4, e2, b5])
          have b6 : ((bt s a2 : Int) != 41) = true := by rw [bne_iff_ne]; omega
          have E0 := hid e0
          have E2 := hid e2
          have B4 := hid b4
          clear e0 e2 b4 b5
          go_enter Try.func103, Try.ntmps103
          go_wp2_with fail
          refine C.mono ?_
          rintro e w1 (⟨h, _⟩ | ⟨a', ns', h, rfl, hr1, hb⟩)
          · rw [E0.out] at h; cases h
          rw [E0.out] at h
          simp only [Option.some.injEq, Prod.mk.injEq] at h
          obtain ⟨rfl, rfl⟩ := h
          obtain ⟨ao, cap, c2, _⟩ := hr1.c2
          go_wp2_with fail
          refine (take_any R a1 s n1 w1 hs (by omega) hr1).mono ?_
          rintro e w2 ⟨rfl, hr2, hb2⟩
          rw [hnx.out] at hr2
          clear c2
          go_wp2_with fail
          refine (joins_any (bt s a1) w2 (bt_256 _ _)).mono ?_
          rintro e w3 ⟨rfl, rfl⟩
          rw [B4.out]
          go_wp2_with fail
          refine ((H1 hlt).out _ hr2).mono ?_
          rintro e w4 (⟨h, _⟩ | ⟨a', ns', h, rfl, hr4, hb4⟩)
          · rw [E2.out] at h; cases h
          rw [E2.out] at h
          simp only [Option.some.injEq, Prod.mk.injEq] at h
          obtain ⟨rfl, rfl⟩ := h
          obtain ⟨ao2, cap2, c4, _⟩ := hr4.c2
          go_wp2_with fail
          refine (take_any R a2 s n2 w4 hs (by omega) hr4).mono ?_
          rintro e w5 ⟨rfl, hr5, hb5⟩
          clear c4
          go_wp2_with fail
          go_ret
          exact Or.inl ⟨e1.out, rfl, ((hb.trans hb2).trans hb4).trans hb5⟩
    · rw [Bool.not_eq_true] at b4
      have e1 : Hid (ps2 k s a ns = none) := hid (by simp [ps2, e0, b4])
      have E0 := hid e0
      have B4 := hid b4
      clear e0 b4
      go_enter Try.func103, Try.ntmps103
      go_wp2_with fail
      refine C.mono ?_
      rintro e w1 (⟨h, _⟩ | ⟨a', ns', h, rfl, hr1, hb⟩)
      · rw [E0.out] at h; cases h
      rw [E0.out] at h
      simp only [Option.some.injEq, Prod.mk.injEq] at h
      obtain ⟨rfl, rfl⟩ := h
      obtain ⟨ao, cap, c2, _⟩ := hr1.c2
      go_wp2_with fail
      refine (take_any R a1 s n1 w1 hs (by omega) hr1).mono ?_
      rintro e w2 ⟨rfl, hr2, hb2⟩
      clear c2
      go_wp2_with fail
      refine (joins_any (bt s a1) w2 (bt_256 _ _)).mono ?_
      rintro e w3 ⟨rfl, rfl⟩
      rw [B4.out]
      go_wp2_with fail
      go_ret
      exact Or.inl ⟨e1.out, rfl, hb.trans hb2⟩

set_option maxHeartbeats 800000 in
theorem formula_any (R : Nat) (s : ByteArray) (hs : s.size ≤ 24) (k : Nat) : FormulaAt k R s := by
  induction k with
  | zero => intro a ns w hr hk ha hn; omega
  | succ k ih =>
    intro a ns w hr hk ha hn
    have T := take_any R a s ns w hs ha hr
    by_cases h48 : bt s a = 48
    · have e1 : Hid (ps (k + 1) s a ns = some (a + 1, ns ++ [⟨48, 0, 0⟩])) := hid (by rw [ps_leaf (by rw [h48]; decide), h48])
      have hnx := hid (nxt_in (s := s) (a := a) (by omega))
      have B := hid h48
      clear h48
      go_enter Try.func62, Try.ntmps62
      go_wp2_with fail
      refine T.mono ?_
      rintro e w1 ⟨rfl, hr1, hb⟩
      rw [hnx.out] at hr1
      rw [B.out]
      go_wp2_with fail
      refine (add_any R (a + 1) _ 0 0 s ns w1 (by omega) (by omega) (by omega) (by omega) hr1).mono ?_
      rintro e w2 ⟨rfl, hr2, hb2⟩
      go_wp2_with fail
      go_ret
      exact Or.inr ⟨_, _, e1.out, rfl, hr2, hb.trans hb2⟩
    by_cases h49 : bt s a = 49
    · have e1 : Hid (ps (k + 1) s a ns = some (a + 1, ns ++ [⟨49, 0, 0⟩])) := hid (by rw [ps_leaf (by rw [h49]; decide), h49])
      have hnx := hid (nxt_in (s := s) (a := a) (by omega))
      have B := hid h49
      clear h49
      go_enter Try.func62, Try.ntmps62
      go_wp2_with fail
      refine T.mono ?_
      rintro e w1 ⟨rfl, hr1, hb⟩
      rw [hnx.out] at hr1
      rw [B.out]
      go_wp2_with fail
      refine (add_any R (a + 1) _ 0 0 s ns w1 (by omega) (by omega) (by omega) (by omega) hr1).mono ?_
      rintro e w2 ⟨rfl, hr2, hb2⟩
      go_wp2_with fail
      go_ret
      exact Or.inr ⟨_, _, e1.out, rfl, hr2, hb.trans hb2⟩
    by_cases h112 : bt s a = 112
    · have e1 : Hid (ps (k + 1) s a ns = some (a + 1, ns ++ [⟨112, 0, 0⟩])) := hid (by rw [ps_leaf (by rw [h112]; decide), h112])
      have hnx := hid (nxt_in (s := s) (a := a) (by omega))
      have B := hid h112
      clear h112
      go_enter Try.func62, Try.ntmps62
      go_wp2_with fail
      refine T.mono ?_
      rintro e w1 ⟨rfl, hr1, hb⟩
      rw [hnx.out] at hr1
      rw [B.out]
      go_wp2_with fail
      refine (add_any R (a + 1) _ 0 0 s ns w1 (by omega) (by omega) (by omega) (by omega) hr1).mono ?_
      rintro e w2 ⟨rfl, hr2, hb2⟩
      go_wp2_with fail
      go_ret
      exact Or.inr ⟨_, _, e1.out, rfl, hr2, hb.trans hb2⟩
    by_cases h113 : bt s a = 113
    · have e1 : Hid (ps (k + 1) s a ns = some (a + 1, ns ++ [⟨113, 0, 0⟩])) := hid (by rw [ps_leaf (by rw [h113]; decide), h113])
      have hnx := hid (nxt_in (s := s) (a := a) (by omega))
      have B := hid h113
      clear h113
      go_enter Try.func62, Try.ntmps62
      go_wp2_with fail
      refine T.mono ?_
      rintro e w1 ⟨rfl, hr1, hb⟩
      rw [hnx.out] at hr1
      rw [B.out]
      go_wp2_with fail
      refine (add_any R (a + 1) _ 0 0 s ns w1 (by omega) (by omega) (by omega) (by omega) hr1).mono ?_
      rintro e w2 ⟨rfl, hr2, hb2⟩
      go_wp2_with fail
      go_ret
      exact Or.inr ⟨_, _, e1.out, rfl, hr2, hb.trans hb2⟩
    by_cases h114 : bt s a = 114
    · have e1 : Hid (ps (k + 1) s a ns = some (a + 1, ns ++ [⟨114, 0, 0⟩])) := hid (by rw [ps_leaf (by rw [h114]; decide), h114])
      have hnx := hid (nxt_in (s := s) (a := a) (by omega))
      have B := hid h114
      clear h114
      go_enter Try.func62, Try.ntmps62
      go_wp2_with fail
      refine T.mono ?_
      rintro e w1 ⟨rfl, hr1, hb⟩
      rw [hnx.out] at hr1
      rw [B.out]
      go_wp2_with fail
      refine (add_any R (a + 1) _ 0 0 s ns w1 (by omega) (by omega) (by omega) (by omega) hr1).mono ?_
      rintro e w2 ⟨rfl, hr2, hb2⟩
      go_wp2_with fail
      go_ret
      exact Or.inr ⟨_, _, e1.out, rfl, hr2, hb.trans hb2⟩
    by_cases h33 : bt s a = 33
    · have e1 : Hid (ps (k + 1) s a ns = ps1 33 k s (a + 1) ns) := hid (by rw [ps_one (by rw [h33]; decide), h33])
      have hlt := bt_lt (s := s) (i := a) (by omega)
      have hnx := hid (nxt_in (s := s) (a := a) (by omega))
      have B := hid h33
      clear h33
      go_enter Try.func62, Try.ntmps62
      go_wp2_with fail
      refine T.mono ?_
      rintro e w1 ⟨rfl, hr1, hb⟩
      rw [hnx.out] at hr1
      rw [B.out]
      go_wp2_with fail
      refine (single_any k R s hs ih _ (by omega) (a + 1) ns w1 hr1 (by omega) (by omega) (by omega)).mono ?_
      rintro e w2 h
      rcases h with ⟨h, rfl, hb2⟩ | ⟨a', ns', h, rfl, hr2, hb2⟩
      · go_wp2_with fail
        go_ret
        exact Or.inl ⟨e1.out.trans h, rfl, hb.trans hb2⟩
      · go_wp2_with fail
        go_ret
        exact Or.inr ⟨a', ns', e1.out.trans h, rfl, hr2, hb.trans hb2⟩
    by_cases h88 : bt s a = 88
    · have e1 : Hid (ps (k + 1) s a ns = ps1 88 k s (a + 1) ns) := hid (by rw [ps_one (by rw [h88]; decide), h88])
      have hlt := bt_lt (s := s) (i := a) (by omega)
      have hnx := hid (nxt_in (s := s) (a := a) (by omega))
      have B := hid h88
      clear h88
      go_enter Try.func62, Try.ntmps62
      go_wp2_with fail
      refine T.mono ?_
      rintro e w1 ⟨rfl, hr1, hb⟩
      rw [hnx.out] at hr1
      rw [B.out]
      go_wp2_with fail
      refine (single_any k R s hs ih _ (by omega) (a + 1) ns w1 hr1 (by omega) (by omega) (by omega)).mono ?_
      rintro e w2 h
      rcases h with ⟨h, rfl, hb2⟩ | ⟨a', ns', h, rfl, hr2, hb2⟩
      · go_wp2_with fail
        go_ret
        exact Or.inl ⟨e1.out.trans h, rfl, hb.trans hb2⟩
      · go_wp2_with fail
        go_ret
        exact Or.inr ⟨a', ns', e1.out.trans h, rfl, hr2, hb.trans hb2⟩
    by_cases h70 : bt s a = 70
    · have e1 : Hid (ps (k + 1) s a ns = ps1 70 k s (a + 1) ns) := hid (by rw [ps_one (by rw [h70]; decide), h70])
      have hlt := bt_lt (s := s) (i := a) (by omega)
      have hnx := hid (nxt_in (s := s) (a := a) (by omega))
      have B := hid h70
      clear h70
      go_enter Try.func62, Try.ntmps62
      go_wp2_with fail
      refine T.mono ?_
      rintro e w1 ⟨rfl, hr1, hb⟩
      rw [hnx.out] at hr1
      rw [B.out]
      go_wp2_with fail
      refine (single_any k R s hs ih _ (by omega) (a + 1) ns w1 hr1 (by omega) (by omega) (by omega)).mono ?_
      rintro e w2 h
      rcases h with ⟨h, rfl, hb2⟩ | ⟨a', ns', h, rfl, hr2, hb2⟩
      · go_wp2_with fail
        go_ret
        exact Or.inl ⟨e1.out.trans h, rfl, hb.trans hb2⟩
      · go_wp2_with fail
        go_ret
        exact Or.inr ⟨a', ns', e1.out.trans h, rfl, hr2, hb.trans hb2⟩
    by_cases h71 : bt s a = 71
    · have e1 : Hid (ps (k + 1) s a ns = ps1 71 k s (a + 1) ns) := hid (by rw [ps_one (by rw [h71]; decide), h71])
      have hlt := bt_lt (s := s) (i := a) (by omega)
      have hnx := hid (nxt_in (s := s) (a := a) (by omega))
      have B := hid h71
      clear h71
      go_enter Try.func62, Try.ntmps62
      go_wp2_with fail
      refine T.mono ?_
      rintro e w1 ⟨rfl, hr1, hb⟩
      rw [hnx.out] at hr1
      rw [B.out]
      go_wp2_with fail
      refine (single_any k R s hs ih _ (by omega) (a + 1) ns w1 hr1 (by omega) (by omega) (by omega)).mono ?_
      rintro e w2 h
      rcases h with ⟨h, rfl, hb2⟩ | ⟨a', ns', h, rfl, hr2, hb2⟩
      · go_wp2_with fail
        go_ret
        exact Or.inl ⟨e1.out.trans h, rfl, hb.trans hb2⟩
      · go_wp2_with fail
        go_ret
        exact Or.inr ⟨a', ns', e1.out.trans h, rfl, hr2, hb.trans hb2⟩
    by_cases h40 : bt s a = 40
    · have e1 : Hid (ps (k + 1) s a ns = ps2 k s (a + 1) ns) := hid (ps_two h40)
      have hlt := bt_lt (s := s) (i := a) (by omega)
      have hnx := hid (nxt_in (s := s) (a := a) (by omega))
      have B := hid h40
      clear h40
      go_enter Try.func62, Try.ntmps62
      go_wp2_with fail
      refine T.mono ?_
      rintro e w1 ⟨rfl, hr1, hb⟩
      rw [hnx.out] at hr1
      rw [B.out]
      go_wp2_with fail
      refine (pair_any k R s hs ih (a + 1) ns w1 hr1 (by omega) (by omega) (by omega)).mono ?_
      rintro e w2 h
      rcases h with ⟨h, rfl, hb2⟩ | ⟨a', ns', h, rfl, hr2, hb2⟩
      · go_wp2_with fail
        go_ret
        exact Or.inl ⟨e1.out.trans h, rfl, hb.trans hb2⟩
      · go_wp2_with fail
        go_ret
        exact Or.inr ⟨a', ns', e1.out.trans h, rfl, hr2, hb.trans hb2⟩
    have e1 : Hid (ps (k + 1) s a ns = none) := hid (ps_no (by simp [leafB, h48, h49, h112, h113, h114]) (by simp [oneB, h33, h88, h70, h71]) h40)
    have k48 : ((bt s a : Int) == 48) = false := beq_eq_false_iff_ne.2 (by omega)
    have k49 : ((bt s a : Int) == 49) = false := beq_eq_false_iff_ne.2 (by omega)
    have k112 : ((bt s a : Int) == 112) = false := beq_eq_false_iff_ne.2 (by omega)
    have k113 : ((bt s a : Int) == 113) = false := beq_eq_false_iff_ne.2 (by omega)
    have k114 : ((bt s a : Int) == 114) = false := beq_eq_false_iff_ne.2 (by omega)
    have k33 : ((bt s a : Int) == 33) = false := beq_eq_false_iff_ne.2 (by omega)
    have k88 : ((bt s a : Int) == 88) = false := beq_eq_false_iff_ne.2 (by omega)
    have k70 : ((bt s a : Int) == 70) = false := beq_eq_false_iff_ne.2 (by omega)
    have k71 : ((bt s a : Int) == 71) = false := beq_eq_false_iff_ne.2 (by omega)
    have k40 : ((bt s a : Int) == 40) = false := beq_eq_false_iff_ne.2 (by omega)
    clear h48 h49 h112 h113 h114 h33 h88 h70 h71 h40
    go_enter Try.func62, Try.ntmps62
    go_wp2_with fail
    refine T.mono ?_
    rintro e w1 ⟨rfl, hr1, hb⟩
    go_wp2_with fail
    go_ret
    exact Or.inl ⟨e1.out, rfl, hb⟩

end Go.Proofs.Ytjagijohfkffiab

/- The walks of Parse and Size. -/
namespace Go.Proofs.Ytjagijohfkffiab
open Go.RowKit
set_option linter.unusedVariables false

/-- What Parse answers: the error, the nodes in memory of its own. -/
def Parsed (s : ByteArray) (w : World) (e : Ending) (w' : World) : Prop :=
  ∃ ao cap, e = .returned (.tuple #[.slice ao (parseOf s).2.length cap, .int .i64 (parseOf s).1]) ∧ w'.ownsRow w.heap.size 124 3 (.slice ao (parseOf s).2.length cap) (parseOf s).2.length (flat (parseOf s).2) ∧ Below w.heap.size w w'

theorem parsed_err {s : ByteArray} {w w' : World} {k : Nat} (h : parseOf s = (k, [])) (hb : Below w.heap.size w w') : Parsed s w (.returned (.tuple #[.slice none 0 0, .int .i64 k])) w' := by
  unfold Parsed
  rw [h]
  exact ⟨none, 0, rfl, World.ownsRow_nil _ _ _ _, hb⟩

theorem rd_new (w : World) (s : ByteArray) : Rd (w.alloc (.cells #[.string s, .int .i64 0, .slice none 0 0] 120)) w.heap.size s 0 [] :=
  ⟨by simp, by simp, ⟨none, 0, by simp, World.ownsRow_nil _ _ _ _⟩, by simp, by simp⟩

set_option maxHeartbeats 400000 in
theorem parse_long (s : ByteArray) (w : World) (hm : s.size ≤ maxLen) (h : 24 < s.size) : Calls Try.prog 33 #[.string s] w (Parsed s w) := by
  unfold maxLen at hm
  have P := hid (parsed_err (s := s) (w := w) (w' := w) (k := 1) (by simp [parseOf, h]) (Below.refl _ _))
  go_enter Try.func33, Try.ntmps33
  go_wp2_with fail
  go_ret2
  exact P.out

set_option maxHeartbeats 400000 in
theorem parse_short (s : ByteArray) (w : World) (h : ¬ 24 < s.size) : Calls Try.prog 33 #[.string s] w (Parsed s w) := by
  have C := formula_any w.heap.size s (by omega) 25 0 [] _ (rd_new w s) (by omega) (by omega) (by simp)
  cases e0 : ps 25 s 0 [] with
  | none =>
    have P := hid (fun w' => parsed_err (s := s) (w := w) (w' := w') (k := 2) (by simp [parseOf, h, e0]))
    have E0 := hid e0
    clear e0
    go_enter Try.func33, Try.ntmps33
    go_wp2_with fail
    refine C.mono ?_
    rintro e w1 (⟨_, rfl, hb⟩ | ⟨a', ns', h, _⟩)
    · go_wp2_with fail
      go_ret2
      exact P.out _ (((Below.refl _ _).alloc (Nat.le_refl _) _).trans hb)
    · rw [E0.out] at h; cases h
  | some x =>
    obtain ⟨a, ns⟩ := x
    have g := ps_grows 25 s 0 [] a ns e0
    by_cases h1 : a = s.size
    · by_cases h2 : 8 < ns.length
      · have P := hid (fun w' => parsed_err (s := s) (w := w) (w' := w') (k := 3) (by simp [parseOf, h, e0, h1, h2]))
        have E0 := hid e0
        have h3 : ((a : Int) != (s.size : Int)) = false := by rw [bne_eq_false_iff_eq]; omega
        clear e0 h1
        go_enter Try.func33, Try.ntmps33
        go_wp2_with fail
        refine C.mono ?_
        rintro e w1 (⟨h, _⟩ | ⟨a', ns', h, rfl, hr1, hb⟩)
        · rw [E0.out] at h; cases h
        rw [E0.out] at h
        simp only [Option.some.injEq, Prod.mk.injEq] at h
        obtain ⟨rfl, rfl⟩ := h
        have c1 := hr1.c1
        obtain ⟨ao, cap, c2, own⟩ := hr1.c2
        go_wp2_with fail
        go_ret2
        exact P.out _ (((Below.refl _ _).alloc (Nat.le_refl _) _).trans hb)
      · have P : Hid (parseOf s = (0, ns)) := hid (by simp [parseOf, h, e0, h1, h2])
        have E0 := hid e0
        have h3 : ((a : Int) != (s.size : Int)) = false := by rw [bne_eq_false_iff_eq]; omega
        clear e0 h1
        go_enter Try.func33, Try.ntmps33
        go_wp2_with fail
        refine C.mono ?_
        rintro e w1 (⟨h, _⟩ | ⟨a', ns', h, rfl, hr1, hb⟩)
        · rw [E0.out] at h; cases h
        rw [E0.out] at h
        simp only [Option.some.injEq, Prod.mk.injEq] at h
        obtain ⟨rfl, rfl⟩ := h
        have c1 := hr1.c1
        obtain ⟨ao, cap, c2, own⟩ := hr1.c2
        go_wp2_with fail
        go_ret2
        unfold Parsed
        rw [P.out]
        exact ⟨ao, cap, rfl, own_mono own (Nat.le_succ _), ((Below.refl _ _).alloc (Nat.le_refl _) _).trans hb⟩
    · have P := hid (fun w' => parsed_err (s := s) (w := w) (w' := w') (k := 2) (by simp [parseOf, h, e0, h1]))
      have E0 := hid e0
      have h3 : ((a : Int) != (s.size : Int)) = true := by rw [bne_iff_ne]; omega
      clear e0
      go_enter Try.func33, Try.ntmps33
      go_wp2_with fail
      refine C.mono ?_
      rintro e w1 (⟨h, _⟩ | ⟨a', ns', h, rfl, hr1, hb⟩)
      · rw [E0.out] at h; cases h
      rw [E0.out] at h
      simp only [Option.some.injEq, Prod.mk.injEq] at h
      obtain ⟨rfl, rfl⟩ := h
      have c1 := hr1.c1
      obtain ⟨ao, cap, c2, own⟩ := hr1.c2
      go_wp2_with fail
      go_ret2
      exact P.out _ (((Below.refl _ _).alloc (Nat.le_refl _) _).trans hb)

theorem parse_any (s : ByteArray) (w : World) (hm : s.size ≤ maxLen) : Calls Try.prog 33 #[.string s] w (Parsed s w) := by
  by_cases h : 24 < s.size
  · exact parse_long s w hm h
  · exact parse_short s w h

set_option maxHeartbeats 400000 in
theorem size_any (s : ByteArray) (w : World) (hm : s.size ≤ maxLen) : Calls Try.prog 10 #[.string s] w fun e w' => e = .returned (.tuple #[.int .i64 (parseOf s).2.length, .int .i64 (parseOf s).1]) ∧ Below w.heap.size w w' := by
  go_enter Try.func10, Try.ntmps10
  go_wp2_with fail
  refine (parse_any s _ hm).mono ?_
  rintro e w1 ⟨ao, cap, rfl, _, hb⟩
  go_wp2_with fail
  go_ret2
  exact ⟨rfl, hb⟩

end Go.Proofs.Ytjagijohfkffiab

/- The walk of the program's Holds. -/
namespace Go.Proofs.Ytjagijohfkffiab
open Go.RowKit
set_option linter.unusedVariables false

def natOf (zs : List Int) : List Nat := zs.map Int.toNat

/-- The error of Holds. -/
def holdErr (s : ByteArray) (z1 z2 : List Int) : Nat := if (parseOf s).1 = 0 then joinErr z1 z2 else (parseOf s).1
/-- What Holds answers. -/
def holdVal (s : ByteArray) (z1 z2 : List Int) : Bool := if holdErr s z1 z2 = 0 then holdsB z1.length (parseOf s).2 (natOf (z1 ++ z2)) else false

theorem letters_nat {zs : List Int} (h : allL zs = true) : zs.map (Value.int .i64) = natInts (natOf zs) ∧ ∀ x ∈ natOf zs, x < 8 := by
  unfold allL at h
  rw [List.all_eq_true] at h
  constructor
  · unfold natInts natOf
    rw [List.map_map]
    apply List.map_congr_left
    intro z hz
    have := isL_iff.1 (h z hz)
    simp only [Function.comp]
    rw [Int.toNat_of_nonneg this.1]
  · intro x hx
    unfold natOf at hx
    obtain ⟨z, hz, rfl⟩ := List.mem_map.1 hx
    have := isL_iff.1 (h z hz)
    omega

theorem joinErr_zero {z1 z2 : List Int} (h : joinErr z1 z2 = 0) : 0 < z2.length ∧ z1.length ≤ 40 ∧ z2.length ≤ 40 ∧ allL z1 = true ∧ allL z2 = true := by
  unfold joinErr at h
  split at h
  · simp at h
  · split at h
    · simp at h
    · split at h
      · rename_i h1 h2 h3; exact ⟨by omega, by omega, by omega, h3.1, h3.2⟩
      · simp at h

theorem allL_append {a b : List Int} (h1 : allL a = true) (h2 : allL b = true) : allL (a ++ b) = true := by
  unfold allL at *
  rw [List.all_append, h1, h2]; rfl

section
variable (s : ByteArray) (a1 a2 : Option Addr) (l1 c1 l2 c2 : Nat) (z1 z2 : List Int) (w : World)

set_option maxHeartbeats 400000 in
theorem holds_no (hm : s.size ≤ maxLen) (h : (parseOf s).1 ≠ 0) : Calls Try.prog 19 #[.string s, .slice a1 l1 c1, .slice a2 l2 c2] w fun e w' => e = .returned (.tuple #[.bool (holdVal s z1 z2), .int .i64 (holdErr s z1 z2)]) ∧ Below w.heap.size w w' := by
  have E : Hid (holdErr s z1 z2 = (parseOf s).1) := hid (by unfold holdErr; rw [if_neg h])
  have V : Hid (holdVal s z1 z2 = false) := hid (by unfold holdVal; rw [E.out, if_neg h])
  have C := parse_any s w hm
  unfold Parsed at C
  generalize parseOf s = p at *
  have k : ((p.1 : Int) != 0) = true := by rw [bne_iff_ne]; omega
  go_enter Try.func19, Try.ntmps19
  go_wp2_with fail
  refine C.mono ?_
  rintro e w1 ⟨ao, cap, rfl, _, hb⟩
  go_wp2_with fail
  go_ret2
  exact ⟨by rw [E.out, V.out]; rfl, hb⟩

set_option maxHeartbeats 400000 in
theorem holds_bad (hm : s.size ≤ maxLen) (h : (parseOf s).1 = 0) (h1 : Ints w a1 l1 c1 z1) (h2 : Ints w a2 l2 c2 z2) (hj : joinErr z1 z2 ≠ 0) : Calls Try.prog 19 #[.string s, .slice a1 l1 c1, .slice a2 l2 c2] w fun e w' => e = .returned (.tuple #[.bool (holdVal s z1 z2), .int .i64 (holdErr s z1 z2)]) ∧ Below w.heap.size w w' := by
  have E : Hid (holdErr s z1 z2 = joinErr z1 z2) := hid (by unfold holdErr; rw [if_pos h])
  have V : Hid (holdVal s z1 z2 = false) := hid (by unfold holdVal; rw [E.out, if_neg hj])
  have C := parse_any s w hm
  unfold Parsed at C
  have J := fun W (b : Below w.heap.size w W) => join_any a1 a2 l1 c1 l2 c2 z1 z2 W (h1.below b) (h2.below b)
  unfold Joined at J
  generalize parseOf s = p at *
  obtain ⟨p1, p2⟩ := p
  dsimp only at *
  subst h
  have k : ((joinErr z1 z2 : Int) != 0) = true := by rw [bne_iff_ne]; omega
  generalize joinErr z1 z2 = je at *
  go_enter Try.func19, Try.ntmps19
  go_wp2_with fail
  refine C.mono ?_
  rintro e w1 ⟨ao, cap, rfl, own, hb⟩
  clear C own
  go_wp2_with fail
  refine (J _ hb).mono ?_
  rintro e w2 ⟨hb2, ⟨_, rfl⟩ | ⟨h0, _⟩⟩
  · have hz := hb.size
    clear J
    go_wp2_with fail
    go_ret2
    exact ⟨by rw [E.out, V.out]; rfl, (hb.trans (hb2.mono hz)).alloc (Nat.le_trans hz hb2.size) _⟩
  · exact absurd h0 hj

set_option maxHeartbeats 800000 in
theorem holds_ok (hm : s.size ≤ maxLen) (h : (parseOf s).1 = 0) (h1 : Ints w a1 l1 c1 z1) (h2 : Ints w a2 l2 c2 z2) (hj : joinErr z1 z2 = 0) : Calls Try.prog 19 #[.string s, .slice a1 l1 c1, .slice a2 l2 c2] w fun e w' => e = .returned (.tuple #[.bool (holdVal s z1 z2), .int .i64 (holdErr s z1 z2)]) ∧ Below w.heap.size w w' := by
  have E : Hid (holdErr s z1 z2 = 0) := hid (by unfold holdErr; rw [if_pos h]; exact hj)
  have V : Hid (holdVal s z1 z2 = holdsB z1.length (parseOf s).2 (natOf (z1 ++ z2))) := hid (by unfold holdVal; rw [E.out, if_pos rfl])
  have C := parse_any s w hm
  unfold Parsed at C
  have J := fun W (b : Below w.heap.size w W) => join_any a1 a2 l1 c1 l2 c2 z1 z2 W (h1.below b) (h2.below b)
  unfold Joined at J
  have G := hid (parse_good h)
  obtain ⟨q1, q2, q3, q4, q5⟩ := joinErr_zero hj
  have LN := letters_nat (allL_append q4 q5)
  rw [LN.1] at J
  have L8 := hid LN.2
  have hnl : (natOf (z1 ++ z2)).length = z1.length + z2.length := by simp [natOf]
  clear LN q4 q5
  generalize parseOf s = p at *
  obtain ⟨p1, p2⟩ := p
  dsimp only at *
  subst h
  rw [hj] at J
  generalize natOf (z1 ++ z2) = xs at *
  have HNL := hid hnl
  clear hnl hj
  generalize z1.length = n1 at *
  generalize z2.length = n2 at *
  go_enter Try.func19, Try.ntmps19
  go_wp2_with fail
  refine C.mono ?_
  rintro e w1 ⟨ao, cap, rfl, own, hb⟩
  have OWN := hid own
  clear C own
  go_wp2_with fail
  refine (J _ hb).mono ?_
  rintro e w2 ⟨hb2, ⟨h0, _⟩ | ⟨_, g, cap2, rfl, own2⟩⟩
  · exact absurd rfl h0
  have hz := hb.size
  have OWN2 := hid own2
  have HB2 := hid hb2
  clear J own2 hb2
  go_wp2_with fail
  have ownN := (OWN.out.kept (row := none) ⟨HB2.out.os, HB2.out.tape, HB2.out.output, HB2.out.size, fun k hk _ => HB2.out.block k hk⟩ (by cases hv : (Value.slice ao p2.length cap).ownBlock <;> simp)).alloc (.cells #[.slice (some ⟨g, 0, none⟩) (n1 + n2) cap2, .int .i64 n1] 81)
  refine (eholds_any _ _ g (n1 + n2) cap2 n1 p2.length cap ao xs p2 _ (OWN2.out.alloc _) ownN G.out rfl HNL.out (by omega) (by omega) L8.out).mono ?_
  rintro e w3 ⟨rfl, hb3⟩
  clear ownN
  have hz2 := HB2.out.size
  have B3 := hid (((hb.trans (HB2.out.mono hz)).alloc (Nat.le_trans hz hz2) _).trans (hb3.mono (by simp; omega)))
  clear hb3
  go_wp2_with fail
  go_ret2
  exact ⟨by rw [E.out, V.out]; rfl, B3.out⟩

theorem holds_any (hm : s.size ≤ maxLen) (h1 : Ints w a1 l1 c1 z1) (h2 : Ints w a2 l2 c2 z2) : Calls Try.prog 19 #[.string s, .slice a1 l1 c1, .slice a2 l2 c2] w fun e w' => e = .returned (.tuple #[.bool (holdVal s z1 z2), .int .i64 (holdErr s z1 z2)]) ∧ Below w.heap.size w w' := by
  by_cases h : (parseOf s).1 = 0
  · by_cases hj : joinErr z1 z2 = 0
    · exact holds_ok s a1 a2 l1 c1 l2 c2 z1 z2 w hm h h1 h2 hj
    · exact holds_bad s a1 a2 l1 c1 l2 c2 z1 z2 w hm h h1 h2 hj
  · exact holds_no s a1 a2 l1 c1 l2 c2 z1 z2 w hm h
end

end Go.Proofs.Ytjagijohfkffiab
