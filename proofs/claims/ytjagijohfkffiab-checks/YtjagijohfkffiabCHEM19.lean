import Derived.Test.YtjagijohfkffiabCHEM01
import Derived.Test.YtjagijohfkffiabCHEM14
import Derived.Test.YtjagijohfkffiabCHEM16
import Derived.Laws.AppendOwnNone

/- The walks of the program's reader: single, pair, formula (by induction), Parse, Size. -/
namespace Go.Proofs.Ytjagijohfkffiab
open Go.RowKit
set_option linter.unusedVariables false

/-- What a reading leaves. -/
def Rdd (o : Option (Nat × List Nd)) (R : Nat) (s : ByteArray) (w : World) (e : Ending) (w' : World) : Prop :=
  (o = none ∧ e = .returned (.bool false) ∧ Below R w w') ∨ (∃ a' ns', o = some (a', ns') ∧ e = .returned (.bool true) ∧ Rd w' R s a' ns' ∧ Below R w w')

/-- The contract of 'formula' at fuel k. -/
def FormulaAt (k R : Nat) (s : ByteArray) : Prop :=
  ∀ (a : Nat) (ns : List Nd) (w : World), Rd w R s a ns → s.size < a + k → a ≤ s.size → ns.length ≤ a → Calls Try.prog 62 #[.pointer (some ⟨R, 0, none⟩)] w (Rdd (ps k s a ns) R s w)

set_option maxHeartbeats 400000 in
theorem single_any (k R : Nat) (s : ByteArray) (hs : s.size ≤ 24) (H : FormulaAt k R s) (op : Int) (ho : 0 ≤ op) (a : Nat) (ns : List Nd) (w : World) (hr : Rd w R s a ns) (hk : s.size < a + k) (ha : a ≤ s.size) (hn : ns.length ≤ a) :
    Calls Try.prog 102 #[.pointer (some ⟨R, 0, none⟩), .int .u8 op] w (Rdd (ps1 op.toNat k s a ns) R s w) := by
  have C := H a ns w hr hk ha hn
  cases e0 : ps k s a ns with
  | none =>
    have e1 : Hid (ps1 op.toNat k s a ns = none) := hid (by simp [ps1, e0])
    have E0 := hid e0
    clear e0
    go_enter Try.func102, Try.ntmps102
    go_wp2_with fail
    refine C.mono ?_
    rintro e w1 (⟨_, rfl, hb⟩ | ⟨a', ns', h, _⟩)
    · go_wp2_with fail
      go_ret
      exact Or.inl ⟨e1.out, rfl, hb⟩
    · rw [E0.out] at h; cases h
  | some x =>
    obtain ⟨a1, n1⟩ := x
    have e1 : Hid (ps1 op.toNat k s a ns = some (a1, n1 ++ [⟨op.toNat, n1.length - 1, 0⟩])) := hid (by simp [ps1, e0])
    have E0 := hid e0
    have g := ps_grows k s a ns a1 n1 e0
    clear e0
    go_enter Try.func102, Try.ntmps102
    go_wp2_with fail
    refine C.mono ?_
    rintro e w1 (⟨h, _⟩ | ⟨a', ns', h, rfl, hr1, hb⟩)
    · rw [E0.out] at h; cases h
    · rw [E0.out] at h
      simp only [Option.some.injEq, Prod.mk.injEq] at h
      obtain ⟨rfl, rfl⟩ := h
      obtain ⟨ao, cap, c2, _⟩ := hr1.c2
      go_wp2_with fail
      refine (add_any R a1 op _ 0 s n1 w1 (by omega) ho (by omega) (by omega) hr1).mono ?_
      rintro e w2 ⟨rfl, hr2, hb2⟩
      clear c2
      go_wp2_with fail
      go_ret
      refine Or.inr ⟨_, _, e1.out, rfl, ?_, hb.trans hb2⟩
      rw [show ((n1.length : Int) - 1).toNat = n1.length - 1 from by omega] at hr2
      exact hr2

theorem nxt_in {s : ByteArray} {a : Nat} (h : bt s a ≠ 0) : nxt s a = a + 1 := by unfold nxt; rw [if_pos (bt_lt h)]

set_option maxHeartbeats 800000 in
theorem pair_any (k R : Nat) (s : ByteArray) (hs : s.size ≤ 24) (H : FormulaAt k R s) (a : Nat) (ns : List Nd) (w : World) (hr : Rd w R s a ns) (hk : s.size < a + k) (ha : a ≤ s.size) (hn : ns.length ≤ a) :
    Calls Try.prog 103 #[.pointer (some ⟨R, 0, none⟩)] w (Rdd (ps2 k s a ns) R s w) := by
  have C := H a ns w hr hk ha hn
  cases e0 : ps k s a ns with
  | none =>
    have e1 : Hid (ps2 k s a ns = none) := hid (by simp [ps2, e0])
    have E0 := hid e0
    clear e0
    go_enter Try.func103, Try.ntmps103
    go_wp2_with fail
    refine C.mono ?_
    rintro e w1 (⟨_, rfl, hb⟩ | ⟨a', ns', h, _⟩)
    · go_wp2_with fail
      go_ret
      exact Or.inl ⟨e1.out, rfl, hb⟩
    · rw [E0.out] at h; cases h
  | some x =>
    obtain ⟨a1, n1⟩ := x
    have g1 := ps_grows k s a ns a1 n1 e0
    have H1 : a1 + 1 ≤ s.size → Hid (∀ (w : World), Rd w R s (a1 + 1) n1 → Calls Try.prog 62 #[.pointer (some ⟨R, 0, none⟩)] w (Rdd (ps k s (a1 + 1) n1) R s w)) := fun hl => hid (fun w h => H (a1 + 1) n1 w h (by omega) hl (by omega))
    by_cases b4 : twoB (bt s a1) = true
    · have hlt := bt_lt (two_ne b4)
      have hnx := hid (nxt_in (two_ne b4))
      cases e2 : ps k s (a1 + 1) n1 with
      | none =>
        have e1 : Hid (ps2 k s a ns = none) := hid (by simp [ps2, e0, b4, e2])
        have E0 := hid e0
        have E2 := hid e2
        have B4 := hid b4
        clear e0 e2 b4
        go_enter Try.func103, Try.ntmps103
        go_wp2_with fail
        refine C.mono ?_
        rintro e w1 (⟨h, _⟩ | ⟨a', ns', h, rfl, hr1, hb⟩)
        · rw [E0.out] at h; cases h
        rw [E0.out] at h
        simp only [Option.some.injEq, Prod.mk.injEq] at h
        obtain ⟨rfl, rfl⟩ := h
        obtain ⟨ao, cap, c2, _⟩ := hr1.c2
        go_wp2_with fail
        refine (take_any R a1 s n1 w1 hs (by omega) hr1).mono ?_
        rintro e w2 ⟨rfl, hr2, hb2⟩
        rw [hnx.out] at hr2
        go_wp2_with fail
        refine (joins_any (bt s a1) w2 (bt_256 _ _)).mono ?_
        rintro e w3 ⟨rfl, rfl⟩
        rw [B4.out]
        go_wp2_with fail
        refine ((H1 hlt).out _ hr2).mono ?_
        rintro e w4 (⟨_, rfl, hb4⟩ | ⟨a', ns', h, _⟩)
        · go_wp2_with fail
          go_ret
          exact Or.inl ⟨e1.out, rfl, (hb.trans hb2).trans hb4⟩
        · rw [E2.out] at h; cases h
      | some x =>
        obtain ⟨a2, n2⟩ := x
        have g2 := ps_grows k s _ n1 a2 n2 e2
        by_cases b5 : bt s a2 = 41
        · have e1 : Hid (ps2 k s a ns = some (a2 + 1, n2 ++ [⟨bt s a1, n1.length - 1, n2.length - 1⟩])) := hid (by simp [ps2, e0, b4, e2, b5])
          have hnx2 := hid (nxt_in (s := s) (a := a2) (by omega))
          have B5 := hid b5
          have E0 := hid e0
          have E2 := hid e2
          have B4 := hid b4
          clear e0 e2 b4 b5
          go_enter Try.func103, Try.ntmps103
          go_wp2_with fail
          refine C.mono ?_
          rintro e w1 (⟨h, _⟩ | ⟨a', ns', h, rfl, hr1, hb⟩)
          · rw [E0.out] at h; cases h
          rw [E0.out] at h
          simp only [Option.some.injEq, Prod.mk.injEq] at h
          obtain ⟨rfl, rfl⟩ := h
          obtain ⟨ao, cap, c2, _⟩ := hr1.c2
          go_wp2_with fail
          refine (take_any R a1 s n1 w1 hs (by omega) hr1).mono ?_
          rintro e w2 ⟨rfl, hr2, hb2⟩
          rw [hnx.out] at hr2
          clear c2
          go_wp2_with fail
          refine (joins_any (bt s a1) w2 (bt_256 _ _)).mono ?_
          rintro e w3 ⟨rfl, rfl⟩
          rw [B4.out]
          go_wp2_with fail
          refine ((H1 hlt).out _ hr2).mono ?_
          rintro e w4 (⟨h, _⟩ | ⟨a', ns', h, rfl, hr4, hb4⟩)
          · rw [E2.out] at h; cases h
          rw [E2.out] at h
          simp only [Option.some.injEq, Prod.mk.injEq] at h
          obtain ⟨rfl, rfl⟩ := h
          obtain ⟨ao2, cap2, c4, _⟩ := hr4.c2
          go_wp2_with fail
          refine (take_any R a2 s n2 w4 hs (by omega) hr4).mono ?_
          rintro e w5 ⟨rfl, hr5, hb5⟩
          rw [hnx2.out] at hr5
          rw [B5.out]
          clear c4
          go_wp2_with fail
          refine (add_any R (a2 + 1) _ _ _ s n2 w5 (by omega) (by omega) (by omega) (by omega) hr5).mono ?_
          rintro e w6 ⟨rfl, hr6, hb6⟩
          go_wp2_with fail
          go_ret
          refine Or.inr ⟨_, _, e1.out, rfl, ?_, (((hb.trans hb2).trans hb4).trans hb5).trans hb6⟩
          rw [show ((n1.length : Int) - 1).toNat = n1.length - 1 from by omega, show ((n2.length : Int) - 1).toNat = n2.length - 1 from by omega, Int.toNat_natCast] at hr6
          exact hr6
        · have e1 : Hid (ps2 k s a ns = none) := hid (by simp [ps2, e0, b4, e2, b5])
          have b6 : ((bt s a2 : Int) != 41) = true := by rw [bne_iff_ne]; omega
          have E0 := hid e0
          have E2 := hid e2
          have B4 := hid b4
          clear e0 e2 b4 b5
          go_enter Try.func103, Try.ntmps103
          go_wp2_with fail
          refine C.mono ?_
          rintro e w1 (⟨h, _⟩ | ⟨a', ns', h, rfl, hr1, hb⟩)
          · rw [E0.out] at h; cases h
          rw [E0.out] at h
          simp only [Option.some.injEq, Prod.mk.injEq] at h
          obtain ⟨rfl, rfl⟩ := h
          obtain ⟨ao, cap, c2, _⟩ := hr1.c2
          go_wp2_with fail
          refine (take_any R a1 s n1 w1 hs (by omega) hr1).mono ?_
          rintro e w2 ⟨rfl, hr2, hb2⟩
          rw [hnx.out] at hr2
          clear c2
          go_wp2_with fail
          refine (joins_any (bt s a1) w2 (bt_256 _ _)).mono ?_
          rintro e w3 ⟨rfl, rfl⟩
          rw [B4.out]
          go_wp2_with fail
          refine ((H1 hlt).out _ hr2).mono ?_
          rintro e w4 (⟨h, _⟩ | ⟨a', ns', h, rfl, hr4, hb4⟩)
          · rw [E2.out] at h; cases h
          rw [E2.out] at h
          simp only [Option.some.injEq, Prod.mk.injEq] at h
          obtain ⟨rfl, rfl⟩ := h
          obtain ⟨ao2, cap2, c4, _⟩ := hr4.c2
          go_wp2_with fail
          refine (take_any R a2 s n2 w4 hs (by omega) hr4).mono ?_
          rintro e w5 ⟨rfl, hr5, hb5⟩
          clear c4
          go_wp2_with fail
          go_ret
          exact Or.inl ⟨e1.out, rfl, ((hb.trans hb2).trans hb4).trans hb5⟩
    · rw [Bool.not_eq_true] at b4
      have e1 : Hid (ps2 k s a ns = none) := hid (by simp [ps2, e0, b4])
      have E0 := hid e0
      have B4 := hid b4
      clear e0 b4
      go_enter Try.func103, Try.ntmps103
      go_wp2_with fail
      refine C.mono ?_
      rintro e w1 (⟨h, _⟩ | ⟨a', ns', h, rfl, hr1, hb⟩)
      · rw [E0.out] at h; cases h
      rw [E0.out] at h
      simp only [Option.some.injEq, Prod.mk.injEq] at h
      obtain ⟨rfl, rfl⟩ := h
      obtain ⟨ao, cap, c2, _⟩ := hr1.c2
      go_wp2_with fail
      refine (take_any R a1 s n1 w1 hs (by omega) hr1).mono ?_
      rintro e w2 ⟨rfl, hr2, hb2⟩
      clear c2
      go_wp2_with fail
      refine (joins_any (bt s a1) w2 (bt_256 _ _)).mono ?_
      rintro e w3 ⟨rfl, rfl⟩
      rw [B4.out]
      go_wp2_with fail
      go_ret
      exact Or.inl ⟨e1.out, rfl, hb.trans hb2⟩

set_option maxHeartbeats 800000 in
theorem formula_any (R : Nat) (s : ByteArray) (hs : s.size ≤ 24) (k : Nat) : FormulaAt k R s := by
  induction k with
  | zero => intro a ns w hr hk ha hn; omega
  | succ k ih =>
    intro a ns w hr hk ha hn
    have T := take_any R a s ns w hs ha hr
    by_cases h48 : bt s a = 48
    · have e1 : Hid (ps (k + 1) s a ns = some (a + 1, ns ++ [⟨48, 0, 0⟩])) := hid (by rw [ps_leaf (by rw [h48]; decide), h48])
      have hnx := hid (nxt_in (s := s) (a := a) (by omega))
      have B := hid h48
      clear h48
      go_enter Try.func62, Try.ntmps62
      go_wp2_with fail
      refine T.mono ?_
      rintro e w1 ⟨rfl, hr1, hb⟩
      rw [hnx.out] at hr1
      rw [B.out]
      go_wp2_with fail
      refine (add_any R (a + 1) _ 0 0 s ns w1 (by omega) (by omega) (by omega) (by omega) hr1).mono ?_
      rintro e w2 ⟨rfl, hr2, hb2⟩
      go_wp2_with fail
      go_ret
      exact Or.inr ⟨_, _, e1.out, rfl, hr2, hb.trans hb2⟩
    by_cases h49 : bt s a = 49
    · have e1 : Hid (ps (k + 1) s a ns = some (a + 1, ns ++ [⟨49, 0, 0⟩])) := hid (by rw [ps_leaf (by rw [h49]; decide), h49])
      have hnx := hid (nxt_in (s := s) (a := a) (by omega))
      have B := hid h49
      clear h49
      go_enter Try.func62, Try.ntmps62
      go_wp2_with fail
      refine T.mono ?_
      rintro e w1 ⟨rfl, hr1, hb⟩
      rw [hnx.out] at hr1
      rw [B.out]
      go_wp2_with fail
      refine (add_any R (a + 1) _ 0 0 s ns w1 (by omega) (by omega) (by omega) (by omega) hr1).mono ?_
      rintro e w2 ⟨rfl, hr2, hb2⟩
      go_wp2_with fail
      go_ret
      exact Or.inr ⟨_, _, e1.out, rfl, hr2, hb.trans hb2⟩
    by_cases h112 : bt s a = 112
    · have e1 : Hid (ps (k + 1) s a ns = some (a + 1, ns ++ [⟨112, 0, 0⟩])) := hid (by rw [ps_leaf (by rw [h112]; decide), h112])
      have hnx := hid (nxt_in (s := s) (a := a) (by omega))
      have B := hid h112
      clear h112
      go_enter Try.func62, Try.ntmps62
      go_wp2_with fail
      refine T.mono ?_
      rintro e w1 ⟨rfl, hr1, hb⟩
      rw [hnx.out] at hr1
      rw [B.out]
      go_wp2_with fail
      refine (add_any R (a + 1) _ 0 0 s ns w1 (by omega) (by omega) (by omega) (by omega) hr1).mono ?_
      rintro e w2 ⟨rfl, hr2, hb2⟩
      go_wp2_with fail
      go_ret
      exact Or.inr ⟨_, _, e1.out, rfl, hr2, hb.trans hb2⟩
    by_cases h113 : bt s a = 113
    · have e1 : Hid (ps (k + 1) s a ns = some (a + 1, ns ++ [⟨113, 0, 0⟩])) := hid (by rw [ps_leaf (by rw [h113]; decide), h113])
      have hnx := hid (nxt_in (s := s) (a := a) (by omega))
      have B := hid h113
      clear h113
      go_enter Try.func62, Try.ntmps62
      go_wp2_with fail
      refine T.mono ?_
      rintro e w1 ⟨rfl, hr1, hb⟩
      rw [hnx.out] at hr1
      rw [B.out]
      go_wp2_with fail
      refine (add_any R (a + 1) _ 0 0 s ns w1 (by omega) (by omega) (by omega) (by omega) hr1).mono ?_
      rintro e w2 ⟨rfl, hr2, hb2⟩
      go_wp2_with fail
      go_ret
      exact Or.inr ⟨_, _, e1.out, rfl, hr2, hb.trans hb2⟩
    by_cases h114 : bt s a = 114
    · have e1 : Hid (ps (k + 1) s a ns = some (a + 1, ns ++ [⟨114, 0, 0⟩])) := hid (by rw [ps_leaf (by rw [h114]; decide), h114])
      have hnx := hid (nxt_in (s := s) (a := a) (by omega))
      have B := hid h114
      clear h114
      go_enter Try.func62, Try.ntmps62
      go_wp2_with fail
      refine T.mono ?_
      rintro e w1 ⟨rfl, hr1, hb⟩
      rw [hnx.out] at hr1
      rw [B.out]
      go_wp2_with fail
      refine (add_any R (a + 1) _ 0 0 s ns w1 (by omega) (by omega) (by omega) (by omega) hr1).mono ?_
      rintro e w2 ⟨rfl, hr2, hb2⟩
      go_wp2_with fail
      go_ret
      exact Or.inr ⟨_, _, e1.out, rfl, hr2, hb.trans hb2⟩
    by_cases h33 : bt s a = 33
    · have e1 : Hid (ps (k + 1) s a ns = ps1 33 k s (a + 1) ns) := hid (by rw [ps_one (by rw [h33]; decide), h33])
      have hlt := bt_lt (s := s) (i := a) (by omega)
      have hnx := hid (nxt_in (s := s) (a := a) (by omega))
      have B := hid h33
      clear h33
      go_enter Try.func62, Try.ntmps62
      go_wp2_with fail
      refine T.mono ?_
      rintro e w1 ⟨rfl, hr1, hb⟩
      rw [hnx.out] at hr1
      rw [B.out]
      go_wp2_with fail
      refine (single_any k R s hs ih _ (by omega) (a + 1) ns w1 hr1 (by omega) (by omega) (by omega)).mono ?_
      rintro e w2 h
      rcases h with ⟨h, rfl, hb2⟩ | ⟨a', ns', h, rfl, hr2, hb2⟩
      · go_wp2_with fail
        go_ret
        exact Or.inl ⟨e1.out.trans h, rfl, hb.trans hb2⟩
      · go_wp2_with fail
        go_ret
        exact Or.inr ⟨a', ns', e1.out.trans h, rfl, hr2, hb.trans hb2⟩
    by_cases h88 : bt s a = 88
    · have e1 : Hid (ps (k + 1) s a ns = ps1 88 k s (a + 1) ns) := hid (by rw [ps_one (by rw [h88]; decide), h88])
      have hlt := bt_lt (s := s) (i := a) (by omega)
      have hnx := hid (nxt_in (s := s) (a := a) (by omega))
      have B := hid h88
      clear h88
      go_enter Try.func62, Try.ntmps62
      go_wp2_with fail
      refine T.mono ?_
      rintro e w1 ⟨rfl, hr1, hb⟩
      rw [hnx.out] at hr1
      rw [B.out]
      go_wp2_with fail
      refine (single_any k R s hs ih _ (by omega) (a + 1) ns w1 hr1 (by omega) (by omega) (by omega)).mono ?_
      rintro e w2 h
      rcases h with ⟨h, rfl, hb2⟩ | ⟨a', ns', h, rfl, hr2, hb2⟩
      · go_wp2_with fail
        go_ret
        exact Or.inl ⟨e1.out.trans h, rfl, hb.trans hb2⟩
      · go_wp2_with fail
        go_ret
        exact Or.inr ⟨a', ns', e1.out.trans h, rfl, hr2, hb.trans hb2⟩
    by_cases h70 : bt s a = 70
    · have e1 : Hid (ps (k + 1) s a ns = ps1 70 k s (a + 1) ns) := hid (by rw [ps_one (by rw [h70]; decide), h70])
      have hlt := bt_lt (s := s) (i := a) (by omega)
      have hnx := hid (nxt_in (s := s) (a := a) (by omega))
      have B := hid h70
      clear h70
      go_enter Try.func62, Try.ntmps62
      go_wp2_with fail
      refine T.mono ?_
      rintro e w1 ⟨rfl, hr1, hb⟩
      rw [hnx.out] at hr1
      rw [B.out]
      go_wp2_with fail
      refine (single_any k R s hs ih _ (by omega) (a + 1) ns w1 hr1 (by omega) (by omega) (by omega)).mono ?_
      rintro e w2 h
      rcases h with ⟨h, rfl, hb2⟩ | ⟨a', ns', h, rfl, hr2, hb2⟩
      · go_wp2_with fail
        go_ret
        exact Or.inl ⟨e1.out.trans h, rfl, hb.trans hb2⟩
      · go_wp2_with fail
        go_ret
        exact Or.inr ⟨a', ns', e1.out.trans h, rfl, hr2, hb.trans hb2⟩
    by_cases h71 : bt s a = 71
    · have e1 : Hid (ps (k + 1) s a ns = ps1 71 k s (a + 1) ns) := hid (by rw [ps_one (by rw [h71]; decide), h71])
      have hlt := bt_lt (s := s) (i := a) (by omega)
      have hnx := hid (nxt_in (s := s) (a := a) (by omega))
      have B := hid h71
      clear h71
      go_enter Try.func62, Try.ntmps62
      go_wp2_with fail
      refine T.mono ?_
      rintro e w1 ⟨rfl, hr1, hb⟩
      rw [hnx.out] at hr1
      rw [B.out]
      go_wp2_with fail
      refine (single_any k R s hs ih _ (by omega) (a + 1) ns w1 hr1 (by omega) (by omega) (by omega)).mono ?_
      rintro e w2 h
      rcases h with ⟨h, rfl, hb2⟩ | ⟨a', ns', h, rfl, hr2, hb2⟩
      · go_wp2_with fail
        go_ret
        exact Or.inl ⟨e1.out.trans h, rfl, hb.trans hb2⟩
      · go_wp2_with fail
        go_ret
        exact Or.inr ⟨a', ns', e1.out.trans h, rfl, hr2, hb.trans hb2⟩
    by_cases h40 : bt s a = 40
    · have e1 : Hid (ps (k + 1) s a ns = ps2 k s (a + 1) ns) := hid (ps_two h40)
      have hlt := bt_lt (s := s) (i := a) (by omega)
      have hnx := hid (nxt_in (s := s) (a := a) (by omega))
      have B := hid h40
      clear h40
      go_enter Try.func62, Try.ntmps62
      go_wp2_with fail
      refine T.mono ?_
      rintro e w1 ⟨rfl, hr1, hb⟩
      rw [hnx.out] at hr1
      rw [B.out]
      go_wp2_with fail
      refine (pair_any k R s hs ih (a + 1) ns w1 hr1 (by omega) (by omega) (by omega)).mono ?_
      rintro e w2 h
      rcases h with ⟨h, rfl, hb2⟩ | ⟨a', ns', h, rfl, hr2, hb2⟩
      · go_wp2_with fail
        go_ret
        exact Or.inl ⟨e1.out.trans h, rfl, hb.trans hb2⟩
      · go_wp2_with fail
        go_ret
        exact Or.inr ⟨a', ns', e1.out.trans h, rfl, hr2, hb.trans hb2⟩
    have e1 : Hid (ps (k + 1) s a ns = none) := hid (ps_no (by simp [leafB, h48, h49, h112, h113, h114]) (by simp [oneB, h33, h88, h70, h71]) h40)
    have k48 : ((bt s a : Int) == 48) = false := beq_eq_false_iff_ne.2 (by omega)
    have k49 : ((bt s a : Int) == 49) = false := beq_eq_false_iff_ne.2 (by omega)
    have k112 : ((bt s a : Int) == 112) = false := beq_eq_false_iff_ne.2 (by omega)
    have k113 : ((bt s a : Int) == 113) = false := beq_eq_false_iff_ne.2 (by omega)
    have k114 : ((bt s a : Int) == 114) = false := beq_eq_false_iff_ne.2 (by omega)
    have k33 : ((bt s a : Int) == 33) = false := beq_eq_false_iff_ne.2 (by omega)
    have k88 : ((bt s a : Int) == 88) = false := beq_eq_false_iff_ne.2 (by omega)
    have k70 : ((bt s a : Int) == 70) = false := beq_eq_false_iff_ne.2 (by omega)
    have k71 : ((bt s a : Int) == 71) = false := beq_eq_false_iff_ne.2 (by omega)
    have k40 : ((bt s a : Int) == 40) = false := beq_eq_false_iff_ne.2 (by omega)
    clear h48 h49 h112 h113 h114 h33 h88 h70 h71 h40
    go_enter Try.func62, Try.ntmps62
    go_wp2_with fail
    refine T.mono ?_
    rintro e w1 ⟨rfl, hr1, hb⟩
    go_wp2_with fail
    go_ret
    exact Or.inl ⟨e1.out, rfl, hb⟩

end Go.Proofs.Ytjagijohfkffiab

/- The walks of Parse and Size. -/
namespace Go.Proofs.Ytjagijohfkffiab
open Go.RowKit
set_option linter.unusedVariables false

/-- What Parse answers: the error, the nodes in memory of its own. -/
def Parsed (s : ByteArray) (w : World) (e : Ending) (w' : World) : Prop :=
  ∃ ao cap, e = .returned (.tuple #[.slice ao (parseOf s).2.length cap, .int .i64 (parseOf s).1]) ∧ w'.ownsRow w.heap.size 124 3 (.slice ao (parseOf s).2.length cap) (parseOf s).2.length (flat (parseOf s).2) ∧ Below w.heap.size w w'

theorem parsed_err {s : ByteArray} {w w' : World} {k : Nat} (h : parseOf s = (k, [])) (hb : Below w.heap.size w w') : Parsed s w (.returned (.tuple #[.slice none 0 0, .int .i64 k])) w' := by
  unfold Parsed
  rw [h]
  exact ⟨none, 0, rfl, World.ownsRow_nil _ _ _ _, hb⟩

theorem rd_new (w : World) (s : ByteArray) : Rd (w.alloc (.cells #[.string s, .int .i64 0, .slice none 0 0] 120)) w.heap.size s 0 [] :=
  ⟨by simp, by simp, ⟨none, 0, by simp, World.ownsRow_nil _ _ _ _⟩, by simp, by simp⟩

set_option maxHeartbeats 400000 in
theorem parse_long (s : ByteArray) (w : World) (hm : s.size ≤ maxLen) (h : 24 < s.size) : Calls Try.prog 33 #[.string s] w (Parsed s w) := by
  unfold maxLen at hm
  have P := hid (parsed_err (s := s) (w := w) (w' := w) (k := 1) (by simp [parseOf, h]) (Below.refl _ _))
  go_enter Try.func33, Try.ntmps33
  go_wp2_with fail
  go_ret2
  exact P.out

set_option maxHeartbeats 400000 in
theorem parse_short (s : ByteArray) (w : World) (h : ¬ 24 < s.size) : Calls Try.prog 33 #[.string s] w (Parsed s w) := by
  have C := formula_any w.heap.size s (by omega) 25 0 [] _ (rd_new w s) (by omega) (by omega) (by simp)
  cases e0 : ps 25 s 0 [] with
  | none =>
    have P := hid (fun w' => parsed_err (s := s) (w := w) (w' := w') (k := 2) (by simp [parseOf, h, e0]))
    have E0 := hid e0
    clear e0
    go_enter Try.func33, Try.ntmps33
    go_wp2_with fail
    refine C.mono ?_
    rintro e w1 (⟨_, rfl, hb⟩ | ⟨a', ns', h, _⟩)
    · go_wp2_with fail
      go_ret2
      exact P.out _ (((Below.refl _ _).alloc (Nat.le_refl _) _).trans hb)
    · rw [E0.out] at h; cases h
  | some x =>
    obtain ⟨a, ns⟩ := x
    have g := ps_grows 25 s 0 [] a ns e0
    by_cases h1 : a = s.size
    · by_cases h2 : 8 < ns.length
      · have P := hid (fun w' => parsed_err (s := s) (w := w) (w' := w') (k := 3) (by simp [parseOf, h, e0, h1, h2]))
        have E0 := hid e0
        have h3 : ((a : Int) != (s.size : Int)) = false := by rw [bne_eq_false_iff_eq]; omega
        clear e0 h1
        go_enter Try.func33, Try.ntmps33
        go_wp2_with fail
        refine C.mono ?_
        rintro e w1 (⟨h, _⟩ | ⟨a', ns', h, rfl, hr1, hb⟩)
        · rw [E0.out] at h; cases h
        rw [E0.out] at h
        simp only [Option.some.injEq, Prod.mk.injEq] at h
        obtain ⟨rfl, rfl⟩ := h
        have c1 := hr1.c1
        obtain ⟨ao, cap, c2, own⟩ := hr1.c2
        go_wp2_with fail
        go_ret2
        exact P.out _ (((Below.refl _ _).alloc (Nat.le_refl _) _).trans hb)
      · have P : Hid (parseOf s = (0, ns)) := hid (by simp [parseOf, h, e0, h1, h2])
        have E0 := hid e0
        have h3 : ((a : Int) != (s.size : Int)) = false := by rw [bne_eq_false_iff_eq]; omega
        clear e0 h1
        go_enter Try.func33, Try.ntmps33
        go_wp2_with fail
        refine C.mono ?_
        rintro e w1 (⟨h, _⟩ | ⟨a', ns', h, rfl, hr1, hb⟩)
        · rw [E0.out] at h; cases h
        rw [E0.out] at h
        simp only [Option.some.injEq, Prod.mk.injEq] at h
        obtain ⟨rfl, rfl⟩ := h
        have c1 := hr1.c1
        obtain ⟨ao, cap, c2, own⟩ := hr1.c2
        go_wp2_with fail
        go_ret2
        unfold Parsed
        rw [P.out]
        exact ⟨ao, cap, rfl, own_mono own (Nat.le_succ _), ((Below.refl _ _).alloc (Nat.le_refl _) _).trans hb⟩
    · have P := hid (fun w' => parsed_err (s := s) (w := w) (w' := w') (k := 2) (by simp [parseOf, h, e0, h1]))
      have E0 := hid e0
      have h3 : ((a : Int) != (s.size : Int)) = true := by rw [bne_iff_ne]; omega
      clear e0
      go_enter Try.func33, Try.ntmps33
      go_wp2_with fail
      refine C.mono ?_
      rintro e w1 (⟨h, _⟩ | ⟨a', ns', h, rfl, hr1, hb⟩)
      · rw [E0.out] at h; cases h
      rw [E0.out] at h
      simp only [Option.some.injEq, Prod.mk.injEq] at h
      obtain ⟨rfl, rfl⟩ := h
      have c1 := hr1.c1
      obtain ⟨ao, cap, c2, own⟩ := hr1.c2
      go_wp2_with fail
      go_ret2
      exact P.out _ (((Below.refl _ _).alloc (Nat.le_refl _) _).trans hb)

theorem parse_any (s : ByteArray) (w : World) (hm : s.size ≤ maxLen) : Calls Try.prog 33 #[.string s] w (Parsed s w) := by
  by_cases h : 24 < s.size
  · exact parse_long s w hm h
  · exact parse_short s w h

end Go.Proofs.Ytjagijohfkffiab

/- The walk of the program's Holds. -/
namespace Go.Proofs.Ytjagijohfkffiab
open Go.RowKit
set_option linter.unusedVariables false

def natOf (zs : List Int) : List Nat := zs.map Int.toNat

theorem letters_nat {zs : List Int} (h : allL zs = true) : zs.map (Value.int .i64) = natInts (natOf zs) ∧ ∀ x ∈ natOf zs, x < 8 := by
  unfold allL at h
  rw [List.all_eq_true] at h
  constructor
  · unfold natInts natOf
    rw [List.map_map]
    apply List.map_congr_left
    intro z hz
    have := isL_iff.1 (h z hz)
    simp only [Function.comp]
    rw [Int.toNat_of_nonneg this.1]
  · intro x hx
    unfold natOf at hx
    obtain ⟨z, hz, rfl⟩ := List.mem_map.1 hx
    have := isL_iff.1 (h z hz)
    omega

theorem allL_append {a b : List Int} (h1 : allL a = true) (h2 : allL b = true) : allL (a ++ b) = true := by
  unfold allL at *
  rw [List.all_append, h1, h2]; rfl

section
variable (s : ByteArray) (a1 a2 : Option Addr) (l1 c1 l2 c2 : Nat) (z1 z2 : List Int) (w : World)

end

end Go.Proofs.Ytjagijohfkffiab

/- What Judge answers. -/
namespace Go.Proofs.Ytjagijohfkffiab
open Go.RowKit
set_option linter.unusedVariables false

end Go.Proofs.Ytjagijohfkffiab

/- The walk of the program's Judge. -/
namespace Go.Proofs.Ytjagijohfkffiab
open Go.RowKit
set_option linter.unusedVariables false

theorem ndM_of {w : World} {B gn m ncap : Nat} {ns : List Nd} (h : w.ownsRow B 124 3 (.slice (some ⟨gn, 0, none⟩) m ncap) m (flat ns)) (hl : ns.length = m) : NdM w gn ns :=
  ⟨(h.lt _ rfl).2, fun i hi => (h.cellAt (i * 3) (by omega)).trans (flat_get ns i (by omega)).1, fun i hi => (h.cellAt (i * 3 + 1) (by omega)).trans (flat_get ns i (by omega)).2.1, fun i hi => (h.cellAt (i * 3 + 2) (by omega)).trans (flat_get ns i (by omega)).2.2⟩

section
variable (s : ByteArray) (a1 : Option Addr) (l1 c1 : Nat) (z1 : List Int) (w : World)

end

end Go.Proofs.Ytjagijohfkffiab

/- The walks of verdictkeep's small functions: pick, word, looped, joined, holding. -/
namespace Go.Proofs.Ytjagijohfkffiab
open Go.RowKit
set_option linter.unusedVariables false

/-- 'append' on a slice of the call's own, of whatever is appended. -/
theorem wpList_append_any {P : Program} (w : World) {ops : Array Oper} {rest : List Oper} {o : Oper} {a : Act} {Q : Exit → Act → World → Prop} (hgd : o.guard = none) (s x : Operand) (t : TypeId)
    (ho : o.op = .call { callee := .builtin .append, args := #[s, x], argTypes := #[t, t] })
    (base : Nat) (e : TypeId) (i : TypeInfo) (z : Value) (size bytes : Nat) (ht : P.underlying t = some (.slice e)) (hi : P.info? e = some i) (hz : i.zero = some z)
    (hsize : i.size = size) (hby : i.bytes = bytes) (hzs : z.cells.size = size) (hsz : 0 < size)
    (v : Value) (n : Nat) (xs : List Value) (hs : a.eval s = v) (hown : w.ownsRow base e size v n xs)
    (ao : Option Addr) (m c : Nat) (news : List Value) (hx : a.eval x = .slice ao m c) (hl : news.length = m * size) (hnone : ao = none → m = 0 ∧ c = 0) (hnews : ∀ ad, ao = some ad → ∀ j u, news[j]? = some u → w.cell? (ad.add j) = some u) (h1 : ∀ u ∈ news, u.oneCell' = true)
    (h63 : n + m ≤ maxLen) (hbytes : (n + m) * bytes ≤ 140737488355328) (hbase : base ≤ w.heap.size)
    (h : ∀ v' w', w'.ownsRow base e size v' (n + m) (xs ++ news) → w.grownBy w' v.ownBlock → wpList P ops Q rest (a.put o.dst v') w') : wpList P ops Q (o :: rest) a w := by
  cases ao with
  | none =>
    obtain ⟨rfl, rfl⟩ := hnone rfl
    have hn : news = [] := List.eq_nil_of_length_eq_zero (by simpa using hl)
    subst hn
    refine wpList_append_own_none hgd s x t ho base e i size ht hi v n xs hs hown hx ?_
    exact h v w (by simpa using hown) (World.grownBy.refl _ _)
  | some ad =>
    exact wpList_append_own w hgd s x t ho base e i z size bytes ht hi hz hsize hby hzs hsz v n xs hs hown ad m c news hx hl (hnews ad rfl) h1 h63 hbytes hbase (fun v' w' h2 h3 _ => h v' w' h2 h3)

def intsOf (xs : List Nat) : List Int := xs.map fun x : Nat => (x : Int)
theorem intsOf_len (xs : List Nat) : (intsOf xs).length = xs.length := by simp [intsOf]
theorem intsOf_app (xs ys : List Nat) : intsOf (xs ++ ys) = intsOf xs ++ intsOf ys := by simp [intsOf]
theorem intsOf_vals (xs : List Nat) : (intsOf xs).map (Value.int .i64) = natInts xs := by simp [intsOf, natInts]
theorem natOf_ints (xs : List Nat) : natOf (intsOf xs) = xs := by
  unfold natOf intsOf
  rw [List.map_map]
  conv => rhs; rw [← List.map_id xs]
  apply List.map_congr_left
  intro x _; simp
theorem allL_ints {xs : List Nat} (h : ∀ x ∈ xs, x < 8) : allL (intsOf xs) = true := by
  unfold allL intsOf
  rw [List.all_eq_true]
  intro z hz
  obtain ⟨x, hx, rfl⟩ := List.mem_map.1 hz
  rw [isL_iff]
  have := h x hx
  omega

/-- A row of the call's own, as a slice that is read. -/
theorem own_ints {w : World} {B n : Nat} {v : Value} {xs : List Nat} (h : w.ownsRow B 3 1 v n (natInts xs)) (hl : xs.length = n) : ∃ ao cap, v = .slice ao n cap ∧ Ints w ao n cap (intsOf xs) := by
  rcases h.2 with ⟨rfl, rfl⟩ | ⟨g, cap, cur, rfl, hb, hh, hc, hm, _⟩
  · exact ⟨none, 0, rfl, by rw [intsOf_len, hl], Nat.le_refl _, by omega, fun _ => ⟨rfl, rfl⟩, fun h => by omega⟩
  · refine ⟨_, cap, rfl, by rw [intsOf_len, hl], hc, by unfold maxLen at hm; omega, fun h => by simp at h, fun _ => ⟨g, 0, rfl, heap_lt hh, fun i hi => ?_⟩⟩
    rw [Nat.zero_add, h.cellAt i (by omega)]
    simp [natInts, intsOf, List.getD, List.getElem?_eq_getElem (show i < xs.length by omega)]

end Go.Proofs.Ytjagijohfkffiab

/- The walks of verdictkeep's small functions: looped, joined, holding. -/
namespace Go.Proofs.Ytjagijohfkffiab
open Go.RowKit
set_option linter.unusedVariables false

theorem ints_one (w : World) (z : Int) : Ints (w.alloc (.cells #[.int .i64 z] 3)) (some ⟨w.heap.size, 0, none⟩) 1 1 [z] :=
  ⟨rfl, Nat.le_refl _, by omega, fun h => by simp at h, fun _ => ⟨w.heap.size, 0, rfl, by simp, fun i hi => by
    have : i = 0 := by omega
    subst this
    simp⟩⟩

end Go.Proofs.Ytjagijohfkffiab
