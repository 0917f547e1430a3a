import Derived.Test.YtjagijohfkffiaaWRIM01
import Derived.Test.YtjagijohfkffiaaWRIM03
import Derived.Test.YtjagijohfkffiaaWRIM12
import Derived.Test.YtjagijohfkffiaaWRIM13
import Derived.Test.YtjagijohfkffiaaWRIM14
import Derived.Laws.AppendOwnNone

/- The walks of the program's reader: single, pair, formula (by induction), Parse, Size. -/
namespace Go.Proofs.Ytjagijohfkffiaa
open Go.RowKit
set_option linter.unusedVariables false

/-- What a reading leaves. -/
def Rdd (o : Option (Nat × List Nd)) (R : Nat) (s : ByteArray) (w : World) (e : Ending) (w' : World) : Prop :=
  (o = none ∧ e = .returned (.bool false) ∧ Below R w w') ∨ (∃ a' ns', o = some (a', ns') ∧ e = .returned (.bool true) ∧ Rd w' R s a' ns' ∧ Below R w w')

/-- The contract of 'formula' at fuel k. -/
def FormulaAt (k R : Nat) (s : ByteArray) : Prop :=
  ∀ (a : Nat) (ns : List Nd) (w : World), Rd w R s a ns → s.size < a + k → a ≤ s.size → ns.length ≤ a → Calls Try.prog 76 #[.pointer (some ⟨R, 0, none⟩)] w (Rdd (ps k s a ns) R s w)

set_option maxHeartbeats 400000 in
theorem single_any (k R : Nat) (s : ByteArray) (hs : s.size ≤ 24) (H : FormulaAt k R s) (op : Int) (ho : 0 ≤ op) (a : Nat) (ns : List Nd) (w : World) (hr : Rd w R s a ns) (hk : s.size < a + k) (ha : a ≤ s.size) (hn : ns.length ≤ a) :
    Calls Try.prog 103 #[.pointer (some ⟨R, 0, none⟩), .int .u8 op] w (Rdd (ps1 op.toNat k s a ns) R s w) := by
  have C := H a ns w hr hk ha hn
  cases e0 : ps k s a ns with
  | none =>
    have e1 : Hid (ps1 op.toNat k s a ns = none) := hid (by simp [ps1, e0])
    have E0 := hid e0
    clear e0
    go_enter Try.func103, Try.ntmps103
    go_wp2_with fail
    refine C.mono ?_
    rintro e w1 (⟨_, rfl, hb⟩ | ⟨a', ns', h, _⟩)
    · go_wp2_with fail
      go_ret
      exact Or.inl ⟨e1.out, rfl, hb⟩
    · rw [E0.out] at h; cases h
  | some x =>
    obtain ⟨a1, n1⟩ := x
    have e1 : Hid (ps1 op.toNat k s a ns = some (a1, n1 ++ [⟨op.toNat, n1.length - 1, 0⟩])) := hid (by simp [ps1, e0])
    have E0 := hid e0
    have g := ps_grows k s a ns a1 n1 e0
    clear e0
    go_enter Try.func103, Try.ntmps103
    go_wp2_with fail
    refine C.mono ?_
    rintro e w1 (⟨h, _⟩ | ⟨a', ns', h, rfl, hr1, hb⟩)
    · rw [E0.out] at h; cases h
    · rw [E0.out] at h
      simp only [Option.some.injEq, Prod.mk.injEq] at h
      obtain ⟨rfl, rfl⟩ := h
      obtain ⟨ao, cap, c2, _⟩ := hr1.c2
      go_wp2_with fail
      refine (add_any R a1 op _ 0 s n1 w1 (by omega) ho (by omega) (by omega) hr1).mono ?_
      rintro e w2 ⟨rfl, hr2, hb2⟩
      clear c2
      go_wp2_with fail
      go_ret
      refine Or.inr ⟨_, _, e1.out, rfl, ?_, hb.trans hb2⟩
      rw [show ((n1.length : Int) - 1).toNat = n1.length - 1 from by omega] at hr2
      exact hr2

theorem nxt_in {s : ByteArray} {a : Nat} (h : bt s a ≠ 0) : nxt s a = a + 1 := by unfold nxt; rw [if_pos (bt_lt h)]

set_option maxHeartbeats 800000 in
theorem pair_any (k R : Nat) (s : ByteArray) (hs : s.size ≤ 24) (H : FormulaAt k R s) (a : Nat) (ns : List Nd) (w : World) (hr : Rd w R s a ns) (hk : s.size < a + k) (ha : a ≤ s.size) (hn : ns.length ≤ a) :
    Calls Try.prog 104 #[.pointer (some ⟨R, 0, none⟩)] w (Rdd (ps2 k s a ns) R s w) := by
  have C := H a ns w hr hk ha hn
  cases e0 : ps k s a ns with
  | none =>
    have e1 : Hid (ps2 k s a ns = none) := hid (by simp [ps2, e0])
    have E0 := hid e0
    clear e0
    go_enter Try.func104, Try.ntmps104
    go_wp2_with fail
    refine C.mono ?_
    rintro e w1 (⟨_, rfl, hb⟩ | ⟨a', ns', h, _⟩)
    · go_wp2_with fail
      go_ret
      exact Or.inl ⟨e1.out, rfl, hb⟩
    · rw [E0.out] at h; cases h
  | some x =>
    obtain ⟨a1, n1⟩ := x
    have g1 := ps_grows k s a ns a1 n1 e0
    have H1 : a1 + 1 ≤ s.size → Hid (∀ (w : World), Rd w R s (a1 + 1) n1 → Calls Try.prog 76 #[.pointer (some ⟨R, 0, none⟩)] w (Rdd (ps k s (a1 + 1) n1) R s w)) := fun hl => hid (fun w h => H (a1 + 1) n1 w h (by omega) hl (by omega))
    by_cases b4 : twoB (bt s a1) = true
    · have hlt := bt_lt (two_ne b4)
      have hnx := hid (nxt_in (two_ne b4))
      cases e2 : ps k s (a1 + 1) n1 with
      | none =>
        have e1 : Hid (ps2 k s a ns = none) := hid (by simp [ps2, e0, b4, e2])
        have E0 := hid e0
        have E2 := hid e2
        have B4 := hid b4
        clear e0 e2 b4
        go_enter Try.func104, Try.ntmps104
        go_wp2_with fail
        refine C.mono ?_
        rintro e w1 (⟨h, _⟩ | ⟨a', ns', h, rfl, hr1, hb⟩)
        · rw [E0.out] at h; cases h
        rw [E0.out] at h
        simp only [Option.some.injEq, Prod.mk.injEq] at h
        obtain ⟨rfl, rfl⟩ := h
        obtain ⟨ao, cap, c2, _⟩ := hr1.c2
        go_wp2_with fail
        refine (take_any R a1 s n1 w1 hs (by omega) hr1).mono ?_
        rintro e w2 ⟨rfl, hr2, hb2⟩
        rw [hnx.out] at hr2
        go_wp2_with fail
        refine (joins_any (bt s a1) w2 (bt_256 _ _)).mono ?_
        rintro e w3 ⟨rfl, rfl⟩
        rw [B4.out]
        go_wp2_with fail
        refine ((H1 hlt).out _ hr2).mono ?_
        rintro e w4 (⟨_, rfl, hb4⟩ | ⟨a', ns', h, _⟩)
        · go_wp2_with fail
          go_ret
          exact Or.inl ⟨e1.out, rfl, (hb.trans hb2).trans hb4⟩
        · rw [E2.out] at h; cases h
      | some x =>
        obtain ⟨a2, n2⟩ := x
        have g2 := ps_grows k s _ n1 a2 n2 e2
        by_cases b5 : bt s a2 = 41
        · have e1 : Hid (ps2 k s a ns = some (a2 + 1, n2 ++ [⟨bt s a1, n1.length - 1, n2.length - 1⟩])) := hid (by simp [ps2, e0, b4, e2, b5])
          have hnx2 := hid (nxt_in (s := s) (a := a2) (by omega))
          have B5 := hid b5
          have E0 := hid e0
          have E2 := hid e2
          have B4 := hid b4
          clear e0 e2 b4 b5
          go_enter Try.func104, Try.ntmps104
          go_wp2_with fail
          refine C.mono ?_
          rintro e w1 (⟨h, _⟩ | ⟨a', ns', h, rfl, hr1, hb⟩)
          · rw [E0.out] at h; cases h
          rw [E0.out] at h
          simp only [Option.some.injEq, Prod.mk.injEq] at h
          obtain ⟨rfl, rfl⟩ := h
          obtain ⟨ao, cap, c2, _⟩ := hr1.c2
          go_wp2_with fail
          refine (take_any R a1 s n1 w1 hs (by omega) hr1).mono ?_
          rintro e w2 ⟨rfl, hr2, hb2⟩
          rw [hnx.out] at hr2
          clear c2
          go_wp2_with fail
          refine (joins_any (bt s a1) w2 (bt_256 _ _)).mono ?_
          rintro e w3 ⟨rfl, rfl⟩
          rw [B4.out]
          go_wp2_with fail
          refine ((H1 hlt).out _ hr2).mono ?_
          rintro e w4 (⟨h, _⟩ | ⟨a', ns', h, rfl, hr4, hb4⟩)
          · rw [E2.out] at h; cases h
          rw [E2.out] at h
          simp only [Option.some.injEq, Prod.mk.injEq] at h
          obtain ⟨rfl, rfl⟩ := h
          obtain ⟨ao2, cap2, c4, _⟩ := hr4.c2
          go_wp2_with fail
          refine (take_any R a2 s n2 w4 hs (by omega) hr4).mono ?_
          rintro e w5 ⟨rfl, hr5, hb5⟩
          rw [hnx2.out] at hr5
          rw [B5.out]
          clear c4
          go_wp2_with fail
          refine (add_any R (a2 + 1) _ _ _ s n2 w5 (by omega) (by omega) (by omega) (by omega) hr5).mono ?_
          rintro e w6 ⟨rfl, hr6, hb6⟩
          go_wp2_with fail
          go_ret
          refine Or.inr ⟨_, _, e1.out, rfl, ?_, (((hb.trans hb2).trans hb4).trans hb5).trans hb6⟩
          rw [show ((n1.length : Int) - 1).toNat = n1.length - 1 from by omega, show ((n2.length : Int) - 1).toNat = n2.length - 1 from by omega, Int.toNat_natCast] at hr6
          exact hr6
        · have e1 : Hid (ps2 k s a ns = none) := hid (by simp [ps2, e0, b4, e2, b5])
          have b6 : ((bt s a2 : Int) != 41) = true := by rw [bne_iff_ne]; omega
          have E0 := hid e0
          have E2 := hid e2
          have B4 := hid b4
          clear e0 e2 b4 b5
          go_enter Try.func104, Try.ntmps104
          go_wp2_with fail
          refine C.mono ?_
          rintro e w1 (⟨h, _⟩ | ⟨a', ns', h, rfl, hr1, hb⟩)
          · rw [E0.out] at h; cases h
          rw [E0.out] at h
          simp only [Option.some.injEq, Prod.mk.injEq] at h
          obtain ⟨rfl, rfl⟩ := h
          obtain ⟨ao, cap, c2, _⟩ := hr1.c2
          go_wp2_with fail
          refine (take_any R a1 s n1 w1 hs (by omega) hr1).mono ?_
          rintro e w2 ⟨rfl, hr2, hb2⟩
          rw [hnx.out] at hr2
          clear c2
          go_wp2_with fail
          refine (joins_any (bt s a1) w2 (bt_256 _ _)).mono ?_
          rintro e w3 ⟨rfl, rfl⟩
          rw [B4.out]
          go_wp2_with fail
          refine ((H1 hlt).out _ hr2).mono ?_
          rintro e w4 (⟨h, _⟩ | ⟨a', ns', h, rfl, hr4, hb4⟩)
          · rw [E2.out] at h; cases h
          rw [E2.out] at h
          simp only [Option.some.injEq, Prod.mk.injEq] at h
          obtain ⟨rfl, rfl⟩ := h
          obtain ⟨ao2, cap2, c4, _⟩ := hr4.c2
          go_wp2_with fail
          refine (take_any R a2 s n2 w4 hs (by omega) hr4).mono ?_
          rintro e w5 ⟨rfl, hr5, hb5⟩
          clear c4
          go_wp2_with fail
          go_ret
          exact Or.inl ⟨e1.out, rfl, ((hb.trans hb2).trans hb4).trans hb5⟩
    · rw [Bool.not_eq_true] at b4
      have e1 : Hid (ps2 k s a ns = none) := hid (by simp [ps2, e0, b4])
      have E0 := hid e0
      have B4 := hid b4
      clear e0 b4
      go_enter Try.func104, Try.ntmps104
      go_wp2_with fail
      refine C.mono ?_
      rintro e w1 (⟨h, _⟩ | ⟨a', ns', h, rfl, hr1, hb⟩)
      · rw [E0.out] at h; cases h
      rw [E0.out] at h
      simp only [Option.some.injEq, Prod.mk.injEq] at h
      obtain ⟨rfl, rfl⟩ := h
      obtain ⟨ao, cap, c2, _⟩ := hr1.c2
      go_wp2_with fail
      refine (take_any R a1 s n1 w1 hs (by omega) hr1).mono ?_
      rintro e w2 ⟨rfl, hr2, hb2⟩
      clear c2
      go_wp2_with fail
      refine (joins_any (bt s a1) w2 (bt_256 _ _)).mono ?_
      rintro e w3 ⟨rfl, rfl⟩
      rw [B4.out]
      go_wp2_with fail
      go_ret
      exact Or.inl ⟨e1.out, rfl, hb.trans hb2⟩

set_option maxHeartbeats 800000 in
theorem formula_any (R : Nat) (s : ByteArray) (hs : s.size ≤ 24) (k : Nat) : FormulaAt k R s := by
  induction k with
  | zero => intro a ns w hr hk ha hn; omega
  | succ k ih =>
    intro a ns w hr hk ha hn
    have T := take_any R a s ns w hs ha hr
    by_cases h48 : bt s a = 48
    · have e1 : Hid (ps (k + 1) s a ns = some (a + 1, ns ++ [⟨48, 0, 0⟩])) := hid (by rw [ps_leaf (by rw [h48]; decide), h48])
      have hnx := hid (nxt_in (s := s) (a := a) (by omega))
      have B := hid h48
      clear h48
      go_enter Try.func76, Try.ntmps76
      go_wp2_with fail
      refine T.mono ?_
      rintro e w1 ⟨rfl, hr1, hb⟩
      rw [hnx.out] at hr1
      rw [B.out]
      go_wp2_with fail
      refine (add_any R (a + 1) _ 0 0 s ns w1 (by omega) (by omega) (by omega) (by omega) hr1).mono ?_
      rintro e w2 ⟨rfl, hr2, hb2⟩
      go_wp2_with fail
      go_ret
      exact Or.inr ⟨_, _, e1.out, rfl, hr2, hb.trans hb2⟩
    by_cases h49 : bt s a = 49
    · have e1 : Hid (ps (k + 1) s a ns = some (a + 1, ns ++ [⟨49, 0, 0⟩])) := hid (by rw [ps_leaf (by rw [h49]; decide), h49])
      have hnx := hid (nxt_in (s := s) (a := a) (by omega))
      have B := hid h49
      clear h49
      go_enter Try.func76, Try.ntmps76
      go_wp2_with fail
      refine T.mono ?_
      rintro e w1 ⟨rfl, hr1, hb⟩
      rw [hnx.out] at hr1
      rw [B.out]
      go_wp2_with fail
      refine (add_any R (a + 1) _ 0 0 s ns w1 (by omega) (by omega) (by omega) (by omega) hr1).mono ?_
      rintro e w2 ⟨rfl, hr2, hb2⟩
      go_wp2_with fail
      go_ret
      exact Or.inr ⟨_, _, e1.out, rfl, hr2, hb.trans hb2⟩
    by_cases h112 : bt s a = 112
    · have e1 : Hid (ps (k + 1) s a ns = some (a + 1, ns ++ [⟨112, 0, 0⟩])) := hid (by rw [ps_leaf (by rw [h112]; decide), h112])
      have hnx := hid (nxt_in (s := s) (a := a) (by omega))
      have B := hid h112
      clear h112
      go_enter Try.func76, Try.ntmps76
      go_wp2_with fail
      refine T.mono ?_
      rintro e w1 ⟨rfl, hr1, hb⟩
      rw [hnx.out] at hr1
      rw [B.out]
      go_wp2_with fail
      refine (add_any R (a + 1) _ 0 0 s ns w1 (by omega) (by omega) (by omega) (by omega) hr1).mono ?_
      rintro e w2 ⟨rfl, hr2, hb2⟩
      go_wp2_with fail
      go_ret
      exact Or.inr ⟨_, _, e1.out, rfl, hr2, hb.trans hb2⟩
    by_cases h113 : bt s a = 113
    · have e1 : Hid (ps (k + 1) s a ns = some (a + 1, ns ++ [⟨113, 0, 0⟩])) := hid (by rw [ps_leaf (by rw [h113]; decide), h113])
      have hnx := hid (nxt_in (s := s) (a := a) (by omega))
      have B := hid h113
      clear h113
      go_enter Try.func76, Try.ntmps76
      go_wp2_with fail
      refine T.mono ?_
      rintro e w1 ⟨rfl, hr1, hb⟩
      rw [hnx.out] at hr1
      rw [B.out]
      go_wp2_with fail
      refine (add_any R (a + 1) _ 0 0 s ns w1 (by omega) (by omega) (by omega) (by omega) hr1).mono ?_
      rintro e w2 ⟨rfl, hr2, hb2⟩
      go_wp2_with fail
      go_ret
      exact Or.inr ⟨_, _, e1.out, rfl, hr2, hb.trans hb2⟩
    by_cases h114 : bt s a = 114
    · have e1 : Hid (ps (k + 1) s a ns = some (a + 1, ns ++ [⟨114, 0, 0⟩])) := hid (by rw [ps_leaf (by rw [h114]; decide), h114])
      have hnx := hid (nxt_in (s := s) (a := a) (by omega))
      have B := hid h114
      clear h114
      go_enter Try.func76, Try.ntmps76
      go_wp2_with fail
      refine T.mono ?_
      rintro e w1 ⟨rfl, hr1, hb⟩
      rw [hnx.out] at hr1
      rw [B.out]
      go_wp2_with fail
      refine (add_any R (a + 1) _ 0 0 s ns w1 (by omega) (by omega) (by omega) (by omega) hr1).mono ?_
      rintro e w2 ⟨rfl, hr2, hb2⟩
      go_wp2_with fail
      go_ret
      exact Or.inr ⟨_, _, e1.out, rfl, hr2, hb.trans hb2⟩
    by_cases h33 : bt s a = 33
    · have e1 : Hid (ps (k + 1) s a ns = ps1 33 k s (a + 1) ns) := hid (by rw [ps_one (by rw [h33]; decide), h33])
      have hlt := bt_lt (s := s) (i := a) (by omega)
      have hnx := hid (nxt_in (s := s) (a := a) (by omega))
      have B := hid h33
      clear h33
      go_enter Try.func76, Try.ntmps76
      go_wp2_with fail
      refine T.mono ?_
      rintro e w1 ⟨rfl, hr1, hb⟩
      rw [hnx.out] at hr1
      rw [B.out]
      go_wp2_with fail
      refine (single_any k R s hs ih _ (by omega) (a + 1) ns w1 hr1 (by omega) (by omega) (by omega)).mono ?_
      rintro e w2 h
      rcases h with ⟨h, rfl, hb2⟩ | ⟨a', ns', h, rfl, hr2, hb2⟩
      · go_wp2_with fail
        go_ret
        exact Or.inl ⟨e1.out.trans h, rfl, hb.trans hb2⟩
      · go_wp2_with fail
        go_ret
        exact Or.inr ⟨a', ns', e1.out.trans h, rfl, hr2, hb.trans hb2⟩
    by_cases h88 : bt s a = 88
    · have e1 : Hid (ps (k + 1) s a ns = ps1 88 k s (a + 1) ns) := hid (by rw [ps_one (by rw [h88]; decide), h88])
      have hlt := bt_lt (s := s) (i := a) (by omega)
      have hnx := hid (nxt_in (s := s) (a := a) (by omega))
      have B := hid h88
      clear h88
      go_enter Try.func76, Try.ntmps76
      go_wp2_with fail
      refine T.mono ?_
      rintro e w1 ⟨rfl, hr1, hb⟩
      rw [hnx.out] at hr1
      rw [B.out]
      go_wp2_with fail
      refine (single_any k R s hs ih _ (by omega) (a + 1) ns w1 hr1 (by omega) (by omega) (by omega)).mono ?_
      rintro e w2 h
      rcases h with ⟨h, rfl, hb2⟩ | ⟨a', ns', h, rfl, hr2, hb2⟩
      · go_wp2_with fail
        go_ret
        exact Or.inl ⟨e1.out.trans h, rfl, hb.trans hb2⟩
      · go_wp2_with fail
        go_ret
        exact Or.inr ⟨a', ns', e1.out.trans h, rfl, hr2, hb.trans hb2⟩
    by_cases h70 : bt s a = 70
    · have e1 : Hid (ps (k + 1) s a ns = ps1 70 k s (a + 1) ns) := hid (by rw [ps_one (by rw [h70]; decide), h70])
      have hlt := bt_lt (s := s) (i := a) (by omega)
      have hnx := hid (nxt_in (s := s) (a := a) (by omega))
      have B := hid h70
      clear h70
      go_enter Try.func76, Try.ntmps76
      go_wp2_with fail
      refine T.mono ?_
      rintro e w1 ⟨rfl, hr1, hb⟩
      rw [hnx.out] at hr1
      rw [B.out]
      go_wp2_with fail
      refine (single_any k R s hs ih _ (by omega) (a + 1) ns w1 hr1 (by omega) (by omega) (by omega)).mono ?_
      rintro e w2 h
      rcases h with ⟨h, rfl, hb2⟩ | ⟨a', ns', h, rfl, hr2, hb2⟩
      · go_wp2_with fail
        go_ret
        exact Or.inl ⟨e1.out.trans h, rfl, hb.trans hb2⟩
      · go_wp2_with fail
        go_ret
        exact Or.inr ⟨a', ns', e1.out.trans h, rfl, hr2, hb.trans hb2⟩
    by_cases h71 : bt s a = 71
    · have e1 : Hid (ps (k + 1) s a ns = ps1 71 k s (a + 1) ns) := hid (by rw [ps_one (by rw [h71]; decide), h71])
      have hlt := bt_lt (s := s) (i := a) (by omega)
      have hnx := hid (nxt_in (s := s) (a := a) (by omega))
      have B := hid h71
      clear h71
      go_enter Try.func76, Try.ntmps76
      go_wp2_with fail
      refine T.mono ?_
      rintro e w1 ⟨rfl, hr1, hb⟩
      rw [hnx.out] at hr1
      rw [B.out]
      go_wp2_with fail
      refine (single_any k R s hs ih _ (by omega) (a + 1) ns w1 hr1 (by omega) (by omega) (by omega)).mono ?_
      rintro e w2 h
      rcases h with ⟨h, rfl, hb2⟩ | ⟨a', ns', h, rfl, hr2, hb2⟩
      · go_wp2_with fail
        go_ret
        exact Or.inl ⟨e1.out.trans h, rfl, hb.trans hb2⟩
      · go_wp2_with fail
        go_ret
        exact Or.inr ⟨a', ns', e1.out.trans h, rfl, hr2, hb.trans hb2⟩
    by_cases h40 : bt s a = 40
    · have e1 : Hid (ps (k + 1) s a ns = ps2 k s (a + 1) ns) := hid (ps_two h40)
      have hlt := bt_lt (s := s) (i := a) (by omega)
      have hnx := hid (nxt_in (s := s) (a := a) (by omega))
      have B := hid h40
      clear h40
      go_enter Try.func76, Try.ntmps76
      go_wp2_with fail
      refine T.mono ?_
      rintro e w1 ⟨rfl, hr1, hb⟩
      rw [hnx.out] at hr1
      rw [B.out]
      go_wp2_with fail
      refine (pair_any k R s hs ih (a + 1) ns w1 hr1 (by omega) (by omega) (by omega)).mono ?_
      rintro e w2 h
      rcases h with ⟨h, rfl, hb2⟩ | ⟨a', ns', h, rfl, hr2, hb2⟩
      · go_wp2_with fail
        go_ret
        exact Or.inl ⟨e1.out.trans h, rfl, hb.trans hb2⟩
      · go_wp2_with fail
        go_ret
        exact Or.inr ⟨a', ns', e1.out.trans h, rfl, hr2, hb.trans hb2⟩
    have e1 : Hid (ps (k + 1) s a ns = none) := hid (ps_no (by simp [leafB, h48, h49, h112, h113, h114]) (by simp [oneB, h33, h88, h70, h71]) h40)
    have k48 : ((bt s a : Int) == 48) = false := beq_eq_false_iff_ne.2 (by omega)
    have k49 : ((bt s a : Int) == 49) = false := beq_eq_false_iff_ne.2 (by omega)
    have k112 : ((bt s a : Int) == 112) = false := beq_eq_false_iff_ne.2 (by omega)
    have k113 : ((bt s a : Int) == 113) = false := beq_eq_false_iff_ne.2 (by omega)
    have k114 : ((bt s a : Int) == 114) = false := beq_eq_false_iff_ne.2 (by omega)
    have k33 : ((bt s a : Int) == 33) = false := beq_eq_false_iff_ne.2 (by omega)
    have k88 : ((bt s a : Int) == 88) = false := beq_eq_false_iff_ne.2 (by omega)
    have k70 : ((bt s a : Int) == 70) = false := beq_eq_false_iff_ne.2 (by omega)
    have k71 : ((bt s a : Int) == 71) = false := beq_eq_false_iff_ne.2 (by omega)
    have k40 : ((bt s a : Int) == 40) = false := beq_eq_false_iff_ne.2 (by omega)
    clear h48 h49 h112 h113 h114 h33 h88 h70 h71 h40
    go_enter Try.func76, Try.ntmps76
    go_wp2_with fail
    refine T.mono ?_
    rintro e w1 ⟨rfl, hr1, hb⟩
    go_wp2_with fail
    go_ret
    exact Or.inl ⟨e1.out, rfl, hb⟩

end Go.Proofs.Ytjagijohfkffiaa

/- The walks of Parse and Size. -/
namespace Go.Proofs.Ytjagijohfkffiaa
open Go.RowKit
set_option linter.unusedVariables false

/-- What Parse answers: the error, the nodes in memory of its own. -/
def Parsed (s : ByteArray) (w : World) (e : Ending) (w' : World) : Prop :=
  ∃ ao cap, e = .returned (.tuple #[.slice ao (parseOf s).2.length cap, .int .i64 (parseOf s).1]) ∧ w'.ownsRow w.heap.size 123 3 (.slice ao (parseOf s).2.length cap) (parseOf s).2.length (flat (parseOf s).2) ∧ Below w.heap.size w w'

theorem parsed_err {s : ByteArray} {w w' : World} {k : Nat} (h : parseOf s = (k, [])) (hb : Below w.heap.size w w') : Parsed s w (.returned (.tuple #[.slice none 0 0, .int .i64 k])) w' := by
  unfold Parsed
  rw [h]
  exact ⟨none, 0, rfl, World.ownsRow_nil _ _ _ _, hb⟩

theorem rd_new (w : World) (s : ByteArray) : Rd (w.alloc (.cells #[.string s, .int .i64 0, .slice none 0 0] 113)) w.heap.size s 0 [] :=
  ⟨by simp, by simp, ⟨none, 0, by simp, World.ownsRow_nil _ _ _ _⟩, by simp, by simp⟩

set_option maxHeartbeats 400000 in
theorem parse_long (s : ByteArray) (w : World) (hm : s.size ≤ maxLen) (h : 24 < s.size) : Calls Try.prog 47 #[.string s] w (Parsed s w) := by
  unfold maxLen at hm
  have P := hid (parsed_err (s := s) (w := w) (w' := w) (k := 1) (by simp [parseOf, h]) (Below.refl _ _))
  go_enter Try.func47, Try.ntmps47
  go_wp2_with fail
  go_ret2
  exact P.out

set_option maxHeartbeats 400000 in
theorem parse_short (s : ByteArray) (w : World) (h : ¬ 24 < s.size) : Calls Try.prog 47 #[.string s] w (Parsed s w) := by
  have C := formula_any w.heap.size s (by omega) 25 0 [] _ (rd_new w s) (by omega) (by omega) (by simp)
  cases e0 : ps 25 s 0 [] with
  | none =>
    have P := hid (fun w' => parsed_err (s := s) (w := w) (w' := w') (k := 2) (by simp [parseOf, h, e0]))
    have E0 := hid e0
    clear e0
    go_enter Try.func47, Try.ntmps47
    go_wp2_with fail
    refine C.mono ?_
    rintro e w1 (⟨_, rfl, hb⟩ | ⟨a', ns', h, _⟩)
    · go_wp2_with fail
      go_ret2
      exact P.out _ (((Below.refl _ _).alloc (Nat.le_refl _) _).trans hb)
    · rw [E0.out] at h; cases h
  | some x =>
    obtain ⟨a, ns⟩ := x
    have g := ps_grows 25 s 0 [] a ns e0
    by_cases h1 : a = s.size
    · by_cases h2 : 8 < ns.length
      · have P := hid (fun w' => parsed_err (s := s) (w := w) (w' := w') (k := 3) (by simp [parseOf, h, e0, h1, h2]))
        have E0 := hid e0
        have h3 : ((a : Int) != (s.size : Int)) = false := by rw [bne_eq_false_iff_eq]; omega
        clear e0 h1
        go_enter Try.func47, Try.ntmps47
        go_wp2_with fail
        refine C.mono ?_
        rintro e w1 (⟨h, _⟩ | ⟨a', ns', h, rfl, hr1, hb⟩)
        · rw [E0.out] at h; cases h
        rw [E0.out] at h
        simp only [Option.some.injEq, Prod.mk.injEq] at h
        obtain ⟨rfl, rfl⟩ := h
        have c1 := hr1.c1
        obtain ⟨ao, cap, c2, own⟩ := hr1.c2
        go_wp2_with fail
        go_ret2
        exact P.out _ (((Below.refl _ _).alloc (Nat.le_refl _) _).trans hb)
      · have P : Hid (parseOf s = (0, ns)) := hid (by simp [parseOf, h, e0, h1, h2])
        have E0 := hid e0
        have h3 : ((a : Int) != (s.size : Int)) = false := by rw [bne_eq_false_iff_eq]; omega
        clear e0 h1
        go_enter Try.func47, Try.ntmps47
        go_wp2_with fail
        refine C.mono ?_
        rintro e w1 (⟨h, _⟩ | ⟨a', ns', h, rfl, hr1, hb⟩)
        · rw [E0.out] at h; cases h
        rw [E0.out] at h
        simp only [Option.some.injEq, Prod.mk.injEq] at h
        obtain ⟨rfl, rfl⟩ := h
        have c1 := hr1.c1
        obtain ⟨ao, cap, c2, own⟩ := hr1.c2
        go_wp2_with fail
        go_ret2
        unfold Parsed
        rw [P.out]
        exact ⟨ao, cap, rfl, own_mono own (Nat.le_succ _), ((Below.refl _ _).alloc (Nat.le_refl _) _).trans hb⟩
    · have P := hid (fun w' => parsed_err (s := s) (w := w) (w' := w') (k := 2) (by simp [parseOf, h, e0, h1]))
      have E0 := hid e0
      have h3 : ((a : Int) != (s.size : Int)) = true := by rw [bne_iff_ne]; omega
      clear e0
      go_enter Try.func47, Try.ntmps47
      go_wp2_with fail
      refine C.mono ?_
      rintro e w1 (⟨h, _⟩ | ⟨a', ns', h, rfl, hr1, hb⟩)
      · rw [E0.out] at h; cases h
      rw [E0.out] at h
      simp only [Option.some.injEq, Prod.mk.injEq] at h
      obtain ⟨rfl, rfl⟩ := h
      have c1 := hr1.c1
      obtain ⟨ao, cap, c2, own⟩ := hr1.c2
      go_wp2_with fail
      go_ret2
      exact P.out _ (((Below.refl _ _).alloc (Nat.le_refl _) _).trans hb)

theorem parse_any (s : ByteArray) (w : World) (hm : s.size ≤ maxLen) : Calls Try.prog 47 #[.string s] w (Parsed s w) := by
  by_cases h : 24 < s.size
  · exact parse_long s w hm h
  · exact parse_short s w h

end Go.Proofs.Ytjagijohfkffiaa

/- The walk of the program's Holds. -/
namespace Go.Proofs.Ytjagijohfkffiaa
open Go.RowKit
set_option linter.unusedVariables false

section
variable (s : ByteArray) (a1 a2 : Option Addr) (l1 c1 l2 c2 : Nat) (z1 z2 : List Int) (w : World)

end

end Go.Proofs.Ytjagijohfkffiaa

/- What Judge answers. -/
namespace Go.Proofs.Ytjagijohfkffiaa
open Go.RowKit
set_option linter.unusedVariables false

end Go.Proofs.Ytjagijohfkffiaa

/- The walk of the program's Judge. -/
namespace Go.Proofs.Ytjagijohfkffiaa
open Go.RowKit
set_option linter.unusedVariables false

theorem ndM_of {w : World} {B gn m ncap : Nat} {ns : List Nd} (h : w.ownsRow B 123 3 (.slice (some ⟨gn, 0, none⟩) m ncap) m (flat ns)) (hl : ns.length = m) : NdM w gn ns :=
  ⟨(h.lt _ rfl).2, fun i hi => (h.cellAt (i * 3) (by omega)).trans (flat_get ns i (by omega)).1, fun i hi => (h.cellAt (i * 3 + 1) (by omega)).trans (flat_get ns i (by omega)).2.1, fun i hi => (h.cellAt (i * 3 + 2) (by omega)).trans (flat_get ns i (by omega)).2.2⟩

section
variable (s : ByteArray) (a1 : Option Addr) (l1 c1 : Nat) (z1 : List Int) (w : World)

end

end Go.Proofs.Ytjagijohfkffiaa

/- The walks of verdictkeep's small functions: pick, word, looped, joined, holding. -/
namespace Go.Proofs.Ytjagijohfkffiaa
open Go.RowKit
set_option linter.unusedVariables false

def pick8 (z : Int) : Nat := ((if z < 0 then -(z + 1) else z) % 8).toNat
theorem pick8_lt (z : Int) : pick8 z < 8 := by unfold pick8; omega

set_option maxHeartbeats 400000 in
theorem pick_any (z : Int) (w : World) (h1 : -9223372036854775808 ≤ z) (h2 : z ≤ 9223372036854775807) : Calls Try.prog 21 #[.int .i64 z, .int .i64 8] w fun e w' => e = .returned (.int .i64 (pick8 z : Nat)) ∧ w' = w := by
  by_cases h : z < 0
  · have E : Hid (((pick8 z : Nat) : Int) = -((z + 1).tmod 8)) := hid (by rw [← Int.neg_tmod, Int.tmod_eq_emod_of_nonneg (by omega)]; unfold pick8; rw [if_pos h]; omega)
    go_enter Try.func21, Try.ntmps21
    go_wp2
    go_ret
    exact ⟨ret_int E.out.symm, rfl⟩
  · have E : Hid (((pick8 z : Nat) : Int) = z % 8) := hid (by unfold pick8; rw [if_neg h]; omega)
    go_enter Try.func21, Try.ntmps21
    go_wp2
    go_ret
    exact ⟨ret_int E.out.symm, rfl⟩

/-- Numbers made letters, the first j of them. -/
def wordTo (zs : List Int) (j : Nat) : List Nat := (zs.take j).map pick8
theorem wordTo_len {zs : List Int} {j : Nat} (h : j ≤ zs.length) : (wordTo zs j).length = j := by simp [wordTo]; omega
theorem wordTo_succ {zs : List Int} {j : Nat} (h : j < zs.length) : wordTo zs (j + 1) = wordTo zs j ++ [pick8 (zs.getD j 0)] := by
  unfold wordTo
  rw [List.take_succ_eq_append_getElem h, List.map_append]
  simp [List.getD, List.getElem?_eq_getElem h]
theorem wordTo_8 (zs : List Int) (j : Nat) : ∀ x ∈ wordTo zs j, x < 8 := by
  intro x hx
  obtain ⟨z, _, rfl⟩ := List.mem_map.1 hx
  exact pick8_lt z

def intsOf (xs : List Nat) : List Int := xs.map fun x : Nat => (x : Int)
theorem intsOf_len (xs : List Nat) : (intsOf xs).length = xs.length := by simp [intsOf]
theorem allL_ints {xs : List Nat} (h : ∀ x ∈ xs, x < 8) : allL (intsOf xs) = true := by
  unfold allL intsOf
  rw [List.all_eq_true]
  intro z hz
  obtain ⟨x, hx, rfl⟩ := List.mem_map.1 hz
  rw [isL_iff]
  have := h x hx
  omega

/-- A row of the call's own, as a slice that is read. -/
theorem own_ints {w : World} {B n : Nat} {v : Value} {xs : List Nat} (h : w.ownsRow B 3 1 v n (natInts xs)) (hl : xs.length = n) : ∃ ao cap, v = .slice ao n cap ∧ Ints w ao n cap (intsOf xs) := by
  rcases h.2 with ⟨rfl, rfl⟩ | ⟨g, cap, cur, rfl, hb, hh, hc, hm, _⟩
  · exact ⟨none, 0, rfl, by rw [intsOf_len, hl], Nat.le_refl _, by omega, fun _ => ⟨rfl, rfl⟩, fun h => by omega⟩
  · refine ⟨_, cap, rfl, by rw [intsOf_len, hl], hc, by unfold maxLen at hm; omega, fun h => by simp at h, fun _ => ⟨g, 0, rfl, heap_lt hh, fun i hi => ?_⟩⟩
    rw [Nat.zero_add, h.cellAt i (by omega)]
    simp [natInts, intsOf, List.getD, List.getElem?_eq_getElem (show i < xs.length by omega)]

/-- The numbers of an argument are int's. -/
def Fits (zs : List Int) : Prop := ∀ z ∈ zs, -9223372036854775808 ≤ z ∧ z ≤ 9223372036854775807

theorem fits_at {zs : List Int} (h : Fits zs) {j : Nat} (hj : j < zs.length) : -9223372036854775808 ≤ zs.getD j 0 ∧ zs.getD j 0 ≤ 9223372036854775807 := by
  rw [List.getD, List.getElem?_eq_getElem hj]
  exact h _ (List.getElem_mem hj)

set_option maxHeartbeats 800000 in
set_option maxRecDepth 100000 in
theorem word_own (ao : Option Addr) (len cap n : Nat) (zs : List Int) (w : World) (h : Ints w ao len cap zs) (hf : Fits zs) (hn : n ≤ 1000) :
    Calls Try.prog 22 #[.slice ao len cap, .int .i64 n] w fun e w' => ∃ v, e = .returned v ∧ w'.ownsRow w.heap.size 3 1 v (min len n) (natInts (wordTo zs (min len n))) ∧ Below w.heap.size w w' := by
  have hl := h.hlen
  have hc := h.hcap
  have hm := h.hmax
  obtain ⟨i0, hi, hz0, hz1, hz2⟩ := info_parts Try.infoInt
  go_enter Try.func22, Try.ntmps22
  go_wp2_with fail
  go_loopw [5, 6] (fun v i wr => ∃ j : Nat, j ≤ len ∧ j ≤ n ∧ i = .int .i64 j ∧ wr.ownsRow w.heap.size 3 1 v j (natInts (wordTo zs j)) ∧ Below w.heap.size w wr) (fun _ i _ => n - (intOf i).toNat)
  case atStart => exact ⟨0, Nat.zero_le _, Nat.zero_le _, rfl, World.ownsRow_nil _ _ _ _, Below.refl _ _⟩
  case round =>
    obtain ⟨j, hj1, hj2, rfl, own, hbr⟩ := hrel
    by_cases hlt : j < len
    · by_cases hlt2 : j < n
      · obtain ⟨b, off, rfl, hb, hcell⟩ := (h.below hbr).hcell (by omega)
        have c := hcell j hlt
        have fa := fits_at hf (j := j) (by omega)
        have HS := hid (wordTo_succ (zs := zs) (j := j) (by omega))
        have hsz := hbr.size
        clear hcell
        generalize zs.getD j 0 = z at *
        go_wp2_with fail
        refine (pick_any z _ fa.1 fa.2).mono ?_
        rintro e w' ⟨rfl, rfl⟩
        have HO := hid own
        have HB := hid hbr
        generalize pick8 z = x at *
        go_wp2_with (at_builtin; go_must (refine wpList_append_own _ rfl (.tmp 24) (.tmp 26) 27 rfl w.heap.size 3 i0 (.int .i64 0) 1 8 Try.underlying27 hi hz0 hz1 hz2 rfl (by decide) _ _ _ rfl (HO.out.alloc _) ⟨w'.heap.size, 0, none⟩ 1 1 [.int .i64 x] rfl rfl ?c1 ?c2 ?c3 ?c4 ?c5 ?_))
        case c1 => exact cell_one_new _ _ _
        case c2 => intro u hu; simp at hu; subst hu; rfl
        case c3 => unfold maxLen; omega
        case c4 => omega
        case c5 => simp; omega
        intro v' w1 hown hgrow _
        have B1 := hid ((HB.out.alloc hsz _).grown hgrow (by simp; omega) (fun k h => (HO.out.lt k h).1))
        have e1 : natInts (wordTo zs j) ++ [.int .i64 (x : Nat)] = natInts (wordTo zs (j + 1)) := by rw [HS.out]; simp [natInts]
        rw [e1] at hown
        have O1 := hid hown
        clear hown hgrow e1 c own hbr
        go_wp2_with fail
        go_roundw
        case rel => exact ⟨j + 1, by omega, by omega, by go_num, O1.out, B1.out⟩
        case measure => simp [intOf]; omega
      · have hm2 : min len n = j := by omega
        have HO := hid own
        have HM := hid hm2
        clear own hm2
        go_wp2_with fail
        go_ret
        refine ⟨_, rfl, ?_, hbr⟩
        rw [HM.out]
        exact HO.out
    · have hm2 : min len n = j := by omega
      have HO := hid own
      have HM := hid hm2
      clear own hm2
      go_wp2_with fail
      go_ret
      refine ⟨_, rfl, ?_, hbr⟩
      rw [HM.out]
      exact HO.out

end Go.Proofs.Ytjagijohfkffiaa

/- The walks of verdictkeep's small functions: looped, joined, holding. -/
namespace Go.Proofs.Ytjagijohfkffiaa
open Go.RowKit
set_option linter.unusedVariables false

end Go.Proofs.Ytjagijohfkffiaa

/- Plain mathematics: the endless word of a stem and a loop. -/
namespace Go.Proofs.Ytjagijohfkffiaa

end Go.Proofs.Ytjagijohfkffiaa

/- What Holds answers of letters. -/
namespace Go.Proofs.Ytjagijohfkffiaa
open Go.RowKit
set_option linter.unusedVariables false

/-- What Holds answers of letters. -/
def hv (s : ByteArray) (xs ys : List Nat) : Bool := if (parseOf s).1 = 0 then holdsB xs.length (parseOf s).2 (xs ++ ys) else false

theorem Ints.drew {w : World} {ao : Option Addr} {len cap : Nat} {zs : List Int} (h : Ints w ao len cap zs) : Ints w.drew ao len cap zs := ⟨h.hlen, h.hcap, h.hmax, h.hnil, h.hcell⟩

end Go.Proofs.Ytjagijohfkffiaa

/- Settled: plain mathematics, judging, the walk. -/
namespace Go.Proofs.Ytjagijohfkffiaa
open Go.RowKit
set_option linter.unusedVariables false

theorem gp_parse : parseOf ⟨#[71, 112]⟩ = (0, [⟨112, 0, 0⟩, ⟨71, 0, 0⟩]) := by rfl
theorem gp_sem (x : Nat → Nat) : sem (fun i => i + 1) x [⟨112, 0, 0⟩, ⟨71, 0, 0⟩] 1 0 ↔ ∀ t, (x t).testBit 0 = true := by
  have e : ∀ s i, it (fun i => i + 1) s i = i + s := by
    intro s
    induction s with
    | zero => intro i; rfl
    | succ s ih => intro i; simp only [it]; rw [ih]; omega
  simp [sem, rows, den, e]
end Go.Proofs.Ytjagijohfkffiaa
