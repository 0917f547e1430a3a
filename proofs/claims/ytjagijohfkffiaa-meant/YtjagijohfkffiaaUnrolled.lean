/- Unrolled: the walk. -/
import Derived.Test.YtjagijohfkffiaaHoldW
import Derived.Deep.RegionWith
namespace Go.Proofs.Ytjagijohfkffiaa
open Go.RowKit
set_option linter.unusedVariables false

/-- The slices b[:1] and b[1:]. -/
theorem ints_head {w : World} {ao : Option Addr} {len cap : Nat} {ys : List Nat} (h : Ints w ao len cap (intsOf ys)) (h0 : 0 < len) : Ints w ao 1 cap (intsOf (ys.take 1)) := by
  obtain ⟨b, off, e, hb, hc⟩ := h.hcell h0
  have hl : ys.length = len := by rw [← intsOf_len]; exact h.hlen
  refine ⟨by rw [intsOf_len]; simp; omega, by have := h.hcap; omega, h.hmax, fun hn => by rw [e] at hn; simp at hn, fun _ => ⟨b, off, e, hb, fun i hi => ?_⟩⟩
  have : i = 0 := by omega
  subst this
  rw [hc 0 h0]
  cases ys with
  | nil => simp at hl; omega
  | cons y ys => simp [intsOf]
theorem ints_tail {w : World} {b off len cap : Nat} {ys : List Nat} (h : Ints w (some ⟨b, off, none⟩) len cap (intsOf ys)) (h0 : 0 < len) (ao : Option Addr) (hne : ao ≠ none) (ha : 1 < len → ao = some ⟨b, off + 1, none⟩) : Ints w ao (len - 1) (cap - 1) (intsOf (ys.drop 1)) := by
  obtain ⟨b', off', e, hb, hc⟩ := h.hcell h0
  cases e
  have hl : ys.length = len := by rw [← intsOf_len]; exact h.hlen
  refine ⟨by rw [intsOf_len]; simp; omega, by have := h.hcap; omega, by have := h.hmax; omega, fun hn => absurd hn hne, fun h1 => ⟨b, off + 1, ha (by omega), hb, fun i hi => ?_⟩⟩
  rw [Nat.add_assoc, Nat.add_comm 1 i, hc (i + 1) (by omega)]
  simp [intsOf, List.getD]

set_option maxHeartbeats 1600000 in
set_option maxRecDepth 100000 in
theorem unrolled_core (s : ByteArray) (a1 a2 : Option Addr) (l1 c1 l2 c2 : Nat) (z1 z2 : List Int) (w : World) (hm : s.size ≤ maxLen) (h1 : Ints w a1 l1 c1 z1) (h2 : Ints w a2 l2 c2 z2) (f1 : Fits z1) (f2 : Fits z2) :
    Calls Try.prog 6 #[.string s, .slice a1 l1 c1, .slice a2 l2 c2] w fun e w' => e = .returned (.bool true) ∧ Below w.heap.size w w' := by
  have K1 := fun W (b : Below w.heap.size w W) => word_any a1 l1 c1 12 z1 W (h1.below b) f1 (by omega)
  have K2 := fun W (b : Below w.heap.size w W) => looped_any a2 l2 c2 12 z2 W (h2.below b) f2 (by omega)
  have A8 := wordTo_8 z1 (min z1.length 12)
  have B8 := loopTo_8 z2 12
  have Al := word_le z1 12
  have Bl := loopTo_le z2 12 (by omega)
  have Bp := loopTo_pos z2 12
  generalize wordTo z1 (min z1.length 12) = A at *
  generalize loopTo z2 12 = B at *
  have AB8 : ∀ x ∈ A ++ B, x < 8 := fun x hx => (List.mem_append.1 hx).elim (A8 x) (B8 x)
  have BB8 : ∀ x ∈ B ++ B, x < 8 := fun x hx => (List.mem_append.1 hx).elim (B8 x) (B8 x)
  have T8 : ∀ x ∈ B.take 1, x < 8 := fun x hx => B8 x (List.mem_of_mem_take hx)
  have D8 : ∀ x ∈ B.drop 1, x < 8 := fun x hx => B8 x (List.mem_of_mem_drop hx)
  have AT8 : ∀ x ∈ A ++ B.take 1, x < 8 := fun x hx => (List.mem_append.1 hx).elim (A8 x) (T8 x)
  have DT8 : ∀ x ∈ B.drop 1 ++ B.take 1, x < 8 := fun x hx => (List.mem_append.1 hx).elim (D8 x) (T8 x)
  have tl : (B.take 1).length = 1 := by simp; omega
  have dl : (B.drop 1).length = B.length - 1 := by simp
  have H1 := fun W a l c a' l' c' (i1 : Ints W a l c (intsOf A)) (i2 : Ints W a' l' c' (intsOf B)) => holdsW s hm a a' l c l' c' A B W i1 i2 A8 B8 Bp (by omega) (by omega)
  have H2 := fun W a l c a' l' c' (i1 : Ints W a l c (intsOf (A ++ B))) (i2 : Ints W a' l' c' (intsOf B)) => holdsW s hm a a' l c l' c' (A ++ B) B W i1 i2 AB8 B8 Bp (by rw [List.length_append]; omega) (by omega)
  have H3 := fun W a l c a' l' c' (i1 : Ints W a l c (intsOf A)) (i2 : Ints W a' l' c' (intsOf (B ++ B))) => holdsW s hm a a' l c l' c' A (B ++ B) W i1 i2 A8 BB8 (by rw [List.length_append]; omega) (by omega) (by rw [List.length_append]; omega)
  have H4 := fun W a l c a' l' c' (i1 : Ints W a l c (intsOf (A ++ B.take 1))) (i2 : Ints W a' l' c' (intsOf (B.drop 1 ++ B.take 1))) => holdsW s hm a a' l c l' c' (A ++ B.take 1) (B.drop 1 ++ B.take 1) W i1 i2 AT8 DT8 (by rw [List.length_append, tl]; omega) (by rw [List.length_append, tl]; omega) (by rw [List.length_append, tl, dl]; omega)
  rw [hv_same (s := s) Bp AB8 Bp (fun x hx => (List.mem_append.1 hx).elim (AB8 x) (B8 x)) (wordAt_more Bp)] at H2
  rw [hv_same (s := s) Bp AB8 (by rw [List.length_append]; omega) (fun x hx => (List.mem_append.1 hx).elim (A8 x) (BB8 x)) (wordAt_twice Bp)] at H3
  rw [hv_same (s := s) Bp AB8 (by rw [List.length_append, tl]; omega) (fun x hx => (List.mem_append.1 hx).elim (AT8 x) (DT8 x)) (wordAt_later Bp)] at H4
  have SZ := fun W => size_any s W hm
  have E0 : Hid ((parseOf s).1 ≠ 0 → hv s A B = false ∧ (parseOf s).2.length = 0) := hid (fun h => ⟨by unfold hv; rw [if_neg h], by
    revert h
    unfold parseOf
    split
    · intro _; rfl
    · split
      · intro _; rfl
      · split
        · split
          · intro _; rfl
          · intro h; exact absurd rfl h
        · intro _; rfl⟩)
  generalize hv s A B = V at *
  generalize (parseOf s).1 = er at *
  generalize (parseOf s).2.length = nn at *
  clear A8 B8 AB8 BB8 T8 D8 AT8 DT8
  have IH := fun W ao cap (i : Ints W ao B.length cap (intsOf B)) => ints_head i Bp
  have IT := fun W b off cap (i : Ints W (some ⟨b, off, none⟩) B.length cap (intsOf B)) => ints_tail i Bp
  generalize B.take 1 = T at *
  generalize B.drop 1 = D at *
  have HT := hid tl
  have HD := hid dl
  clear tl dl
  go_enter Try.func6, Try.ntmps6
  go_wp2_with fail
  refine (holding_any _).mono ?_
  rintro e w1 ⟨rfl, b1⟩
  go_wp2_with fail
  refine (K1 _ b1).mono ?_
  rintro e w2 ⟨oa, ca, rfl, ia, b2⟩
  have B2 := b1.trans (b2.mono b1.size)
  go_wp2_with fail
  refine (K2 _ B2).mono ?_
  rintro e w3 ⟨ob, cb, rfl, ib, b3⟩
  have B3 := B2.trans (b3.mono B2.size)
  have ia3 := ia.below b3
  clear K1 K2 ia b1 b2 b3 B2
  obtain ⟨bg, off, rfl, _⟩ := ib.hcell Bp
  go_wp2_with fail
  refine (H1 _ _ _ _ _ _ _ ia3 ib).mono ?_
  rintro e w4 ⟨rfl, b4⟩
  have B4 := B3.trans (b4.mono B3.size)
  have ia4 := ia3.below b4
  have ib4 := ib.below b4
  clear H1 ia3 ib b4 B3
  go_wp2_with fail
  refine (joined_any _ _ _ _ _ _ A B _ ia4 ib4 (by omega) (by omega)).mono ?_
  rintro e w5 ⟨oj, cj, rfl, ij, b5⟩
  rw [List.length_append] at ij ⊢
  have B5 := B4.trans (b5.mono B4.size)
  have ia5 := ia4.below b5
  have ib5 := ib4.below b5
  clear ia4 ib4 b5 B4
  go_wp2_with fail
  refine (H2 _ _ _ _ _ _ _ ij ib5).mono ?_
  rintro e w6 ⟨rfl, b6⟩
  have B6 := B5.trans (b6.mono B5.size)
  have ia6 := ia5.below b6
  have ib6 := ib5.below b6
  clear H2 ia5 ib5 b6 B5 ij
  go_wp2_with fail
  refine (joined_any _ _ _ _ _ _ B B _ ib6 ib6 (by omega) (by omega)).mono ?_
  rintro e w7 ⟨ok, ck, rfl, ik, b7⟩
  rw [List.length_append] at ik ⊢
  have B7 := B6.trans (b7.mono B6.size)
  have ia7 := ia6.below b7
  have ib7 := ib6.below b7
  clear ia6 ib6 b7 B6
  go_wp2_with fail
  refine (H3 _ _ _ _ _ _ _ ia7 ik).mono ?_
  rintro e w8 ⟨rfl, b8⟩
  have B8 := B7.trans (b8.mono B7.size)
  have ia8 := ia7.below b8
  have ib8 := ib7.below b8
  clear H3 ia7 ib7 b8 B7 ik
  have hcb := ib8.hcap
  have hcm := ib8.hmax
  have i1 := IH _ _ _ ib8
  have J1 := hid (joined_any _ _ _ _ _ _ A T _ ia8.drew i1.drew (by omega) (by omega))
  have HI1 := hid i1
  have HIB := hid ib8
  have IT2 := hid (fun W (b : Below w8.heap.size w8 W) => IT W bg off cb (ib8.below b))
  have I12 := hid (fun W (b : Below w8.heap.size w8 W) => i1.below b)
  have hs8 := B8.size
  have HB8 := hid B8
  clear IH IT ia8 ib8 i1 B8
  go_wp2_with fail
  by_cases hc1 : cb = 1
  · subst hc1
    have IT3 := hid (fun W (b : Below w8.heap.size w8 W) => show Ints W (some ⟨bg, off, none⟩) 0 0 (intsOf D) by
      have h := IT2.out W b (some ⟨bg, off, none⟩) (by simp) (fun h => absurd h (by omega))
      rw [show B.length - 1 = 0 by omega] at h
      exact h)
    go_region_with (first
      | (go_at_call_of 27 (Value.slice oa A.length ca); go_must (refine J1.out.mono ?_; rintro e w9 ⟨oj, cj, rfl, ij, b9⟩; rw [List.length_append] at ij ⊢; have hb9 := below_undrew b9; clear b9))
      | (go_at_call 27; go_must (refine (joined_any (some ⟨bg, off, none⟩) (some ⟨bg, off, none⟩) 0 0 1 1 D T w9 (IT3.out w9 hb9) (I12.out w9 hb9) (by omega) (by omega)).mono ?_; rintro e w10 ⟨ok, ck, rfl, ik, b10⟩; rw [List.length_append] at ik ⊢))
      | (go_at_call 18; go_must (refine (H4 w10 oj (A.length + T.length) cj ok (D.length + T.length) ck (ij.below b10) ik).mono ?_; rintro e w11 ⟨rfl, b11⟩)))
    all_goals
      have B9 := HB8.out.trans (hb9.mono hs8)
      have B10 := B9.trans (b10.mono B9.size)
      have B11 := B10.trans (b11.mono B10.size)
      have HB11 := hid B11
      clear J1 H4 ij ik hb9 b10 b11 B9 B10 B11 HB8 IT2 I12
      go_wp2_with fail
      refine (SZ _).mono ?_
      rintro e w12 ⟨rfl, b12⟩
      have HB12 := hid (HB11.out.trans (b12.mono HB11.out.size))
      clear SZ b12
      by_cases he : er = 0
      · subst he
        go_wp2_with fail
        go_ret
        exact ⟨rfl, HB12.out⟩
      · obtain ⟨e1, e2⟩ := E0.out he
        subst e1
        subst e2
        have ke : ((er : Int) != 0) = true := by rw [bne_iff_ne]; omega
        go_wp2_with fail
        go_ret
        exact ⟨rfl, HB12.out⟩
  · skip
    go_region_with (first
      | (go_at_call_of 27 (Value.slice oa A.length ca); go_must (refine J1.out.mono ?_; rintro e w9 ⟨oj, cj, rfl, ij, b9⟩; rw [List.length_append] at ij ⊢; have hb9 := below_undrew b9; clear b9))
      | (go_at_call 27; go_must (refine (joined_any (some ⟨bg, off + 1, none⟩) (some ⟨bg, off, none⟩) (B.length - 1) (cb - 1) 1 cb D T w9 (IT2.out w9 hb9 (some ⟨bg, off + 1, none⟩) (by simp) (fun _ => rfl)) (I12.out w9 hb9) (by omega) (by omega)).mono ?_; rintro e w10 ⟨ok, ck, rfl, ik, b10⟩; rw [List.length_append] at ik ⊢))
      | (go_at_call 18; go_must (refine (H4 w10 oj (A.length + T.length) cj ok (D.length + T.length) ck (ij.below b10) ik).mono ?_; rintro e w11 ⟨rfl, b11⟩)))
    all_goals
      have B9 := HB8.out.trans (hb9.mono hs8)
      have B10 := B9.trans (b10.mono B9.size)
      have B11 := B10.trans (b11.mono B10.size)
      have HB11 := hid B11
      clear J1 H4 ij ik hb9 b10 b11 B9 B10 B11 HB8 IT2 I12
      go_wp2_with fail
      refine (SZ _).mono ?_
      rintro e w12 ⟨rfl, b12⟩
      have HB12 := hid (HB11.out.trans (b12.mono HB11.out.size))
      clear SZ b12
      by_cases he : er = 0
      · subst he
        go_wp2_with fail
        go_ret
        exact ⟨rfl, HB12.out⟩
      · obtain ⟨e1, e2⟩ := E0.out he
        subst e1
        subst e2
        have ke : ((er : Int) != 0) = true := by rw [bne_iff_ne]; omega
        go_wp2_with fail
        go_ret
        exact ⟨rfl, HB12.out⟩

end Go.Proofs.Ytjagijohfkffiaa
