/- Settled: the walk. -/
import Derived.Test.YtjagijohfkffiaaSettled
namespace Go.Proofs.Ytjagijohfkffiaa
open Go.RowKit
set_option linter.unusedVariables false

def YesTo (ns : List Nd) (A : List Nat) (x k : Nat) (b : Bool) : Prop := b = true ↔ ∀ j, j < k → Verdict ns (A ++ [j]) x
theorem verdict_ex (ns : List Nd) (u : List Nat) : ∃ x, Verdict ns u x := by
  by_cases h1 : May ns u true
  · by_cases h2 : May ns u false
    · exact ⟨0, Or.inr (Or.inr ⟨rfl, h1, h2⟩)⟩
    · exact ⟨1, Or.inr (Or.inl ⟨rfl, h1, h2⟩)⟩
  · exact ⟨2, Or.inl ⟨rfl, h1⟩⟩
theorem verdict_lt {ns : List Nd} {u : List Nat} {x : Nat} (h : Verdict ns u x) : x = 0 ∨ x = 1 ∨ x = 2 := by rcases h with ⟨h, _⟩ | ⟨h, _⟩ | ⟨h, _⟩ <;> omega
theorem yes_zero (ns : List Nd) (A : List Nat) (x : Nat) : YesTo ns A x 0 true := ⟨fun _ j hj => by omega, fun _ => rfl⟩
theorem yes_step {ns : List Nd} {A : List Nat} {x k v : Nat} {b : Bool} (h : YesTo ns A x k b) (hv : Verdict ns (A ++ [k]) v) : YesTo ns A x (k + 1) (b && (v == x)) := by
  unfold YesTo at *
  rw [Bool.and_eq_true, h, beq_iff_eq]
  constructor
  · rintro ⟨h1, rfl⟩ j hj
    by_cases e : j = k
    · subst e; exact hv
    · exact h1 j (by omega)
  · intro h1
    exact ⟨fun j hj => h1 j (by omega), verdict_fun hv (h1 k (by omega))⟩
theorem yes_false {ns : List Nd} {A : List Nat} {x k : Nat} (h : YesTo ns A x k false) : YesTo ns A x (k + 1) false := ⟨fun h => (by cases h), fun h1 => h.2 fun j hj => h1 j (by omega)⟩

set_option maxHeartbeats 8000000 in
set_option maxRecDepth 100000 in
theorem settled_core (s : ByteArray) (a1 a2 a3 : Option Addr) (l1 c1 l2 c2 l3 c3 : Nat) (z1 z2 z3 : List Int) (w : World) (hm : s.size ≤ maxLen) (h1 : Ints w a1 l1 c1 z1) (h2 : Ints w a2 l2 c2 z2) (h3 : Ints w a3 l3 c3 z3) (f1 : Fits z1) (f2 : Fits z2) (f3 : Fits z3) :
    Calls Try.prog 11 #[.string s, .slice a1 l1 c1, .slice a2 l2 c2, .slice a3 l3 c3] w fun e w' => e = .returned (.bool true) ∧ Below w.heap.size w w' := by
  have K1 := fun W (b : Below w.heap.size w W) => word_any a1 l1 c1 20 z1 W (h1.below b) f1 (by omega)
  have K2 := fun W (b : Below w.heap.size w W) => word_any a2 l2 c2 20 z2 W (h2.below b) f2 (by omega)
  have K3 := fun W (b : Below w.heap.size w W) => looped_any a3 l3 c3 20 z3 W (h3.below b) f3 (by omega)
  have A8 := wordTo_8 z1 (min z1.length 20)
  have B8 := wordTo_8 z2 (min z2.length 20)
  have C8 := loopTo_8 z3 20
  have Al := word_le z1 20
  have Bl := word_le z2 20
  have Cl := loopTo_le z3 20 (by omega)
  have Cp := loopTo_pos z3 20
  generalize wordTo z1 (min z1.length 20) = A at *
  generalize wordTo z2 (min z2.length 20) = B at *
  generalize loopTo z3 20 = C at *
  have AB8 : ∀ x ∈ A ++ B, x < 8 := fun x hx => (List.mem_append.1 hx).elim (A8 x) (B8 x)
  have ABC8 : ∀ x ∈ (A ++ B) ++ C, x < 8 := fun x hx => (List.mem_append.1 hx).elim (AB8 x) (C8 x)
  have AK8 : ∀ k, k < 8 → ∀ x ∈ A ++ [k], x < 8 := fun k hk x hx => by
    rcases List.mem_append.1 hx with h | h
    · exact A8 x h
    · simp at h; omega
  have J1 := fun W a l c (i : Ints W a l c (intsOf A)) => judgeL s hm a l c A W i A8 (by omega)
  have J2 := fun W a l c (i : Ints W a l c (intsOf (A ++ B))) => judgeL s hm a l c (A ++ B) W i AB8 (by rw [List.length_append]; omega)
  have J3 := fun k (hk : k < 8) W a l c (i : Ints W a l c (intsOf (A ++ [k]))) => judgeL s hm a l c (A ++ [k]) W i (AK8 k hk) (by rw [List.length_append]; simp; omega)
  have H1 := fun W a l c a' l' c' (i1 : Ints W a l c (intsOf (A ++ B))) (i2 : Ints W a' l' c' (intsOf C)) => holdsW s hm a a' l c l' c' (A ++ B) C W i1 i2 AB8 C8 Cp (by rw [List.length_append]; omega) (by omega)
  have SZ := fun W => size_any s W hm
  have HM := hid (fun (v u : Nat) (hvd : Verdict (parseOf s).2 A v) (hu : Verdict (parseOf s).2 (A ++ B) u) => settled_more AB8 hvd hu)
  have HF := hid (fun (v : Nat) (h0 : (parseOf s).1 = 0) (hvd : Verdict (parseOf s).2 A v) => settled_inf (y := hv s (A ++ B) C) ABC8 hvd (hv_inf h0 Cp ABC8))
  have HA := hid (fun (v : Nat) (hvd : Verdict (parseOf s).2 A v) => settled_all (ns := (parseOf s).2) A8 hvd)
  generalize hv s (A ++ B) C = y at *
  generalize parseOf s = p at *
  obtain ⟨er, ns⟩ := p
  dsimp only at *
  clear A8 B8 C8 AB8 ABC8 AK8
  have JA := hid J1
  have JB := hid J2
  have JC := hid J3
  have JH := hid H1
  clear J1 J2 J3 H1
  go_enter Try.func11, Try.ntmps11
  go_wp2_with fail
  refine (holding_any _).mono ?_
  rintro e w1 ⟨rfl, b1⟩
  go_wp2_with fail
  refine (judging_any _).mono ?_
  rintro e w2 ⟨rfl, b2⟩
  have B2 := b1.trans (b2.mono b1.size)
  go_wp2_with fail
  refine (K1 _ B2).mono ?_
  rintro e w3 ⟨oa, ca, rfl, ia, b3⟩
  have B3 := B2.trans (b3.mono B2.size)
  clear b1 b2 b3 B2
  go_wp2_with fail
  refine (K2 _ B3).mono ?_
  rintro e w4 ⟨ob, cb, rfl, ib, b4⟩
  have B4 := B3.trans (b4.mono B3.size)
  have ia := ia.below b4
  clear b4 B3
  go_wp2_with fail
  refine (K3 _ B4).mono ?_
  rintro e w5 ⟨oc, cc, rfl, ic, b5⟩
  have B5 := B4.trans (b5.mono B4.size)
  have ia := ia.below b5
  have ib := ib.below b5
  clear b5 B4 K1 K2 K3
  have HIA := hid ia
  have HIB := hid ib
  have HIC := hid ic
  have HB5 := hid B5
  clear ia ib ic B5
  go_wp2_with fail
  refine (JA.out _ _ _ _ HIA.out).mono ?_
  rintro e w6 ⟨v, rfl, pv, qv, b6⟩
  have HPV := hid pv
  have HQV := hid qv
  have HIA := hid (HIA.out.below b6)
  have HIB := hid (HIB.out.below b6)
  have HIC := hid (HIC.out.below b6)
  have HB6 := hid (HB5.out.trans (b6.mono HB5.out.size))
  clear b6 pv qv HB5
  go_wp2_with fail
  refine (SZ _).mono ?_
  rintro e w7 ⟨rfl, b7⟩
  have HIA := hid (HIA.out.below b7)
  have HIB := hid (HIB.out.below b7)
  have HIC := hid (HIC.out.below b7)
  have HB7 := hid (HB6.out.trans (b7.mono HB6.out.size))
  clear b7 SZ HB6
  by_cases he : er = 0
  · subst he
    have HV := hid (HPV.out rfl)
    clear HPV HQV
    go_wp2_with fail
    refine (joined_any _ _ _ _ _ _ A B _ HIA.out HIB.out (by omega) (by omega)).mono ?_
    rintro e w8 ⟨oj, cj, rfl, ij, b8⟩
    rw [List.length_append] at ij ⊢
    have HIJ := hid ij
    have HIA := hid (HIA.out.below b8)
    have HIB := hid (HIB.out.below b8)
    have HIC := hid (HIC.out.below b8)
    have HB8 := hid (HB7.out.trans (b8.mono HB7.out.size))
    clear b8 HB7 ij
    go_wp2_with fail
    refine (JH.out _ _ _ _ _ _ _ HIJ.out HIC.out).mono ?_
    rintro e w9 ⟨rfl, b9⟩
    have HIA := hid (HIA.out.below b9)
    have HIB := hid (HIB.out.below b9)
    have HB9 := hid (HB8.out.trans (b9.mono HB8.out.size))
    clear b9 HB8 HIC HIJ
    go_wp2_with fail
    refine (joined_any _ _ _ _ _ _ A B _ HIA.out HIB.out (by omega) (by omega)).mono ?_
    rintro e w10 ⟨ok, ck, rfl, ik, b10⟩
    rw [List.length_append] at ik ⊢
    have HIK := hid ik
    have HIA := hid (HIA.out.below b10)
    have HB10 := hid (HB9.out.trans (b10.mono HB9.out.size))
    clear b10 HB9 ik HIB
    go_wp2_with fail
    refine (JB.out _ _ _ _ HIK.out).mono ?_
    rintro e w11 ⟨u, rfl, pu, _, b11⟩
    have HIA := hid (HIA.out.below b11)
    have HB11 := hid (HB10.out.trans (b11.mono HB10.out.size))
    obtain ⟨m1, m2⟩ := HM.out v u HV.out (pu (by trivial))
    obtain ⟨n1, n2⟩ := HF.out v (by first | rfl | trivial) HV.out
    have HAL := hid (HA.out v HV.out (fun k _ => verdict_ex ns (A ++ [k])))
    clear b11 HB10 HIK pu HM HF HA JA JB JH
    have h3v : v = 0 ∨ v = 1 ∨ v = 2 := by rcases HV.out with ⟨h, _⟩ | ⟨h, _⟩ | ⟨h, _⟩ <;> omega
    rcases h3v with rfl | rfl | rfl
    · clear m1 m2 n1 n2
      go_wp2_with fail
      go_loopw [22, 23, 24] (fun a b i wq => ∃ (k : Nat) (yb nb : Bool), k ≤ 8 ∧ i = .int .i64 k ∧ a = .bool yb ∧ b = .bool nb ∧ Hid (YesTo ns A 1 k yb) ∧ Hid (YesTo ns A 2 k nb) ∧ Hid (Ints wq oa A.length ca (intsOf A)) ∧ Hid (Below w.heap.size w wq)) (fun _ _ i _ => 8 - (intOf i).toNat)
      case atStart => exact ⟨0, true, true, by omega, rfl, rfl, rfl, hid (yes_zero ns A 1), hid (yes_zero ns A 2), HIA, HB11⟩
      case round =>
        obtain ⟨k, yb, nb, hk, rfl, rfl, rfl, HY, HN, HIA, HB⟩ := hrel
        rename World => W0
        by_cases hlk : k < 8
        · go_wp2_with fail
          refine (joined_any _ _ _ _ _ _ A [k] _ (HIA.out.below ((Below.refl _ _).alloc (Nat.le_refl _) _)) (by rw [intsOf_one]; exact ints_one W0 k) (by omega) (by omega)).mono ?_
          rintro e w13 ⟨oj, cj, rfl, ij, b13⟩
          rw [List.length_append] at ij ⊢
          have b13 : Below W0.heap.size W0 w13 := ((Below.refl _ _).alloc (Nat.le_refl _) _).trans (b13.mono (by simp))
          have HIJ := hid ij
          have HIA := hid (HIA.out.below b13)
          have HB13 := hid (HB.out.trans (b13.mono HB.out.size))
          clear b13 ij HB
          go_wp2_with fail
          refine (JC.out k hlk _ _ _ _ HIJ.out).mono ?_
          rintro e w14 ⟨x, rfl, px, _, b14⟩
          have HX := hid (px (by first | rfl | trivial))
          have HIA := hid (HIA.out.below b14)
          have HB14 := hid (HB13.out.trans (b14.mono HB13.out.size))
          clear b14 px HIJ HB13
          have HY2 := hid (yes_step HY.out HX.out)
          have HN2 := hid (yes_step HN.out HX.out)
          have hx3 := verdict_lt HX.out
          clear HX HY HN
          rcases hx3 with rfl | rfl | rfl
          all_goals cases yb
          all_goals cases nb
          all_goals
            go_wp2_with fail
            go_roundw
            case rel => exact ⟨k + 1, _, _, by omega, by go_num, rfl, rfl, HY2, HN2, HIA, HB14⟩
            case measure => simp [intOf]; omega
        · obtain rfl : k = 8 := by omega
          obtain rfl : yb = false := by
            have h1 := HY.out
            unfold YesTo at h1
            rw [HAL.out.1] at h1
            cases yb <;> simp at h1 <;> rfl
          obtain rfl : nb = false := by
            have h1 := HN.out
            unfold YesTo at h1
            rw [HAL.out.2] at h1
            cases nb <;> simp at h1 <;> rfl
          clear HAL HY HN
          go_wp2_with fail
          go_ret
          exact ⟨rfl, HB.out⟩
    · obtain rfl := m1 rfl
      obtain rfl := n1 rfl
      clear m1 m2 n1 n2
      go_wp2_with fail
      go_loopw [22, 23, 24] (fun a b i wq => ∃ (k : Nat) (yb nb : Bool), k ≤ 8 ∧ i = .int .i64 k ∧ a = .bool yb ∧ b = .bool nb ∧ Hid (YesTo ns A 1 k yb) ∧ Hid (YesTo ns A 2 k nb) ∧ Hid (Ints wq oa A.length ca (intsOf A)) ∧ Hid (Below w.heap.size w wq)) (fun _ _ i _ => 8 - (intOf i).toNat)
      case atStart => exact ⟨0, true, true, by omega, rfl, rfl, rfl, hid (yes_zero ns A 1), hid (yes_zero ns A 2), HIA, HB11⟩
      case round =>
        obtain ⟨k, yb, nb, hk, rfl, rfl, rfl, HY, HN, HIA, HB⟩ := hrel
        rename World => W0
        by_cases hlk : k < 8
        · go_wp2_with fail
          refine (joined_any _ _ _ _ _ _ A [k] _ (HIA.out.below ((Below.refl _ _).alloc (Nat.le_refl _) _)) (by rw [intsOf_one]; exact ints_one W0 k) (by omega) (by omega)).mono ?_
          rintro e w13 ⟨oj, cj, rfl, ij, b13⟩
          rw [List.length_append] at ij ⊢
          have b13 : Below W0.heap.size W0 w13 := ((Below.refl _ _).alloc (Nat.le_refl _) _).trans (b13.mono (by simp))
          have HIJ := hid ij
          have HIA := hid (HIA.out.below b13)
          have HB13 := hid (HB.out.trans (b13.mono HB.out.size))
          clear b13 ij HB
          go_wp2_with fail
          refine (JC.out k hlk _ _ _ _ HIJ.out).mono ?_
          rintro e w14 ⟨x, rfl, px, _, b14⟩
          have HX := hid (px (by first | rfl | trivial))
          have HIA := hid (HIA.out.below b14)
          have HB14 := hid (HB13.out.trans (b14.mono HB13.out.size))
          clear b14 px HIJ HB13
          have HY2 := hid (yes_step HY.out HX.out)
          have HN2 := hid (yes_step HN.out HX.out)
          have hx3 := verdict_lt HX.out
          clear HX HY HN
          rcases hx3 with rfl | rfl | rfl
          all_goals cases yb
          all_goals cases nb
          all_goals
            go_wp2_with fail
            go_roundw
            case rel => exact ⟨k + 1, _, _, by omega, by go_num, rfl, rfl, HY2, HN2, HIA, HB14⟩
            case measure => simp [intOf]; omega
        · obtain rfl : k = 8 := by omega
          obtain rfl : yb = true := by
            have h1 := HY.out
            unfold YesTo at h1
            rw [HAL.out.1] at h1
            cases yb <;> simp at h1 <;> rfl
          obtain rfl : nb = false := by
            have h1 := HN.out
            unfold YesTo at h1
            rw [HAL.out.2] at h1
            cases nb <;> simp at h1 <;> rfl
          clear HAL HY HN
          go_wp2_with fail
          go_ret
          exact ⟨rfl, HB.out⟩
    · obtain rfl := m2 rfl
      obtain rfl := n2 rfl
      clear m1 m2 n1 n2
      go_wp2_with fail
      go_loopw [22, 23, 24] (fun a b i wq => ∃ (k : Nat) (yb nb : Bool), k ≤ 8 ∧ i = .int .i64 k ∧ a = .bool yb ∧ b = .bool nb ∧ Hid (YesTo ns A 1 k yb) ∧ Hid (YesTo ns A 2 k nb) ∧ Hid (Ints wq oa A.length ca (intsOf A)) ∧ Hid (Below w.heap.size w wq)) (fun _ _ i _ => 8 - (intOf i).toNat)
      case atStart => exact ⟨0, true, true, by omega, rfl, rfl, rfl, hid (yes_zero ns A 1), hid (yes_zero ns A 2), HIA, HB11⟩
      case round =>
        obtain ⟨k, yb, nb, hk, rfl, rfl, rfl, HY, HN, HIA, HB⟩ := hrel
        rename World => W0
        by_cases hlk : k < 8
        · go_wp2_with fail
          refine (joined_any _ _ _ _ _ _ A [k] _ (HIA.out.below ((Below.refl _ _).alloc (Nat.le_refl _) _)) (by rw [intsOf_one]; exact ints_one W0 k) (by omega) (by omega)).mono ?_
          rintro e w13 ⟨oj, cj, rfl, ij, b13⟩
          rw [List.length_append] at ij ⊢
          have b13 : Below W0.heap.size W0 w13 := ((Below.refl _ _).alloc (Nat.le_refl _) _).trans (b13.mono (by simp))
          have HIJ := hid ij
          have HIA := hid (HIA.out.below b13)
          have HB13 := hid (HB.out.trans (b13.mono HB.out.size))
          clear b13 ij HB
          go_wp2_with fail
          refine (JC.out k hlk _ _ _ _ HIJ.out).mono ?_
          rintro e w14 ⟨x, rfl, px, _, b14⟩
          have HX := hid (px (by first | rfl | trivial))
          have HIA := hid (HIA.out.below b14)
          have HB14 := hid (HB13.out.trans (b14.mono HB13.out.size))
          clear b14 px HIJ HB13
          have HY2 := hid (yes_step HY.out HX.out)
          have HN2 := hid (yes_step HN.out HX.out)
          have hx3 := verdict_lt HX.out
          clear HX HY HN
          rcases hx3 with rfl | rfl | rfl
          all_goals cases yb
          all_goals cases nb
          all_goals
            go_wp2_with fail
            go_roundw
            case rel => exact ⟨k + 1, _, _, by omega, by go_num, rfl, rfl, HY2, HN2, HIA, HB14⟩
            case measure => simp [intOf]; omega
        · obtain rfl : k = 8 := by omega
          obtain rfl : yb = false := by
            have h1 := HY.out
            unfold YesTo at h1
            rw [HAL.out.1] at h1
            cases yb <;> simp at h1 <;> rfl
          obtain rfl : nb = true := by
            have h1 := HN.out
            unfold YesTo at h1
            rw [HAL.out.2] at h1
            cases nb <;> simp at h1 <;> rfl
          clear HAL HY HN
          go_wp2_with fail
          go_ret
          exact ⟨rfl, HB.out⟩
  · obtain rfl := HQV.out he
    have ke : ((er : Int) != 0) = true := by rw [bne_iff_ne]; omega
    clear HPV HQV HM HF HA JA JB JC JH
    go_wp2_with fail
    go_ret
    exact ⟨rfl, HB7.out⟩

end Go.Proofs.Ytjagijohfkffiaa
