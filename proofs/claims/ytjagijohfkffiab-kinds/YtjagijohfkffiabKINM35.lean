import Derived.Test.YtjagijohfkffiabKINM25
import Derived.Test.YtjagijohfkffiabKINM33
import Derived.Test.YtjagijohfkffiabKINM34
import Derived.BigQuiet
import Derived.ProofKit
import Derived.OpenShut
import Derived.ShutString
import Derived.ChangeOld

/- The walk of Kinds. -/
namespace Go.Proofs.Ytjagijohfkffiab
open Go.RowKit
set_option linter.unusedVariables false

/-- FALSE is not told by the first j states. -/
def nvTo (out : Nat → Nat) : Nat → Bool
  | 0 => true
  | j + 1 => nvTo out j && (out j != 2)
theorem nvTo_iff (out : Nat → Nat) : ∀ j, nvTo out j = true ↔ ∀ i, i < j → out i ≠ 2
  | 0 => ⟨fun _ i h => by omega, fun _ => rfl⟩
  | j + 1 => by
    rw [nvTo, Bool.and_eq_true, nvTo_iff out j, bne_iff_ne]
    constructor
    · rintro ⟨h1, h2⟩ i hi
      by_cases e : i = j
      · subst e; exact h2
      · exact h1 i (by omega)
    · intro h
      exact ⟨fun i hi => h i (by omega), h j (by omega)⟩

set_option maxHeartbeats 4000000 in
set_option maxRecDepth 100000 in
theorem kinds_core (s : ByteArray) (a1 a2 : Option Addr) (l1 c1 l2 c2 : Nat) (z1 z2 : List Int) (w : World) (hm : s.size ≤ maxLen) (h1 : Ints w a1 l1 c1 z1) (h2 : Ints w a2 l2 c2 z2) (f1 : Fits z1) (f2 : Fits z2) :
    Calls Try.prog 4 #[.string s, .slice a1 l1 c1, .slice a2 l2 c2] w fun e w' => e = .returned (.bool true) ∧ Below w.heap.size w w' := by
  have K1 := hid (fun W (b : Below w.heap.size w W) => word_any a1 l1 c1 40 z1 W (h1.below b) f1 (by omega))
  have K2 := hid (fun W (b : Below w.heap.size w W) => looped_any a2 l2 c2 12 z2 W (h2.below b) f2 (by omega))
  have A8 := wordTo_8 z1 (min z1.length 40)
  have Al := word_le z1 40
  have B8 := loopTo_8 z2 12
  have Bl := loopTo_le z2 12 (by omega)
  have Bp := loopTo_pos z2 12
  generalize wordTo z1 (min z1.length 40) = A at *
  generalize loopTo z2 12 = B at *
  have AB8 : ∀ x ∈ A ++ B, x < 8 := fun x hx => (List.mem_append.1 hx).elim (A8 x) (B8 x)
  have SZ := hid (fun W => size_any s W hm)
  have CF := hid (fun W => class_any s W hm)
  have CW := hid (fun W => watch_any s W hm)
  have HH := hid (fun W a l c a' l' c' (i1 : Ints W a l c (intsOf A)) (i2 : Ints W a' l' c' (intsOf B)) => holdsW s hm a a' l c l' c' A B W i1 i2 A8 B8 Bp (by omega) (by omega))
  have HY := hid (fun (h0 : (parseOf s).1 = 0) => hv_inf (s := s) h0 Bp AB8)
  unfold Classed at CF
  unfold Watched at CW
  generalize hv s A B = y at *
  generalize parseOf s = p at *
  obtain ⟨er, ns⟩ := p
  dsimp only at *
  have hA8 := hid A8
  have hB8 := hid B8
  clear AB8 A8 B8 h1 h2 f1 f2
  go_enter Try.func4, Try.ntmps4
  go_wp2_with fail
  refine (holding_any _).mono ?_
  rintro e w1 ⟨rfl, b1⟩
  go_wp2_with fail
  refine (watching_any _).mono ?_
  rintro e w2 ⟨rfl, b2⟩
  have B2 := b1.trans (b2.mono b1.size)
  go_wp2_with fail
  refine (classing_any _).mono ?_
  rintro e w3 ⟨rfl, b3⟩
  have HB3 := hid (B2.trans (b3.mono B2.size))
  clear b1 b2 b3 B2
  go_wp2_with fail
  refine (K1.out _ HB3.out).mono ?_
  rintro e w4 ⟨oa, ca, rfl, ia, b4⟩
  have HB4 := hid (HB3.out.trans (b4.mono HB3.out.size))
  have HIA := hid ia
  clear b4 ia HB3 K1
  go_wp2_with fail
  refine (K2.out _ HB4.out).mono ?_
  rintro e w5 ⟨ob, cb, rfl, ib, b5⟩
  have HB5 := hid (HB4.out.trans (b5.mono HB4.out.size))
  have HIA5 := hid (HIA.out.below b5)
  have HIB5 := hid ib
  clear b5 ib HB4 K2 HIA
  go_wp2_with fail
  refine (CF.out _).mono ?_
  rintro e w6 ⟨sf, co, lv, rfl, kf, kn, b6⟩
  have bc6 := (Below.refl w6.heap.size w6).alloc (Nat.le_refl _) (.cells #[.bool sf, .bool co, .bool lv] 30)
  have T6 := hid (three_new w6 (.bool sf) (.bool co) (.bool lv) 30)
  have bx6 := hid (b6.trans (bc6.mono b6.size))
  have HB6 := hid (HB5.out.trans (bx6.out.mono HB5.out.size))
  have HIA6 := hid (HIA5.out.below bx6.out)
  have HIB6 := hid (HIB5.out.below bx6.out)
  have HKF := hid kf
  have HKN := hid kn
  clear kf kn b6 bc6 HB5 CF bx6 HIA5 HIB5
  go_wp2_with fail
  refine (CW.out _).mono ?_
  rintro e w7 ⟨v1, v2, ew, rfl, q0, q1, b7⟩
  simp only [World.size_alloc] at b7
  have T7 := hid (T6.out.below b7 (by omega))
  have HB7 := hid (HB6.out.trans (b7.mono (by have := HB6.out.size; simp at this; omega)))
  have HIA7 := hid (HIA6.out.below (by simpa using b7))
  have HIB7 := hid (HIB6.out.below (by simpa using b7))
  clear b7 T6 HB6 HIA6 HIB6 CW
  obtain ⟨n, a5, c5, a6, c6, rfl, rfl⟩ : ∃ n a5 c5 a6 c6, v1 = .slice a5 n c5 ∧ v2 = .slice a6 n c6 := by
    by_cases he : er = 0
    · rcases q1 he with ⟨rfl, ss, V, hL, hE, h8, hM⟩ | ⟨rfl, rfl, rfl, _⟩
      · obtain ⟨a5, c5, e1, _⟩ := hL.ints
        obtain ⟨a6, c6, e2, _⟩ := hL.lists
        exact ⟨_, _, _, _, _, e1, e2⟩
      · exact ⟨0, none, 0, none, 0, rfl, rfl⟩
    · obtain ⟨_, rfl, rfl⟩ := q0 he
      exact ⟨0, none, 0, none, 0, rfl, rfl⟩
  have bc7 := hid ((Below.refl w7.heap.size w7).alloc (Nat.le_refl _) (.cells #[.slice a5 n c5, .slice a6 n c6] 35))
  have M7 := hid (two_new w7 (.slice a5 n c5) (.slice a6 n c6) 35)
  have T8 := hid (T7.out.below bc7.out T7.out.lt)
  have HB8 := hid (HB7.out.trans (bc7.out.mono HB7.out.size))
  have hT7 := T7.out.lt
  go_wp2_with fail
  refine (SZ.out _).mono ?_
  rintro e w9 ⟨rfl, b9⟩
  simp only [World.size_alloc] at b9
  have T9 := hid (T8.out.below b9 (by omega))
  have M9 := hid (M7.out.below b9 (by omega))
  have HB9 := hid (HB8.out.trans (b9.mono (by have := HB8.out.size; simp at this; omega)))
  have bx9 := hid (bc7.out.trans (b9.mono (by omega)))
  have x0 := T9.out.c0
  have x1 := T9.out.c1
  have x2 := T9.out.c2
  have y0 := M9.out.c0
  have y1 := M9.out.c1
  clear b9 bc7 T7 T8 M7 HB8 SZ
  by_cases he : er = 0
  · subst he
    rcases q1 rfl with ⟨rfl, ss, V, hL, hE, h8, hM⟩ | ⟨rfl, e5, e6, _⟩
    · obtain ⟨a5', c5', e5, I5⟩ := hL.ints
      obtain ⟨a6', c6', e6, L6⟩ := hL.lists
      cases e5
      cases e6
      have HFM := hid (machS_formed hM hE h8)
      obtain ⟨out, nx, hMa, hss⟩ := hM
      have hpos := numbered_pos hMa.num
      obtain ⟨b5, o5, b6, o6, rfl, rfl, hR⟩ := mar_of I5 L6 hss hpos
      have m1 := I5.hcap
      have m2 := I5.hmax
      have m3 := L6.hcap
      have m4 := L6.hmax
      have HI5 := hid (I5.below bx9.out)
      have HL6 := hid (L6.below bx9.out)
      have HR9 := hid (hR.below bx9.out)
      have HMA := hid hMa
      have HK := hid (HKF.out rfl)
      have HYY := hid (HY.out rfl)
      have HIA9 := hid (HIA7.out.below bx9.out)
      have HIB9 := hid (HIB7.out.below bx9.out)
      have HLV := hid (kinds_live hMa (HKF.out rfl))
      clear hL I5 L6 hR hMa hss q0 q1 HB7 HKF HKN HY HIA7 HIB7 bx9
      generalize ss.length = n at *
      go_wp2_with fail
      refine (HH.out _ _ _ _ _ _ _ HIA9.out HIB9.out).mono ?_
      rintro e w10 ⟨rfl, b10⟩
      have T10 := hid (T9.out.below b10 T9.out.lt)
      have M10 := hid (M9.out.below b10 M9.out.lt)
      have HB10 := hid (HB9.out.trans (b10.mono HB9.out.size))
      have HI10 := hid (HI5.out.below b10)
      have HL10 := hid (HL6.out.below b10)
      have HR10 := hid (HR9.out.below b10)
      have HIA10 := hid (HIA9.out.below b10)
      have HIB10 := hid (HIB9.out.below b10)
      clear x0 x1 x2 y0 y1 b10 T9 M9 HB9 HI5 HL6 HR9 HIA9 HIB9 HH
      have y0 := M10.out.c0
      have y1 := M10.out.c1
      go_wp2_with fail
      have KF := kformed_any (some ⟨b5, o5, none⟩) (some ⟨b6, o6, none⟩) n c5 n c6 (outsTo ss n) (nextTo ss n) w10 HI10.out HL10.out
      rw [HFM.out] at KF
      refine KF.mono ?_
      rintro e w11 ⟨rfl, b11⟩
      have T11 := hid (T10.out.below b11 T10.out.lt)
      have M11 := hid (M10.out.below b11 M10.out.lt)
      have HB11 := hid (HB10.out.trans (b11.mono HB10.out.size))
      have HR11 := hid (HR10.out.below b11)
      have HIA11 := hid (HIA10.out.below b11)
      have HIB11 := hid (HIB10.out.below b11)
      clear y0 y1 b11 T10 M10 HB10 HI10 HL10 HR10 HIA10 HIB10 KF HFM
      have x0 := T11.out.c0
      have x1 := T11.out.c1
      have x2 := T11.out.c2
      have x0' : ∀ q, (w11.drewN q).cell? ⟨w6.heap.size, 0, none⟩ = some (.bool sf) := fun q => x0
      have x1' : ∀ q, (w11.drewN q).cell? ⟨w6.heap.size, 1, none⟩ = some (.bool co) := fun q => x1
      have x2' : ∀ q, (w11.drewN q).cell? ⟨w6.heap.size, 2, none⟩ = some (.bool lv) := fun q => x2
      have y0' : ∀ q, (w11.drewN q).cell? ⟨w7.heap.size, 0, none⟩ = some (.slice (some ⟨b5, o5, none⟩) n c5) := fun q => M11.out.c0
      have y1' : ∀ q, (w11.drewN q).cell? ⟨w7.heap.size, 1, none⟩ = some (.slice (some ⟨b6, o6, none⟩) n c6) := fun q => M11.out.c1
      clear x0 x1 x2
      go_wp2_with fail
      go_loopw [21, 22] (fun x y wq => ∃ i : Nat, i ≤ A.length ∧ y = .int .i64 i ∧ x = .int .i64 (runM nx 0 (A.take i) : Nat) ∧ ∃ q, wq = w11.drewN q) (fun _ y _ => A.length - (intOf y).toNat)
      case atStart => exact ⟨0, Nat.zero_le _, rfl, rfl, 0, rfl⟩
      case round =>
        obtain ⟨i, hi, rfl, rfl, q, rfl⟩ := hrel
        have g1 := y1' q
        by_cases hli : i < A.length
        · obtain ⟨z, hz⟩ : ∃ z, A[i]? = some z := ⟨A[i], List.getElem?_eq_getElem hli⟩
          have hz8 := hA8.out z (List.mem_of_getElem? hz)
          have hkn := mach_run_lt HMA.out (w := A.take i) (fun x hx => hA8.out x (List.mem_of_mem_take hx))
          have HTK : Hid (runM nx 0 (A.take (i + 1)) = nx (runM nx 0 (A.take i)) z) := hid (by rw [List.take_add_one, hz, runM_app]; rfl)
          obtain ⟨r, ro, rc, r1, r2, r3, _, r5⟩ := HR11.out.x (runM nx 0 (A.take i)) hkn
          have r6 := r5 z hz8
          obtain ⟨ba', oa', e, hba, hca⟩ := HIA11.out.hcell (by omega)
          subst e
          have ca' := hca i hli
          rw [show (intsOf A).getD i 0 = (z : Int) by simp [intsOf, List.getD, hz]] at ca'
          have hAc := HIA11.out.hcap
          have p1 : (w11.drewN q).cell? ⟨b6, o6 + runM nx 0 (A.take i), none⟩ = some (.slice (some ⟨r, ro, none⟩) 8 rc) := r1
          have p2 : (w11.drewN q).cell? ⟨r, ro + z, none⟩ = some (.int .i64 (nx (runM nx 0 (A.take i)) z : Nat)) := r6
          have p3 : (w11.drewN q).cell? ⟨ba', oa' + i, none⟩ = some (.int .i64 (z : Nat)) := ca'
          have HQ : Hid (∀ m, ∃ q', (w11.drewN q).drewN m = w11.drewN q') := hid (fun m => ⟨q + m, by rw [World.drewN_drewN]⟩)
          clear r1 r5 r6 ca' hca hz
          rw [← HTK.out] at p2
          generalize hk1 : runM nx 0 (A.take (i + 1)) = k1 at *
          generalize runM nx 0 (A.take i) = k0 at *
          have i1 : (z : Int) < 8 := by omega
          have i2 : (k0 : Int) < (n : Int) := by omega
          have i3 : (i : Int) < (A.length : Int) := by omega
          have i4 : (0 : Int) ≤ (z : Int) := by omega
          have i5 : (0 : Int) ≤ (k0 : Int) := by omega
          have i6 : (0 : Int) ≤ (i : Int) := by omega
          have HK2 := hid hk1
          clear hk1 HTK
          generalize w11.drewN q = W9 at *
          go_wp2_with fail
          go_quiet (fail)
          go_wp2_with fail
          go_roundw
          case rel => exact ⟨i + 1, by omega, by go_num, by rw [HK2.out], HQ.out _⟩
          case measure => simp [intOf] <;> omega
        · obtain rfl : i = A.length := by omega
          rw [List.take_length]
          have hBne : ¬ B.length = 0 := by omega
          go_wp2_with fail
          go_loopw [21, 23] (fun x y wq => ∃ i : Nat, i ≤ 9 * B.length ∧ y = .int .i64 i ∧ x = .int .i64 (runM nx 0 (A ++ (times B 9).take i) : Nat) ∧ ∃ q, wq = w11.drewN q) (fun _ y _ => 9 * B.length - (intOf y).toNat)
          case atStart => exact ⟨0, Nat.zero_le _, rfl, by simp, q, rfl⟩
          case round =>
            obtain ⟨i, hi, rfl, rfl, q, rfl⟩ := hrel
            have g1 := y1' q
            have LT := hid (times_letters hB8.out 9)
            by_cases hli : i < 9 * B.length
            · obtain ⟨m, hmd⟩ : ∃ m, m = i % B.length := ⟨_, rfl⟩
              have hml : m < B.length := by rw [hmd]; exact Nat.mod_lt _ Bp
              have htm : (i : Int).tmod (B.length : Int) = (m : Int) := by rw [Int.tmod_eq_emod_of_nonneg (by omega), hmd]; rfl
              obtain ⟨z, hz⟩ : ∃ z, B[m]? = some z := ⟨B[m], List.getElem?_eq_getElem hml⟩
              have hz8 := hB8.out z (List.mem_of_getElem? hz)
              have hit : i < (times B 9).length := by rw [times_len]; exact hli
              have hzt : (times B 9)[i]? = some z := by
                have h9 := times_get 9 i hli
                rw [← hmd] at h9
                rw [List.getElem?_eq_getElem hit]
                simp only [List.getD, List.getElem?_eq_getElem hit, hz, Option.getD_some] at h9
                rw [h9]
              have hkn := mach_run_lt HMA.out (w := A ++ (times B 9).take i) (letters_app hA8.out (fun x hx => LT.out x (List.mem_of_mem_take hx)))
              have HTK : Hid (runM nx 0 (A ++ (times B 9).take (i + 1)) = nx (runM nx 0 (A ++ (times B 9).take i)) z) := hid (by rw [List.take_add_one, hzt, ← List.append_assoc, runM_app]; rfl)
              obtain ⟨r, ro, rc, r1, r2, r3, _, r5⟩ := HR11.out.x (runM nx 0 (A ++ (times B 9).take i)) hkn
              have r6 := r5 z hz8
              obtain ⟨ba', oa', e, hba, hca⟩ := HIB11.out.hcell (by omega)
              subst e
              have ca' := hca m hml
              rw [show (intsOf B).getD m 0 = (z : Int) by simp [intsOf, List.getD, hz]] at ca'
              have hBc := HIB11.out.hcap
              have p1 : (w11.drewN q).cell? ⟨b6, o6 + runM nx 0 (A ++ (times B 9).take i), none⟩ = some (.slice (some ⟨r, ro, none⟩) 8 rc) := r1
              have p2 : (w11.drewN q).cell? ⟨r, ro + z, none⟩ = some (.int .i64 (nx (runM nx 0 (A ++ (times B 9).take i)) z : Nat)) := r6
              have p3 : (w11.drewN q).cell? ⟨ba', oa' + m, none⟩ = some (.int .i64 (z : Nat)) := ca'
              have HQ : Hid (∀ m, ∃ q', (w11.drewN q).drewN m = w11.drewN q') := hid (fun m => ⟨q + m, by rw [World.drewN_drewN]⟩)
              clear r1 r5 r6 ca' hca hz hmd hzt hit
              rw [← HTK.out] at p2
              generalize hk1 : runM nx 0 (A ++ (times B 9).take (i + 1)) = k1 at *
              generalize runM nx 0 (A ++ (times B 9).take i) = k0 at *
              have i1 : (z : Int) < 8 := by omega
              have i2 : (k0 : Int) < (n : Int) := by omega
              have i3 : (m : Int) < (B.length : Int) := by omega
              have i4 : (0 : Int) ≤ (z : Int) := by omega
              have i5 : (0 : Int) ≤ (k0 : Int) := by omega
              have i6 : (0 : Int) ≤ (m : Int) := by omega
              have i7 : (i : Int) < 9 * (B.length : Int) := by omega
              have HK2 := hid hk1
              clear hk1 HTK
              generalize w11.drewN q = W9 at *
              go_wp2_with fail
              go_quiet (fail)
              go_wp2_with fail
              go_roundw
              case rel => exact ⟨i + 1, by omega, by go_num, by rw [HK2.out], HQ.out _⟩
              case measure => simp [intOf] <;> omega
            · obtain rfl : i = 9 * B.length := by omega
              rw [List.take_of_length_le (by rw [times_len]; exact Nat.le_refl _)]
              have i7 : ¬ ((9 * B.length : Nat) : Int) < 9 * (B.length : Int) := by omega
              have hkn := mach_run_lt HMA.out (w := A ++ times B 9) (letters_app hA8.out LT.out)
              have HKT := hid (kinds_told HMA.out h8 hA8.out hB8.out Bp HK.out HYY.out)
              unfold spotK at HKT
              have hk3 := mach_tells HMA.out hkn
              generalize runM nx 0 (A ++ times B 9) = k at *
              go_wp2_with fail
              go_loopw [24, 25] (fun x y wq => ∃ i : Nat, i ≤ n ∧ y = .int .i64 i ∧ x = .bool (nvTo out i) ∧ ∃ q, wq = w11.drewN q) (fun _ y _ => n - (intOf y).toNat)
              case atStart => exact ⟨0, Nat.zero_le _, rfl, rfl, q, rfl⟩
              case round =>
                obtain ⟨i, hi, rfl, rfl, q, rfl⟩ := hrel
                have g0 := y0' q
                by_cases hli : i < n
                · have co' : (w11.drewN q).cell? ⟨b5, o5 + i, none⟩ = some (.int .i64 (out i : Nat)) := HR11.out.o i hli
                  have HN1 : Hid (nvTo out (i + 1) = (nvTo out i && (out i != 2))) := hid rfl
                  have hoi : ((out i : Int) != 2) = (out i != 2) := by rw [Bool.eq_iff_iff, bne_iff_ne, bne_iff_ne]; omega
                  generalize nvTo out i = nv at *
                  generalize (out i != 2) = bo at *
                  cases nv with
                  | false =>
                    have HN2 : Hid (nvTo out (i + 1) = false) := hid (by rw [HN1.out]; rfl)
                    go_wp2_with fail
                    go_roundw
                    case rel => exact ⟨i + 1, by omega, by go_num, by rw [HN2.out], q, rfl⟩
                    case measure => simp [intOf] <;> omega
                  | true =>
                    have HN2 : Hid (nvTo out (i + 1) = bo) := hid (by rw [HN1.out]; simp)
                    go_wp2_with fail
                    go_roundw
                    case rel => exact ⟨i + 1, by omega, by go_num, by rw [HN2.out], q, rfl⟩
                    case measure => simp [intOf] <;> omega
                · obtain rfl : i = n := by omega
                  have hnv : nvTo out i = lv := by rw [Bool.eq_iff_iff, nvTo_iff, HLV.out]
                  rw [hnv]
                  have g0 := y0' q
                  have u0 := x0' q
                  have u1 := x1' q
                  have u2 := x2' q
                  have ck : (w11.drewN q).cell? ⟨b5, o5 + k, none⟩ = some (.int .i64 (out k : Nat)) := HR11.out.o k hkn
                  have kl : (lv != lv) = false := by simp
                  have HBF := hid (below_drewN HB11.out q)
                  obtain ⟨t1, t2, t3, t4⟩ := HKT.out
                  generalize out k = ov at *
                  have i8 : (k : Int) < (i : Int) := by omega
                  have i9 : (0 : Int) ≤ (k : Int) := by omega
                  clear HKT HLV HK HYY hnv HR11 HMA
                  have h4 : (y = true ∧ ov = 1) ∨ (y = true ∧ ov = 0 ∧ co = false) ∨ (y = false ∧ ov = 2) ∨ (y = false ∧ ov = 0 ∧ sf = false) := by
                    cases y with
                    | true =>
                      rcases hk3 with e | e | e
                      · refine Or.inr (Or.inl ⟨rfl, e, ?_⟩)
                        cases co with
                        | false => rfl
                        | true => have := t2 rfl rfl; omega
                      · exact Or.inl ⟨rfl, e⟩
                      · have := t3 e; cases this
                    | false =>
                      rcases hk3 with e | e | e
                      · refine Or.inr (Or.inr (Or.inr ⟨rfl, e, ?_⟩))
                        cases sf with
                        | false => rfl
                        | true => have := t1 rfl rfl; omega
                      · have := t4 e; cases this
                      · exact Or.inr (Or.inr (Or.inl ⟨rfl, e⟩))
                  clear t1 t2 t3 t4 hk3
                  rcases h4 with ⟨rfl, rfl⟩ | ⟨rfl, rfl, rfl⟩ | ⟨rfl, rfl⟩ | ⟨rfl, rfl, rfl⟩
                  · cases sf <;> cases co
                    all_goals
                      go_wp2
                      go_ret
                      exact ⟨rfl, HBF.out⟩
                  · cases sf
                    all_goals
                      go_wp2
                      go_ret
                      exact ⟨rfl, HBF.out⟩
                  · cases sf <;> cases co
                    all_goals
                      go_wp2
                      go_ret
                      exact ⟨rfl, HBF.out⟩
                  · cases co
                    all_goals
                      go_wp2
                      go_ret
                      exact ⟨rfl, HBF.out⟩
    · cases e5
      cases e6
      go_wp2_with fail
      go_ret
      exact ⟨rfl, HB9.out⟩
  · obtain ⟨rfl, e5, e6⟩ := q0 he
    cases e5
    cases e6
    obtain ⟨rfl, rfl, rfl⟩ := HKN.out he
    have ke : ((ew : Int) != 0) = true := by rw [bne_iff_ne]; omega
    have ke2 : ((ew : Int) == (ew : Int)) = true := by simp
    have ke3 : ((ew : Int) == 0) = false := by rw [beq_eq_false_iff_ne]; omega
    go_wp2_with fail
    go_ret
    exact ⟨rfl, HB9.out⟩

end Go.Proofs.Ytjagijohfkffiab

/- Kinds: the row. -/
namespace Go.Proofs.Ytjagijohfkffiab.kinds
open Go.ChangeShapes Go.WideShapes Go.ChangeAt Go.RowKit
open Go.ChangeMaps (open_string shut_string)
set_option linter.unusedVariables false

theorem own : ownKnob Try.prog.godebug = none := by kernel_rfl
theorem laidOut : laidOutB Try.prog = true := by kernel_rfl

/-- A slice of ints among the arguments. -/
theorem ints_of {H : Type} {enc : TypeId × Value → H} {W : World} {a : Option Addr} {len cap : Nat} {d : DataW H} {p : List MemPlace} (h : DataW.Trod enc Try.prog W 0 (fun _ => true) true 22 (.slice a len cap) d p) : ∃ zs, Ints W a len cap zs ∧ Fits zs := by
  obtain ⟨fuel, hf⟩ := h
  rcases open_ints Try.underlying22 Try.underlying3 (by kernel_rfl) hf with ⟨hcs, _⟩ | ⟨x, l, c, zs, hcs, _, hl, hm, hz, _, hcell, hwz⟩
  · simp [Value.cells] at hcs
    obtain ⟨rfl, rfl, rfl⟩ := hcs
    exact ⟨[], ⟨rfl, Nat.le_refl _, by omega, fun _ => ⟨rfl, rfl⟩, fun h => by omega⟩, fun z hz => by simp at hz⟩
  · simp [Value.cells] at hcs
    obtain ⟨rfl, rfl, rfl⟩ := hcs
    have hz2 : zs.length = cap := by simpa using hz
    unfold maxLen at hm
    refine ⟨zs.take len, ⟨by rw [List.length_take]; omega, hl, hm, fun h => by simp at h, fun h0 => ?_⟩, fun z hz => ?_⟩
    · obtain ⟨b, off, hx, hc⟩ := ints_at hcell (by omega)
      subst hx
      refine ⟨b, off, rfl, World.block_lt_of_cell? W ⟨b, off + 0, none⟩ (hc 0 (by omega)), fun i hi => ?_⟩
      rw [hc i (by omega)]
      simp [List.getD, List.getElem?_take_of_lt hi]
    · have := bounds_i64 (hwz z (List.mem_of_mem_take hz))
      omega

set_option maxRecDepth 100000 in
theorem lifted (os : Os) (started : os.Started) (H : Type) (enc : TypeId × Value → H) :
    ReturnsInHanded {} Try.checked os 4 .any (Rows.kindsSpec.pre6 enc Try.prog Try.f4 Rows.kindsRow.domain false) (Rows.kindsSpec.post enc Try.prog Try.f4 false true false false) := by
  refine returnsInHanded_of_change (C := Try.checked) own started (by kernel_rfl) Try.func4
    (ChangeSpec.witness6 (enc := enc) (C := Try.checked) false ⟨#[], #[.string ByteArray.empty, .slice none 0 0, .slice none 0 0], []⟩ 8 (by kernel_rfl) (by kernel_rfl) (by kernel_rfl) (by kernel_rfl)) ?_
  intro W base args ds gs before hval0 hW hcnd _
  have hval : ∀ (j : Nat) t v, Try.f4.params[j]? = some t → args[j]? = some v → Value.okWide Try.prog W .any base t v := hval0
  have hW' := hW
  obtain ⟨p, q, hA0, hV, rfl, hfz, hnd⟩ := hW
  have hA : DataW.TrodAll enc Try.prog W 0 (fun _ => true) true Try.f4.params.toList args.toList ds p := hA0
  rw [Try.params4] at hA hval
  obtain ⟨v0, vs0, d0, ds0, p0, q0, hargs, rfl, rfl, h0, r0⟩ := trodAll_cons hA
  obtain ⟨v1, vs1, d1, ds1, p1, q1, rfl, rfl, rfl, h1, r1⟩ := trodAll_cons r0
  obtain ⟨v2, vs2, d2, ds2, p2, q2, rfl, rfl, rfl, h2, r2⟩ := trodAll_cons r1
  obtain ⟨rfl, rfl, rfl⟩ := trodAll_nil r2
  obtain rfl : args = #[v0, v1, v2] := by cases args; simp_all
  obtain ⟨rfl, rfl⟩ := trodVars_none hV
  obtain ⟨a0, rfl, rfl, rfl, w0⟩ := open_string Try.underlying9 (hval 0 9 v0 rfl rfl) h0
  obtain ⟨a1, len1, cap1, rfl⟩ := okWide_slice Try.underlying22 (hval 1 22 v1 rfl rfl)
  have lt1 : ∀ x ∈ p1, x.block < W.heap.size := by obtain ⟨m, hm⟩ := h1; exact DataW.trod_lt m _ _ _ hm
  obtain ⟨z1, w1, f1⟩ := ints_of h1
  obtain ⟨a2, len2, cap2, rfl⟩ := okWide_slice Try.underlying22 (hval 2 22 v2 rfl rfl)
  have lt2 : ∀ x ∈ p2, x.block < W.heap.size := by obtain ⟨m, hm⟩ := h2; exact DataW.trod_lt m _ _ _ hm
  obtain ⟨z2, w2, f2⟩ := ints_of h2
  clear hA0 hval0
  refine (kinds_core a0 a1 a2 len1 cap1 len2 cap2 z1 z2 W w0 w1 w2 f1 f2).mono fun e W' ⟨he, bel⟩ => ?_
  subst he
  exact ⟨_, rfl, _, _, _, [], _, [], hW', trodAll_mk1 (shut_bool Try.underlying4 _), (trodAll_cons_mk (shut_string Try.underlying9 w0) (trodAll_cons_mk (Below.trod laidOut (by kernel_rfl) (of_decide_eq_true (by kernel_rfl)) h1 bel lt1) (trodAll_cons_mk (Below.trod laidOut (by kernel_rfl) (of_decide_eq_true (by kernel_rfl)) h2 bel lt2) trodAll_mk0))), rfl, bel.frame _, fun h => by cases h⟩

theorem over : Rows.kindsRow.holds Try.pinned (OpenSpec.ofChange Rows.kindsSpec) :=
  OpenClaim.holds_of_wide 4 Try.f4 rfl rfl rfl rfl rfl rfl rfl ⟨rfl, rfl, rfl, rfl, rfl⟩ rfl rfl rfl rfl rfl (by kernel_rfl) Try.func4 (by kernel_rfl)
    (of_decide_eq_true (by kernel_rfl)) (by unfold Func.isWrapper; first | (rw [if_pos (by decide +kernel)]; kernel_rfl) | (rw [if_neg (by decide +kernel)]; exact ⟨rfl, rfl⟩))
    (fun os started H enc _ => lifted os started H enc)

theorem proved : Rows.KindsSaid := over
end Go.Proofs.Ytjagijohfkffiab.kinds
namespace Go.Proofs.Ytjagijohfkffiab
theorem kinds_holds : Rows.KindsSaid := kinds.proved
end Go.Proofs.Ytjagijohfkffiab
