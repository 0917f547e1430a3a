import Derived.Test.YtjagijohfkffiaaWRIM21
import Derived.Test.YtjagijohfkffiaaWRIM28

/- Plain mathematics: what is written is read again as it was, and the other way round. -/
namespace Go.Proofs.Ytjagijohfkffiaa
open Go.RowKit
set_option linter.unusedVariables false

theorem flatB_get {ss : List St} (h : Eight ss) {i : Nat} (hi : i < ss.length) {j : Nat} (hj : j < 9) : (ss.flatMap stBytes)[i * 9 + j]? = (stBytes (stAt ss i))[j]? := by
  induction ss generalizing i with
  | nil => simp at hi
  | cons s ss ih =>
    have h1 : s.next.length = 8 := h s (by simp)
    have hs := stBytes_len h1
    cases i with
    | zero =>
      show (stBytes s ++ ss.flatMap stBytes)[0 * 9 + j]? = _
      rw [List.getElem?_append_left (by omega)]
      simp [stAt]
    | succ i =>
      show (stBytes s ++ ss.flatMap stBytes)[(i + 1) * 9 + j]? = _
      rw [List.getElem?_append_right (by omega), hs, show (i + 1) * 9 + j - 9 = i * 9 + j by omega, ih (fun x hx => h x (by simp [hx])) (by simpa using hi)]
      simp [stAt]
theorem bytes_len {ss : List St} (h : Eight ss) : (bytesOf ss).length = 1 + ss.length * 9 := by rw [← bytesTo_all]; exact bytesTo_len h (Nat.le_refl _)
theorem bytes_at {ss : List St} (h : Eight ss) {i : Nat} (hi : i < ss.length) {j : Nat} (hj : j < 9) : (bytesOf ss)[1 + i * 9 + j]? = (stBytes (stAt ss i))[j]? := by
  unfold bytesOf
  rw [show 1 + i * 9 + j = (i * 9 + j) + 1 by omega, List.getElem?_cons_succ]
  exact flatB_get h hi hj
theorem bt_list {l : List UInt8} {p : Nat} {b : UInt8} (h : l[p]? = some b) : bt ⟨l.toArray⟩ p = b.toNat := by
  obtain ⟨hp, e⟩ := List.getElem?_eq_some_iff.1 h
  have hp2 : p < (⟨l.toArray⟩ : ByteArray).size := by simpa [ByteArray.size] using hp
  rw [bt_in hp2]
  congr 1

/-- What is written is read again. -/
theorem trip_read {ss : List St} (hw : wfB ss = true) (h8 : Eight ss) : readB ⟨(bytesOf ss).toArray⟩ = true ∧ bt ⟨(bytesOf ss).toArray⟩ 0 = ss.length ∧ statesOf ⟨(bytesOf ss).toArray⟩ ss.length = ss := by
  obtain ⟨w1, w2, w3⟩ := wfB_iff.1 hw
  have b0 : bt ⟨(bytesOf ss).toArray⟩ 0 = ss.length := by
    rw [bt_list (b := byt (ss.length : Int)) rfl]
    have := byt_toNat (z := (ss.length : Int)) (by omega) (by omega)
    omega
  have hsz : (⟨(bytesOf ss).toArray⟩ : ByteArray).size = 1 + ss.length * 9 := by
    show (bytesOf ss).toArray.size = _
    rw [List.size_toArray, bytes_len h8]
  have hst : ∀ i, i < ss.length → stOf ⟨(bytesOf ss).toArray⟩ i = stAt ss i := fun i hi => by
    obtain ⟨s1, s2, s3⟩ := stB_small (w3 i hi)
    have hl := eight_at h8 hi
    have at0 := bytes_at h8 hi (show 0 < 9 by omega)
    have e0 : (bt ⟨(bytesOf ss).toArray⟩ (1 + i * 9) : Int) = (stAt ss i).out := by
      rw [bt_list (b := byt (stAt ss i).out) (by rw [show 1 + i * 9 = 1 + i * 9 + 0 by omega, at0]; rfl)]
      exact byt_toNat s1 (by omega)
    have ea : ∀ a, a < 8 → (bt ⟨(bytesOf ss).toArray⟩ (1 + i * 9 + 1 + a) : Int) = (stAt ss i).next.getD a 0 := fun a ha => by
      have h9 := bytes_at h8 hi (show 1 + a < 9 by omega)
      rw [show 1 + i * 9 + (1 + a) = 1 + i * 9 + 1 + a by omega] at h9
      have hn := s3 a (by omega)
      rw [bt_list (b := byt ((stAt ss i).next.getD a 0)) (by
        rw [h9]
        show ((byt (stAt ss i).out) :: (stAt ss i).next.map byt)[1 + a]? = _
        rw [show 1 + a = a + 1 by omega, List.getElem?_cons_succ, List.getElem?_map, List.getElem?_eq_getElem (by omega)]
        simp [List.getD, List.getElem?_eq_getElem (show a < (stAt ss i).next.length by omega)])]
      exact byt_toNat (by omega) (by omega)
    unfold stOf
    rw [e0]
    have en : (List.range 8).map (fun a => (bt ⟨(bytesOf ss).toArray⟩ (1 + i * 9 + 1 + a) : Int)) = (stAt ss i).next := by
      apply List.ext_getElem
      · simp [hl]
      · intro a h1 h2
        have ha : a < 8 := by simpa using h1
        simp only [List.getElem_map, List.getElem_range]
        rw [ea a ha]
        simp [List.getD, List.getElem?_eq_getElem h2]
    rw [en]
  have hss : statesOf ⟨(bytesOf ss).toArray⟩ ss.length = ss := by
    apply List.ext_getElem
    · simp [statesOf]
    · intro i h1 h2
      simp only [statesOf, List.getElem_map, List.getElem_range]
      rw [hst i h2]
      simp [stAt, List.getD, List.getElem?_eq_getElem h2]
  refine ⟨?_, b0, hss⟩
  unfold readB
  rw [b0, hss, hw, hsz]
  simp
  omega

/-- What is read is written again. -/
theorem trip_write {s : ByteArray} (h : readB s = true) : (⟨(bytesOf (statesOf s (bt s 0))).toArray⟩ : ByteArray) = s := by
  obtain ⟨h0, h1, h2⟩ := readB_is h
  have h8 := statesOf_eight s (bt s 0)
  have hl := statesOf_len s (bt s 0)
  have key : ∀ p, (hp : p < s.size) → byt (bt s p : Int) = s[p]'hp := fun p hp => by
    rw [bt_in hp]
    unfold byt
    simp
  apply ByteArray.ext
  apply Array.ext
  · show (bytesOf (statesOf s (bt s 0))).toArray.size = s.data.size
    rw [List.size_toArray, bytes_len h8, hl]
    exact h1.symm
  · intro p hp1 hp2
    have hps : p < s.size := hp2
    rw [List.getElem_toArray]
    refine Eq.trans ?_ (key p hps)
    rcases Nat.eq_zero_or_pos p with rfl | hpos
    · show byt _ = _
      rw [hl]
    · obtain ⟨i, j, hi, hj, rfl⟩ : ∃ i j, i < bt s 0 ∧ j < 9 ∧ p = 1 + i * 9 + j := ⟨(p - 1) / 9, (p - 1) % 9, by omega, by omega, by omega⟩
      have h9 := bytes_at h8 (i := i) (by omega) hj
      have hp3 : 1 + i * 9 + j < (bytesOf (statesOf s (bt s 0))).length := by rw [bytes_len h8, hl]; omega
      rw [List.getElem?_eq_getElem hp3, stAt_states hi] at h9
      cases j with
      | zero => exact Option.some.inj (h9.trans rfl)
      | succ a =>
        have e : (stBytes (stOf s i))[a + 1]? = some (byt (bt s (1 + i * 9 + 1 + a) : Int)) := by
          simp [stBytes, stOf, show a < 8 by omega]
        rw [e] at h9
        rw [Option.some.inj h9, show 1 + i * 9 + (a + 1) = 1 + i * 9 + 1 + a by omega]

end Go.Proofs.Ytjagijohfkffiaa

/- The walk of Written (laid by gen_written.py). -/
namespace Go.Proofs.Ytjagijohfkffiaa
open Go.RowKit
set_option linter.unusedVariables false

theorem zip_outs {os : List Int} {ls : List (List Int)} (h : formedB os ls = true) : outsTo (zipSt os ls) os.length = os ∧ nextTo (zipSt os ls) os.length = ls ∧ (zipSt os ls).length = os.length ∧ Eight (zipSt os ls) ∧ wfB (zipSt os ls) = true := by
  obtain ⟨e1, e2, e3⟩ := formed_len h
  have hz := zip_len e1
  have za := fun i (hi : i < os.length) => zip_at e1 hi
  refine ⟨?_, ?_, hz, ?_, e3⟩
  · apply List.ext_getElem
    · simp [outsTo]
    · intro i h1 h2
      simp only [outsTo, List.getElem_map, List.getElem_range]
      rw [za i h2]
      simp [List.getD, List.getElem?_eq_getElem h2]
  · apply List.ext_getElem
    · simp [nextTo, e1]
    · intro i h1 h2
      simp only [nextTo, List.getElem_map, List.getElem_range]
      rw [za i (by omega)]
      simp [List.getD, List.getElem?_eq_getElem h2]
  · intro s hs
    obtain ⟨i, hi, e⟩ := List.getElem_of_mem hs
    have h2 := za i (by omega)
    rw [show stAt (zipSt os ls) i = s by simp [stAt, List.getD, List.getElem?_eq_getElem hi, e]] at h2
    rw [h2]
    exact e2 i (by omega)

set_option maxHeartbeats 1000000 in
set_option maxRecDepth 100000 in
theorem written_walk (a1 a2 a3 : Option Addr) (l1 c1 l2 c2 l3 c3 : Nat) (os : List Int) (ls : List (List Int)) (s : ByteArray) (z3 : List Int) (w : World) (h1 : Ints w a1 l1 c1 os) (h2 : Lists w a2 l2 c2 ls) (hm : s.size ≤ maxLen) (h3 : Ints w a3 l3 c3 z3) (hf : Fits z3) :
    Calls Try.prog 13 #[.agg #[.slice a1 l1 c1, .slice a2 l2 c2], .string s, .slice a3 l3 c3] w fun e w' => e = .returned (.bool true) ∧ Below w.heap.size w w' := by
  have L1 := h1.hlen
  have L3 := h3.hlen
  have H1 := hid (fun W (b : Below w.heap.size w W) => h1.below b)
  have H2 := hid (fun W (b : Below w.heap.size w W) => h2.below b)
  have H3 := hid (fun W (b : Below w.heap.size w W) => h3.below b)
  have HF := hid hf
  have ba := hid ((Below.refl w.heap.size w).alloc (Nat.le_refl _) (.cells #[.slice a1 l1 c1, .slice a2 l2 c2] 46))
  have T0 := hid (two_new w (.slice a1 l1 c1) (.slice a2 l2 c2) 46)
  clear h1 h2 h3 hf
  go_enter Try.func13, Try.ntmps13
  go_wp2_with fail
  refine (watching_any _).mono ?_
  rintro e w1 ⟨rfl, hb1⟩
  simp only [World.size_alloc] at hb1
  have B1 := hid (ba.out.trans (hb1.mono (by omega)))
  have T1 := hid (T0.out.below hb1 (by omega))
  have x0 := T1.out.c0
  have x1 := T1.out.c1
  clear hb1 ba T0
  go_wp2_with fail
  refine (write_any a1 a2 l1 c1 l2 c2 os ls w1 (H1.out w1 B1.out) (H2.out w1 B1.out)).mono ?_
  rintro e w2 ⟨rfl, hb2⟩
  have hT1 := T1.out.lt
  have B2 := hid (B1.out.trans (hb2.mono (by omega)))
  have T2 := hid (T1.out.below hb2 hT1)
  clear x0 x1 hb2 B1 T1
  have x0 := T2.out.c0
  have x1 := T2.out.c1
  go_wp2_with fail
  refine (kformed_any a1 a2 l1 c1 l2 c2 os ls w2 (H1.out w2 B2.out) (H2.out w2 B2.out)).mono ?_
  rintro e w3 ⟨rfl, hb3⟩
  have hT2 := T2.out.lt
  have B3 := hid (B2.out.trans (hb3.mono (by omega)))
  have T3 := hid (T2.out.below hb3 hT2)
  clear x0 x1 hb3 B2 T2
  have x0 := T3.out.c0
  have x1 := T3.out.c1
  have hT3 := T3.out.lt
  cases hfm : formedB os ls with
  | false =>
    have HE : Hid (writeErr os ls = 8) := hid (by simp [writeErr, hfm])
    rw [HE.out]
    clear hfm HE
    have BX := B3
    clear B3 T3
    have hsX := BX.out.size
    go_wp2_with fail
    refine (word_own a3 l3 c3 60 z3 _ (H3.out _ BX.out) HF.out (by omega)).mono ?_
    rintro e w7 ⟨vA, rfl, oA, hb7⟩
    have hAl : (wordTo z3 (min l3 60)).length = min l3 60 := wordTo_len (by omega)
    obtain ⟨aA, cA, rfl, IA⟩ := own_ints oA hAl
    have hA8 := wordTo_8 z3 (min l3 60)
    generalize hAE : wordTo z3 (min l3 60) = A at *
    have hallA := allL_ints hA8
    generalize hnE : min l3 60 = nA at *
    have hA60 : A.length ≤ 60 := by omega
    clear hnE
    subst hAl
    have B7 := hid (BX.out.trans (hb7.mono hsX))
    have HIA := hid IA
    have HALL := hid hallA
    clear oA hb7 IA hallA BX hAE
    go_wp2_with fail
    refine (read_any s _ hm).mono ?_
    rintro e w8 ⟨hb8, v1, v2, rfl, hv⟩
    have B8 := hid (B7.out.trans (hb8.mono B7.out.size))
    have IA8 := hid (HIA.out.below hb8)
    have hs8 := hb8.size
    have RV : Hid (runErr s (intsOf A) = readErr s) := hid (by unfold runErr readErr; rw [HALL.out]; simp)
    rcases hv with ⟨hr, rfl, rfl⟩ | ⟨hr, V, hL⟩
    · have er : readErr s = 9 := by simp [readErr, hr]
      have rv : runVal s (intsOf A) = 0 := by simp [runVal, hr]
      rw [er] at RV
      rw [er]
      have bd := (Below.refl w8.heap.size w8).alloc (Nat.le_refl _) (.cells #[.slice none 0 0, .slice none 0 0] 46)
      have RN := vrun_any s aA A.length cA (intsOf A) _ hm (IA8.out.below bd)
      rw [RV.out, rv] at RN
      have U8 := two_new w8 (.slice none 0 0) (.slice none 0 0) 46
      have B9 := hid (B8.out.trans (bd.mono B8.out.size))
      clear hb8 bd er rv RV
      go_wp2_with fail
      refine RN.mono ?_
      rintro e w9 ⟨rfl, hb9⟩
      simp only [World.size_alloc] at hb9
      have U9 := U8.below hb9 (by omega)
      have y0 := U9.c0
      have y1 := U9.c1
      have B10 := hid (B9.out.trans (hb9.mono (by have := B9.out.size; simp at this; omega)))
      clear RN hb9 U8 U9
      go_wp2
      go_ret
      exact ⟨rfl, B10.out⟩
    · have er : readErr s = 0 := by simp [readErr, hr]
      have rv : runVal s (intsOf A) = (stAt (statesOf s (bt s 0)) (runS (statesOf s (bt s 0)) (intsOf A))).out := by simp [runVal, hr, HALL.out]
      rw [er] at RV
      rw [er]
      obtain ⟨_, _, hwf⟩ := readB_is hr
      have h8s := statesOf_eight s (bt s 0)
      have hns := statesOf_len s (bt s 0)
      have htw := trip_write hr
      generalize hSS : statesOf s (bt s 0) = SS at *
      generalize hN : bt s 0 = N at *
      obtain ⟨b1, d1, rfl, I1⟩ := hL.ints
      obtain ⟨b2, d2, rfl, I2⟩ := hL.lists
      have bd := (Below.refl w8.heap.size w8).alloc (Nat.le_refl _) (.cells #[.slice b1 N d1, .slice b2 N d2] 46)
      have RN := vrun_any s aA A.length cA (intsOf A) _ hm (IA8.out.below bd)
      rw [RV.out, rv] at RN
      have U8 := hid (two_new w8 (.slice b1 N d1) (.slice b2 N d2) 46)
      have B9 := hid (B8.out.trans (bd.mono B8.out.size))
      have J1 := hid (I1.below bd)
      have J2 := hid (I2.below bd)
      have JA := hid (IA8.out.below bd)
      have fT : formedB (outsTo SS N) (nextTo SS N) = true := by
        have h9 := formed_to h8s
        rw [hns] at h9
        rw [h9]
        exact hwf
      have wE : writeErr (outsTo SS N) (nextTo SS N) = 0 := by simp [writeErr, fT]
      have wS : writeStr (outsTo SS N) (nextTo SS N) = s := by
        have h9 := zip_to SS
        rw [hns] at h9
        unfold writeStr
        rw [if_pos fT, h9]
        exact htw
      clear hb8 bd er rv RV hL I1 I2 IA8 htw
      go_wp2_with fail
      refine RN.mono ?_
      rintro e w9 ⟨rfl, hb9⟩
      have hU8 := U8.out.lt
      have U9 := hid (U8.out.below hb9 hU8)
      have J1' := hid (J1.out.below hb9)
      have J2' := hid (J2.out.below hb9)
      have JA' := hid (JA.out.below hb9)
      have B10 := hid (B9.out.trans (hb9.mono B9.out.size))
      have y0 := U9.out.c0
      have y1 := U9.out.c1
      clear RN hb9 U8 J1 J2 JA B9
      go_wp2_with fail
      have KF := kformed_any b1 b2 N d1 N d2 (outsTo SS N) (nextTo SS N) w9 J1'.out J2'.out
      rw [fT] at KF
      refine KF.mono ?_
      rintro e w10 ⟨rfl, hb10⟩
      have hU9 := U9.out.lt
      have U10 := hid (U9.out.below hb10 hU9)
      have K1 := hid (J1'.out.below hb10)
      have K2 := hid (J2'.out.below hb10)
      have KA := hid (JA'.out.below hb10)
      have B11 := hid (B10.out.trans (hb10.mono B10.out.size))
      clear KF hb10 U9 J1' J2' JA' B10 y0 y1
      have y0 := U10.out.c0
      have y1 := U10.out.c1
      go_wp2_with fail
      have KW := write_any b1 b2 N d1 N d2 (outsTo SS N) (nextTo SS N) w10 K1.out K2.out
      rw [wE, wS] at KW
      refine KW.mono ?_
      rintro e w11 ⟨rfl, hb11⟩
      have hU10 := U10.out.lt
      have U11 := hid (U10.out.below hb11 hU10)
      have M1 := hid (K1.out.below hb11)
      have M2 := hid (K2.out.below hb11)
      have MA := hid (KA.out.below hb11)
      have B12 := hid (B11.out.trans (hb11.mono B11.out.size))
      have y0' : ∀ n, (w11.drewN n).cell? ⟨w8.heap.size, 0, none⟩ = some (.slice b1 N d1) := fun n => U11.out.c0
      have y1' : ∀ n, (w11.drewN n).cell? ⟨w8.heap.size, 1, none⟩ = some (.slice b2 N d2) := fun n => U11.out.c1
      have RS := hid (fun j hj => runS_take hwf h8s HALL.out j hj)
      have SL := hid (fun k (hk : k < SS.length) z (hz : isL z = true) => stepS_lt hwf h8s hk hz)
      clear KW hb11 U10 K1 K2 KA B11 y0 y1
      go_wp2_with fail
      go_loopw [21, 22] (fun x y wq => ∃ n : Nat, n ≤ A.length ∧ y = .int .i64 n ∧ x = .int .i64 (runS SS ((intsOf A).take n) : Nat) ∧ ∃ q, wq = w11.drewN q) (fun _ y _ => A.length - (intOf y).toNat)
      case atStart => exact ⟨0, Nat.zero_le _, rfl, rfl, 0, rfl⟩
      case round =>
        obtain ⟨n, hn, rfl, rfl, q, rfl⟩ := hrel
        have g0 := y0' q
        have g1 := y1' q
        have hkn := RS.out n (by rw [intsOf_len]; exact hn)
        by_cases hln : n < A.length
        · obtain ⟨x, hx⟩ : ∃ x, A[n]? = some x := ⟨A[n], List.getElem?_eq_getElem hln⟩
          have hx8 := hA8 x (List.mem_of_getElem? hx)
          have hzg : (intsOf A).getD n 0 = (x : Int) := by simp [intsOf, List.getD, hx]
          have htk : (intsOf A).take (n + 1) = (intsOf A).take n ++ [(x : Int)] := by
            rw [List.take_add_one]
            simp [intsOf, hx]
          have hst : runS SS ((intsOf A).take (n + 1)) = stepS SS (runS SS ((intsOf A).take n)) (x : Int) := by rw [htk]; simp [runS]
          obtain ⟨hsl, hsv⟩ := SL.out _ hkn (x : Int) (isL_iff.2 (by omega))
          have HST := hid hst
          obtain ⟨bb, oo, e, hbb, hcc⟩ := M2.out.hcell (by omega)
          subst e
          obtain ⟨r, rl, rc, cr, IR⟩ := hcc (runS SS ((intsOf A).take n)) (by omega)
          have hnx : (nextTo SS N).getD (runS SS ((intsOf A).take n)) [] = (stAt SS (runS SS ((intsOf A).take n))).next := by simp [nextTo, List.getD, List.getElem?_map, List.getElem?_range (show runS SS ((intsOf A).take n) < N by omega)]
          rw [hnx] at IR
          have hrl : rl = 8 := by rw [← IR.hlen]; exact eight_at h8s hkn
          subst hrl
          obtain ⟨br, or, e, hbr, hcr⟩ := IR.hcell (by omega)
          subst e
          have cx := hcr x (by omega)
          rw [show x = ((x : Int)).toNat by omega] at cx
          rw [hsv, show ((x : Int)).toNat = x by omega] at cx
          obtain ⟨ba', oa', e, hba, hca⟩ := MA.out.hcell (by omega)
          subst e
          have ca := hca n hln
          rw [hzg] at ca
          have p1 : (w11.drewN q).cell? ⟨bb, oo + runS SS ((intsOf A).take n), none⟩ = some (.slice (some ⟨br, or, none⟩) 8 rc) := cr
          have p2 : (w11.drewN q).cell? ⟨br, or + x, none⟩ = some (.int .i64 (stepS SS (runS SS ((intsOf A).take n)) (x : Int) : Nat)) := cx
          have p3 : (w11.drewN q).cell? ⟨ba', oa' + n, none⟩ = some (.int .i64 (x : Nat)) := ca
          have rcc := IR.hcap
          have rcm := IR.hmax
          clear hcc hcr hca cr cx ca IR hx hzg htk hst hsv hnx
          rw [← HST.out] at p2
          have hkN : runS SS ((intsOf A).take n) < N := by omega
          have HKK := hid (show runS SS ((intsOf A).take (n + 1)) = runS SS ((intsOf A).take (n + 1)) from rfl)
          generalize hk1 : runS SS ((intsOf A).take (n + 1)) = k1 at *
          generalize hk0 : runS SS ((intsOf A).take n) = k0 at *
          have i1 : (x : Int) < 8 := by omega
          have i2 : (k0 : Int) < (N : Int) := by omega
          have i3 : (n : Int) < (A.length : Int) := by omega
          have i4 : (0 : Int) ≤ (x : Int) := by omega
          have i5 : (0 : Int) ≤ (k0 : Int) := by omega
          have i6 : (0 : Int) ≤ (n : Int) := by omega
          have HQ : Hid (∀ m, ∃ q', (w11.drewN q).drewN m = w11.drewN q') := hid (fun m => ⟨q + m, by rw [World.drewN_drewN]⟩)
          have HK1 := hid hk1
          clear g0 hk1 hk0 HKK HST hsl hkn
          generalize w11.drewN q = W9 at *
          go_wp2_with fail
          go_quiet (fail)
          go_wp2_with fail
          go_roundw
          case rel => exact ⟨n + 1, by omega, by go_num, by rw [HK1.out], HQ.out _⟩
          case measure => simp [intOf]; omega
        · obtain rfl : n = A.length := by omega
          rw [List.take_of_length_le (by rw [intsOf_len]; exact Nat.le_refl _)] at hkn ⊢
          obtain ⟨bb, oo, e, hbb, hcc⟩ := M1.out.hcell (by omega)
          subst e
          have co := hcc (runS SS (intsOf A)) (by omega)
          have hno : (outsTo SS N).getD (runS SS (intsOf A)) 0 = (stAt SS (runS SS (intsOf A))).out := by simp [outsTo, List.getD, List.getElem?_map, List.getElem?_range (show runS SS (intsOf A) < N by omega)]
          rw [hno] at co
          have p1 : (w11.drewN q).cell? ⟨bb, oo + runS SS (intsOf A), none⟩ = some (.int .i64 (stAt SS (runS SS (intsOf A))).out) := co
          have hkN : runS SS (intsOf A) < N := by omega
          have BF := hid (below_drewN B12.out q)
          clear hcc co hno
          generalize (stAt SS (runS SS (intsOf A))).out = ov at *
          generalize runS SS (intsOf A) = k0 at *
          have eo : (ov == ov) = true := by simp
          have es : (s.toList == s.toList) = true := by simp
          go_wp2
          go_ret
          exact ⟨rfl, BF.out⟩
  | true =>
    obtain ⟨z1, z2, z3', z4, z5⟩ := zip_outs hfm
    have HE : Hid (writeErr os ls = 0 ∧ writeStr os ls = ⟨(bytesOf (zipSt os ls)).toArray⟩) := hid ⟨by simp [writeErr, hfm], by simp [writeStr, hfm]⟩
    rw [HE.out.1, HE.out.2]
    obtain ⟨t1, t2, t3⟩ := trip_read z5 z4
    have hn8 := (wfB_iff.1 z5).2.1
    have C5 := fun W => read_any ⟨(bytesOf (zipSt os ls)).toArray⟩ W (by
      show (bytesOf (zipSt os ls)).toArray.size ≤ maxLen
      rw [List.size_toArray, bytes_len z4]
      unfold maxLen
      omega)
    unfold ReadDone at C5
    rw [show readErr ⟨(bytesOf (zipSt os ls)).toArray⟩ = 0 by simp [readErr, t1], t2, t3] at C5
    have HT1 := hid t1
    rw [z3'] at C5
    generalize (⟨(bytesOf (zipSt os ls)).toArray⟩ : ByteArray) = S at *
    clear HE hfm t1 t2 t3
    go_wp2_with fail
    refine (C5 _).mono ?_
    rintro e w4 ⟨hb4, v1, v2, rfl, hv⟩
    rcases hv with ⟨hh, _⟩ | ⟨_, V, hL⟩
    · rw [HT1.out] at hh
      cases hh
    obtain ⟨b1, e1, rfl, I1⟩ := hL.ints
    obtain ⟨b2, e2, rfl, I2⟩ := hL.lists
    rw [z1] at I1
    rw [z2] at I2
    have B4 := hid (B3.out.trans (hb4.mono (by omega)))
    have T4 := hid (T3.out.below hb4 hT3)
    have bc := (Below.refl w4.heap.size w4).alloc (Nat.le_refl _) (.cells #[.slice b1 os.length e1, .slice b2 os.length e2] 46)
    have hT4 := T4.out.lt
    have T5 := hid (T4.out.below bc hT4)
    have B5 := hid (B4.out.trans (bc.mono (by omega)))
    have hl2 : l2 = os.length := by
      have := (H2.out w4 B4.out).hlen
      have e9 := I2.hlen
      omega
    subst hl2
    have hl1 : l1 = os.length := L1.symm
    subst hl1
    have SM := hid (ksame_yes a1 a2 b1 b2 os.length c1 os.length c2 e1 e2 os ls _ (H1.out _ B5.out) (H2.out _ B5.out) (I1.below bc) (I2.below bc))
    have y0 := T5.out.c0
    have y1 := T5.out.c1
    clear C5 hL I1 I2 hb4 B3 T3 B4 T4 x0 x1 bc T5 z1 z2 z3' z4 z5 HT1
    go_wp2_with fail
    refine SM.out.mono ?_
    rintro e w6 ⟨rfl, hb6⟩
    simp only [World.size_alloc] at hb6
    have BX := hid (B5.out.trans (hb6.mono (by have := B5.out.size; simp at this; omega)))
    clear SM hb6 B5 y0 y1
    have hsX := BX.out.size
    go_wp2_with fail
    refine (word_own a3 l3 c3 60 z3 _ (H3.out _ BX.out) HF.out (by omega)).mono ?_
    rintro e w7 ⟨vA, rfl, oA, hb7⟩
    have hAl : (wordTo z3 (min l3 60)).length = min l3 60 := wordTo_len (by omega)
    obtain ⟨aA, cA, rfl, IA⟩ := own_ints oA hAl
    have hA8 := wordTo_8 z3 (min l3 60)
    generalize hAE : wordTo z3 (min l3 60) = A at *
    have hallA := allL_ints hA8
    generalize hnE : min l3 60 = nA at *
    have hA60 : A.length ≤ 60 := by omega
    clear hnE
    subst hAl
    have B7 := hid (BX.out.trans (hb7.mono hsX))
    have HIA := hid IA
    have HALL := hid hallA
    clear oA hb7 IA hallA BX hAE
    go_wp2_with fail
    refine (read_any s _ hm).mono ?_
    rintro e w8 ⟨hb8, v1, v2, rfl, hv⟩
    have B8 := hid (B7.out.trans (hb8.mono B7.out.size))
    have IA8 := hid (HIA.out.below hb8)
    have hs8 := hb8.size
    have RV : Hid (runErr s (intsOf A) = readErr s) := hid (by unfold runErr readErr; rw [HALL.out]; simp)
    rcases hv with ⟨hr, rfl, rfl⟩ | ⟨hr, V, hL⟩
    · have er : readErr s = 9 := by simp [readErr, hr]
      have rv : runVal s (intsOf A) = 0 := by simp [runVal, hr]
      rw [er] at RV
      rw [er]
      have bd := (Below.refl w8.heap.size w8).alloc (Nat.le_refl _) (.cells #[.slice none 0 0, .slice none 0 0] 46)
      have RN := vrun_any s aA A.length cA (intsOf A) _ hm (IA8.out.below bd)
      rw [RV.out, rv] at RN
      have U8 := two_new w8 (.slice none 0 0) (.slice none 0 0) 46
      have B9 := hid (B8.out.trans (bd.mono B8.out.size))
      clear hb8 bd er rv RV
      go_wp2_with fail
      refine RN.mono ?_
      rintro e w9 ⟨rfl, hb9⟩
      simp only [World.size_alloc] at hb9
      have U9 := U8.below hb9 (by omega)
      have y0 := U9.c0
      have y1 := U9.c1
      have B10 := hid (B9.out.trans (hb9.mono (by have := B9.out.size; simp at this; omega)))
      clear RN hb9 U8 U9
      go_wp2
      go_ret
      exact ⟨rfl, B10.out⟩
    · have er : readErr s = 0 := by simp [readErr, hr]
      have rv : runVal s (intsOf A) = (stAt (statesOf s (bt s 0)) (runS (statesOf s (bt s 0)) (intsOf A))).out := by simp [runVal, hr, HALL.out]
      rw [er] at RV
      rw [er]
      obtain ⟨_, _, hwf⟩ := readB_is hr
      have h8s := statesOf_eight s (bt s 0)
      have hns := statesOf_len s (bt s 0)
      have htw := trip_write hr
      generalize hSS : statesOf s (bt s 0) = SS at *
      generalize hN : bt s 0 = N at *
      obtain ⟨b1, d1, rfl, I1⟩ := hL.ints
      obtain ⟨b2, d2, rfl, I2⟩ := hL.lists
      have bd := (Below.refl w8.heap.size w8).alloc (Nat.le_refl _) (.cells #[.slice b1 N d1, .slice b2 N d2] 46)
      have RN := vrun_any s aA A.length cA (intsOf A) _ hm (IA8.out.below bd)
      rw [RV.out, rv] at RN
      have U8 := hid (two_new w8 (.slice b1 N d1) (.slice b2 N d2) 46)
      have B9 := hid (B8.out.trans (bd.mono B8.out.size))
      have J1 := hid (I1.below bd)
      have J2 := hid (I2.below bd)
      have JA := hid (IA8.out.below bd)
      have fT : formedB (outsTo SS N) (nextTo SS N) = true := by
        have h9 := formed_to h8s
        rw [hns] at h9
        rw [h9]
        exact hwf
      have wE : writeErr (outsTo SS N) (nextTo SS N) = 0 := by simp [writeErr, fT]
      have wS : writeStr (outsTo SS N) (nextTo SS N) = s := by
        have h9 := zip_to SS
        rw [hns] at h9
        unfold writeStr
        rw [if_pos fT, h9]
        exact htw
      clear hb8 bd er rv RV hL I1 I2 IA8 htw
      go_wp2_with fail
      refine RN.mono ?_
      rintro e w9 ⟨rfl, hb9⟩
      have hU8 := U8.out.lt
      have U9 := hid (U8.out.below hb9 hU8)
      have J1' := hid (J1.out.below hb9)
      have J2' := hid (J2.out.below hb9)
      have JA' := hid (JA.out.below hb9)
      have B10 := hid (B9.out.trans (hb9.mono B9.out.size))
      have y0 := U9.out.c0
      have y1 := U9.out.c1
      clear RN hb9 U8 J1 J2 JA B9
      go_wp2_with fail
      have KF := kformed_any b1 b2 N d1 N d2 (outsTo SS N) (nextTo SS N) w9 J1'.out J2'.out
      rw [fT] at KF
      refine KF.mono ?_
      rintro e w10 ⟨rfl, hb10⟩
      have hU9 := U9.out.lt
      have U10 := hid (U9.out.below hb10 hU9)
      have K1 := hid (J1'.out.below hb10)
      have K2 := hid (J2'.out.below hb10)
      have KA := hid (JA'.out.below hb10)
      have B11 := hid (B10.out.trans (hb10.mono B10.out.size))
      clear KF hb10 U9 J1' J2' JA' B10 y0 y1
      have y0 := U10.out.c0
      have y1 := U10.out.c1
      go_wp2_with fail
      have KW := write_any b1 b2 N d1 N d2 (outsTo SS N) (nextTo SS N) w10 K1.out K2.out
      rw [wE, wS] at KW
      refine KW.mono ?_
      rintro e w11 ⟨rfl, hb11⟩
      have hU10 := U10.out.lt
      have U11 := hid (U10.out.below hb11 hU10)
      have M1 := hid (K1.out.below hb11)
      have M2 := hid (K2.out.below hb11)
      have MA := hid (KA.out.below hb11)
      have B12 := hid (B11.out.trans (hb11.mono B11.out.size))
      have y0' : ∀ n, (w11.drewN n).cell? ⟨w8.heap.size, 0, none⟩ = some (.slice b1 N d1) := fun n => U11.out.c0
      have y1' : ∀ n, (w11.drewN n).cell? ⟨w8.heap.size, 1, none⟩ = some (.slice b2 N d2) := fun n => U11.out.c1
      have RS := hid (fun j hj => runS_take hwf h8s HALL.out j hj)
      have SL := hid (fun k (hk : k < SS.length) z (hz : isL z = true) => stepS_lt hwf h8s hk hz)
      clear KW hb11 U10 K1 K2 KA B11 y0 y1
      go_wp2_with fail
      go_loopw [21, 22] (fun x y wq => ∃ n : Nat, n ≤ A.length ∧ y = .int .i64 n ∧ x = .int .i64 (runS SS ((intsOf A).take n) : Nat) ∧ ∃ q, wq = w11.drewN q) (fun _ y _ => A.length - (intOf y).toNat)
      case atStart => exact ⟨0, Nat.zero_le _, rfl, rfl, 0, rfl⟩
      case round =>
        obtain ⟨n, hn, rfl, rfl, q, rfl⟩ := hrel
        have g0 := y0' q
        have g1 := y1' q
        have hkn := RS.out n (by rw [intsOf_len]; exact hn)
        by_cases hln : n < A.length
        · obtain ⟨x, hx⟩ : ∃ x, A[n]? = some x := ⟨A[n], List.getElem?_eq_getElem hln⟩
          have hx8 := hA8 x (List.mem_of_getElem? hx)
          have hzg : (intsOf A).getD n 0 = (x : Int) := by simp [intsOf, List.getD, hx]
          have htk : (intsOf A).take (n + 1) = (intsOf A).take n ++ [(x : Int)] := by
            rw [List.take_add_one]
            simp [intsOf, hx]
          have hst : runS SS ((intsOf A).take (n + 1)) = stepS SS (runS SS ((intsOf A).take n)) (x : Int) := by rw [htk]; simp [runS]
          obtain ⟨hsl, hsv⟩ := SL.out _ hkn (x : Int) (isL_iff.2 (by omega))
          have HST := hid hst
          obtain ⟨bb, oo, e, hbb, hcc⟩ := M2.out.hcell (by omega)
          subst e
          obtain ⟨r, rl, rc, cr, IR⟩ := hcc (runS SS ((intsOf A).take n)) (by omega)
          have hnx : (nextTo SS N).getD (runS SS ((intsOf A).take n)) [] = (stAt SS (runS SS ((intsOf A).take n))).next := by simp [nextTo, List.getD, List.getElem?_map, List.getElem?_range (show runS SS ((intsOf A).take n) < N by omega)]
          rw [hnx] at IR
          have hrl : rl = 8 := by rw [← IR.hlen]; exact eight_at h8s hkn
          subst hrl
          obtain ⟨br, or, e, hbr, hcr⟩ := IR.hcell (by omega)
          subst e
          have cx := hcr x (by omega)
          rw [show x = ((x : Int)).toNat by omega] at cx
          rw [hsv, show ((x : Int)).toNat = x by omega] at cx
          obtain ⟨ba', oa', e, hba, hca⟩ := MA.out.hcell (by omega)
          subst e
          have ca := hca n hln
          rw [hzg] at ca
          have p1 : (w11.drewN q).cell? ⟨bb, oo + runS SS ((intsOf A).take n), none⟩ = some (.slice (some ⟨br, or, none⟩) 8 rc) := cr
          have p2 : (w11.drewN q).cell? ⟨br, or + x, none⟩ = some (.int .i64 (stepS SS (runS SS ((intsOf A).take n)) (x : Int) : Nat)) := cx
          have p3 : (w11.drewN q).cell? ⟨ba', oa' + n, none⟩ = some (.int .i64 (x : Nat)) := ca
          have rcc := IR.hcap
          have rcm := IR.hmax
          clear hcc hcr hca cr cx ca IR hx hzg htk hst hsv hnx
          rw [← HST.out] at p2
          have hkN : runS SS ((intsOf A).take n) < N := by omega
          have HKK := hid (show runS SS ((intsOf A).take (n + 1)) = runS SS ((intsOf A).take (n + 1)) from rfl)
          generalize hk1 : runS SS ((intsOf A).take (n + 1)) = k1 at *
          generalize hk0 : runS SS ((intsOf A).take n) = k0 at *
          have i1 : (x : Int) < 8 := by omega
          have i2 : (k0 : Int) < (N : Int) := by omega
          have i3 : (n : Int) < (A.length : Int) := by omega
          have i4 : (0 : Int) ≤ (x : Int) := by omega
          have i5 : (0 : Int) ≤ (k0 : Int) := by omega
          have i6 : (0 : Int) ≤ (n : Int) := by omega
          have HQ : Hid (∀ m, ∃ q', (w11.drewN q).drewN m = w11.drewN q') := hid (fun m => ⟨q + m, by rw [World.drewN_drewN]⟩)
          have HK1 := hid hk1
          clear g0 hk1 hk0 HKK HST hsl hkn
          generalize w11.drewN q = W9 at *
          go_wp2_with fail
          go_quiet (fail)
          go_wp2_with fail
          go_roundw
          case rel => exact ⟨n + 1, by omega, by go_num, by rw [HK1.out], HQ.out _⟩
          case measure => simp [intOf]; omega
        · obtain rfl : n = A.length := by omega
          rw [List.take_of_length_le (by rw [intsOf_len]; exact Nat.le_refl _)] at hkn ⊢
          obtain ⟨bb, oo, e, hbb, hcc⟩ := M1.out.hcell (by omega)
          subst e
          have co := hcc (runS SS (intsOf A)) (by omega)
          have hno : (outsTo SS N).getD (runS SS (intsOf A)) 0 = (stAt SS (runS SS (intsOf A))).out := by simp [outsTo, List.getD, List.getElem?_map, List.getElem?_range (show runS SS (intsOf A) < N by omega)]
          rw [hno] at co
          have p1 : (w11.drewN q).cell? ⟨bb, oo + runS SS (intsOf A), none⟩ = some (.int .i64 (stAt SS (runS SS (intsOf A))).out) := co
          have hkN : runS SS (intsOf A) < N := by omega
          have BF := hid (below_drewN B12.out q)
          clear hcc co hno
          generalize (stAt SS (runS SS (intsOf A))).out = ov at *
          generalize runS SS (intsOf A) = k0 at *
          have eo : (ov == ov) = true := by simp
          have es : (s.toList == s.toList) = true := by simp
          go_wp2
          go_ret
          exact ⟨rfl, BF.out⟩

end Go.Proofs.Ytjagijohfkffiaa
