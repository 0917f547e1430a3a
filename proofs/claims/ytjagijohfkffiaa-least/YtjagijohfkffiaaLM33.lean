import Derived.Test.YtjagijohfkffiaaLM23
import Derived.Test.YtjagijohfkffiaaLM25
import Derived.Test.YtjagijohfkffiaaLM30
import Derived.Test.YtjagijohfkffiaaLM32
import Derived.Deep.RegionLaw
import Derived.Deep.DrawnRows
import Derived.ProofKit
import Derived.OpenShut
import Derived.ShutString
import Derived.ChangeOld

/- Settled: the walk. -/
namespace Go.Proofs.Ytjagijohfkffiaa
open Go.RowKit
set_option linter.unusedVariables false

theorem verdict_lt {ns : List Nd} {u : List Nat} {x : Nat} (h : Verdict ns u x) : x = 0 ∨ x = 1 ∨ x = 2 := by rcases h with ⟨h, _⟩ | ⟨h, _⟩ | ⟨h, _⟩ <;> omega
end Go.Proofs.Ytjagijohfkffiaa

/- The walk of the reference's Write; Writes' walk. -/
namespace Go.Proofs.Ytjagijohfkffiaa
open Go.RowKit
set_option linter.unusedVariables false

section
variable (a1 a2 : Option Addr) (l1 c1 l2 c2 : Nat) (os : List Int) (ls : List (List Int)) (w : World)

end

end Go.Proofs.Ytjagijohfkffiaa

/- The walk of the reference's Read. -/
namespace Go.Proofs.Ytjagijohfkffiaa
open Go.RowKit
set_option linter.unusedVariables false
attribute [local go_sem ↓] Go.wp_at_zero Go.wp_at_succ

/-- The bytes from place a on. -/
def tail (s : ByteArray) (a : Nat) : ByteArray := s.extract a s.size
theorem zip_to (ss : List St) : zipSt (outsTo ss ss.length) (nextTo ss ss.length) = ss := by
  apply List.ext_getElem?
  intro i
  by_cases h : i < ss.length
  · have h1 : i < (zipSt (outsTo ss ss.length) (nextTo ss ss.length)).length := by simp [zipSt, outsTo, nextTo]; exact h
    rw [List.getElem?_eq_getElem h1, List.getElem?_eq_getElem h]
    simp [zipSt, outsTo, nextTo, stAt, List.getD, List.getElem?_eq_getElem h]
  · rw [List.getElem?_eq_none (by simp [zipSt, outsTo, nextTo]; omega), List.getElem?_eq_none (by omega)]
theorem formed_to {ss : List St} (h8 : Eight ss) : formedB (outsTo ss ss.length) (nextTo ss ss.length) = wfB ss := by
  have := (formed_mk (os := outsTo ss ss.length) (ls := nextTo ss ss.length) (by simp [outsTo, nextTo]) (fun i hi => by
    have hi2 : i < ss.length := by simpa [nextTo] using hi
    rw [show (nextTo ss ss.length).getD i [] = (stAt ss i).next by simp [nextTo, List.getD, List.getElem?_map, List.getElem?_range hi2]]
    exact eight_at h8 hi2)).1
  rw [this, zip_to]

section
variable (s : ByteArray) (w : World)

end

end Go.Proofs.Ytjagijohfkffiaa

/- Plain mathematics: the machine of a formula is well formed. -/
namespace Go.Proofs.Ytjagijohfkffiaa
set_option linter.unusedVariables false

theorem letters_app {u v : List Nat} (h : LettersL u) (k : LettersL v) : LettersL (u ++ v) := fun x hx => (List.mem_append.1 hx).elim (h x) (k x)
theorem letters_one {a : Nat} (h : a < 8) : LettersL [a] := fun x hx => by simp at hx; omega

/-- A word leads to each state. -/
theorem num_word {n : Nat} {nx : Nat → Nat → Nat} (hn : Numbered n nx) : ∀ i, i < n → ∃ w, LettersL w ∧ runM nx 0 w = i := by
  have key : ∀ p, p ≤ 8 * n → ∀ i, i < met nx p → ∃ w, LettersL w ∧ runM nx 0 w = i := by
    intro p
    induction p with
    | zero =>
      intro _ i hi
      simp only [met] at hi
      exact ⟨[], fun x hx => by simp at hx, by show 0 = i; omega⟩
    | succ p ih =>
      intro hp i hi
      by_cases c : i < met nx p
      · exact ih (by omega) i c
      · simp only [met] at hi
        obtain ⟨h1, h2⟩ := hn.1 p (by omega)
        obtain ⟨w, h3, h4⟩ := ih (by omega) _ h1
        refine ⟨w ++ [p % 8], letters_app h3 (letters_one (Nat.mod_lt _ (by omega))), ?_⟩
        rw [runM_app, h4]
        show nx (p / 8) (p % 8) = i
        omega
  intro i hi
  exact key (8 * n) (Nat.le_refl _) i (by rw [hn.2]; exact hi)

section
variable {ns : List Nd} {n : Nat} {out : Nat → Nat} {nx : Nat → Nat → Nat}

theorem mach_tells (h : Mach ns n out nx) {i : Nat} (hi : i < n) : out i = 0 ∨ out i = 1 ∨ out i = 2 := by
  obtain ⟨w, hw, rfl⟩ := num_word h.num i hi
  exact verdict_lt (h.tells w hw)

/-- What is told for ever stays. -/
theorem mach_stays (h : Mach ns n out nx) {w v : List Nat} (hw : LettersL w) (hv : LettersL v) (ho : out (runM nx 0 w) = 1 ∨ out (runM nx 0 w) = 2) : out (runM nx 0 (w ++ v)) = out (runM nx 0 w) := by
  have h1 := settled_more (A := w) (B := v) (letters_app hw hv) (h.tells w hw) (h.tells _ (letters_app hw hv))
  rcases ho with e | e
  · rw [e]; exact h1.1 e
  · rw [e]; exact h1.2 e
theorem mach_final (h : Mach ns n out nx) {i a : Nat} (hi : i < n) (ha : a < 8) (ho : out i ≠ 0) : nx i a = i := by
  obtain ⟨w, hw, e⟩ := num_word h.num i hi
  have h12 : out i = 1 ∨ out i = 2 := by have := mach_tells h hi; omega
  refine h.apart _ _ (numbered_lt h.num hi ha) hi fun v hv => ?_
  have r1 : runM nx (nx i a) v = runM nx 0 (w ++ ([a] ++ v)) := by rw [runM_app, e]; rfl
  have r2 : runM nx i v = runM nx 0 (w ++ v) := by rw [runM_app, e]
  rw [r1, r2, mach_stays h hw (letters_app (letters_one ha) hv) (by rw [e]; exact h12), mach_stays h hw hv (by rw [e]; exact h12)]

theorem mach_run_lt (h : Mach ns n out nx) {w : List Nat} (hw : LettersL w) : runM nx 0 w < n := run_lt (fun i a hi ha => numbered_lt h.num hi ha) w 0 (numbered_pos h.num) hw

theorem machS_wf {ss : List St} (h : MachS ns ss) (h8 : ss.length ≤ 8) : wfB ss = true := by
  obtain ⟨out, nx, hM, hs⟩ := h
  refine wfB_iff.2 ⟨numbered_pos hM.num, h8, fun i hi => ?_⟩
  have st : stAt ss i = stK (out i) (nx i) := by simp [stAt, List.getD, hs i hi]
  rw [st]
  have ho := mach_tells hM hi
  have key : ∀ a, a < 8 → goesB ss.length i (finB ((out i : Nat) : Int)) ((nx i a : Nat) : Int) = true := fun a ha => by
    have h1 := numbered_lt hM.num hi ha
    unfold goesB
    have e1 : decide ((0 : Int) ≤ ((nx i a : Nat) : Int)) = true := by simp
    have e2 : decide (((nx i a : Nat) : Int) < (ss.length : Int)) = true := by simp; omega
    rw [e1, e2]
    cases hf : finB ((out i : Nat) : Int) with
    | false => rfl
    | true =>
      have h2 : out i ≠ 0 := fun e => by rw [e] at hf; simp [finB] at hf
      rw [mach_final hM hi ha h2]
      simp
  unfold stB stK
  simp only [List.all_cons, List.all_nil, Bool.and_true]
  rw [key 0 (by omega), key 1 (by omega), key 2 (by omega), key 3 (by omega), key 4 (by omega), key 5 (by omega), key 6 (by omega), key 7 (by omega)]
  rcases ho with e | e | e <;> rw [e] <;> rfl

theorem machS_formed {ss : List St} (h : MachS ns ss) (he : Eight ss) (h8 : ss.length ≤ 8) : formedB (outsTo ss ss.length) (nextTo ss ss.length) = true := by
  rw [formed_to he]
  exact machS_wf h h8
end

end Go.Proofs.Ytjagijohfkffiaa

/- The walk of Least. -/
namespace Go.Proofs.Ytjagijohfkffiaa
open Go.RowKit
set_option linter.unusedVariables false

theorem ints_take {w : World} {a : Option Addr} {len cap : Nat} {xs : List Nat} (h : Ints w a len cap (intsOf xs)) (i : Nat) (hi : i ≤ len) : Ints w a i cap (intsOf (xs.take i)) := by
  have hl : xs.length = len := by rw [← intsOf_len]; exact h.hlen
  have hc := h.hcap
  refine ⟨by rw [intsOf_len, List.length_take]; omega, by omega, h.hmax, fun hn => ?_, fun h0 => ?_⟩
  · obtain ⟨h1, h2⟩ := h.hnil hn
    omega
  · obtain ⟨b, off, e, hb, hcell⟩ := h.hcell (by omega)
    refine ⟨b, off, e, hb, fun j hj => ?_⟩
    rw [hcell j (by omega)]
    simp [intsOf, List.getD, List.getElem?_take_of_lt hj]

set_option maxHeartbeats 4000000 in
set_option maxRecDepth 100000 in
theorem least_core (s : ByteArray) (a1 : Option Addr) (l1 c1 : Nat) (z1 : List Int) (w : World) (hm : s.size ≤ maxLen) (h1 : Ints w a1 l1 c1 z1) (f1 : Fits z1) :
    Calls Try.prog 12 #[.string s, .slice a1 l1 c1] w fun e w' => e = .returned (.bool true) ∧ Below w.heap.size w w' := by
  have K1 := fun W (b : Below w.heap.size w W) => word_any a1 l1 c1 16 z1 W (h1.below b) f1 (by omega)
  have A8 := wordTo_8 z1 (min z1.length 16)
  have Al := word_le z1 16
  generalize wordTo z1 (min z1.length 16) = A at *
  have CW := hid (fun W => watch_any s W hm)
  unfold Watched at CW
  have SZ := hid (fun W => size_any s W hm)
  have JC := hid (fun i (hi : i ≤ A.length) W a l c (I : Ints W a l c (intsOf (A.take i))) => judgeL s hm a l c (A.take i) W I (fun x hx => A8 x (List.mem_of_mem_take hx)) (by rw [List.length_take]; omega))
  generalize parseOf s = p at *
  obtain ⟨er, ns⟩ := p
  dsimp only at *
  go_enter Try.func12, Try.ntmps12
  go_wp2_with fail
  refine (judging_any _).mono ?_
  rintro e w1 ⟨rfl, b1⟩
  go_wp2_with fail
  refine (watching_any _).mono ?_
  rintro e w2 ⟨rfl, b2⟩
  have B2 := b1.trans (b2.mono b1.size)
  go_wp2_with fail
  refine (K1 _ B2).mono ?_
  rintro e w3 ⟨oa, ca, rfl, ia, b3⟩
  have HB3 := hid (B2.trans (b3.mono B2.size))
  have HIA := hid ia
  clear b1 b2 b3 B2 ia K1
  go_wp2_with fail
  refine (CW.out _).mono ?_
  rintro e w4 ⟨v1, v2, ew, rfl, q0, q1, hb4⟩
  have HB4 := hid (HB3.out.trans (hb4.mono HB3.out.size))
  have HIA4 := hid (HIA.out.below hb4)
  clear hb4 HB3 HIA CW
  by_cases he : er = 0
  · subst he
    rcases q1 rfl with ⟨rfl, ss, V, hL, hE, h8, hM⟩ | ⟨rfl, rfl, rfl, _⟩
    · obtain ⟨a5, c5, rfl, I5⟩ := hL.ints
      obtain ⟨a6, c6, rfl, L6⟩ := hL.lists
      have HFM := hid (machS_formed hM hE h8)
      obtain ⟨out, nx, hMa, hss⟩ := hM
      have hpos := numbered_pos hMa.num
      obtain ⟨b5, o5, b6, o6, rfl, rfl, hR⟩ := mar_of I5 L6 hss hpos
      have m1 := I5.hcap
      have m2 := I5.hmax
      have m3 := L6.hcap
      have m4 := L6.hmax
      have HI5 := hid I5
      have HL6 := hid L6
      have HR := hid hR
      have HMA := hid hMa
      have T0 := hid (two_new w4 (.slice (some ⟨b5, o5, none⟩) ss.length c5) (.slice (some ⟨b6, o6, none⟩) ss.length c6) 46)
      have ba := hid ((Below.refl w4.heap.size w4).alloc (Nat.le_refl _) (.cells #[.slice (some ⟨b5, o5, none⟩) ss.length c5, .slice (some ⟨b6, o6, none⟩) ss.length c6] 46))
      have HB5 := hid (HB4.out.trans (ba.out.mono HB4.out.size))
      clear hL I5 L6 hR hMa hss q0 q1 HB4
      go_wp2_with fail
      refine (SZ.out _).mono ?_
      rintro e w5 ⟨rfl, hb5⟩
      simp only [World.size_alloc] at hb5
      have T5 := hid (T0.out.below hb5 (by omega))
      have bx := hid (ba.out.trans (hb5.mono (by omega)))
      have HB6 := hid (HB5.out.trans (hb5.mono (by have := HB5.out.size; simp at this; omega)))
      have x0 := T5.out.c0
      have x1 := T5.out.c1
      clear hb5 T0 ba HB5 SZ
      generalize ss.length = n at *
      go_wp2_with fail
      have KF := kformed_any (some ⟨b5, o5, none⟩) (some ⟨b6, o6, none⟩) n c5 n c6 (outsTo ss n) (nextTo ss n) w5 (HI5.out.below bx.out) (HL6.out.below bx.out)
      rw [HFM.out] at KF
      refine KF.mono ?_
      rintro e w6 ⟨rfl, hb6⟩
      have hT5 := T5.out.lt
      have T6 := hid (T5.out.below hb6 hT5)
      have by_ := hid (bx.out.trans (hb6.mono bx.out.size))
      have HB7 := hid (HB6.out.trans (hb6.mono HB6.out.size))
      have HR6 := hid (HR.out.below by_.out)
      have HIA6 := hid (HIA4.out.below by_.out)
      clear x0 x1 hb6 T5 bx HB6 KF HR HIA4
      go_wp2_with fail
      go_loopw [13, 14] (fun x y wq => ∃ i : Nat, i ≤ A.length + 1 ∧ y = .int .i64 i ∧ (i ≤ A.length → x = .int .i64 (runM nx 0 (A.take i) : Nat)) ∧ Hid (Below w6.heap.size w6 wq)) (fun _ y _ => A.length + 1 - (intOf y).toNat)
      case atStart => exact ⟨0, Nat.zero_le _, rfl, fun _ => rfl, hid (Below.refl _ _)⟩
      case round =>
        obtain ⟨i, hi, rfl, hx, HB⟩ := hrel
        rename World => W0
        have T7 := T6.out.below HB.out T6.out.lt
        have x0 := T7.c0
        have x1 := T7.c1
        have HRW := hid (HR6.out.below HB.out)
        by_cases hli : i ≤ A.length
        · obtain rfl := hx hli
          have HIW := hid (ints_take (HIA6.out.below HB.out) i hli)
          have acp := HIW.out.hcap
          have acm := HIW.out.hmax
          have hAc := HIA6.out.hcap
          go_wp2_with fail
          refine (JC.out i hli _ _ _ _ HIW.out).mono ?_
          rintro e w8 ⟨v, rfl, pv, _, b8⟩
          have hvd := pv (by first | rfl | trivial)
          have lt8 : LettersL (A.take i) := fun x hx => A8 x (List.mem_of_mem_take hx)
          have hvo : v = out (runM nx 0 (A.take i)) := verdict_fun hvd (HMA.out.tells _ lt8)
          have hkn := mach_run_lt HMA.out lt8
          have T8 := T7.below b8 T7.lt
          have y0 := T8.c0
          have y1 := T8.c1
          have HR8 := hid (HRW.out.below b8)
          have HB8 := hid (HB.out.trans (b8.mono HB.out.size))
          have co := HR8.out.o (runM nx 0 (A.take i)) hkn
          have evo : ((v : Int) != (out (runM nx 0 (A.take i)) : Int)) = false := by simp [hvo]
          clear x0 x1 pv b8 hvd hx HIW
          by_cases hlt : i < A.length
          · obtain ⟨z, hz⟩ : ∃ z, A[i]? = some z := ⟨A[i], List.getElem?_eq_getElem hlt⟩
            have hz8 := A8 z (List.mem_of_getElem? hz)
            have HTK : Hid (runM nx 0 (A.take (i + 1)) = nx (runM nx 0 (A.take i)) z) := hid (by rw [List.take_add_one, hz, runM_app]; rfl)
            obtain ⟨r, ro, rc, r1, r2, r3, _, r5⟩ := HR8.out.x (runM nx 0 (A.take i)) hkn
            have r6 := r5 z hz8
            obtain ⟨ba', oa', e, hba, hca⟩ := (HIA6.out.below HB8.out).hcell (by omega)
            subst e
            have ca' := hca i hlt
            rw [show (intsOf A).getD i 0 = (z : Int) by simp [intsOf, List.getD, hz]] at ca'
            have HQ : Hid (∀ m, Below w6.heap.size w6 (w8.drewN m)) := hid (fun m => below_drewN HB8.out m)
            clear r5 hca hz lt8 hvo
            rw [← HTK.out] at r6
            have HK1 := hid (show runM nx 0 (A.take (i + 1)) = runM nx 0 (A.take (i + 1)) from rfl)
            generalize hk1 : runM nx 0 (A.take (i + 1)) = k1 at *
            generalize runM nx 0 (A.take i) = k0 at *
            generalize out k0 = ov at *
            have i1 : (z : Int) < 8 := by omega
            have i2 : (k0 : Int) < (n : Int) := by omega
            have i3 : (i : Int) < (A.length : Int) := by omega
            have i4 : (0 : Int) ≤ (z : Int) := by omega
            have i5 : (0 : Int) ≤ (k0 : Int) := by omega
            have i6 : (0 : Int) ≤ (i : Int) := by omega
            have HK2 := hid hk1
            clear hk1 HK1
            go_wp2_with fail
            go_quiet (fail)
            go_wp2_with fail
            go_roundw
            case rel => exact ⟨i + 1, by omega, by go_num, fun _ => by rw [HK2.out], HQ.out _⟩
            case measure => simp [intOf] <;> omega
          · obtain rfl : i = A.length := by omega
            clear lt8 hvo
            generalize runM nx 0 (A.take A.length) = k0 at *
            generalize out k0 = ov at *
            go_wp2_with fail
            go_roundw
            case rel => exact ⟨A.length + 1, by omega, by go_num, fun h => by omega, HB8⟩
            case measure => simp [intOf] <;> omega
        · obtain rfl : i = A.length + 1 := by omega
          have HTT := hid T7
          have HBW := hid (HB7.out.trans (HB.out.mono HB7.out.size))
          clear hx T7
          go_wp2_with fail
          refine (knum_yes b5 o5 b6 o6 n c5 c6 out nx W0 HRW.out HMA.out.num h8 m1 m2 m3 m4).mono ?_
          rintro e w9 ⟨rfl, hb9⟩
          have T9 := hid (HTT.out.below hb9 HTT.out.lt)
          have HR9 := hid (HRW.out.below hb9)
          have HB9 := hid (HBW.out.trans (hb9.mono HBW.out.size))
          clear x0 x1 hb9 HTT HRW HBW
          have x0 := T9.out.c0
          have x1 := T9.out.c1
          go_wp2_with fail
          refine (kapart_yes b5 o5 b6 o6 n c5 c6 out nx w9 HR9.out HMA.out.apart (fun i a hi ha => numbered_lt HMA.out.num hi ha) hpos h8 m1 m2 m3 m4).mono ?_
          rintro e w10 ⟨rfl, hb10⟩
          have HB10 := hid (HB9.out.trans (hb10.mono HB9.out.size))
          clear hb10 T9 x0 x1
          go_wp2_with fail
          go_ret
          exact ⟨rfl, HB10.out⟩
    · have T0 := hid (two_new w4 (.slice none 0 0) (.slice none 0 0) 46)
      have ba := hid ((Below.refl w4.heap.size w4).alloc (Nat.le_refl _) (.cells #[.slice none 0 0, .slice none 0 0] 46))
      have HB5 := hid (HB4.out.trans (ba.out.mono HB4.out.size))
      clear q0 q1
      go_wp2_with fail
      refine (SZ.out _).mono ?_
      rintro e w5 ⟨rfl, hb5⟩
      simp only [World.size_alloc] at hb5
      have T5 := T0.out.below hb5 (by omega)
      have x0 := T5.c0
      have x1 := T5.c1
      have HB6 := hid (HB5.out.trans (hb5.mono (by have := HB5.out.size; simp at this; omega)))
      clear hb5
      go_wp2
      go_ret
      exact ⟨rfl, HB6.out⟩
  · obtain ⟨rfl, rfl, rfl⟩ := q0 he
    have T0 := hid (two_new w4 (.slice none 0 0) (.slice none 0 0) 46)
    have ba := hid ((Below.refl w4.heap.size w4).alloc (Nat.le_refl _) (.cells #[.slice none 0 0, .slice none 0 0] 46))
    have HB5 := hid (HB4.out.trans (ba.out.mono HB4.out.size))
    have ke : ((ew : Int) != 0) = true := by rw [bne_iff_ne]; omega
    have ke2 : ((ew : Int) == (ew : Int)) = true := by simp
    clear q0 q1
    go_wp2_with fail
    refine (SZ.out _).mono ?_
    rintro e w5 ⟨rfl, hb5⟩
    simp only [World.size_alloc] at hb5
    have T5 := T0.out.below hb5 (by omega)
    have x0 := T5.c0
    have x1 := T5.c1
    have HB6 := hid (HB5.out.trans (hb5.mono (by have := HB5.out.size; simp at this; omega)))
    clear hb5
    go_wp2
    go_ret
    exact ⟨rfl, HB6.out⟩

end Go.Proofs.Ytjagijohfkffiaa

/- Least: the row. -/
namespace Go.Proofs.Ytjagijohfkffiaa.least
open Go.ChangeShapes Go.WideShapes Go.ChangeAt Go.RowKit
open Go.ChangeMaps (open_string shut_string)
set_option linter.unusedVariables false

theorem own : ownKnob Try.prog.godebug = none := by kernel_rfl
theorem laidOut : laidOutB Try.prog = true := by kernel_rfl

/-- A slice of ints among the arguments. -/
theorem ints_of {H : Type} {enc : TypeId × Value → H} {W : World} {a : Option Addr} {len cap : Nat} {d : DataW H} {p : List MemPlace} (h : DataW.Trod enc Try.prog W 0 (fun _ => true) true 27 (.slice a len cap) d p) : ∃ zs, Ints W a len cap zs ∧ Fits zs := by
  obtain ⟨fuel, hf⟩ := h
  rcases open_ints Try.underlying27 Try.underlying3 (by kernel_rfl) hf with ⟨hcs, _⟩ | ⟨x, l, c, zs, hcs, _, hl, hm, hz, _, hcell, hwz⟩
  · simp [Value.cells] at hcs
    obtain ⟨rfl, rfl, rfl⟩ := hcs
    exact ⟨[], ⟨rfl, Nat.le_refl _, by omega, fun _ => ⟨rfl, rfl⟩, fun h => by omega⟩, fun z hz => by simp at hz⟩
  · simp [Value.cells] at hcs
    obtain ⟨rfl, rfl, rfl⟩ := hcs
    have hz2 : zs.length = cap := by simpa using hz
    unfold maxLen at hm
    refine ⟨zs.take len, ⟨by rw [List.length_take]; omega, hl, hm, fun h => by simp at h, fun h0 => ?_⟩, fun z hz => ?_⟩
    · obtain ⟨b, off, hx, hc⟩ := ints_at hcell (by omega)
      subst hx
      refine ⟨b, off, rfl, World.block_lt_of_cell? W ⟨b, off + 0, none⟩ (hc 0 (by omega)), fun i hi => ?_⟩
      rw [hc i (by omega)]
      simp [List.getD, List.getElem?_take_of_lt hi]
    · have := bounds_i64 (hwz z (List.mem_of_mem_take hz))
      omega

set_option maxRecDepth 100000 in
theorem lifted (os : Os) (started : os.Started) (H : Type) (enc : TypeId × Value → H) :
    ReturnsInHanded {} Try.checked os 12 .any (Rows.leastSpec.pre6 enc Try.prog Try.f12 Rows.leastRow.domain false) (Rows.leastSpec.post enc Try.prog Try.f12 false true false false) := by
  refine returnsInHanded_of_change (C := Try.checked) own started (by kernel_rfl) Try.func12
    (ChangeSpec.witness6 (enc := enc) (C := Try.checked) false ⟨#[], #[.string ByteArray.empty, .slice none 0 0], []⟩ 8 (by kernel_rfl) (by kernel_rfl) (by kernel_rfl) (by kernel_rfl)) ?_
  intro W base args ds gs before hval0 hW hcnd _
  have hval : ∀ (j : Nat) t v, Try.f12.params[j]? = some t → args[j]? = some v → Value.okWide Try.prog W .any base t v := hval0
  have hW' := hW
  obtain ⟨p, q, hA0, hV, rfl, hfz, hnd⟩ := hW
  have hA : DataW.TrodAll enc Try.prog W 0 (fun _ => true) true Try.f12.params.toList args.toList ds p := hA0
  rw [Try.params12] at hA hval
  obtain ⟨v0, vs0, d0, ds0, p0, q0, hargs, rfl, rfl, h0, r0⟩ := trodAll_cons hA
  obtain ⟨v1, vs1, d1, ds1, p1, q1, rfl, rfl, rfl, h1, r1⟩ := trodAll_cons r0
  obtain ⟨rfl, rfl, rfl⟩ := trodAll_nil r1
  obtain rfl : args = #[v0, v1] := by cases args; simp_all
  obtain ⟨rfl, rfl⟩ := trodVars_none hV
  obtain ⟨a0, rfl, rfl, rfl, w0⟩ := open_string Try.underlying9 (hval 0 9 v0 rfl rfl) h0
  obtain ⟨a1, len1, cap1, rfl⟩ := okWide_slice Try.underlying27 (hval 1 27 v1 rfl rfl)
  have lt1 : ∀ x ∈ p1, x.block < W.heap.size := by obtain ⟨m, hm⟩ := h1; exact DataW.trod_lt m _ _ _ hm
  obtain ⟨z1, w1, f1⟩ := ints_of h1
  clear hA0 hval0
  refine (least_core a0 a1 len1 cap1 z1 W w0 w1 f1).mono fun e W' ⟨he, bel⟩ => ?_
  subst he
  exact ⟨_, rfl, _, _, _, [], _, [], hW', trodAll_mk1 (shut_bool Try.underlying4 _), (trodAll_cons_mk (shut_string Try.underlying9 w0) (trodAll_cons_mk (Below.trod laidOut (by kernel_rfl) (of_decide_eq_true (by kernel_rfl)) h1 bel lt1) trodAll_mk0)), rfl, bel.frame _, fun h => by cases h⟩

theorem over : Rows.leastRow.holds Try.pinned (OpenSpec.ofChange Rows.leastSpec) :=
  OpenClaim.holds_of_wide 12 Try.f12 rfl rfl rfl rfl rfl rfl rfl ⟨rfl, rfl, rfl, rfl, rfl⟩ rfl rfl rfl rfl rfl (by kernel_rfl) Try.func12 (by kernel_rfl)
    (of_decide_eq_true (by kernel_rfl)) (by unfold Func.isWrapper; first | (rw [if_pos (by decide +kernel)]; kernel_rfl) | (rw [if_neg (by decide +kernel)]; exact ⟨rfl, rfl⟩))
    (fun os started H enc _ => lifted os started H enc)

theorem proved : Rows.LeastSaid := over
end Go.Proofs.Ytjagijohfkffiaa.least
namespace Go.Proofs.Ytjagijohfkffiaa
theorem least_holds : Rows.LeastSaid := least.proved
end Go.Proofs.Ytjagijohfkffiaa
