import Derived.Test.YtjagijohfkffiaaCM48
import Derived.Test.YtjagijohfkffiaaCM49
import Derived.ProofKit
import Derived.OpenShut
import Derived.ShutString
import Derived.ChangeOld

/- What the reference's slips tells; the walk of its Class. -/
namespace Go.Proofs.Ytjagijohfkffiaa
open Go.RowKit
set_option linter.unusedVariables false

theorem slips_any (R F gp cap P : Nat) (ns : List Nd) (bs vs : List Nat) (liv : Nat → Bool) (us : List (List Nat)) (xs : List Nat) (hd : Bool) (vd : Nat) (w : World) (h : RowsM w R F gp cap ns bs vs) (hf : FullR w P us.length (outU ns liv (begB ns liv) us) (nxR xs)) (hg : Good ns) (hM : vs.length ≤ 256) (hl : LivP ns (calmsTo ns ns.length) liv) (hL : LiveSets ns vs.length (mOf vs))
    (hE : Expl ns liv (begB ns liv) us xs) (hx : xs.length = 8 * us.length) (hK : us.length ≤ 796594185) :
    Calls Try.prog 75 #[.pointer (some ⟨R, 0, none⟩), .pointer (some ⟨P, 0, none⟩), .bool hd, .int .i64 (vd : Nat)] w fun e w' => ∃ b : Bool, e = .returned (.bool b) ∧ (b = true ↔ Evade ns vd hd) ∧ Below w.heap.size w w' := by
  have hM0 := live_pos hg hL
  have hK0 : 0 < us.length := (List.getElem?_eq_some_iff.1 hE.first).1
  have hc := expl_lt hE hx
  have hpr := slips_prod ns vs (outU ns liv (begB ns liv) us) (nxL xs) vd hc
  have h8 := hg.le
  have hN : us.length * vs.length ≤ 274877906944 := Nat.le_trans (Nat.mul_le_mul hK hM) (by omega)
  refine (slips_net R F gp cap P us.length ns bs vs _ xs hd vd w h hf hg hM hM0 hK0 hK hc (fun W P' hn => ?_)).mono ?_
  · exact endless_net turned_c P' _ ns.length _ _ W hn (Nat.mul_pos hK0 hM0) (fun a ha b hb => prod_lt hpr ha hb)
      (fun a ha => Nat.le_trans (slTo_len ns vs _ _ vd _ _ 8) (Nat.le_trans (Nat.mul_le_mul_left 8 hM) (by omega))) (fun a ha j => slTo_count ns vs _ _ vd _ _ j 8) hN (by omega)
  · rintro e w' ⟨b, good, rfl, hb, hgd, hbl⟩
    refine ⟨b, rfl, ?_, hbl⟩
    rw [hb, ← slips_evade hg hl hE hx vd hd, ← prod_whole hg hL hpr hgd hK0 hd]
    simp only [Nat.zero_mul, Nat.zero_add]

section
variable (s : ByteArray) (w : World)

set_option maxHeartbeats 4000000 in
set_option maxRecDepth 100000 in
theorem rclass_no (hm : s.size ≤ maxLen) (h : (parseOf s).1 ≠ 0) : Calls Try.prog 46 #[.string s] w (Classed s w) := by
  have C := fun W => formulate_any s W hm
  unfold Formulated at C
  unfold Classed
  generalize parseOf s = p at *
  have k : ((p.1 : Int) != 0) = true := by rw [bne_iff_ne]; omega
  go_enter Try.func46, Try.ntmps46
  go_wp2_with fail
  refine (C _).mono ?_
  rintro e w1 ⟨hb, ⟨_, rfl⟩ | ⟨h0, _⟩⟩
  · simp only [World.size_alloc] at hb
    have T1 := (three_new w (.bool false) (.bool false) (.bool false) 56).below hb (by omega)
    have d0 := T1.c0
    have d1 := T1.c1
    have d2 := T1.c2
    have e0 := T1.fz 0 (by omega)
    have e1 := T1.fz 1 (by omega)
    have e2 := T1.fz 2 (by omega)
    have HB := hid (((Below.refl w.heap.size w).alloc (Nat.le_refl _) (.cells #[.bool false, .bool false, .bool false] 56)).trans (hb.mono (by omega)))
    clear C hb T1
    go_wp2_with fail
    refine ret_cells_tmp (cs := [.bool false, .bool false, .bool false]) (v := .int .i64 (p.1 : Nat)) (b := w.heap.size) Try.results46 ?_ ?_ ?_ ?_ Try.underlying56 rfl Try.classSize ?_
    · rfl
    · rfl
    · rfl
    · exact three_set d0 d1 d2 _ _ _
    · exact ⟨false, false, false, rfl, fun h0 => absurd h0 h, fun _ => ⟨rfl, rfl, rfl⟩, ((HB.out.setCell (p := ⟨w.heap.size, 0, none⟩) (Nat.le_refl _) _).setCell (p := ⟨w.heap.size, 1, none⟩) (Nat.le_refl _) _).setCell (p := ⟨w.heap.size, 2, none⟩) (Nat.le_refl _) _⟩
  · exact absurd h0 h

set_option maxHeartbeats 4000000 in
set_option maxRecDepth 100000 in
theorem rclass_yes (hm : s.size ≤ maxLen) (h : (parseOf s).1 = 0) : Calls Try.prog 46 #[.string s] w (Classed s w) := by
  have C := fun W => formulate_any s W hm
  unfold Formulated at C
  have G := hid (parse_good h)
  have SG := hid (parse_seg h)
  unfold Classed
  generalize parseOf s = p at *
  obtain ⟨p1, ns⟩ := p
  dsimp only at *
  subst h
  obtain ⟨liv, hlv⟩ := liv_ex ns (calmsTo ns ns.length)
  have HLV := hid hlv
  have HFEW := hid (fun us xs (h : Expl ns liv (begB ns liv) us xs) => expl_few G.out SG.out hlv h)
  clear hlv
  go_enter Try.func46, Try.ntmps46
  go_wp2_with fail
  refine (C _).mono ?_
  rintro e w1 ⟨hb, ⟨h0, _⟩ | ⟨_, bs, rfl, hf⟩⟩
  · exact absurd rfl h0
  simp only [World.size_alloc] at hb hf
  have T1 := hid ((three_new w (.bool false) (.bool false) (.bool false) 56).below hb (by omega))
  have HB1 := hid (((Below.refl w.heap.size w).alloc (Nat.le_refl _) (.cells #[.bool false, .bool false, .bool false] 56)).trans (hb.mono (by omega)))
  have hs1 := hb.size
  simp only [World.size_alloc] at hs1
  obtain ⟨gp, cap, hfr⟩ := fr_of hf G.out.pos
  have RW := hid (rows_any _ gp cap ns bs w1 hfr G.out)
  clear C hb hf hfr
  go_wp2_with fail
  refine RW.out.mono ?_
  rintro e w3 ⟨R, vs, rfl, hRM, hLS, hM, hb3⟩
  have HRM := hid hRM
  have HLS := hid hLS
  have HB3 := hid (HB1.out.trans (hb3.mono (by omega)))
  have T3 := hid (T1.out.below hb3 (by omega))
  have hs3 := hb3.size
  clear hRM hLS hb3 RW HB1 T1
  go_wp2_with fail
  refine (full_any R _ gp cap ns bs vs liv w3 HRM.out G.out hM HLV.out HLS.out HFEW.out).mono ?_
  rintro e w4 ⟨us, xs, rfl, hE, hx, hFR, hb4⟩
  have HE := hid hE
  have HX := hid hx
  have hK := HFEW.out us xs hE
  have HFR := hid hFR
  have HRM4 := hid (HRM.out.below hb4)
  have HB4 := hid (HB3.out.trans (hb4.mono (by omega)))
  have T4 := hid (T3.out.below hb4 (by omega))
  have hs4 := hb4.size
  have hP := hFR.lt
  clear hE hx hFR hb4 HRM HB3 T3
  go_wp2_with fail
  refine (slips_any R _ gp cap w3.heap.size ns bs vs liv us xs false 2 w4 HRM4.out HFR.out G.out hM HLV.out HLS.out HE.out HX.out hK).mono ?_
  rintro e w5 ⟨b1, rfl, hb1, hb5⟩
  have HV1 := hid hb1
  have HFR5 := hid (HFR.out.below hb5)
  have HRM5 := hid (HRM4.out.below hb5)
  have HB5 := hid (HB4.out.trans (hb5.mono (by omega)))
  have T5 := hid (T4.out.below hb5 (by omega))
  have hs5 := hb5.size
  clear hb1 hb5 HFR HRM4 HB4 T4
  go_wp2_with fail
  refine (slips_any R _ gp cap w3.heap.size ns bs vs liv us xs true 1 w5 HRM5.out HFR5.out G.out hM HLV.out HLS.out HE.out HX.out hK).mono ?_
  rintro e w6 ⟨b2, rfl, hb2, hb6⟩
  have HV2 := hid hb2
  have HFR6 := hid (HFR5.out.below hb6)
  have HB6 := hid (HB5.out.trans (hb6.mono (by omega)))
  have T6 := hid (T5.out.below hb6 (by omega))
  have hs6 := hb6.size
  clear hb2 hb6 HFR5 HRM5 HB5 T5
  have TC := hid (three_new w6 (.bool !b1) (.bool !b2) (.bool true) 56)
  have b7 := (Below.refl w6.heap.size w6).alloc (Nat.le_refl _) (.cells #[.bool !b1, .bool !b2, .bool true] 56)
  obtain ⟨vO, f1, aoO, capO, rfl, hocap, horow⟩ := HFR6.out.c1
  have hol : ((List.range us.length).map (outU ns liv (begB ns liv) us)).length = us.length := by simp
  rw [hol] at f1 hocap horow
  have HOROW := hid horow
  have HF1 := hid f1
  have HOAT : Hid (∀ i, i < us.length → atN ((List.range us.length).map (outU ns liv (begB ns liv) us)) i = outU ns liv (begB ns liv) us i) := hid (fun i hi => by simp [atN, List.getD, hi])
  have hPl : w3.heap.size < w6.heap.size := by omega
  have B70 := hid b7
  clear b7 HFR6 horow f1
  go_wp2_with fail
  go_loopw [11] (fun i wq => ∃ (k : Nat) (lv : Bool), k ≤ us.length ∧ i = .int .i64 k ∧ Hid (lv = true ↔ ∀ j, j < k → outU ns liv (begB ns liv) us j ≠ 2) ∧ Hid (Three wq w6.heap.size (.bool !b1) (.bool !b2) (.bool lv)) ∧ Hid (Below w6.heap.size w6 wq)) (fun i _ => us.length - (intOf i).toNat)
  case atStart => exact ⟨0, true, Nat.zero_le _, rfl, hid ⟨fun _ j h => by omega, fun _ => rfl⟩, TC, B70⟩
  case round =>
    obtain ⟨k, lv, hk, rfl, HL, HT, HB⟩ := hrel
    rename World => W0
    clear TC B70
    have p1 := (HB.out.cell (p := ⟨w3.heap.size, 1, none⟩) hPl).trans HF1.out
    by_cases hlk : k < us.length
    · obtain ⟨gO, e, hgO, hoc⟩ := HOROW.out (by omega)
      subst e
      have ok : W0.cell? ⟨gO, k, none⟩ = some (.int .i64 (outU ns liv (begB ns liv) us k : Nat)) := (HB.out.cell (p := ⟨gO, k, none⟩) hgO).trans (by have h9 := hoc k hlk; rw [HOAT.out k hlk] at h9; exact h9)
      have hW6 := HT.out.lt
      clear hoc
      by_cases ho : outU ns liv (begB ns liv) us k = 2
      · have HL2 : Hid (false = true ↔ ∀ j, j < k + 1 → outU ns liv (begB ns liv) us j ≠ 2) := hid ⟨fun h => (by cases h), fun h => absurd ho (h k (by omega))⟩
        rw [ho] at ok
        have q2 := HT.out.c2
        have z2 := HT.out.fz 2 (by omega)
        have D1 := hid (HT.out.set2 (.bool false))
        have D2 := hid (HB.out.setCell (p := ⟨w6.heap.size, 2, none⟩) (Nat.le_refl _) (.bool false))
        clear ho
        go_wp2_with fail
        go_roundw
        case rel => exact ⟨k + 1, false, by omega, by go_num, HL2, D1, D2⟩
        case measure => simp [intOf]; omega
      · have HL2 : Hid (lv = true ↔ ∀ j, j < k + 1 → outU ns liv (begB ns liv) us j ≠ 2) := hid ⟨fun h j hj => by
            by_cases c : j = k
            · subst c; exact ho
            · exact HL.out.1 h j (by omega), fun h => HL.out.2 fun j hj => h j (by omega)⟩
        have ho1 : ¬ ((outU ns liv (begB ns liv) us k : Int) = 2) := by omega
        clear ho
        go_wp2_with fail
        go_roundw
        case rel => exact ⟨k + 1, lv, by omega, by go_num, HL2, HT, HB⟩
        case measure => simp [intOf]; omega
    · obtain rfl : k = us.length := by omega
      have KD := hid (show Kind ns (!b1) (!b2) lv from ⟨by rw [← HV1.out]; simp, by rw [← HV2.out]; simp, by rw [HL.out]; exact full_live G.out HLV.out HE.out HX.out⟩)
      have TF := hid (T6.out.below HB.out (by omega))
      have HBF := hid (HB6.out.trans (HB.out.mono (by omega)))
      have d0 := TF.out.c0
      have d1 := TF.out.c1
      have d2 := TF.out.c2
      have e0 := TF.out.fz 0 (by omega)
      have e1 := TF.out.fz 1 (by omega)
      have e2 := TF.out.fz 2 (by omega)
      have g0 := HT.out.c0
      have g1 := HT.out.c1
      have g2 := HT.out.c2
      go_wp2_with fail
      refine ret_cells_tmp (cs := [.bool !b1, .bool !b2, .bool lv]) (v := .int .i64 0) (b := w.heap.size) Try.results46 ?_ ?_ ?_ ?_ Try.underlying56 rfl Try.classSize ?_
      · rfl
      · rfl
      · rfl
      · exact three_set d0 d1 d2 _ _ _
      · exact ⟨!b1, !b2, lv, rfl, fun _ => KD.out, fun h => absurd rfl h, ((HBF.out.setCell (p := ⟨w.heap.size, 0, none⟩) (Nat.le_refl _) _).setCell (p := ⟨w.heap.size, 1, none⟩) (Nat.le_refl _) _).setCell (p := ⟨w.heap.size, 2, none⟩) (Nat.le_refl _) _⟩

theorem rclass_any (hm : s.size ≤ maxLen) : Calls Try.prog 46 #[.string s] w (Classed s w) := by
  by_cases h : (parseOf s).1 = 0
  · exact rclass_yes s w hm h
  · exact rclass_no s w hm h
end

end Go.Proofs.Ytjagijohfkffiaa

/- Classes: the walk and the row. -/
namespace Go.Proofs.Ytjagijohfkffiaa.classes
open Go.ChangeShapes Go.WideShapes Go.ChangeAt Go.RowKit
open Go.ChangeMaps (open_string shut_string)
set_option linter.unusedVariables false

theorem own : ownKnob Try.prog.godebug = none := by kernel_rfl
theorem laidOut : laidOutB Try.prog = true := by kernel_rfl

set_option maxHeartbeats 400000 in
theorem numm_any (n : Int) (w : World) : Calls Try.prog 17 #[.int .i64 n] w fun e w' => e = .returned (.int .i64 n) ∧ w' = w := by
  go_enter Try.func17, Try.ntmps17
  go_wp2
  go_ret
  exact ⟨rfl, rfl⟩

set_option maxHeartbeats 400000 in
theorem walk (a0 : ByteArray) (w0 : a0.size ≤ maxLen) (w : World) :
    Calls Try.prog 14 #[.string a0] w fun e w' => e = .returned (.bool true) ∧ Below w.heap.size w w' := by
  have C1 := class_any a0 w w0
  have C2 := fun W => rclass_any a0 W w0
  unfold Classed at C1 C2
  generalize parseOf a0 = p at *
  go_enter Try.func14, Try.ntmps14
  go_wp2_with fail
  refine C1.mono ?_
  rintro e w1 ⟨s1, c1, l1, rfl, p1, q1, hb1⟩
  go_wp2_with fail
  refine (C2 _).mono ?_
  rintro e w2 ⟨s2, c2, l2, rfl, p2, q2, hb2⟩
  obtain ⟨rfl, rfl, rfl⟩ : s1 = s2 ∧ c1 = c2 ∧ l1 = l2 := by
    by_cases h0 : p.1 = 0
    · exact kind_fun (p1 h0) (p2 h0)
    · obtain ⟨rfl, rfl, rfl⟩ := q1 h0
      obtain ⟨rfl, rfl, rfl⟩ := q2 h0
      exact ⟨rfl, rfl, rfl⟩
  have B := hid ((hb1.alloc hb1.size _).trans (hb2.mono (by have := hb1.size; simp; omega)))
  have T1 := (three_new w1 (.bool s1) (.bool c1) (.bool l1) 56).below hb2 (by simp)
  have t0 := T1.c0
  have t1 := T1.c1
  have t2 := T1.c2
  have tl := T1.lt
  clear C1 C2 hb1 hb2 p1 p2 q1 q2 T1
  go_wp2
  go_ret
  first | exact ⟨rfl, B.out⟩ | exact ⟨rfl, B.out.alloc B.out.size _⟩

set_option maxRecDepth 100000 in
theorem lifted (os : Os) (started : os.Started) (H : Type) (enc : TypeId × Value → H) :
    ReturnsInHanded {} Try.checked os 14 .any (Rows.classesSpec.pre6 enc Try.prog Try.f14 Rows.classesRow.domain false) (Rows.classesSpec.post enc Try.prog Try.f14 false true false false) := by
  refine returnsInHanded_of_change (C := Try.checked) own started (by kernel_rfl) Try.func14
    (ChangeSpec.witness6 (enc := enc) (C := Try.checked) false ⟨#[], #[.string ByteArray.empty], []⟩ 8 (by kernel_rfl) (by kernel_rfl) (by kernel_rfl) (by kernel_rfl)) ?_
  intro W base args ds gs before hval0 hW hcnd _
  have hval : ∀ (j : Nat) t v, Try.f14.params[j]? = some t → args[j]? = some v → Value.okWide Try.prog W .any base t v := hval0
  have hW' := hW
  obtain ⟨p, q, hA0, hV, rfl, hfz, hnd⟩ := hW
  have hA : DataW.TrodAll enc Try.prog W 0 (fun _ => true) true Try.f14.params.toList args.toList ds p := hA0
  rw [Try.params14] at hA hval
  obtain ⟨v0, vs0, d0, ds0, p0, q0, hargs, rfl, rfl, h0, r0⟩ := trodAll_cons hA
  obtain ⟨rfl, rfl, rfl⟩ := trodAll_nil r0
  obtain rfl : args = #[v0] := by cases args; simp_all
  obtain ⟨rfl, rfl⟩ := trodVars_none hV
  obtain ⟨a0, rfl, rfl, rfl, w0⟩ := open_string Try.underlying9 (hval 0 9 v0 rfl rfl) h0
  clear hA0 hval0
  refine (walk a0 w0 W).mono fun e W' ⟨he, bel⟩ => ?_
  subst he
  exact ⟨_, rfl, _, _, _, [], _, [], hW', trodAll_mk1 (shut_bool Try.underlying4 _), (trodAll_cons_mk (shut_string Try.underlying9 w0) trodAll_mk0), rfl, bel.frame _, fun h => by cases h⟩

theorem over : Rows.classesRow.holds Try.pinned (OpenSpec.ofChange Rows.classesSpec) :=
  OpenClaim.holds_of_wide 14 Try.f14 rfl rfl rfl rfl rfl rfl rfl ⟨rfl, rfl, rfl, rfl, rfl⟩ rfl rfl rfl rfl rfl (by kernel_rfl) Try.func14 (by kernel_rfl)
    (of_decide_eq_true (by kernel_rfl)) (by unfold Func.isWrapper; first | (rw [if_pos (by decide +kernel)]; kernel_rfl) | (rw [if_neg (by decide +kernel)]; exact ⟨rfl, rfl⟩))
    (fun os started H enc _ => lifted os started H enc)

theorem proved : Rows.ClassesSaid := over
end Go.Proofs.Ytjagijohfkffiaa.classes
namespace Go.Proofs.Ytjagijohfkffiaa
theorem classes_holds : Rows.ClassesSaid := classes.proved
end Go.Proofs.Ytjagijohfkffiaa
