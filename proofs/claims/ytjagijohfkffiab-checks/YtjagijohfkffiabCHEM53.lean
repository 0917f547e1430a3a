import Derived.Test.YtjagijohfkffiabCHEM13
import Derived.Test.YtjagijohfkffiabCHEM23
import Derived.Test.YtjagijohfkffiabCHEM25
import Derived.Test.YtjagijohfkffiabCHEM45
import Derived.Test.YtjagijohfkffiabCHEM46
import Derived.Test.YtjagijohfkffiabCHEM52
import Derived.ProofKit
import Derived.OpenShut
import Derived.ShutString
import Derived.ChangeOld
import Derived.Deep.Matrix
import Derived.Deep.Strs
import Derived.ChangeSame

/- The walk of the program's Check. -/
namespace Go.Proofs.Ytjagijohfkffiab
open Go.RowKit
set_option linter.unusedVariables false

theorem gEd_lt {zs : List Int} {zss : List (List Int)} {ss : List Int} (h : graphB zs zss ss = true) {i j : Nat} (hi : i < zs.length) (he : gEd zss i j = true) : j < zs.length := by
  unfold graphB at h
  simp only [Bool.and_eq_true, decide_eq_true_eq] at h
  obtain ⟨_, h7⟩ := h
  unfold rowsB at h7
  rw [List.all_eq_true] at h7
  have h9 := h7 i (by simpa using hi)
  rw [← numB_out hi] at h9
  have := numB_iff.1 h9 (j : Int) (inB_iff.1 he)
  omega
theorem gLt_lt {zs : List Int} {zss : List (List Int)} {ss : List Int} (h : graphB zs zss ss = true) {i : Nat} (hi : i < zs.length) : gLt zs i < 8 := by
  unfold graphB at h
  simp only [Bool.and_eq_true, decide_eq_true_eq] at h
  have h9 := h.1.1.1.2
  unfold allL at h9
  rw [List.all_eq_true] at h9
  have := isL_iff.1 (h9 (zs.getD i 0) (by rw [List.getD, List.getElem?_eq_getElem hi]; exact List.getElem_mem _))
  unfold gLt
  omega
theorem graph_len {zs : List Int} {zss : List (List Int)} {ss : List Int} (h : graphB zs zss ss = true) : 1 ≤ zs.length ∧ zs.length ≤ 6 := by
  unfold graphB at h
  simp only [Bool.and_eq_true, decide_eq_true_eq] at h
  omega

theorem results_tmp4 {fn : Func} {t u v x : Tmp} (h : fn.results = #[.tmp t, .tmp u, .tmp v, .tmp x]) (tmps : Array Value) (P : Program) (w : World) :
    (results fn tmps).run P w = .ok (.tuple #[tmps.getD t undef, tmps.getD u undef, tmps.getD v undef, tmps.getD x undef]) w := by
  simp [results, h]

/-- What Check answers. -/
def CheckedG (zs : List Int) (zss : List (List Int)) (ss : List Int) (s : ByteArray) (w : World) (e : Ending) (w' : World) : Prop :=
  ∃ (y : Bool) (v1 v2 : Value) (er : Nat), e = .returned (.tuple #[.bool y, v1, v2, .int .i64 (er : Nat)]) ∧ Below w.heap.size w w' ∧
    (graphB zs zss ss = false → er = 10 ∧ y = false ∧ v1 = .slice none 0 0 ∧ v2 = .slice none 0 0) ∧
    (graphB zs zss ss = true → (parseOf s).1 ≠ 0 → er = (parseOf s).1 ∧ y = false ∧ v1 = .slice none 0 0 ∧ v2 = .slice none 0 0) ∧
    (graphB zs zss ss = true → (parseOf s).1 = 0 → er = 0 ∧
      ((y = true ∧ v1 = .slice none 0 0 ∧ v2 = .slice none 0 0 ∧ HoldsIn (parseOf s).2 zs.length (gLt zs) (gEd zss) (gSt ss)) ∨
        (y = false ∧ ∃ (SA SB : List Nat) (B2 : Nat), ShowsP (parseOf s).2 zs.length (gLt zs) (gEd zss) (gSt ss) SA SB ∧ w'.ownsRow w.heap.size 3 1 v1 SA.length (natInts SA) ∧ w'.ownsRow B2 3 1 v2 SB.length (natInts SB) ∧ w.heap.size ≤ B2 ∧ ∀ k, v1.ownBlock = some k → k < B2)))

section
variable (a1 a2 a3 : Option Addr) (l1 c1 l2 c2 l3 c3 : Nat) (zs : List Int) (zss : List (List Int)) (ss : List Int) (s : ByteArray) (w : World)

set_option maxHeartbeats 8000000 in
set_option maxRecDepth 100000 in
theorem check_any (hm : s.size ≤ maxLen) (h1 : Ints w a1 l1 c1 zs) (h2 : Lists w a2 l2 c2 zss) (h3 : Ints w a3 l3 c3 ss) :
    Calls Try.prog 21 #[.agg #[.slice a1 l1 c1, .slice a2 l2 c2, .slice a3 l3 c3], .string s] w (CheckedG zs zss ss s w) := by
  have ba := (Below.refl w.heap.size w).alloc (Nat.le_refl _) (.cells #[.slice a1 l1 c1, .slice a2 l2 c2, .slice a3 l3 c3] 46)
  have TK := hid (takeG_any a1 a2 a3 l1 c1 l2 c2 l3 c3 zs zss ss _ (h1.below ba) (h2.below ba) (h3.below ba))
  have HB0 := hid ba
  have C := hid (fun W => parse_any s W hm)
  unfold Parsed at C
  have HOC := hid Try.outCells
  clear h1 h2 h3 ba
  go_enter Try.func21, Try.ntmps21
  go_wp2_with fail
  refine TK.out.mono ?_
  intro e w1 htk
  unfold TakenG at htk
  obtain ⟨b1, htk⟩ := htk
  simp only [World.size_alloc] at b1
  have HB1 := hid (HB0.out.trans (b1.mono (by omega)))
  have hs1 := b1.size
  simp only [World.size_alloc] at hs1
  clear TK HB0 b1
  rcases htk with ⟨hgb, rfl⟩ | ⟨hgb, g, cap, rfl, NM⟩
  · have HGB := hid hgb
    clear hgb
    go_wp2_with fail
    refine bodyPost_ret (results_tmp4 rfl _ _ _) rfl ?_
    unfold CheckedG
    exact ⟨false, _, _, 10, rfl, HB1.out, fun _ => ⟨rfl, rfl, rfl, rfl⟩, (fun h => by rw [HGB.out] at h; cases h), (fun h => by rw [HGB.out] at h; cases h)⟩
  · have HGB := hid hgb
    have HNM := hid NM
    have hg1 := NM.blk
    obtain ⟨hl1, hl6⟩ := graph_len hgb
    clear hgb NM
    by_cases he : (parseOf s).1 = 0
    · have G := hid (parse_good he)
      have HE := hid he
      rw [he] at C
      have hpos := G.out.pos
      have h8 := G.out.le
      obtain ⟨m1', hlen⟩ : ∃ m1', (parseOf s).2.length = m1' + 1 := ⟨(parseOf s).2.length - 1, by omega⟩
      have HLN := hid hlen
      rw [hlen] at C
      clear hlen hpos he
      have HPS := hid (show parseOf s = parseOf s from rfl)
      generalize hns : (parseOf s).2 = ns at *
      have HNS := hid hns
      clear hns HPS
      go_wp2_with fail
      refine (C.out _).mono ?_
      rintro e w2 ⟨ao, pcap, rfl, own, hb2⟩
      obtain ⟨gn, rfl, _, hgn, _⟩ := own_at own (by omega)
      have ND := hid (ndM_of own HLN.out)
      have HB2 := hid (HB1.out.trans (hb2.mono (by omega)))
      have HNM2 := hid (HNM.out.below hb2 (Nat.le_refl _) hg1)
      have hs2 := hb2.size
      clear C own hb2 HB1 HNM
      go_wp2_with fail
      refine (look_any gn m1' pcap ns _ ND.out G.out HLN.out).mono ?_
      rintro e w3 ⟨sl, liv, rfl, hlv, hcv, hon, hb3⟩
      have HLV := hid hlv
      have HB3 := hid (HB2.out.trans (hb3.mono (by omega)))
      have HNM3 := hid (HNM2.out.below hb3 (Nat.le_refl _) (by omega))
      have hs3 := hb3.size
      have HCV := hid (hcv.below ((Below.refl w3.heap.size w3).alloc (Nat.le_refl _) (.cells Try.zeroCells71 71)))
      clear hlv hb3 hcv ND HB2 HNM2
      have hth : (w3.alloc (.cells Try.zeroCells71 71)).there w3.heap.size 0 2561 := by
        have := raw_new w3 (outC (fun _ => 0) (.slice none 0 0) (fun _ => false) (fun _ => false)) 2561 71
        rw [← HOC.out] at this
        exact this.there 0 2561 (by omega)
      have HTH := hid hth
      clear hth
      go_wp2_with (refine wpList_store_raw rfl 71 (.tmp 12) (.tmp 32) rfl w3.heap.size 2561 (outC (befF ns) sl liv (begB ns liv)) rfl rfl HTH.out Try.outSize (outC_one _ _ _ hon) ?_)
      intro w4 S4
      have OM := hid (outM_of S4.at_)
      have bw4 : Below w3.heap.size w3 w4 := S4.bel _ _ (Nat.le_refl _) ((Below.refl _ _).alloc (Nat.le_refl _) _)
      have hcm : CalmM w4 w3.heap.size (calmsTo ns ns.length) := by
        obtain ⟨aoc, cpc, rfl, h2⟩ := HCV.out
        refine ⟨aoc, cpc, raw_sl S4.at_, fun h0 => ?_⟩
        obtain ⟨gc, h3, h4, h5⟩ := h2 h0
        have hne : gc ≠ w3.heap.size := fun e => by
          have c1 := (h5 0 _ (List.getElem?_eq_getElem h0)).c 0 (by omega)
          rw [e, Nat.zero_mul] at c1
          have c2 := raw_new w3 (outC (fun _ => 0) (.slice none 0 0) (fun _ => false) (fun _ => false)) 2561 71
          rw [← HOC.out] at c2
          have c3 := c2.c 0 (by omega)
          rw [Nat.zero_add] at c1
          rw [c1] at c3
          simp [outC] at c3
        refine ⟨gc, h3, by rw [S4.size]; exact h4, fun k c hk => ⟨fun j hj => ?_, fun j hj => ?_⟩⟩
        · rw [S4.cell ⟨gc, k * 256 + j, none⟩ hne]; exact (h5 k c hk).c j hj
        · rw [S4.fz]; exact (h5 k c hk).f j hj
      have HCM := hid hcm
      have HB4 := hid (HB3.out.trans (bw4.mono (by omega)))
      have HNM4 := hid (HNM3.out.below bw4 (Nat.le_refl _) (by omega))
      have hcl := calmsTo_len ns ns.length
      have hs4 := bw4.size
      have hP4 := OM.out.lt
      have HEDG := hid (fun i j (hi : i < zs.length) he => gEd_lt HGB.out (j := j) hi he)
      have HLTG := hid (fun i (hi : i < zs.length) => gLt_lt HGB.out hi)
      clear S4 HTH HB3 hcm bw4 HCV HNM3
      have PA := hid (path_any w3.heap.size g zs.length cap ns (calmsTo ns ns.length) (gLt zs) (gEd zss) (gSt ss) (begB ns liv) w4 (by omega) hl6 h8 HNM4.out HLTG.out HEDG.out (fun x N hx hN => OM.out.bef x N hx hN) hP4 HCM.out (by omega) OM.out.beg)
      go_wp2_with fail
      refine PA.out.mono ?_
      intro e w5 hpa
      unfold Pathed at hpa
      obtain ⟨tl, f, AP, LF, b5, hpa⟩ := hpa
      have HB5 := hid (HB4.out.trans (b5.mono (by omega)))
      have HAP := hid AP
      have HLF := hid LF
      clear AP LF b5 PA HB4
      rcases hpa with ⟨rfl, hno⟩ | ⟨A, B, t, B2, v1, v2, rfl, O1, O2, hB2, hsep, hgo, hlp, hwr, hpn, hln⟩
      · have HH := hid (none_holds G.out HLV.out hl6 HLTG.out HAP.out HLF.out hno)
        clear hno
        go_wp2_with fail
        refine bodyPost_ret (results_tmp4 rfl _ _ _) rfl ?_
        unfold CheckedG
        refine ⟨true, _, _, 0, rfl, HB5.out, (fun h => by rw [HGB.out] at h; cases h), fun _ h => absurd HE.out h, fun _ _ => ⟨rfl, Or.inl ⟨rfl, rfl, rfl, ?_⟩⟩⟩
        rw [HNS.out]
        exact HH.out
      · have hl20 : A.length + B.length ≤ 20000 := by
          have h9 : (calmsTo ns ns.length).length + 2 ≤ 10 := by omega
          have h10 := Nat.mul_le_mul h9 (Nat.mul_le_mul_right 256 hl6)
          omega
        have HSH := hid (path_shows (st := gSt ss) (f := f) G.out HLV.out hl6 HLTG.out HAP.out hgo hlp hwr hl20 hpn)
        obtain ⟨av1, cv1, rfl⟩ := own_slice O1
        obtain ⟨av2, cv2, rfl⟩ := own_slice O2
        have HO1 := hid (own_mono O1 (show w.heap.size ≤ w4.heap.size by omega))
        have HO2 := hid O2
        have HSP := hid hsep
        clear hgo hlp hwr hpn hln O1 O2 hsep
        go_wp2_with fail
        refine bodyPost_ret (results_tmp4 rfl _ _ _) rfl ?_
        unfold CheckedG
        refine ⟨false, _, _, 0, rfl, HB5.out, (fun h => by rw [HGB.out] at h; cases h), fun _ h => absurd HE.out h, fun _ _ => ⟨rfl, Or.inr ⟨rfl, A.map (· / 256), B.map (· / 256), B2, ?_, ?_, ?_, by omega, HSP.out⟩⟩⟩
        · rw [HNS.out]; exact HSH.out
        · rw [List.length_map]; exact HO1.out
        · rw [List.length_map]; exact HO2.out
    · have HE := hid he
      have ke : (((parseOf s).1 : Int) != 0) = true := by rw [bne_iff_ne]; omega
      clear he
      generalize hpe : (parseOf s).1 = pe at *
      have HPE := hid hpe
      clear hpe
      go_wp2_with fail
      refine (C.out _).mono ?_
      rintro e w2 ⟨ao, pcap, rfl, own, hb2⟩
      have HB2 := hid (HB1.out.trans (hb2.mono (by omega)))
      clear own hb2 C
      go_wp2_with fail
      refine bodyPost_ret (results_tmp4 rfl _ _ _) rfl ?_
      unfold CheckedG
      exact ⟨false, _, _, pe, rfl, HB2.out, (fun h => by rw [HGB.out] at h; cases h), fun _ _ => ⟨by rw [HPE.out], rfl, rfl, rfl⟩, fun _ h => absurd (by rw [HPE.out] at h; exact h) HE.out⟩
end

end Go.Proofs.Ytjagijohfkffiab

/- The walk of Checks. -/
namespace Go.Proofs.Ytjagijohfkffiab
open Go.RowKit
set_option linter.unusedVariables false

set_option maxHeartbeats 400000 in
theorem numl_any (n : Int) (w : World) : Calls Try.prog 23 #[.int .i64 n] w fun e w' => e = .returned (.int .i64 n) ∧ w' = w := by
  go_enter Try.func23, Try.ntmps23
  go_wp2
  go_ret
  exact ⟨rfl, rfl⟩

section
variable (a1 a2 a3 : Option Addr) (l1 c1 l2 c2 l3 c3 : Nat) (zs : List Int) (zss : List (List Int)) (ss : List Int) (s : ByteArray) (w : World)

set_option maxHeartbeats 4000000 in
set_option maxRecDepth 100000 in
theorem checks_any (hm : s.size ≤ maxLen) (h1 : Ints w a1 l1 c1 zs) (h2 : Lists w a2 l2 c2 zss) (h3 : Ints w a3 l3 c3 ss) :
    Calls Try.prog 5 #[.agg #[.slice a1 l1 c1, .slice a2 l2 c2, .slice a3 l3 c3], .string s] w fun e w' => e = .returned (.bool true) ∧ Below w.heap.size w w' := by
  have ba := (Below.refl w.heap.size w).alloc (Nat.le_refl _) (.cells #[.slice a1 l1 c1, .slice a2 l2 c2, .slice a3 l3 c3] 46)
  have T0 := hid (three_new w (.slice a1 l1 c1) (.slice a2 l2 c2) (.slice a3 l3 c3) 46)
  have HB0 := hid ba
  have J1 := hid (h1.below ba)
  have J2 := hid (h2.below ba)
  have J3 := hid (h3.below ba)
  have C1 := hid (check_any a1 a2 a3 l1 c1 l2 c2 l3 c3 zs zss ss s _ hm (h1.below ba) (h2.below ba) (h3.below ba))
  have C2 := hid (fun W (b : Below (w.alloc (.cells #[.slice a1 l1 c1, .slice a2 l2 c2, .slice a3 l3 c3] 46)).heap.size (w.alloc (.cells #[.slice a1 l1 c1, .slice a2 l2 c2, .slice a3 l3 c3] 46)) W) => rcheck_any a1 a2 a3 l1 c1 l2 c2 l3 c3 zs zss ss s W hm ((h1.below ba).below b) ((h2.below ba).below b) ((h3.below ba).below b))
  have C3 := hid (fun W a4 l4 k4 a5 l5 k5 SA SB (b : Below (w.alloc (.cells #[.slice a1 l1 c1, .slice a2 l2 c2, .slice a3 l3 c3] 46)).heap.size (w.alloc (.cells #[.slice a1 l1 c1, .slice a2 l2 c2, .slice a3 l3 c3] 46)) W) => shows_any a1 a2 a3 a4 a5 l1 c1 l2 c2 l3 c3 l4 k4 l5 k5 zs zss ss SA SB s W hm ((h1.below ba).below b) ((h2.below ba).below b) ((h3.below ba).below b))
  unfold CheckedG at C1
  unfold RChecked at C2
  clear h1 h2 h3 ba J1 J2 J3
  go_enter Try.func5, Try.ntmps5
  go_wp2_with fail
  refine C1.out.mono ?_
  rintro e w1 ⟨y, v1, v2, er, rfl, b1, k1, k2, k3⟩
  have B1 := hid b1
  have T1 := T0.out.below b1 (by simp)
  have x0 := T1.c0
  have x1 := T1.c1
  have x2 := T1.c2
  have HT1 := hid T1
  have HK1 := hid k1
  have HK2 := hid k2
  have HK3 := hid k3
  clear C1 b1 T0 T1 k1 k2 k3
  go_wp2_with fail
  refine (C2.out _ B1.out).mono ?_
  rintro e w2 ⟨y', er', rfl, b2, k1, k2, k3⟩
  have hl1 := HT1.out.lt
  have T2 := HT1.out.below b2 hl1
  have B2 := hid (B1.out.trans (b2.mono B1.out.size))
  have HW2 := hid (HB0.out.trans (B2.out.mono HB0.out.size))
  have HB2 := hid b2
  have HK1' := hid k1
  have HK2' := hid k2
  have HK3' := hid k3
  clear C2 b2 x0 x1 x2 HT1 k1 k2 k3
  have x0 := T2.c0
  have x1 := T2.c1
  have x2 := T2.c2
  clear T2
  by_cases hG : graphB zs zss ss = true
  · by_cases hp : (parseOf s).1 = 0
    · obtain ⟨rfl, hor⟩ := HK3.out hG hp
      obtain ⟨rfl, hy'⟩ := HK3'.out hG hp
      rcases hor with ⟨rfl, rfl, rfl, hH⟩ | ⟨rfl, SA, SB, Bq, hS, oA, oB, hB2, hap⟩
      · obtain rfl : y' = true := hy'.2 hH
        clear HK1 HK2 HK3 HK1' HK2' HK3' C3 hH hy' hG hp
        go_wp2_with fail
        refine (numl_any _ _).mono ?_
        rintro e w3 ⟨rfl, rfl⟩
        go_wp2_with fail
        refine (numl_any _ _).mono ?_
        rintro e w4 ⟨rfl, rfl⟩
        go_wp2_with fail
        go_ret
        exact ⟨rfl, HW2.out⟩
      · obtain rfl : y' = false := by
          cases y' with
          | false => rfl
          | true => exact absurd (hy'.1 rfl) (shows_not hS)
        obtain ⟨a4, k4, rfl, I4⟩ := own_ints oA rfl
        obtain ⟨a5, k5, rfl, I5⟩ := own_ints oB rfl
        have SH := hid (C3.out w2 a4 SA.length k4 a5 SB.length k5 SA SB B2.out (I4.below HB2.out) (I5.below HB2.out) hG hp hS)
        clear HK1 HK2 HK3 HK1' HK2' HK3' C3 hy' hG hp hS oA oB I4 I5 hap
        generalize SA.length = la at *
        generalize SB.length = lb at *
        go_wp2_with fail
        refine (numl_any _ _).mono ?_
        rintro e w3 ⟨rfl, rfl⟩
        go_wp2_with fail
        refine (numl_any _ _).mono ?_
        rintro e w4 ⟨rfl, rfl⟩
        go_wp2_with fail
        refine SH.out.mono ?_
        rintro e w5 ⟨rfl, b5⟩
        have HW5 := hid (HW2.out.trans (b5.mono HW2.out.size))
        clear b5 SH
        go_wp2_with fail
        go_ret
        exact ⟨rfl, HW5.out⟩
    · obtain ⟨rfl, rfl, rfl, rfl⟩ := HK2.out hG hp
      obtain ⟨rfl, rfl⟩ := HK2'.out hG hp
      clear HK1 HK2 HK3 HK1' HK2' HK3' C3
      generalize (parseOf s).1 = er at *
      have k : ((er : Int) != 0) = true := by rw [bne_iff_ne]; omega
      clear hp hG
      go_wp2_with fail
      refine (numl_any _ _).mono ?_
      rintro e w3 ⟨rfl, rfl⟩
      go_wp2_with fail
      refine (numl_any _ _).mono ?_
      rintro e w4 ⟨rfl, rfl⟩
      go_wp2_with fail
      go_ret
      exact ⟨rfl, HW2.out⟩
  · have hG' : graphB zs zss ss = false := by
      cases e : graphB zs zss ss with
      | false => rfl
      | true => exact absurd e hG
    obtain ⟨rfl, rfl, rfl, rfl⟩ := HK1.out hG'
    obtain ⟨rfl, rfl⟩ := HK1'.out hG'
    clear HK1 HK2 HK3 HK1' HK2' HK3' C3 hG hG'
    go_wp2_with fail
    refine (numl_any _ _).mono ?_
    rintro e w3 ⟨rfl, rfl⟩
    go_wp2_with fail
    refine (numl_any _ _).mono ?_
    rintro e w4 ⟨rfl, rfl⟩
    go_wp2_with fail
    go_ret
    exact ⟨rfl, HW2.out⟩
end

end Go.Proofs.Ytjagijohfkffiab

/- Checks: the row. -/
namespace Go.Proofs.Ytjagijohfkffiab.checks
open Go.ChangeShapes Go.WideShapes Go.ChangeAt Go.RowKit Go.Deep
open Go.ChangeMaps (open_string shut_string)
set_option linter.unusedVariables false

theorem own : ownKnob Try.prog.godebug = none := by kernel_rfl
theorem laidOut : laidOutB Try.prog = true := by kernel_rfl

/-- A slice of ints among the arguments. -/
theorem ints_of {H : Type} {enc : TypeId × Value → H} {W : World} {v : Value} {x : DataW H × List MemPlace} {fuel : Nat} (hf : DataW.trod enc Try.prog W 0 (fun _ => true) true fuel 22 [v] = some x) : ∃ a len cap zs, v = .slice a len cap ∧ Ints W a len cap zs := by
  rcases open_ints Try.underlying22 Try.underlying3 (by kernel_rfl) hf with ⟨hcs, _⟩ | ⟨x, len, cap, zs, hcs, _, hl, hm, hz, _, hcell, hwz⟩
  · simp at hcs
    subst hcs
    exact ⟨none, 0, 0, [], rfl, rfl, Nat.le_refl _, by omega, fun _ => ⟨rfl, rfl⟩, fun h => by omega⟩
  · simp at hcs
    subst hcs
    have hz2 : zs.length = cap := by simpa using hz
    unfold maxLen at hm
    refine ⟨some x, len, cap, zs.take len, rfl, by rw [List.length_take]; omega, hl, hm, fun h => by simp at h, fun h0 => ?_⟩
    obtain ⟨b, off, hx, hc⟩ := ints_at hcell (by omega)
    subst hx
    refine ⟨b, off, rfl, World.block_lt_of_cell? W ⟨b, off + 0, none⟩ (hc 0 (by omega)), fun i hi => ?_⟩
    rw [hc i (by omega)]
    simp [List.getD, List.getElem?_take_of_lt hi]

/-- A slice of slices of ints among the arguments. -/
theorem lists_of {H : Type} {enc : TypeId × Value → H} {W : World} {v : Value} {x : DataW H × List MemPlace} {fuel : Nat} (hf : DataW.trod enc Try.prog W 0 (fun _ => true) true fuel 33 [v] = some x) : ∃ a len cap zss, v = .slice a len cap ∧ Lists W a len cap zss := by
  rcases open_int_rows Try.underlying33 Try.underlying22 Try.underlying3 (by kernel_rfl) (by kernel_rfl) hf with ⟨hcs, _⟩ | ⟨x, len, cap, A, L, C, Z, hcs, _, hl, hm, _, hr⟩
  · simp at hcs
    subst hcs
    exact ⟨none, 0, 0, [], rfl, rfl, Nat.le_refl _, by omega, fun _ => ⟨rfl, rfl⟩, fun h => by omega⟩
  · simp at hcs
    subst hcs
    unfold maxLen at hm
    refine ⟨some x, len, cap, (List.range len).map fun r => (Z r).take (L r), rfl, by simp, hl, hm, fun h => by simp at h, fun h0 => ?_⟩
    obtain ⟨b, off, spot⟩ := x
    have hspot : spot = none := by simpa [Addr.add] using World.cell?_spot (hr 0 (by omega)).1
    subst hspot
    have hc : ∀ r, r < cap → W.cell? ⟨b, off + r, none⟩ = some (.slice (A r) (L r) (C r)) := fun r h => by
      have := (hr r h).1
      rwa [Go.WideShapes.add_plain] at this
    refine ⟨b, off, rfl, World.block_lt_of_cell? W ⟨b, off + 0, none⟩ (hc 0 (by omega)), fun i hi => ⟨A i, L i, C i, hc i (by omega), ?_⟩⟩
    have hg : ((List.range len).map fun r => (Z r).take (L r)).getD i [] = (Z i).take (L i) := by simp [List.getD, List.getElem?_map, List.getElem?_range hi]
    rw [hg]
    obtain ⟨_, q1, q2, q3, _, q4, q5⟩ := hr i (by omega)
    unfold maxLen at q2
    refine ⟨by rw [List.length_take]; omega, q1, q2, fun h => ⟨by have := q4 h; omega, q4 h⟩, fun h0 => ?_⟩
    cases ha : A i with
    | none => have := q4 ha; omega
    | some a' =>
      have q6 := (q5 a' ha).2
      obtain ⟨b', off', sp⟩ := a'
      have hsp : sp = none := by simpa [Addr.add] using World.cell?_spot (q6 0 (by omega))
      subst hsp
      have q7 : ∀ j, j < C i → W.cell? ⟨b', off' + j, none⟩ = some (.int .i64 ((Z i).getD j 0)) := fun j hj => by rw [← Go.WideShapes.add_plain]; exact q6 j hj
      refine ⟨b', off', rfl, World.block_lt_of_cell? W ⟨b', off' + 0, none⟩ (q7 0 (by omega)), fun j hj => ?_⟩
      rw [q7 j (by omega)]
      simp [List.getD, List.getElem?_take_of_lt hj]

theorem three_of {α : Type} {cs : Array α} (h : cs.size = 3) : ∃ c0 c1 c2, cs = #[c0, c1, c2] := ⟨cs[0], cs[1], cs[2], by
  apply Array.ext
  · simp [h]
  · intro i h1 h2
    have : i = 0 ∨ i = 1 ∨ i = 2 := by omega
    rcases this with rfl | rfl | rfl <;> rfl⟩

/-- A graph among the arguments. -/
theorem cells3 : Try.prog.cellsOf 46 = 3 := by kernel_rfl
set_option maxRecDepth 100000 in
theorem graph_of {H : Type} {enc : TypeId × Value → H} {W : World} {base : Nat} {v : Value} {d : DataW H} {p : List MemPlace} (hv : Value.okWide Try.prog W .any base 46 v) (h : DataW.Trod enc Try.prog W 0 (fun _ => true) true 46 v d p) :
    ∃ a1 l1 c1 a2 l2 c2 a3 l3 c3 zs zss ss, v = .agg #[.slice a1 l1 c1, .slice a2 l2 c2, .slice a3 l3 c3] ∧ Ints W a1 l1 c1 zs ∧ Lists W a2 l2 c2 zss ∧ Ints W a3 l3 c3 ss := by
  obtain ⟨cs, rfl, hsz⟩ := okWide_struct Try.underlying46 hv
  obtain ⟨c0, c1, c2, rfl⟩ := three_of (hsz.trans cells3)
  obtain ⟨fuel, hf⟩ := h
  obtain ⟨y0, y1, y2, n, hx, _, t0, t1, t2⟩ := trod_struct3 Try.underlying46 hf
  have k0 : Try.prog.cellsOf 22 = 1 := by kernel_rfl
  have k1 : Try.prog.cellsOf 33 = 1 := by kernel_rfl
  obtain ⟨a1, l1, cc1, zs, rfl, hi⟩ := ints_of (v := c0) (by simpa [Value.cells, k0] using t0)
  obtain ⟨a2, l2, cc2, zss, rfl, hl⟩ := lists_of (v := c1) (by simpa [Value.cells, k0, k1] using t1)
  obtain ⟨a3, l3, cc3, ss, rfl, hs⟩ := ints_of (v := c2) (by simpa [Value.cells, k0, k1] using t2)
  exact ⟨a1, l1, cc1, a2, l2, cc2, a3, l3, cc3, zs, zss, ss, rfl, hi, hl, hs⟩

set_option maxRecDepth 100000 in
theorem lifted (os : Os) (started : os.Started) (H : Type) (enc : TypeId × Value → H) :
    ReturnsInHanded {} Try.checked os 5 .any (Rows.checksSpec.pre6 enc Try.prog Try.f5 Rows.checksRow.domain false) (Rows.checksSpec.post enc Try.prog Try.f5 false true false false) := by
  refine returnsInHanded_of_change (C := Try.checked) own started (by kernel_rfl) Try.func5
    (ChangeSpec.witness6 (enc := enc) (C := Try.checked) false ⟨#[], #[.agg #[.slice none 0 0, .slice none 0 0, .slice none 0 0], .string ByteArray.empty], []⟩ 8 (by kernel_rfl) (by kernel_rfl) (by kernel_rfl) (by kernel_rfl)) ?_
  intro W base args ds gs before hval0 hW hcnd _
  have hval : ∀ (j : Nat) t v, Try.f5.params[j]? = some t → args[j]? = some v → Value.okWide Try.prog W .any base t v := hval0
  have hW' := hW
  obtain ⟨p, q, hA0, hV, rfl, hfz, hnd⟩ := hW
  have hA : DataW.TrodAll enc Try.prog W 0 (fun _ => true) true Try.f5.params.toList args.toList ds p := hA0
  rw [Try.params5] at hA hval
  obtain ⟨v0, vs0, d0, ds0, p0, q0, hargs, rfl, rfl, h0, r0⟩ := trodAll_cons hA
  obtain ⟨v1, vs1, d1, ds1, p1, q1, hargs1, rfl, rfl, h1, r1⟩ := trodAll_cons r0
  obtain ⟨rfl, rfl, rfl⟩ := trodAll_nil r1
  obtain rfl : args = #[v0, v1] := by cases args; simp_all
  obtain ⟨rfl, rfl⟩ := trodVars_none hV
  have lt0 : ∀ x ∈ p0, x.block < W.heap.size := by obtain ⟨m, hm⟩ := h0; exact DataW.trod_lt m _ _ _ hm
  obtain ⟨a1, l1, c1, a2, l2, c2, a3, l3, c3, zs, zss, ss, rfl, w1, w2, w3⟩ := graph_of (hval 0 46 v0 rfl rfl) h0
  obtain ⟨a0, rfl, rfl, rfl, w0⟩ := open_string Try.underlying9 (hval 1 9 v1 rfl rfl) h1
  clear hA0 hval0
  refine (checks_any a1 a2 a3 l1 c1 l2 c2 l3 c3 zs zss ss a0 W w0 w1 w2 w3).mono fun e W' ⟨he, bel⟩ => ?_
  subst he
  exact ⟨_, rfl, _, _, _, [], _, [], hW', trodAll_mk1 (shut_bool Try.underlying4 _), (trodAll_cons_mk (Below.trod laidOut (by kernel_rfl) (of_decide_eq_true (by kernel_rfl)) h0 bel lt0) (trodAll_cons_mk (shut_string Try.underlying9 w0) trodAll_mk0)), rfl, bel.frame _, fun h => by cases h⟩

theorem over : Rows.checksRow.holds Try.pinned (OpenSpec.ofChange Rows.checksSpec) :=
  OpenClaim.holds_of_wide 5 Try.f5 rfl rfl rfl rfl rfl rfl rfl ⟨rfl, rfl, rfl, rfl, rfl⟩ rfl rfl rfl rfl rfl (by kernel_rfl) Try.func5 (by kernel_rfl)
    (of_decide_eq_true (by kernel_rfl)) (by unfold Func.isWrapper; first | (rw [if_pos (by decide +kernel)]; kernel_rfl) | (rw [if_neg (by decide +kernel)]; exact ⟨rfl, rfl⟩))
    (fun os started H enc _ => lifted os started H enc)

theorem proved : Rows.ChecksSaid := over
end Go.Proofs.Ytjagijohfkffiab.checks
namespace Go.Proofs.Ytjagijohfkffiab
theorem checks_holds : Rows.ChecksSaid := checks.proved
end Go.Proofs.Ytjagijohfkffiab
