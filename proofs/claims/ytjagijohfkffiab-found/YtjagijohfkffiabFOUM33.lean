import Derived.Test.YtjagijohfkffiabFOUM07
import Derived.Test.YtjagijohfkffiabFOUM15
import Derived.Test.YtjagijohfkffiabFOUM21
import Derived.Test.YtjagijohfkffiabFOUM24
import Derived.Test.YtjagijohfkffiabFOUM32

/- The walk of the program's Check. -/
namespace Go.Proofs.Ytjagijohfkffiab
open Go.RowKit
set_option linter.unusedVariables false

theorem gEd_lt {zs : List Int} {zss : List (List Int)} {ss : List Int} (h : graphB zs zss ss = true) {i j : Nat} (hi : i < zs.length) (he : gEd zss i j = true) : j < zs.length := by
  unfold graphB at h
  simp only [Bool.and_eq_true, decide_eq_true_eq] at h
  obtain ⟨_, h7⟩ := h
  unfold rowsB at h7
  rw [List.all_eq_true] at h7
  have h9 := h7 i (by simpa using hi)
  rw [← numB_out hi] at h9
  have := numB_iff.1 h9 (j : Int) (inB_iff.1 he)
  omega
theorem gLt_lt {zs : List Int} {zss : List (List Int)} {ss : List Int} (h : graphB zs zss ss = true) {i : Nat} (hi : i < zs.length) : gLt zs i < 8 := by
  unfold graphB at h
  simp only [Bool.and_eq_true, decide_eq_true_eq] at h
  have h9 := h.1.1.1.2
  unfold allL at h9
  rw [List.all_eq_true] at h9
  have := isL_iff.1 (h9 (zs.getD i 0) (by rw [List.getD, List.getElem?_eq_getElem hi]; exact List.getElem_mem _))
  unfold gLt
  omega
theorem graph_len {zs : List Int} {zss : List (List Int)} {ss : List Int} (h : graphB zs zss ss = true) : 1 ≤ zs.length ∧ zs.length ≤ 6 := by
  unfold graphB at h
  simp only [Bool.and_eq_true, decide_eq_true_eq] at h
  omega

theorem results_tmp4 {fn : Func} {t u v x : Tmp} (h : fn.results = #[.tmp t, .tmp u, .tmp v, .tmp x]) (tmps : Array Value) (P : Program) (w : World) :
    (results fn tmps).run P w = .ok (.tuple #[tmps.getD t undef, tmps.getD u undef, tmps.getD v undef, tmps.getD x undef]) w := by
  simp [results, h]

/-- What Check answers. -/
def CheckedG (zs : List Int) (zss : List (List Int)) (ss : List Int) (s : ByteArray) (w : World) (e : Ending) (w' : World) : Prop :=
  ∃ (y : Bool) (v1 v2 : Value) (er : Nat), e = .returned (.tuple #[.bool y, v1, v2, .int .i64 (er : Nat)]) ∧ Below w.heap.size w w' ∧
    (graphB zs zss ss = false → er = 10 ∧ y = false ∧ v1 = .slice none 0 0 ∧ v2 = .slice none 0 0) ∧
    (graphB zs zss ss = true → (parseOf s).1 ≠ 0 → er = (parseOf s).1 ∧ y = false ∧ v1 = .slice none 0 0 ∧ v2 = .slice none 0 0) ∧
    (graphB zs zss ss = true → (parseOf s).1 = 0 → er = 0 ∧
      ((y = true ∧ v1 = .slice none 0 0 ∧ v2 = .slice none 0 0 ∧ HoldsIn (parseOf s).2 zs.length (gLt zs) (gEd zss) (gSt ss)) ∨
        (y = false ∧ ∃ (SA SB : List Nat) (B2 : Nat), ShowsP (parseOf s).2 zs.length (gLt zs) (gEd zss) (gSt ss) SA SB ∧ w'.ownsRow w.heap.size 3 1 v1 SA.length (natInts SA) ∧ w'.ownsRow B2 3 1 v2 SB.length (natInts SB) ∧ w.heap.size ≤ B2 ∧ ∀ k, v1.ownBlock = some k → k < B2)))

section
variable (a1 a2 a3 : Option Addr) (l1 c1 l2 c2 l3 c3 : Nat) (zs : List Int) (zss : List (List Int)) (ss : List Int) (s : ByteArray) (w : World)

set_option maxHeartbeats 8000000 in
set_option maxRecDepth 100000 in
theorem check_any (hm : s.size ≤ maxLen) (h1 : Ints w a1 l1 c1 zs) (h2 : Lists w a2 l2 c2 zss) (h3 : Ints w a3 l3 c3 ss) :
    Calls Try.prog 21 #[.agg #[.slice a1 l1 c1, .slice a2 l2 c2, .slice a3 l3 c3], .string s] w (CheckedG zs zss ss s w) := by
  have ba := (Below.refl w.heap.size w).alloc (Nat.le_refl _) (.cells #[.slice a1 l1 c1, .slice a2 l2 c2, .slice a3 l3 c3] 46)
  have TK := hid (takeG_any a1 a2 a3 l1 c1 l2 c2 l3 c3 zs zss ss _ (h1.below ba) (h2.below ba) (h3.below ba))
  have HB0 := hid ba
  have C := hid (fun W => parse_any s W hm)
  unfold Parsed at C
  have HOC := hid Try.outCells
  clear h1 h2 h3 ba
  go_enter Try.func21, Try.ntmps21
  go_wp2_with fail
  refine TK.out.mono ?_
  intro e w1 htk
  unfold TakenG at htk
  obtain ⟨b1, htk⟩ := htk
  simp only [World.size_alloc] at b1
  have HB1 := hid (HB0.out.trans (b1.mono (by omega)))
  have hs1 := b1.size
  simp only [World.size_alloc] at hs1
  clear TK HB0 b1
  rcases htk with ⟨hgb, rfl⟩ | ⟨hgb, g, cap, rfl, NM⟩
  · have HGB := hid hgb
    clear hgb
    go_wp2_with fail
    refine bodyPost_ret (results_tmp4 rfl _ _ _) rfl ?_
    unfold CheckedG
    exact ⟨false, _, _, 10, rfl, HB1.out, fun _ => ⟨rfl, rfl, rfl, rfl⟩, (fun h => by rw [HGB.out] at h; cases h), (fun h => by rw [HGB.out] at h; cases h)⟩
  · have HGB := hid hgb
    have HNM := hid NM
    have hg1 := NM.blk
    obtain ⟨hl1, hl6⟩ := graph_len hgb
    clear hgb NM
    by_cases he : (parseOf s).1 = 0
    · have G := hid (parse_good he)
      have HE := hid he
      rw [he] at C
      have hpos := G.out.pos
      have h8 := G.out.le
      obtain ⟨m1', hlen⟩ : ∃ m1', (parseOf s).2.length = m1' + 1 := ⟨(parseOf s).2.length - 1, by omega⟩
      have HLN := hid hlen
      rw [hlen] at C
      clear hlen hpos he
      have HPS := hid (show parseOf s = parseOf s from rfl)
      generalize hns : (parseOf s).2 = ns at *
      have HNS := hid hns
      clear hns HPS
      go_wp2_with fail
      refine (C.out _).mono ?_
      rintro e w2 ⟨ao, pcap, rfl, own, hb2⟩
      obtain ⟨gn, rfl, _, hgn, _⟩ := own_at own (by omega)
      have ND := hid (ndM_of own HLN.out)
      have HB2 := hid (HB1.out.trans (hb2.mono (by omega)))
      have HNM2 := hid (HNM.out.below hb2 (Nat.le_refl _) hg1)
      have hs2 := hb2.size
      clear C own hb2 HB1 HNM
      go_wp2_with fail
      refine (look_any gn m1' pcap ns _ ND.out G.out HLN.out).mono ?_
      rintro e w3 ⟨sl, liv, rfl, hlv, hcv, hon, hb3⟩
      have HLV := hid hlv
      have HB3 := hid (HB2.out.trans (hb3.mono (by omega)))
      have HNM3 := hid (HNM2.out.below hb3 (Nat.le_refl _) (by omega))
      have hs3 := hb3.size
      have HCV := hid (hcv.below ((Below.refl w3.heap.size w3).alloc (Nat.le_refl _) (.cells Try.zeroCells71 71)))
      clear hlv hb3 hcv ND HB2 HNM2
      have hth : (w3.alloc (.cells Try.zeroCells71 71)).there w3.heap.size 0 2561 := by
        have := raw_new w3 (outC (fun _ => 0) (.slice none 0 0) (fun _ => false) (fun _ => false)) 2561 71
        rw [← HOC.out] at this
        exact this.there 0 2561 (by omega)
      have HTH := hid hth
      clear hth
      go_wp2_with (refine wpList_store_raw rfl 71 (.tmp 12) (.tmp 32) rfl w3.heap.size 2561 (outC (befF ns) sl liv (begB ns liv)) rfl rfl HTH.out Try.outSize (outC_one _ _ _ hon) ?_)
      intro w4 S4
      have OM := hid (outM_of S4.at_)
      have bw4 : Below w3.heap.size w3 w4 := S4.bel _ _ (Nat.le_refl _) ((Below.refl _ _).alloc (Nat.le_refl _) _)
      have hcm : CalmM w4 w3.heap.size (calmsTo ns ns.length) := by
        obtain ⟨aoc, cpc, rfl, h2⟩ := HCV.out
        refine ⟨aoc, cpc, raw_sl S4.at_, fun h0 => ?_⟩
        obtain ⟨gc, h3, h4, h5⟩ := h2 h0
        have hne : gc ≠ w3.heap.size := fun e => by
          have c1 := (h5 0 _ (List.getElem?_eq_getElem h0)).c 0 (by omega)
          rw [e, Nat.zero_mul] at c1
          have c2 := raw_new w3 (outC (fun _ => 0) (.slice none 0 0) (fun _ => false) (fun _ => false)) 2561 71
          rw [← HOC.out] at c2
          have c3 := c2.c 0 (by omega)
          rw [Nat.zero_add] at c1
          rw [c1] at c3
          simp [outC] at c3
        refine ⟨gc, h3, by rw [S4.size]; exact h4, fun k c hk => ⟨fun j hj => ?_, fun j hj => ?_⟩⟩
        · rw [S4.cell ⟨gc, k * 256 + j, none⟩ hne]; exact (h5 k c hk).c j hj
        · rw [S4.fz]; exact (h5 k c hk).f j hj
      have HCM := hid hcm
      have HB4 := hid (HB3.out.trans (bw4.mono (by omega)))
      have HNM4 := hid (HNM3.out.below bw4 (Nat.le_refl _) (by omega))
      have hcl := calmsTo_len ns ns.length
      have hs4 := bw4.size
      have hP4 := OM.out.lt
      have HEDG := hid (fun i j (hi : i < zs.length) he => gEd_lt HGB.out (j := j) hi he)
      have HLTG := hid (fun i (hi : i < zs.length) => gLt_lt HGB.out hi)
      clear S4 HTH HB3 hcm bw4 HCV HNM3
      have PA := hid (path_any w3.heap.size g zs.length cap ns (calmsTo ns ns.length) (gLt zs) (gEd zss) (gSt ss) (begB ns liv) w4 (by omega) hl6 h8 HNM4.out HLTG.out HEDG.out (fun x N hx hN => OM.out.bef x N hx hN) hP4 HCM.out (by omega) OM.out.beg)
      go_wp2_with fail
      refine PA.out.mono ?_
      intro e w5 hpa
      unfold Pathed at hpa
      obtain ⟨tl, f, AP, LF, b5, hpa⟩ := hpa
      have HB5 := hid (HB4.out.trans (b5.mono (by omega)))
      have HAP := hid AP
      have HLF := hid LF
      clear AP LF b5 PA HB4
      rcases hpa with ⟨rfl, hno⟩ | ⟨A, B, t, B2, v1, v2, rfl, O1, O2, hB2, hsep, hgo, hlp, hwr, hpn, hln⟩
      · have HH := hid (none_holds G.out HLV.out hl6 HLTG.out HAP.out HLF.out hno)
        clear hno
        go_wp2_with fail
        refine bodyPost_ret (results_tmp4 rfl _ _ _) rfl ?_
        unfold CheckedG
        refine ⟨true, _, _, 0, rfl, HB5.out, (fun h => by rw [HGB.out] at h; cases h), fun _ h => absurd HE.out h, fun _ _ => ⟨rfl, Or.inl ⟨rfl, rfl, rfl, ?_⟩⟩⟩
        rw [HNS.out]
        exact HH.out
      · have hl20 : A.length + B.length ≤ 20000 := by
          have h9 : (calmsTo ns ns.length).length + 2 ≤ 10 := by omega
          have h10 := Nat.mul_le_mul h9 (Nat.mul_le_mul_right 256 hl6)
          omega
        have HSH := hid (path_shows (st := gSt ss) (f := f) G.out HLV.out hl6 HLTG.out HAP.out hgo hlp hwr hl20 hpn)
        obtain ⟨av1, cv1, rfl⟩ := own_slice O1
        obtain ⟨av2, cv2, rfl⟩ := own_slice O2
        have HO1 := hid (own_mono O1 (show w.heap.size ≤ w4.heap.size by omega))
        have HO2 := hid O2
        have HSP := hid hsep
        clear hgo hlp hwr hpn hln O1 O2 hsep
        go_wp2_with fail
        refine bodyPost_ret (results_tmp4 rfl _ _ _) rfl ?_
        unfold CheckedG
        refine ⟨false, _, _, 0, rfl, HB5.out, (fun h => by rw [HGB.out] at h; cases h), fun _ h => absurd HE.out h, fun _ _ => ⟨rfl, Or.inr ⟨rfl, A.map (· / 256), B.map (· / 256), B2, ?_, ?_, ?_, by omega, HSP.out⟩⟩⟩
        · rw [HNS.out]; exact HSH.out
        · rw [List.length_map]; exact HO1.out
        · rw [List.length_map]; exact HO2.out
    · have HE := hid he
      have ke : (((parseOf s).1 : Int) != 0) = true := by rw [bne_iff_ne]; omega
      clear he
      generalize hpe : (parseOf s).1 = pe at *
      have HPE := hid hpe
      clear hpe
      go_wp2_with fail
      refine (C.out _).mono ?_
      rintro e w2 ⟨ao, pcap, rfl, own, hb2⟩
      have HB2 := hid (HB1.out.trans (hb2.mono (by omega)))
      clear own hb2 C
      go_wp2_with fail
      refine bodyPost_ret (results_tmp4 rfl _ _ _) rfl ?_
      unfold CheckedG
      exact ⟨false, _, _, pe, rfl, HB2.out, (fun h => by rw [HGB.out] at h; cases h), fun _ _ => ⟨by rw [HPE.out], rfl, rfl, rfl⟩, fun _ h => absurd (by rw [HPE.out] at h; exact h) HE.out⟩
end

end Go.Proofs.Ytjagijohfkffiab

/- Plain mathematics: a stem and a loop of nodes is a path without end. -/
namespace Go.Proofs.Ytjagijohfkffiab
open Go.RowKit
set_option linter.unusedVariables false

theorem goes_split {E : Nat → Nat → Prop} : ∀ {l m : List Nat} {e : Nat}, Goes E (l ++ m) e → Goes E l (m.headD e) ∧ Goes E m e
  | [], m, e, h => ⟨trivial, h⟩
  | a :: l, m, e, ⟨h1, h2⟩ => by
    obtain ⟨h3, h4⟩ := goes_split h2
    refine ⟨⟨?_, h3⟩, h4⟩
    have h5 : E a ((l ++ m).headD e) := h1
    rw [headD_app] at h5
    exact h5

theorem gpath_of {n : Nat} {ed : Nat → Nat → Bool} {st : Nat → Bool} {SA SB : List Nat} (ne : SB ≠ []) (hlt : ∀ p ∈ SA ++ SB, p < n) (hbeg : st ((SA ++ SB).headD 0) = true) (hgo : Goes (fun a b => ed a b = true) (SA ++ SB) (SB.headD 0)) : GPath n ed st (rowAt SA SB) := by
  have hb : 0 < SB.length := List.length_pos_iff.2 ne
  obtain ⟨g1, g2⟩ := goes_split hgo
  have hh : SB.headD (SB.headD 0) = SB.headD 0 := by cases SB with
    | nil => rfl
    | cons b l => rfl
  rw [hh] at g1
  have hp := (rowAt_path (cs := []) g1 ⟨ne, rfl, g2, fun c hc => by cases hc⟩).1
  have hin : ∀ t, rowAt SA SB t ∈ SA ++ SB := fun t => by
    unfold rowAt
    by_cases c : t < SA.length
    · rw [if_pos c, List.getD, List.getElem?_eq_getElem c]
      exact List.mem_append_left _ (List.getElem_mem c)
    · have c2 : (t - SA.length) % SB.length < SB.length := Nat.mod_lt _ hb
      rw [if_neg c, List.getD, List.getElem?_eq_getElem c2]
      exact List.mem_append_right _ (List.getElem_mem c2)
  have h0 : rowAt SA SB 0 = (SA ++ SB).headD 0 := by
    unfold rowAt
    cases SA with
    | nil =>
      cases SB with
      | nil => simp at hb
      | cons b B => simp
    | cons a A => simp
  exact ⟨by rw [h0]; exact hbeg, fun t => ⟨hlt _ (hin t), hp t⟩⟩

theorem row_word {lt : Nat → Nat} {SA SB : List Nat} (hb : 0 < SB.length) : (fun t => lt (rowAt SA SB t)) = wordAt (SA.map lt) (SB.map lt) := by
  funext i
  unfold wordAt rowAt
  simp only [List.length_map]
  by_cases c : i < SA.length
  · rw [if_pos c, if_pos c]
    simp [List.getD, List.getElem?_eq_getElem c]
  · rw [if_neg c, if_neg c]
    have c2 : (i - SA.length) % SB.length < SB.length := Nat.mod_lt _ hb
    simp [List.getD, List.getElem?_eq_getElem c2]

theorem shows_not {ns : List Nd} {n : Nat} {lt : Nat → Nat} {ed : Nat → Nat → Bool} {st : Nat → Bool} {SA SB : List Nat} (h : ShowsP ns n lt ed st SA SB) : ¬ HoldsIn ns n lt ed st := fun hh => by
  have := hh _ (gpath_of h.ne h.lt_ h.begins h.go)
  rw [row_word (show_pos h)] at this
  exact h.sem_ this

/-- Where it holds, it holds of the word of a path. -/
theorem holds_path {ns : List Nd} {n : Nat} {lt : Nat → Nat} {ed : Nat → Nat → Bool} {st : Nat → Bool} {SA SB : List Nat} (hg : Good ns) (hh : HoldsIn ns n lt ed st) (ne : SB ≠ []) (hlt : ∀ p ∈ SA ++ SB, p < n) (hbeg : st ((SA ++ SB).headD 0) = true) (hgo : Goes (fun a b => ed a b = true) (SA ++ SB) (SB.headD 0)) (h8 : ∀ i, i < n → lt i < 8) : holdsB SA.length ns (SA.map lt ++ SB.map lt) = true := by
  have hb : 0 < SB.length := List.length_pos_iff.2 ne
  have hs := hh _ (gpath_of ne hlt hbeg hgo)
  rw [row_word hb] at hs
  have hi := holdsB_inf (A := SA.map lt) (B := SB.map lt) hg (by simpa using hb) (fun x hx => by
    rw [← List.map_append] at hx
    obtain ⟨p, hp, rfl⟩ := List.mem_map.1 hx
    exact h8 p (hlt p hp))
  rw [List.length_map] at hi
  exact hi.2 hs

end Go.Proofs.Ytjagijohfkffiab

/- The walk of verdictkeep's checking. -/
namespace Go.Proofs.Ytjagijohfkffiab
open Go.RowKit
set_option linter.unusedVariables false

theorem one_holds : HoldsIn [⟨112, 0, 0⟩] 1 (gLt [1]) (gEd [[]]) (gSt [0]) := by
  intro q hq
  have h0 : q 0 = 0 := by have := (hq.2 0).1; omega
  show sem (fun i => i + 1) (fun t => gLt [1] (q t)) ([] ++ [⟨112, 0, 0⟩]) 0 0
  have := sem_new (fun i => i + 1) (fun t => gLt [1] (q t)) [] ⟨112, 0, 0⟩ 0
  rw [List.length_nil] at this
  rw [this]
  simp [den, h0, gLt]
theorem one_not : ¬ HoldsIn [⟨112, 0, 0⟩] 1 (gLt [0]) (gEd [[]]) (gSt [0]) := fun h => by
  have h1 := h (fun _ => 0) ⟨by decide, fun t => ⟨show 0 < 1 by omega, show gEd [[]] 0 0 = true by decide⟩⟩
  have h2 : sem (fun i => i + 1) (fun t => gLt [0] 0) ([] ++ [⟨112, 0, 0⟩]) 0 0 := h1
  have := sem_new (fun i => i + 1) (fun t => gLt [0] 0) [] ⟨112, 0, 0⟩ 0
  rw [List.length_nil] at this
  rw [this] at h2
  simp [den, gLt] at h2
theorem one_graph : graphB [1] [[]] [0] = true := by decide
theorem one_graph' : graphB [0] [[]] [0] = true := by decide

/-- The graph of one node, as it is laid in memory. -/
theorem one_lists (w : World) : Lists (w.alloc (.cells #[.slice none 0 0] 22)) (some ⟨w.heap.size, 0, none⟩) 1 1 [[]] :=
  ⟨rfl, Nat.le_refl _, by omega, fun h => by simp at h, fun _ => ⟨w.heap.size, 0, rfl, by simp, fun i hi => by
    have : i = 0 := by omega
    subst this
    exact ⟨none, 0, 0, by simp, ints_none _⟩⟩⟩

set_option maxHeartbeats 2000000 in
set_option maxRecDepth 100000 in
theorem checking_any (w : World) : Calls Try.prog 25 #[] w fun e w' => e = .returned (.bool true) ∧ Below w.heap.size w w' := by
  have W3 := fun (W : World) (z : Int) => ((Below.refl W.heap.size W).alloc (Nat.le_refl _) (.cells #[.int .i64 z] 3)).alloc (by simp) (.cells #[.slice none 0 0] 22) |>.alloc (by simp; omega) (.cells #[.int .i64 0] 3)
  have HW3 := hid W3
  have C := hid (fun (W : World) (z : Int) => check_any (some ⟨W.heap.size, 0, none⟩) (some ⟨W.heap.size + 1, 0, none⟩) (some ⟨W.heap.size + 2, 0, none⟩) 1 1 1 1 1 1 [z] [[]] [0] ⟨#[112]⟩ (((W.alloc (.cells #[.int .i64 z] 3)).alloc (.cells #[.slice none 0 0] 22)).alloc (.cells #[.int .i64 0] 3)) (by decide)
    (((ints_one W z).below ((Below.refl _ _).alloc (Nat.le_refl _) _)).below ((Below.refl _ _).alloc (Nat.le_refl _) _))
    (by have := (one_lists (W.alloc (.cells #[.int .i64 z] 3))).below ((Below.refl _ _).alloc (Nat.le_refl _) (.cells #[.int .i64 0] 3)); simpa using this)
    (by have := ints_one ((W.alloc (.cells #[.int .i64 z] 3)).alloc (.cells #[.slice none 0 0] 22)) 0; simpa using this))
  unfold CheckedG at C
  rw [p_parse] at C
  clear W3
  go_enter Try.func25, Try.ntmps25
  go_wp2_with fail
  refine (C.out w 1).mono ?_
  rintro e w1 ⟨y, v1, v2, er, rfl, b1, -, -, k3⟩
  obtain ⟨rfl, hor⟩ := k3 one_graph trivial
  obtain ⟨rfl, rfl, rfl⟩ : y = true ∧ v1 = .slice none 0 0 ∧ v2 = .slice none 0 0 := by
    rcases hor with ⟨h1, h2, h3, _⟩ | ⟨_, SA, SB, _, hS, _⟩
    · exact ⟨h1, h2, h3⟩
    · exact absurd one_holds (shows_not hS)
  have B1 := hid ((HW3.out w 1).trans (b1.mono (by simp; omega)))
  clear k3 hor b1
  go_wp2_with fail
  refine (C.out w1 0).mono ?_
  rintro e w2 ⟨y, v1, v2, er, rfl, b2, -, -, k3⟩
  obtain ⟨rfl, hor⟩ := k3 one_graph' trivial
  have hor2 := hor.resolve_left (fun h => one_not h.2.2.2)
  obtain ⟨rfl, SA, SB, B2, hS, -, own2, -, -⟩ := hor2
  have hpos := show_pos hS
  obtain ⟨ao, cc, rfl⟩ := own_slice own2
  have B2 := hid (B1.out.trans (((HW3.out w1 0).trans (b2.mono (by simp; omega))).mono B1.out.size))
  clear k3 hor b2 hS own2 C HW3
  generalize SB.length = lb at *
  go_wp2_with fail
  go_ret
  exact ⟨by first | rfl | simp [hpos], B2.out⟩

end Go.Proofs.Ytjagijohfkffiab

/- Plain mathematics: a walk in a graph up to a node that stands there already. -/
namespace Go.Proofs.Ytjagijohfkffiab
open Go.RowKit
set_option linter.unusedVariables false

/-- Nodes of a graph, each an edge's end of the one ahead. -/
structure KWkI (n : Nat) (ed : Nat → Nat → Bool) (st : Nat → Bool) (S : List Nat) : Prop where
  lt_ : ∀ p ∈ S, p < n
  beg : st (S.headD 0) = true
  go : ∀ i, i + 1 < S.length → ed (S.getD i 0) (S.getD (i + 1) 0) = true

theorem goes_of {E : Nat → Nat → Prop} : ∀ {S : List Nat} {e : Nat}, (∀ i, i + 1 < S.length → E (S.getD i 0) (S.getD (i + 1) 0)) → (0 < S.length → E (S.getD (S.length - 1) 0) e) → Goes E S e
  | [], e, _, _ => trivial
  | a :: S, e, h1, h2 => by
    refine ⟨?_, goes_of (fun i hi => ?_) (fun h0 => ?_)⟩
    · cases S with
      | nil => simpa using h2 (by simp)
      | cons b S => simpa using h1 0 (by simp)
    · have := h1 (i + 1) (by simp; omega)
      simpa using this
    · have := h2 (by simp)
      simp only [List.length_cons, Nat.add_sub_cancel] at this
      obtain ⟨m, hm⟩ : ∃ m, S.length = m + 1 := ⟨S.length - 1, by omega⟩
      rw [hm] at this ⊢
      simpa using this

theorem walk_one {n : Nat} {ed : Nat → Nat → Bool} {st : Nat → Bool} {x : Nat} (hx : x < n) (hs : st x = true) : KWkI n ed st [x] := ⟨fun p hp => by simp at hp; omega, hs, fun i hi => by simp at hi⟩

theorem walk_push {n : Nat} {ed : Nat → Nat → Bool} {st : Nat → Bool} {S : List Nat} {i y : Nat} (h : KWkI n ed st S) (hl : S.length = i + 1) (hy : y < n) (he : ed (S.getD i 0) y = true) : KWkI n ed st (S ++ [y]) := by
  refine ⟨fun p hp => ?_, ?_, fun j hj => ?_⟩
  · rcases List.mem_append.1 hp with h1 | h1
    · exact h.lt_ p h1
    · simp at h1; omega
  · have hb := h.beg
    cases S with
    | nil => simp at hl
    | cons a S => exact hb
  · rw [List.length_append, hl] at hj
    simp at hj
    have g1 : (S ++ [y]).getD j 0 = S.getD j 0 := by rw [List.getD, List.getElem?_append_left (by omega)]; rfl
    rw [g1]
    by_cases c : j + 1 < S.length
    · have g2 : (S ++ [y]).getD (j + 1) 0 = S.getD (j + 1) 0 := by rw [List.getD, List.getElem?_append_left c]; rfl
      rw [g2]
      exact h.go j c
    · have e : j = i := by omega
      subst e
      have g2 : (S ++ [y]).getD (j + 1) 0 = y := by rw [List.getD, List.getElem?_append_right (by omega), hl]; simp
      rw [g2]
      exact he

/-- The node stands there already, at place j. -/
theorem walk_ends {n : Nat} {ed : Nat → Nat → Bool} {st : Nat → Bool} {S : List Nat} {i j y : Nat} (h : KWkI n ed st S) (hl : S.length = i + 1) (he : ed (S.getD i 0) y = true) (hj : j < i + 1) (hy : S.getD j 0 = y) :
    S.drop j ≠ [] ∧ (∀ p ∈ S.take j ++ S.drop j, p < n) ∧ st ((S.take j ++ S.drop j).headD 0) = true ∧ Goes (fun a b => ed a b = true) (S.take j ++ S.drop j) ((S.drop j).headD 0) := by
  rw [List.take_append_drop]
  have hh : (S.drop j).headD 0 = y := by
    rw [← hy]
    have hjl : j < S.length := by omega
    rw [List.drop_eq_getElem_cons hjl]
    simp [List.getD, List.getElem?_eq_getElem hjl]
  refine ⟨fun e => ?_, h.lt_, h.beg, ?_⟩
  · have := congrArg List.length e
    simp at this
    omega
  · rw [hh]
    exact goes_of h.go (fun _ => by rw [hl]; exact he)

theorem drop_push {S : List Nat} {m y : Nat} (hn : (S.drop m).Nodup) (h : m ≤ S.length → ∀ k, k < S.length → S.getD k 0 ≠ y) : ((S ++ [y]).drop m).Nodup := by
  by_cases c : m ≤ S.length
  · rw [List.drop_append_of_le_length c]
    refine List.nodup_append.2 ⟨hn, by simp, fun a ha b hb => ?_⟩
    simp at hb
    subst hb
    intro e
    subst e
    obtain ⟨k, hk, e⟩ := List.getElem_of_mem (List.mem_of_mem_drop ha)
    exact h c k hk (by rw [List.getD, List.getElem?_eq_getElem hk]; exact e)
  · rw [List.drop_eq_nil_of_le (by simp; omega)]
    exact List.nodup_nil

theorem walk_short {n m : Nat} {ed : Nat → Nat → Bool} {st : Nat → Bool} {S : List Nat} (h : KWkI n ed st S) (hn : (S.drop m).Nodup) : S.length ≤ m + n := by
  have := nodup_le n _ hn (fun x hx => h.lt_ x (List.mem_of_mem_drop hx))
  simp at this
  omega

end Go.Proofs.Ytjagijohfkffiab

/- pick, by its value. -/
namespace Go.Proofs.Ytjagijohfkffiab
open Go.RowKit
set_option linter.unusedVariables false

def pickN (z : Int) (n : Nat) : Nat := (if z < 0 then (-(z + 1)).toNat else z.toNat) % n
theorem pickN_lt (z : Int) {n : Nat} (h : 0 < n) : pickN z n < n := Nat.mod_lt _ h

set_option maxHeartbeats 1000000 in
theorem pick_fun (z : Int) (n : Nat) (w : World) (h0 : 0 < n) (hn : n ≤ 9223372036854775807) (h1 : -9223372036854775808 ≤ z) (h2 : z ≤ 9223372036854775807) : Calls Try.prog 34 #[.int .i64 z, .int .i64 (n : Nat)] w fun e w' => e = .returned (.int .i64 (pickN z n : Nat)) ∧ w' = w := by
  have hz : ¬ (n : Int) = 0 := by omega
  have hlt := pickN_lt z h0
  by_cases h : z < 0
  · have E : Hid ((z + 1).tmod (n : Int) = -((pickN z n : Nat) : Int)) := hid (by
      unfold pickN
      rw [if_pos h]
      obtain ⟨u, hu⟩ : ∃ u : Nat, -(z + 1) = (u : Int) := ⟨(-(z + 1)).toNat, by omega⟩
      rw [hu, show z + 1 = -(u : Int) by omega, Int.neg_tmod, Int.tmod_eq_emod_of_nonneg (by omega)]
      rfl)
    generalize pickN z n = x at *
    have E1 := E.out
    have w1 : IntKind.i64.wrap (x : Int) = (x : Int) := by rw [IntKind.wrap_i64]; omega
    go_enter Try.func34, Try.ntmps34
    go_wp2
    go_ret
    exact ⟨by first | rfl | simp, rfl⟩
  · obtain ⟨u, rfl⟩ : ∃ u : Nat, z = (u : Int) := ⟨z.toNat, by omega⟩
    have E1 : (u : Int).tmod (n : Int) = ((pickN u n : Nat) : Int) := by
      unfold pickN
      rw [if_neg h, Int.tmod_eq_emod_of_nonneg (by omega)]; rfl
    have E2 : (u : Int) % (n : Int) = ((pickN u n : Nat) : Int) := by
      unfold pickN
      rw [if_neg h]; rfl
    generalize pickN u n = x at *
    have w1 : IntKind.i64.wrap (x : Int) = (x : Int) := by rw [IntKind.wrap_i64]; omega
    go_enter Try.func34, Try.ntmps34
    go_wp2
    go_ret
    exact ⟨by first | rfl | simp, rfl⟩

end Go.Proofs.Ytjagijohfkffiab
