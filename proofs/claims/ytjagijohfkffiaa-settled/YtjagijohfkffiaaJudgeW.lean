/- The walk of the program's Judge. -/
import Derived.Test.YtjagijohfkffiaaJudgeP
import Derived.Test.YtjagijohfkffiaaJErr
namespace Go.Proofs.Ytjagijohfkffiaa
open Go.RowKit
set_option linter.unusedVariables false

theorem ndM_of {w : World} {B gn m ncap : Nat} {ns : List Nd} (h : w.ownsRow B 123 3 (.slice (some ⟨gn, 0, none⟩) m ncap) m (flat ns)) (hl : ns.length = m) : NdM w gn ns :=
  ⟨(h.lt _ rfl).2, fun i hi => (h.cellAt (i * 3) (by omega)).trans (flat_get ns i (by omega)).1, fun i hi => (h.cellAt (i * 3 + 1) (by omega)).trans (flat_get ns i (by omega)).2.1, fun i hi => (h.cellAt (i * 3 + 2) (by omega)).trans (flat_get ns i (by omega)).2.2⟩

section
variable (s : ByteArray) (a1 : Option Addr) (l1 c1 : Nat) (z1 : List Int) (w : World)

set_option maxHeartbeats 400000 in
theorem judge_no (hm : s.size ≤ maxLen) (h : (parseOf s).1 ≠ 0) : Calls Try.prog 28 #[.string s, .slice a1 l1 c1] w (RJudged s z1 w) := by
  have E : Hid (judgeErr s z1 = (parseOf s).1) := hid (by unfold judgeErr; rw [if_neg h])
  have C := parse_any s w hm
  unfold Parsed at C
  unfold RJudged
  rw [E.out]
  generalize parseOf s = p at *
  have k : ((p.1 : Int) != 0) = true := by rw [bne_iff_ne]; omega
  go_enter Try.func28, Try.ntmps28
  go_wp2_with fail
  refine C.mono ?_
  rintro e w1 ⟨ao, cap, rfl, _, hb⟩
  go_wp2_with fail
  go_ret2
  exact ⟨0, rfl, fun h1 => absurd h1 h, fun _ => rfl, hb⟩

set_option maxHeartbeats 4000000 in
set_option maxRecDepth 100000 in
theorem judge_yes (hm : s.size ≤ maxLen) (h : (parseOf s).1 = 0) (h1 : Ints w a1 l1 c1 z1) : Calls Try.prog 28 #[.string s, .slice a1 l1 c1] w (RJudged s z1 w) := by
  have E : Hid (judgeErr s z1 = if 40 < z1.length then 5 else if allL z1 = true then 0 else 6) := hid (by unfold judgeErr; rw [if_pos h])
  have C := parse_any s w hm
  unfold Parsed at C
  have G := hid (parse_good h)
  have m1 := h1.hmax
  have m3 := h1.hcap
  have L1 := h1.hlen
  have R1 := fun W (b : Below w.heap.size w W) => allLetters_any a1 l1 c1 z1 W (h1.below b)
  unfold RJudged
  rw [E.out]
  generalize parseOf s = p at *
  obtain ⟨p1, ns⟩ := p
  dsimp only at *
  subst h
  rw [L1]
  by_cases q1 : 40 < l1
  · rw [if_pos q1]
    have k1 : (40 : Int) < (l1 : Int) := by omega
    go_enter Try.func28, Try.ntmps28
    go_wp2_with fail
    refine C.mono ?_
    rintro e w1 ⟨ao, cap, rfl, _, hb⟩
    go_wp2_with fail
    go_ret2
    exact ⟨0, rfl, fun h1 => (by cases h1), fun _ => rfl, hb⟩
  rw [if_neg q1]
  have k1 : ¬ (40 : Int) < (l1 : Int) := by omega
  cases hal : allL z1 with
  | false =>
    rw [hal] at R1
    rw [if_neg (by simp)]
    clear hal
    go_enter Try.func28, Try.ntmps28
    go_wp2_with fail
    refine C.mono ?_
    rintro e w1 ⟨ao, cap, rfl, _, hb⟩
    go_wp2_with fail
    refine (R1 _ hb).mono ?_
    rintro e w2 ⟨rfl, rfl⟩
    go_wp2_with fail
    go_ret2
    exact ⟨0, rfl, fun h1 => (by cases h1), fun _ => rfl, hb⟩
  | true =>
    rw [hal] at R1
    rw [if_pos rfl]
    have HAL := hid hal
    have H1 := hid h1
    clear hal h1
    have hpos := G.out.pos
    obtain ⟨m1', hlen⟩ : ∃ m1', ns.length = m1' + 1 := ⟨ns.length - 1, by omega⟩
    have HLN := hid hlen
    rw [hlen] at C
    clear hlen hpos
    obtain ⟨od, hod, hor⟩ := Try.outUnder
    have HOC := hid Try.outCells
    clear hod hor
    go_enter Try.func28, Try.ntmps28
    go_wp2_with fail
    refine C.mono ?_
    rintro e w1 ⟨ao, cap, rfl, own, hb⟩
    obtain ⟨gn, rfl, _, hgn, _⟩ := own_at own (by omega)
    have ND := hid (ndM_of own HLN.out)
    clear C own
    go_wp2_with fail
    refine (R1 _ hb).mono ?_
    rintro e w2 ⟨rfl, rfl⟩
    clear R1
    go_wp2_with fail
    refine (look_any gn m1' cap ns _ ND.out G.out HLN.out).mono ?_
    rintro e w3 ⟨sl, liv, rfl, hlv, _, hon, hb3⟩
    have HLV := hid hlv
    have HB3 := hid (hb.trans (hb3.mono hb.size))
    have hs3 : w.heap.size ≤ w3.heap.size := HB3.out.size
    clear hlv hb3 ND hb
    have hth : (w3.alloc (.cells Try.zeroCells83 83)).there w3.heap.size 0 2561 := by
      have := raw_new w3 (outC (fun _ => 0) (.slice none 0 0) (fun _ => false) (fun _ => false)) 2561 83
      rw [← HOC.out] at this
      exact this.there 0 2561 (by omega)
    have HTH := hid hth
    clear hth
    go_wp2_with (refine wpList_store_raw rfl 83 (.tmp 8) (.tmp 24) rfl w3.heap.size 2561 (outC (befF ns) sl liv (begB ns liv)) rfl rfl HTH.out Try.outSize (outC_one _ _ _ hon) ?_)
    intro w4 S4
    have OM := hid (outM_of S4.at_)
    have HB4 := hid (S4.bel _ _ hs3 (HB3.out.alloc hs3 (.cells Try.zeroCells83 83)))
    clear S4 HTH HB3
    go_wp2_with fail
    refine (ojudge_any w3.heap.size ns liv (begB ns liv) a1 l1 c1 z1 w4 G.out.le OM.out (H1.out.below HB4.out) HAL.out).mono ?_
    rintro e w5 ⟨rfl, hb5⟩
    have HB5 := hid (HB4.out.trans (hb5.mono HB4.out.size))
    have HV := hid (verdG_verdict G.out HLV.out (nat_lt HAL.out))
    clear hb5 HB4 OM
    go_wp2_with fail
    go_ret2
    exact ⟨_, rfl, fun _ => HV.out, fun h0 => absurd rfl h0, HB5.out⟩

theorem judge_any (hm : s.size ≤ maxLen) (h1 : Ints w a1 l1 c1 z1) : Calls Try.prog 28 #[.string s, .slice a1 l1 c1] w (RJudged s z1 w) := by
  by_cases h : (parseOf s).1 = 0
  · exact judge_yes s a1 l1 c1 z1 w hm h h1
  · exact judge_no s a1 l1 c1 z1 w hm h

end

end Go.Proofs.Ytjagijohfkffiaa
