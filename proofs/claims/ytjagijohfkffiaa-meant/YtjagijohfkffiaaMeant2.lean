/- Meant: the walk. -/
import Derived.Test.YtjagijohfkffiaaComposed
namespace Go.Proofs.Ytjagijohfkffiaa
open Go.RowKit
set_option linter.unusedVariables false

/-- The composed formula holds where 'meant' says. -/
theorem meant_is {k : Nat} (hk : k < 8) {f g : ByteArray} (hf : (parseOf f).1 = 0) (hg : (parseOf g).1 = 0) {A B : List Nat} (hb : 0 < B.length) (h8 : ∀ x ∈ A ++ B, x < 8) (hs : ¬ 24 < (compT k f g).size) (hn : ¬ 8 < compN k (parseOf f).2.length (parseOf g).2.length) :
    hv (compT k f g) A B = meantV k (A.length + B.length) A.length (fun i => hv f (fromAt A B i) B) (fun i => hv g (fromAt A B i) B) := by
  obtain ⟨_, _, h3⟩ := comp_parse hk hf hg
  obtain ⟨p1, p2, p3⟩ := h3 hs hn
  have f8 : ∀ i, ∀ x ∈ fromAt A B i ++ B, x < 8 := fun i x hx => (List.mem_append.1 hx).elim (fun h => (fromAt_mem h).elim (fun h => h8 x (List.mem_append_left _ h)) (fun h => h8 x (List.mem_append_right _ h))) (fun h => h8 x (List.mem_append_right _ h))
  rw [Bool.eq_iff_iff, hv_inf p1 hb h8, p3]
  symm
  refine comp_meant hb (fun t => sem_round hb _ _ t) (fun t => sem_round hb _ _ t) ?_ k hk ?_
  · intro i _
    rw [hv_inf hf hb (f8 i), sem_from hb]
  · intro _ i _
    rw [hv_inf hg hb (f8 i), sem_from hb]

theorem parse_err_nil {s : ByteArray} (h : (parseOf s).1 ≠ 0) : (parseOf s).2.length = 0 := by
  revert h
  unfold parseOf
  split
  · intro _; rfl
  · split
    · intro _; rfl
    · split
      · split
        · intro _; rfl
        · intro h; exact absurd rfl h
      · intro _; rfl

section
variable (f g : ByteArray) (c : Int) (a1 a2 : Option Addr) (l1 c1 l2 c2 : Nat) (z1 z2 : List Int) (w : World)

set_option maxHeartbeats 800000 in
set_option maxRecDepth 100000 in
theorem meant_no (mf : f.size ≤ maxLen) (mg : g.size ≤ maxLen) (hc1 : -9223372036854775808 ≤ c) (hc2 : c ≤ 9223372036854775807) (h1 : Ints w a1 l1 c1 z1) (h2 : Ints w a2 l2 c2 z2) (f1 : Fits z1) (f2 : Fits z2) (he : (parseOf f).1 ≠ 0 ∨ (parseOf g).1 ≠ 0) :
    Calls Try.prog 5 #[.string f, .string g, .int .i64 c, .slice a1 l1 c1, .slice a2 l2 c2] w fun e w' => e = .returned (.bool true) ∧ Below w.heap.size w w' := by
  have K1 := fun W (b : Below w.heap.size w W) => word_any a1 l1 c1 6 z1 W (h1.below b) f1 (by omega)
  have K2 := fun W (b : Below w.heap.size w W) => looped_any a2 l2 c2 6 z2 W (h2.below b) f2 (by omega)
  have SF := fun W => size_any f W mf
  have SG := fun W => size_any g W mg
  have PK := fun W => pick_any c W hc1 hc2
  generalize wordTo z1 (min z1.length 6) = A at *
  generalize loopTo z2 6 = B at *
  generalize (parseOf f).1 = ef at *
  generalize (parseOf g).1 = eg at *
  generalize (parseOf f).2.length = nf at *
  generalize (parseOf g).2.length = ng at *
  generalize pick8 c = k at *
  by_cases h0 : ef = 0
  · have h3 : eg ≠ 0 := by omega
    subst h0
    have ke : ((eg : Int) != 0) = true := by rw [bne_iff_ne]; omega
    clear he
    go_enter Try.func5, Try.ntmps5
    go_wp2_with fail
    refine (holding_any _).mono ?_
    rintro e w1 ⟨rfl, b1⟩
    go_wp2_with fail
    refine (PK _).mono ?_
    rintro e w1' ⟨rfl, rfl⟩
    go_wp2_with fail
    refine (K1 _ b1).mono ?_
    rintro e w2 ⟨oa, ca, rfl, ia, b2⟩
    have B2 := b1.trans (b2.mono b1.size)
    go_wp2_with fail
    refine (K2 _ B2).mono ?_
    rintro e w3 ⟨ob, cb, rfl, ib, b3⟩
    have B3 := B2.trans (b3.mono B2.size)
    go_wp2_with fail
    refine (SF _).mono ?_
    rintro e w4 ⟨rfl, b4⟩
    have B4 := B3.trans (b4.mono B3.size)
    go_wp2_with fail
    refine (SG _).mono ?_
    rintro e w5 ⟨rfl, b5⟩
    have HB5 := hid (B4.trans (b5.mono B4.size))
    clear K1 K2 SF SG PK ia ib b1 b2 b3 b4 b5 B2 B3 B4
    go_wp2_with fail
    go_ret
    exact ⟨rfl, HB5.out⟩
  · have ke : ((ef : Int) != 0) = true := by rw [bne_iff_ne]; omega
    clear he
    go_enter Try.func5, Try.ntmps5
    go_wp2_with fail
    refine (holding_any _).mono ?_
    rintro e w1 ⟨rfl, b1⟩
    go_wp2_with fail
    refine (PK _).mono ?_
    rintro e w1' ⟨rfl, rfl⟩
    go_wp2_with fail
    refine (K1 _ b1).mono ?_
    rintro e w2 ⟨oa, ca, rfl, ia, b2⟩
    have B2 := b1.trans (b2.mono b1.size)
    go_wp2_with fail
    refine (K2 _ B2).mono ?_
    rintro e w3 ⟨ob, cb, rfl, ib, b3⟩
    have B3 := B2.trans (b3.mono B2.size)
    go_wp2_with fail
    refine (SF _).mono ?_
    rintro e w4 ⟨rfl, b4⟩
    have B4 := B3.trans (b4.mono B3.size)
    go_wp2_with fail
    refine (SG _).mono ?_
    rintro e w5 ⟨rfl, b5⟩
    have HB5 := hid (B4.trans (b5.mono B4.size))
    clear K1 K2 SF SG PK ia ib b1 b2 b3 b4 b5 B2 B3 B4
    go_wp2_with fail
    go_ret
    exact ⟨rfl, HB5.out⟩

set_option maxHeartbeats 1600000 in
set_option maxRecDepth 100000 in
theorem meant_yes (mf : f.size ≤ maxLen) (mg : g.size ≤ maxLen) (hc1 : -9223372036854775808 ≤ c) (hc2 : c ≤ 9223372036854775807) (h1 : Ints w a1 l1 c1 z1) (h2 : Ints w a2 l2 c2 z2) (f1 : Fits z1) (f2 : Fits z2) (hf : (parseOf f).1 = 0) (hg : (parseOf g).1 = 0) :
    Calls Try.prog 5 #[.string f, .string g, .int .i64 c, .slice a1 l1 c1, .slice a2 l2 c2] w fun e w' => e = .returned (.bool true) ∧ Below w.heap.size w w' := by
  have K1 := fun W (b : Below w.heap.size w W) => word_any a1 l1 c1 6 z1 W (h1.below b) f1 (by omega)
  have K2 := fun W (b : Below w.heap.size w W) => looped_any a2 l2 c2 6 z2 W (h2.below b) f2 (by omega)
  have SF := fun W => size_any f W mf
  have SG := fun W => size_any g W mg
  have PK := fun W => pick_any c W hc1 hc2
  have hk := pick8_lt c
  have A8 := wordTo_8 z1 (min z1.length 6)
  have B8 := loopTo_8 z2 6
  have Al := word_le z1 6
  have Bl := loopTo_le z2 6 (by omega)
  have Bp := loopTo_pos z2 6
  generalize wordTo z1 (min z1.length 6) = A at *
  generalize loopTo z2 6 = B at *
  generalize pick8 c = k at *
  obtain ⟨sf, _⟩ := parse_ok hf
  obtain ⟨sg, _⟩ := parse_ok hg
  have nf8 := (parse_good hf).le
  have ng8 := (parse_good hg).le
  have CO := fun W => composed_any k hk f g (parseOf f).2.length (parseOf g).2.length W sf sg nf8 ng8
  have hts : (compT k f g).size ≤ 51 := by
    by_cases h4 : k < 4
    · rw [(comp_one h4 f g).1]; omega
    · rw [(comp_two h4 hk f g).1]; omega
  have htm : (compT k f g).size ≤ maxLen := by unfold maxLen; omega
  have ST := fun W => size_any (compT k f g) W htm
  have HT := fun W a l c a' l' c' (i1 : Ints W a l c (intsOf A)) (i2 : Ints W a' l' c' (intsOf B)) => holdsW (compT k f g) htm a a' l c l' c' A B W i1 i2 A8 B8 Bp (by omega) (by omega)
  have PF := fun W a l c a' l' c' (i1 : Ints W a l c (intsOf A)) (i2 : Ints W a' l' c' (intsOf B)) (q : 0 < l') (q1 : l ≤ 40) (q2 : l' ≤ 40) => places_any f mf hf a a' l c l' c' A B W i1 i2 q q1 q2 A8 B8
  have PG := fun W a l c a' l' c' (i1 : Ints W a l c (intsOf A)) (i2 : Ints W a' l' c' (intsOf B)) (q : 0 < l') (q1 : l ≤ 40) (q2 : l' ≤ 40) => places_any g mg hg a a' l c l' c' A B W i1 i2 q q1 q2 A8 B8
  have CP := comp_parse hk hf hg
  have MI := meant_is hk hf hg Bp (fun x hx => (List.mem_append.1 hx).elim (A8 x) (B8 x)) (A := A) (B := B)
  rw [hf] at SF
  rw [hg] at SG
  have HVE : Hid ((parseOf (compT k f g)).1 ≠ 0 → hv (compT k f g) A B = false) := hid (fun h => by unfold hv; rw [if_neg h])
  generalize (fun i => hv f (fromAt A B i) B) = X at *
  generalize (fun i => hv g (fromAt A B i) B) = Z at *
  generalize (parseOf f).2.length = nf at *
  generalize (parseOf g).2.length = ng at *
  have hw10 : compN k nf ng ≤ 17 := by unfold compN; split <;> omega
  generalize compN k nf ng = want at *
  generalize compT k f g = t at *
  obtain ⟨C1, C2, C3⟩ := CP
  have HPK := hid PK
  have HCO := hid CO
  have HST := hid ST
  have HHT := hid HT
  have HPF := hid PF
  have HPG := hid PG
  have HMI := hid MI
  have HC1 := hid C1
  have HC2 := hid C2
  have HC3 := hid (fun a b => (⟨(C3 a b).1, (C3 a b).2.1⟩ : (parseOf t).1 = 0 ∧ (parseOf t).2.length = want))
  clear PK CO ST HT PF PG MI C1 C2 C3 A8 B8
  have main : (∀ (er nn : Nat) (V : Bool), (parseOf t).1 = er → (parseOf t).2.length = nn → hv t A B = V →
      ((24 < t.size ∧ er = 1 ∧ nn = 0 ∧ V = false) ∨ (¬ 24 < t.size ∧ 8 < want ∧ er = 3 ∧ nn = 0 ∧ V = false) ∨ (¬ 24 < t.size ∧ ¬ 8 < want ∧ er = 0 ∧ nn = want ∧ V = meantV k (A.length + B.length) A.length X Z)) →
      Calls Try.prog 5 #[.string f, .string g, .int .i64 c, .slice a1 l1 c1, .slice a2 l2 c2] w fun e w' => e = .returned (.bool true) ∧ Below w.heap.size w w') := by
    intro er nn V e1 e2 e3 hcase
    have HST2 := HST
    have HHT2 := HHT
    rw [e1, e2] at HST2
    rw [e1, e3] at HHT2
    clear HST HHT e1 e2 e3 HVE HC1 HC2 HC3 HMI
    rcases hcase with ⟨hs, rfl, rfl, rfl⟩ | ⟨hs, hw8, rfl, rfl, rfl⟩ | ⟨hs, hw8, rfl, rfl, hV⟩
    · go_enter Try.func5, Try.ntmps5
      go_wp2_with fail
      refine (holding_any _).mono ?_
      rintro e w1 ⟨rfl, b1⟩
      go_wp2_with fail
      refine (HPK.out _).mono ?_
      rintro e w1' ⟨rfl, rfl⟩
      go_wp2_with fail
      refine (K1 _ b1).mono ?_
      rintro e w2 ⟨oa, ca, rfl, ia, b2⟩
      have B2 := b1.trans (b2.mono b1.size)
      go_wp2_with fail
      refine (K2 _ B2).mono ?_
      rintro e w3 ⟨ob, cb, rfl, ib, b3⟩
      have B3 := B2.trans (b3.mono B2.size)
      have ia3 := ia.below b3
      go_wp2_with fail
      refine (SF _).mono ?_
      rintro e w4 ⟨rfl, b4⟩
      have B4 := B3.trans (b4.mono B3.size)
      have ia4 := ia3.below b4
      have ib4 := ib.below b4
      go_wp2_with fail
      refine (SG _).mono ?_
      rintro e w5 ⟨rfl, b5⟩
      have B5 := B4.trans (b5.mono B4.size)
      have ia5 := ia4.below b5
      have ib5 := ib4.below b5
      clear K1 K2 SF SG ia ib ia3 ia4 ib4 b1 b2 b3 b4 b5 B2 B3 B4
      go_wp2_with fail
      refine (HCO.out _).mono ?_
      rintro e w5' ⟨rfl, rfl⟩
      go_wp2_with fail
      refine (HST2.out _).mono ?_
      rintro e w6 ⟨rfl, b6⟩
      have B6 := B5.trans (b6.mono B5.size)
      have ia6 := ia5.below b6
      have ib6 := ib5.below b6
      clear ia5 ib5 b6 B5
      go_wp2_with fail
      refine (HHT2.out _ _ _ _ _ _ _ ia6 ib6).mono ?_
      rintro e w7 ⟨rfl, b7⟩
      have HB7 := hid (B6.trans (b7.mono B6.size))
      clear ia6 ib6 b7 B6
      go_wp2_with fail
      go_ret
      exact ⟨rfl, HB7.out⟩
    · go_enter Try.func5, Try.ntmps5
      go_wp2_with fail
      refine (holding_any _).mono ?_
      rintro e w1 ⟨rfl, b1⟩
      go_wp2_with fail
      refine (HPK.out _).mono ?_
      rintro e w1' ⟨rfl, rfl⟩
      go_wp2_with fail
      refine (K1 _ b1).mono ?_
      rintro e w2 ⟨oa, ca, rfl, ia, b2⟩
      have B2 := b1.trans (b2.mono b1.size)
      go_wp2_with fail
      refine (K2 _ B2).mono ?_
      rintro e w3 ⟨ob, cb, rfl, ib, b3⟩
      have B3 := B2.trans (b3.mono B2.size)
      have ia3 := ia.below b3
      go_wp2_with fail
      refine (SF _).mono ?_
      rintro e w4 ⟨rfl, b4⟩
      have B4 := B3.trans (b4.mono B3.size)
      have ia4 := ia3.below b4
      have ib4 := ib.below b4
      go_wp2_with fail
      refine (SG _).mono ?_
      rintro e w5 ⟨rfl, b5⟩
      have B5 := B4.trans (b5.mono B4.size)
      have ia5 := ia4.below b5
      have ib5 := ib4.below b5
      clear K1 K2 SF SG ia ib ia3 ia4 ib4 b1 b2 b3 b4 b5 B2 B3 B4
      go_wp2_with fail
      refine (HCO.out _).mono ?_
      rintro e w5' ⟨rfl, rfl⟩
      go_wp2_with fail
      refine (HST2.out _).mono ?_
      rintro e w6 ⟨rfl, b6⟩
      have B6 := B5.trans (b6.mono B5.size)
      have ia6 := ia5.below b6
      have ib6 := ib5.below b6
      clear ia5 ib5 b6 B5
      go_wp2_with fail
      refine (HHT2.out _ _ _ _ _ _ _ ia6 ib6).mono ?_
      rintro e w7 ⟨rfl, b7⟩
      have HB7 := hid (B6.trans (b7.mono B6.size))
      clear ia6 ib6 b7 B6
      go_wp2_with fail
      go_ret
      exact ⟨rfl, HB7.out⟩
    · go_enter Try.func5, Try.ntmps5
      go_wp2_with fail
      refine (holding_any _).mono ?_
      rintro e w1 ⟨rfl, b1⟩
      go_wp2_with fail
      refine (HPK.out _).mono ?_
      rintro e w1' ⟨rfl, rfl⟩
      go_wp2_with fail
      refine (K1 _ b1).mono ?_
      rintro e w2 ⟨oa, ca, rfl, ia, b2⟩
      have B2 := b1.trans (b2.mono b1.size)
      go_wp2_with fail
      refine (K2 _ B2).mono ?_
      rintro e w3 ⟨ob, cb, rfl, ib, b3⟩
      have B3 := B2.trans (b3.mono B2.size)
      have ia3 := ia.below b3
      go_wp2_with fail
      refine (SF _).mono ?_
      rintro e w4 ⟨rfl, b4⟩
      have B4 := B3.trans (b4.mono B3.size)
      have ia4 := ia3.below b4
      have ib4 := ib.below b4
      go_wp2_with fail
      refine (SG _).mono ?_
      rintro e w5 ⟨rfl, b5⟩
      have B5 := B4.trans (b5.mono B4.size)
      have ia5 := ia4.below b5
      have ib5 := ib4.below b5
      clear K1 K2 SF SG ia ib ia3 ia4 ib4 b1 b2 b3 b4 b5 B2 B3 B4
      go_wp2_with fail
      refine (HCO.out _).mono ?_
      rintro e w5' ⟨rfl, rfl⟩
      go_wp2_with fail
      refine (HST2.out _).mono ?_
      rintro e w6 ⟨rfl, b6⟩
      have B6 := B5.trans (b6.mono B5.size)
      have ia6 := ia5.below b6
      have ib6 := ib5.below b6
      clear ia5 ib5 b6 B5
      go_wp2_with fail
      refine (HHT2.out _ _ _ _ _ _ _ ia6 ib6).mono ?_
      rintro e w7 ⟨rfl, b7⟩
      have B7 := B6.trans (b7.mono B6.size)
      have ia7 := ia6.below b7
      have ib7 := ib6.below b7
      clear ia6 ib6 b7 B6
      go_wp2_with fail
      refine (HPF.out _ _ _ _ _ _ _ ia7 ib7 Bp (by omega) (by omega)).mono ?_
      rintro e w8 ⟨gf, cf, rfl, rf, hcf, b8⟩
      have B8 := B7.trans (b8.mono B7.size)
      have ia8 := ia7.below b8
      have ib8 := ib7.below b8
      clear ia7 ib7 b8 B7
      go_wp2_with fail
      refine (HPG.out _ _ _ _ _ _ _ ia8 ib8 Bp (by omega) (by omega)).mono ?_
      rintro e w9 ⟨gg, cg, rfl, rg, hcg, b9⟩
      have HB9 := hid (B8.trans (b9.mono B8.size))
      have rf9 := rf.below b9
      have MA := hid (meant_any k hk gf gg (A.length + B.length) cf cg A.length X Z w9 rf9 rg (by omega) (by omega) (by omega) hcf hcg)
      clear ia8 ib8 b9 B8 rf rf9 rg
      go_wp2_with fail
      refine MA.out.mono ?_
      rintro e w10 ⟨rfl, rfl⟩
      generalize meantV k (A.length + B.length) A.length X Z = mv at *
      subst hV
      clear MA
      go_wp2_with fail
      go_ret
      exact ⟨rfl, HB9.out⟩
  by_cases hs : 24 < t.size
  · have hp := HC1.out hs
    refine main 1 0 false (by rw [hp]) (by rw [hp]; rfl) (HVE.out (by rw [hp]; decide)) (Or.inl ⟨hs, rfl, rfl, rfl⟩)
  by_cases hw8 : 8 < want
  · have hp := HC2.out hs hw8
    refine main 3 0 false (by rw [hp]) (by rw [hp]; rfl) (HVE.out (by rw [hp]; decide)) (Or.inr (Or.inl ⟨hs, hw8, rfl, rfl, rfl⟩))
  · obtain ⟨p1, p2⟩ := HC3.out hs hw8
    exact main 0 want _ p1 p2 rfl (Or.inr (Or.inr ⟨hs, hw8, rfl, rfl, HMI.out hs hw8⟩))

theorem meant_all (mf : f.size ≤ maxLen) (mg : g.size ≤ maxLen) (hc1 : -9223372036854775808 ≤ c) (hc2 : c ≤ 9223372036854775807) (h1 : Ints w a1 l1 c1 z1) (h2 : Ints w a2 l2 c2 z2) (f1 : Fits z1) (f2 : Fits z2) :
    Calls Try.prog 5 #[.string f, .string g, .int .i64 c, .slice a1 l1 c1, .slice a2 l2 c2] w fun e w' => e = .returned (.bool true) ∧ Below w.heap.size w w' := by
  by_cases hf : (parseOf f).1 = 0
  · by_cases hg : (parseOf g).1 = 0
    · exact meant_yes f g c a1 a2 l1 c1 l2 c2 z1 z2 w mf mg hc1 hc2 h1 h2 f1 f2 hf hg
    · exact meant_no f g c a1 a2 l1 c1 l2 c2 z1 z2 w mf mg hc1 hc2 h1 h2 f1 f2 (Or.inr hg)
  · exact meant_no f g c a1 a2 l1 c1 l2 c2 z1 z2 w mf mg hc1 hc2 h1 h2 f1 f2 (Or.inl hf)
end

end Go.Proofs.Ytjagijohfkffiaa
