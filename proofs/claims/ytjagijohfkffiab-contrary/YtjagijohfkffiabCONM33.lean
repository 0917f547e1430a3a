import Derived.Test.YtjagijohfkffiabCONM23
import Derived.Test.YtjagijohfkffiabCONM32
import Derived.Deep.RegionHeld3
import Derived.ProofKit
import Derived.OpenShut
import Derived.ShutString
import Derived.ChangeOld

/- The walk of Contrary. -/
namespace Go.Proofs.Ytjagijohfkffiab
open Go.RowKit
set_option linter.unusedVariables false

/-- What Watch answers of a formula: the states, none if they are too many. -/
def WatchU (ns : List Nd) (er : Nat) (ss : List St) : Prop := (er = 0 ∧ MachS ns ss) ∨ (er = 7 ∧ ss = [] ∧ Big ns)
theorem watched_uni {s : ByteArray} {w w' : World} {e : Ending} (h : Watched s w e w') (h0 : (parseOf s).1 = 0) :
    ∃ er ss V v1 v2, e = .returned (.tuple #[.agg #[v1, v2], .int .i64 (er : Nat)]) ∧ Lies w' w.heap.size v1 v2 V ss ss.length ∧ Eight ss ∧ ss.length ≤ 8 ∧ WatchU (parseOf s).2 er ss ∧ Below w.heap.size w w' := by
  obtain ⟨v1, v2, er, rfl, _, q, hb⟩ := h
  rcases q h0 with ⟨rfl, ss, V, hL, hE, h8, hM⟩ | ⟨rfl, rfl, rfl, hB⟩
  · exact ⟨0, ss, V, v1, v2, rfl, hL, hE, h8, Or.inl ⟨rfl, hM⟩, hb⟩
  · exact ⟨7, [], fun _ => undef, _, _, rfl, lies_none _ _ _ _, fun s hs => by simp at hs, by simp, Or.inr ⟨rfl, rfl, hB⟩, hb⟩
theorem small_not {ns : List Nd} {ss : List St} (h : MachS ns ss) (h8 : ss.length ≤ 8) : ¬ Big ns := fun hb => by
  obtain ⟨out, nx, hM, _⟩ := h
  have := hb _ _ _ hM
  omega
theorem watchU_neg {ns : List Nd} {er er' : Nat} {ss ss' : List St} (h : WatchU ns er ss) (k : WatchU (negN ns) er' ss') (h8 : ss.length ≤ 8) (k8 : ss'.length ≤ 8) : er' = er ∧ ss' = ss.map negS := by
  rcases h with ⟨rfl, hM⟩ | ⟨rfl, rfl, hB⟩
  · rcases k with ⟨rfl, kM⟩ | ⟨rfl, rfl, kB⟩
    · exact ⟨rfl, neg_states hM kM⟩
    · exact absurd (neg_big.1 kB) (small_not hM h8)
  · rcases k with ⟨rfl, kM⟩ | ⟨rfl, rfl, kB⟩
    · exact absurd (neg_big.2 hB) (small_not kM k8)
    · exact ⟨rfl, rfl⟩
theorem watchU_out {ns : List Nd} {er : Nat} {ss : List St} (h : WatchU ns er ss) {i : Nat} (hi : i < ss.length) : ∃ o : Nat, (stAt ss i).out = (o : Int) ∧ (o = 0 ∨ o = 1 ∨ o = 2) := by
  rcases h with ⟨rfl, out, nx, hM, hs⟩ | ⟨rfl, rfl, _⟩
  · refine ⟨out i, ?_, mach_tells hM hi⟩
    rw [show stAt ss i = stK (out i) (nx i) by simp [stAt, List.getD, hs i hi]]
    rfl
  · simp at hi

/-- The Out, the first z of them the other way round. -/
def mixO (ss : List St) (z : Nat) : List Int := (List.range ss.length).map fun i => if i < z then (negS (stAt ss i)).out else (stAt ss i).out
theorem neg_at {ss : List St} {i : Nat} (hi : i < ss.length) : stAt (ss.map negS) i = negS (stAt ss i) := by simp [stAt, List.getD, hi]
theorem mixO_all (ss : List St) : mixO ss ss.length = outsTo (ss.map negS) ss.length := by
  unfold mixO outsTo
  apply List.map_congr_left
  intro i hi
  have hi : i < ss.length := by simpa using hi
  rw [if_pos hi, neg_at hi]
theorem next_neg (ss : List St) : nextTo (ss.map negS) ss.length = nextTo ss ss.length := by
  unfold nextTo
  apply List.map_congr_left
  intro i hi
  have hi : i < ss.length := by simpa using hi
  rw [neg_at hi]
  rfl
theorem mixO_set (ss : List St) {z : Nat} (hz : z < ss.length) : (intVs (mixO ss z)).set z (.int .i64 (negS (stAt ss z)).out) = intVs (mixO ss (z + 1)) := by
  apply List.ext_getElem
  · simp [intVs, mixO]
  · intro i h1 h2
    have hi : i < ss.length := by simpa [intVs, mixO] using h2
    rw [List.getElem_set]
    by_cases e : z = i
    · subst e
      simp [intVs, mixO]
    · rw [if_neg e]
      simp only [intVs, mixO, List.getElem_map, List.getElem_range]
      by_cases c : i < z
      · rw [if_pos c, if_pos (by omega)]
      · rw [if_neg c, if_neg (by omega)]
theorem mixO_get (ss : List St) {z : Nat} (hz : z < ss.length) : (intVs (mixO ss z))[z]? = some (.int .i64 (stAt ss z).out) := by
  simp [intVs, mixO, hz]

/-- The states, the first z of them the other way round. -/
def mixS (ss : List St) (z : Nat) : List St := (List.range ss.length).map fun i => if i < z then negS (stAt ss i) else stAt ss i
theorem mixS_at (ss : List St) (z : Nat) {i : Nat} (hi : i < ss.length) : stAt (mixS ss z) i = if i < z then negS (stAt ss i) else stAt ss i := by simp [mixS, stAt, List.getD, hi]
theorem mixS_zero (ss : List St) : mixS ss 0 = ss := by
  apply List.ext_getElem
  · simp [mixS]
  · intro i h1 h2
    simp [mixS, stAt, List.getD, List.getElem?_eq_getElem h2]
theorem outs_mix (ss : List St) (z : Nat) : outsTo (mixS ss z) ss.length = mixO ss z := by
  unfold outsTo mixO
  apply List.map_congr_left
  intro i hi
  have hi : i < ss.length := by simpa using hi
  rw [mixS_at ss z hi]
  split <;> rfl
theorem next_mix (ss : List St) (z : Nat) : nextTo (mixS ss z) ss.length = nextTo ss ss.length := by
  unfold nextTo
  apply List.map_congr_left
  intro i hi
  have hi : i < ss.length := by simpa using hi
  rw [mixS_at ss z hi]
  split <;> rfl

/-- The lists of a machine, in a world that differs in the block of its Out alone. -/
theorem Lies.but {w w' : World} {B : Nat} {v1 v2 : Value} {V : Nat → Value} {ss : List St} {j : Nat} (h : Lies w B v1 v2 V ss j) {g : Nat} (hv : v1.ownBlock = some g) (hb : ButAt g w w') (os : List Int) (ho : w'.ownsRow B 3 1 v1 j (intVs os)) (ss' : List St) (hs : outsTo ss' j = os) (hn : nextTo ss' j = nextTo ss j) : Lies w' B v1 v2 V ss' j := by
  refine ⟨by rw [hs]; exact ho, own_but h.nxt hb ?_, fun i hi => ?_, h.sep, h.far⟩
  · rcases own_ne' h.nxt h.out (by decide) with e | e
    · rw [e]; simp
    · rw [← hv]; exact e
  · have e : (stAt ss' i).next = (stAt ss i).next := by
      have h1 : (nextTo ss' j)[i]? = (nextTo ss j)[i]? := by rw [hn]
      simpa [nextTo, hi] using h1
    rw [e]
    exact own_but (h.row i hi) hb (fun e => h.far i hi (by rw [hv, e]))
theorem Lies.apart {w w' : World} {B : Nat} {v1 v2 : Value} {V : Nat → Value} {ss : List St} {j : Nat} (h : Lies w B v1 v2 V ss j) {g : Nat} (hg : g < B) (hb : ButAt g w w') : Lies w' B v1 v2 V ss j :=
  ⟨own_but h.out hb (fun e => by have := (h.out.lt g e).1; omega), own_but h.nxt hb (fun e => by have := (h.nxt.lt g e).1; omega), fun i hi => own_but (h.row i hi) hb (fun e => by have := ((h.row i hi).lt g e).1; omega), h.sep, h.far⟩

set_option maxHeartbeats 4000000 in
set_option maxRecDepth 100000 in
theorem contrary_core (s : ByteArray) (a1 : Option Addr) (l1 c1 : Nat) (z1 : List Int) (w : World) (hm : s.size ≤ maxLen) (h1 : Ints w a1 l1 c1 z1) (f1 : Fits z1) :
    Calls Try.prog 3 #[.string s, .slice a1 l1 c1] w fun e w' => e = .returned (.bool true) ∧ Below w.heap.size w w' := by
  have K1 := hid (fun W (b : Below w.heap.size w W) => word_any a1 l1 c1 40 z1 W (h1.below b) f1 (by omega))
  have A8 := wordTo_8 z1 (min z1.length 40)
  have Al := word_le z1 40
  generalize wordTo z1 (min z1.length 40) = A at *
  have SZ := hid (fun W => size_any s W hm)
  by_cases hbad : (parseOf s).1 ≠ 0 ∨ 8 ≤ (parseOf s).2.length ∨ 24 ≤ s.size
  · have HE := hid hbad
    generalize (parseOf s).1 = er at *
    generalize (parseOf s).2.length = n at *
    generalize hss : s.size = sz at *
    clear hbad A8 Al K1
    go_enter Try.func3, Try.ntmps3
    go_wp2_with fail
    refine (judging_any _).mono ?_
    rintro e w1 ⟨rfl, b1⟩
    go_wp2_with fail
    refine (watching_any _).mono ?_
    rintro e w2 ⟨rfl, b2⟩
    have B2 := b1.trans (b2.mono b1.size)
    go_wp2_with fail
    refine (classing_any _).mono ?_
    rintro e w3 ⟨rfl, b3⟩
    have B3 := B2.trans (b3.mono B2.size)
    go_wp2_with fail
    refine (SZ.out _).mono ?_
    rintro e w4 ⟨rfl, b4⟩
    have HB4 := hid (B3.trans (b4.mono B3.size))
    clear b1 b2 b3 b4 B2 B3
    by_cases e0 : er = 0
    · subst e0
      by_cases e1 : 8 ≤ n
      · have k1 : (8 : Int) ≤ (n : Int) := by omega
        go_wp2_with fail
        go_ret
        exact ⟨rfl, HB4.out⟩
      · have k1 : decide ((8 : Int) ≤ (n : Int)) = false := by simp; omega
        have k1n : decide (8 ≤ n) = false := by simp; omega
        have e2 : 24 ≤ sz := by have := HE.out; omega
        have k2 : (24 : Int) ≤ (sz : Int) := by omega
        go_wp2_with fail
        go_ret
        exact ⟨rfl, HB4.out⟩
    · have ke : ((er : Int) != 0) = true := by rw [bne_iff_ne]; omega
      go_wp2_with fail
      go_ret
      exact ⟨rfl, HB4.out⟩
  · have h0 : (parseOf s).1 = 0 := Classical.byContradiction fun c => hbad (Or.inl c)
    have hn : (parseOf s).2.length < 8 := Nat.lt_of_not_le fun c => hbad (Or.inr (Or.inl c))
    have hs : s.size < 24 := Nat.lt_of_not_le fun c => hbad (Or.inr (Or.inr c))
    clear hbad
    have hpn : parseOf (⟨#[33]⟩ ++ s) = (0, negN (parseOf s).2) := parse_neg h0 hn hs
    have hmn : (⟨#[33]⟩ ++ s : ByteArray).size ≤ maxLen := by
      have := negT_size s
      unfold negT at this
      rw [this]
      unfold maxLen
      omega
    have CW := hid (fun W => (watch_any s W hm).mono fun e w' h => watched_uni h h0)
    have CN := hid (fun W => (watch_any (⟨#[33]⟩ ++ s) W hmn).mono fun e w' h => watched_uni h (by rw [hpn]))
    have JF := hid (fun W a l c (I : Ints W a l c (intsOf A)) => judgeL s hm a l c A W I A8 (by omega))
    have JN := hid (fun W a l c (I : Ints W a l c (intsOf A)) => judgeL (⟨#[33]⟩ ++ s) hmn a l c A W I A8 (by omega))
    have CF := hid (fun W => class_any s W hm)
    have CC := hid (fun W => class_any (⟨#[33]⟩ ++ s) W hmn)
    unfold Classed at CF CC
    rw [hpn] at CN JN CC
    generalize parseOf s = p at *
    obtain ⟨p1, ns⟩ := p
    dsimp only at *
    subst h0
    have k1 : decide ((8 : Int) ≤ (ns.length : Int)) = false := by simp; omega
    have k1n : decide (8 ≤ ns.length) = false := by simp; omega
    have k2 : decide ((24 : Int) ≤ (s.size : Int)) = false := by simp; omega
    have k2n : decide (24 ≤ s.size) = false := by simp; omega
    clear hpn
    go_enter Try.func3, Try.ntmps3
    go_wp2_with fail
    refine (judging_any _).mono ?_
    rintro e w1 ⟨rfl, b1⟩
    go_wp2_with fail
    refine (watching_any _).mono ?_
    rintro e w2 ⟨rfl, b2⟩
    have B2 := b1.trans (b2.mono b1.size)
    go_wp2_with fail
    refine (classing_any _).mono ?_
    rintro e w3 ⟨rfl, b3⟩
    have B3 := B2.trans (b3.mono B2.size)
    go_wp2_with fail
    refine (SZ.out _).mono ?_
    rintro e w4 ⟨rfl, b4⟩
    have HB4 := hid (B3.trans (b4.mono B3.size))
    clear b1 b2 b3 b4 B2 B3
    go_wp2_with fail
    refine (K1.out _ HB4.out).mono ?_
    rintro e w5 ⟨oa, ca, rfl, ia, b5⟩
    have HB5 := hid (HB4.out.trans (b5.mono HB4.out.size))
    have HIA := hid ia
    clear b5 ia HB4 K1
    go_wp2_with fail
    refine (JF.out _ _ _ _ HIA.out).mono ?_
    rintro e w6 ⟨v, rfl, pv, _, b6⟩
    have HPV := hid (pv (by first | rfl | trivial))
    have HB6 := hid (HB5.out.trans (b6.mono HB5.out.size))
    have HIA6 := hid (HIA.out.below b6)
    clear b6 pv HB5 HIA
    go_wp2_with fail
    refine (JN.out _ _ _ _ HIA6.out).mono ?_
    rintro e w7 ⟨u, rfl, pu, _, b7⟩
    have huv : u = otherV v := verdict_fun (pu (by first | rfl | trivial)) (neg_verdict A8 HPV.out)
    have hv3 := verdict_lt HPV.out
    subst huv
    have HB7 := hid (HB6.out.trans (b7.mono HB6.out.size))
    clear b7 pu HB6 HIA6 HPV JF JN A8
    go_wp2_with fail
    refine (CF.out _).mono ?_
    rintro e w8 ⟨sf, co, lv, rfl, kf, _, b8⟩
    have HKF := hid (kf (by first | rfl | trivial))
    have bc8 := (Below.refl w8.heap.size w8).alloc (Nat.le_refl _) (.cells #[.bool sf, .bool co, .bool lv] 30)
    have T8 := hid (three_new w8 (.bool sf) (.bool co) (.bool lv) 30)
    have HB8 := hid ((HB7.out.trans (b8.mono HB7.out.size)).trans (bc8.mono (by have := HB7.out.size; have := b8.size; omega)))
    clear kf b8 bc8 HB7 CF
    go_wp2_with fail
    refine (CC.out _).mono ?_
    rintro e w9 ⟨sf', co', lv', rfl, kc, _, b9⟩
    obtain ⟨rfl, rfl⟩ := neg_kind HKF.out (kc (by first | rfl | trivial))
    simp only [World.size_alloc] at b9
    have T9 := hid (T8.out.below b9 (by omega))
    have HB9 := hid (HB8.out.trans (b9.mono (by have := HB8.out.size; simp at this; omega)))
    have bc9 := (Below.refl w9.heap.size w9).alloc (Nat.le_refl _) (.cells #[.bool sf', .bool co', .bool lv'] 30)
    have U9 := hid (three_new w9 (.bool sf') (.bool co') (.bool lv') 30)
    have hT9 := T9.out.lt
    have HB9s : w.heap.size ≤ w9.heap.size := HB9.out.size
    have T9' := hid (T9.out.below bc9 hT9)
    have HB9' := hid (HB9.out.trans (bc9.mono HB9.out.size))
    clear kc b9 bc9 HKF T8 HB8 CC T9 HB9
    go_wp2_with fail
    refine (CW.out _).mono ?_
    rintro e w10 ⟨er, ss, V, v1, v2, rfl, hL, hE, h8, hU, b10⟩
    simp only [World.size_alloc] at b10 hL
    have T10 := hid (T9'.out.below b10 (by omega))
    have U10 := hid (U9.out.below b10 (by omega))
    have HB10 := hid (HB9'.out.trans (b10.mono (by have := HB9'.out.size; simp at this; omega)))
    have bc10 := (Below.refl w10.heap.size w10).alloc (Nat.le_refl _) (.cells #[v1, v2] 35)
    have M10 := hid (two_new w10 v1 v2 35)
    have hT10 := T10.out.lt
    have hU10 := U10.out.lt
    have T11 := hid (T10.out.below bc10 hT10)
    have U11 := hid (U10.out.below bc10 hU10)
    have HL := hid (hL.keeps bc10)
    have HB11 := hid (HB10.out.trans (bc10.mono HB10.out.size))
    obtain ⟨a5, c5, rfl, I5⟩ := hL.ints
    obtain ⟨a6, c6, rfl, L6⟩ := hL.lists
    have HU := hid hU
    have hsw9 : w9.heap.size + 1 ≤ w10.heap.size := by have := b10.size; simp at this; omega
    have HG := hid (fun k h => hL.out.lt k h)
    clear hL hU b10 bc10 T9' U9 HB9' T10 U10 HB10 CW I5 L6
    go_wp2_with fail
    refine (CN.out _).mono ?_
    rintro e w12 ⟨er', ss', V', v3, v4, rfl, hL', hE', h8', hU', b12⟩
    obtain ⟨rfl, rfl⟩ := watchU_neg HU.out hU' h8 h8'
    simp only [World.size_alloc] at b12 hL'
    rw [List.length_map] at hL'
    have bc12 := (Below.refl w12.heap.size w12).alloc (Nat.le_refl _) (.cells #[v3, v4] 35)
    have N12 := hid (two_new w12 v3 v4 35)
    have T12 := (T11.out.below b12 (by omega))
    have U12 := (U11.out.below b12 (by omega))
    have M12 := M10.out.below b12 (by omega)
    have T13 := hid (T12.below bc12 T12.lt)
    have U13 := hid (U12.below bc12 U12.lt)
    have M13 := hid (M12.below bc12 M12.lt)
    have HL13 := hid ((HL.out.keeps (by simpa using b12)).keeps bc12)
    have HL13' := hid (hL'.keeps bc12)
    have HB12 := HB11.out.trans (b12.mono (by have := HB11.out.size; simp at this; omega))
    have HB13 := hid (HB12.trans (bc12.mono HB12.size))
    obtain ⟨a7, c7, rfl, I7⟩ := hL'.ints
    obtain ⟨a8, c8, rfl, L8⟩ := hL'.lists
    have hs12 := b12.size
    have hM12 := M12.lt
    have HB10s : w.heap.size ≤ w9.heap.size + 1 := by have := HB9s; omega
    clear hL' hU' b12 bc12 T12 U12 M12 HB12 T11 U11 M10 HL HB11 CN I7 L8
    have x0 := T13.out.c0
    have x1 := T13.out.c1
    have y0 := U13.out.c0
    have y1 := U13.out.c1
    have z0 := M13.out.c0
    have z1' := M13.out.c1
    have t0 := N12.out.c0
    have t1 := N12.out.c1
    have ks : (sf' != sf') = false := by simp
    have kc : (co' != co') = false := by simp
    have ke : ((er' : Int) != (er' : Int)) = false := by simp
    have kl : ((ss.length : Int) != (ss.length : Int)) = false := by simp
    have ko : ((otherV v : Int) != (otherV v : Int)) = false := by simp
    go_wp2_with fail
    generalize hW13 : (w12.alloc (.cells #[.slice a7 ss.length c7, .slice a8 ss.length c8] 35)) = W13 at *
    have hsz13 : W13.heap.size = w12.heap.size + 1 := by rw [← hW13]; simp
    clear hW13
    refine (other_any v _ hv3).mono ?_
    rintro e w14 ⟨rfl, rfl⟩
    have L0 : Hid (Lies w14 (w9.heap.size + 1) (.slice a5 ss.length c5) (.slice a6 ss.length c6) V (mixS ss 0) ss.length) := hid (by rw [mixS_zero]; exact HL13.out)
    simp only [World.size_alloc] at hs12
    clear HL13
    have HNN := hid (show ss.length = ss.length from rfl)
    generalize hn9 : ss.length = n at *
    have HN9 := hid hn9
    clear hn9 HNN
    go_wp2_with fail
    go_loopw [23] (fun x wq => ∃ z : Nat, z ≤ n ∧ x = .int .i64 z ∧ Hid (Lies wq (w9.heap.size + 1) (.slice a5 n c5) (.slice a6 n c6) V (mixS ss z) n) ∧ Hid (Lies wq (w10.heap.size + 1) (.slice a7 n c7) (.slice a8 n c8) V' (ss.map negS) n) ∧ Hid (Two wq w10.heap.size (.slice a5 n c5) (.slice a6 n c6)) ∧ Hid (Two wq w12.heap.size (.slice a7 n c7) (.slice a8 n c8)) ∧ Hid (Below w.heap.size w wq)) (fun x _ => n - (intOf x).toNat)
    case atStart => exact ⟨0, Nat.zero_le _, rfl, L0, HL13', M13, N12, HB13⟩
    case round =>
      obtain ⟨z, hz, rfl, HL1, HL2, HM, HN, HB⟩ := hrel
      rename World => W0
      clear L0 HL13' M13 N12 HB13 x0 x1 y0 y1 z0 z1' t0 t1 T13 U13
      have z0 := HM.out.c0
      have z1' := HM.out.c1
      have t0 := HN.out.c0
      have t1 := HN.out.c1
      by_cases hlz : z < n
      · have hzs : z < ss.length := by rw [HN9.out]; exact hlz
        obtain ⟨g5, e5, _, h5lt, _⟩ := own_at' HL1.out.out (by omega)
        obtain ⟨g7, e7, _, h7lt, _⟩ := own_at' HL2.out.out (by omega)
        cases e5
        cases e7
        obtain ⟨hg5a, hg5b⟩ := HG.out g5 rfl
        have hg7 := (HL2.out.out.lt g7 rfl).1
        obtain ⟨o, ho, ho3⟩ := watchU_out HU.out hzs
        have hoN : (negS (stAt ss z)).out = (otherV o : Int) := by
          unfold negS
          rw [ho]
          rcases ho3 with rfl | rfl | rfl <;> rfl
        have m1 : W0.cell? ⟨g5, z, none⟩ = some (.int .i64 (o : Nat)) := by
          rw [HL1.out.out.cellAt z (by omega), ← HN9.out, outs_mix, mixO_get ss hzs, ho]
        have m1f := HL1.out.out.frozenAt z
        have m2 : W0.cell? ⟨g7, z, none⟩ = some (.int .i64 (otherV o : Nat)) := by
          rw [HL2.out.out.cellAt z (by omega)]
          simp only [intVs, outsTo, List.getElem?_map, List.getElem?_range hlz, Option.map_some]
          rw [neg_at hzs, hoN]
        have m1' : ∀ q, (W0.drewN q).cell? ⟨g5, z, none⟩ = some (.int .i64 (o : Nat)) := fun q => m1
        have m1f' : ∀ q, (W0.drewN q).frozen? ⟨g5, z, none⟩ = false := fun q => m1f
        have m2' : ∀ q, (W0.drewN q).cell? ⟨g7, z, none⟩ = some (.int .i64 (otherV o : Nat)) := fun q => m2
        have z0' : ∀ q, (W0.drewN q).cell? ⟨w10.heap.size, 0, none⟩ = some (.slice (some ⟨g5, 0, none⟩) n c5) := fun q => z0
        have t0' : ∀ q, (W0.drewN q).cell? ⟨w12.heap.size, 0, none⟩ = some (.slice (some ⟨g7, 0, none⟩) n c7) := fun q => t0
        have ko : ((otherV o : Int) != (otherV o : Int)) = false := by simp
        have i1 : (0 : Int) ≤ (z : Int) := Int.natCast_nonneg _
        have i2 : (z : Int) < (n : Int) := by omega
        have NX : Hid (∀ q, ∃ W1, W1 = ((W0.drewN q).setCell ⟨g5, z, none⟩ (.int .i64 (otherV o : Nat))).drew ∧ Lies W1 (w9.heap.size + 1) (.slice (some ⟨g5, 0, none⟩) n c5) (.slice a6 n c6) V (mixS ss (z + 1)) n ∧ Lies W1 (w10.heap.size + 1) (.slice (some ⟨g7, 0, none⟩) n c7) (.slice a8 n c8) V' (ss.map negS) n ∧ Two W1 w10.heap.size (.slice (some ⟨g5, 0, none⟩) n c5) (.slice a6 n c6) ∧ Two W1 w12.heap.size (.slice (some ⟨g7, 0, none⟩) n c7) (.slice a8 n c8) ∧ Below w.heap.size w W1) := hid (fun q => by
          have hst := HL1.out.out.stored z (.int .i64 (otherV o : Nat))
          have bt : ButAt g5 W0 ((W0.drewN q).setCell ⟨g5, z, none⟩ (.int .i64 (otherV o : Nat))).drew := by
            have h1 : ButAt g5 W0 (W0.setCell ⟨g5, z, none⟩ (.int .i64 (otherV o : Nat))) := (ButAt.refl g5 W0).grown hst.2
            exact ⟨h1.size, h1.block⟩
          have ow : ((W0.drewN q).setCell ⟨g5, z, none⟩ (.int .i64 (otherV o : Nat))).drew.ownsRow (w9.heap.size + 1) 3 1 (.slice (some ⟨g5, 0, none⟩) n c5) n (intVs (mixO ss (z + 1))) := by
            have h1 := hst.1
            rw [← HN9.out, outs_mix, ← hoN, mixO_set ss hzs, HN9.out, hoN] at h1
            exact h1
          refine ⟨_, rfl, HL1.out.but rfl bt _ ow _ ?_ ?_, HL2.out.apart (by omega) bt, ?_, ?_, ?_⟩
          · rw [← HN9.out, outs_mix]
          · rw [← HN9.out, next_mix, next_mix]
          · have X := (HM.out.below (below_drewN (Below.refl W0.heap.size W0) q) HM.out.lt).other (k := g5) (o := z) (by omega) (.int .i64 (otherV o : Nat))
            exact X.below (below_drewN (Below.refl _ _) 1) X.lt
          · have X := (HN.out.below (below_drewN (Below.refl W0.heap.size W0) q) HN.out.lt).other (k := g5) (o := z) (by omega) (.int .i64 (otherV o : Nat))
            exact X.below (below_drewN (Below.refl _ _) 1) X.lt
          · exact below_drewN ((below_drewN HB.out q).setCell (p := ⟨g5, z, none⟩) (by show w.heap.size ≤ g5; have := HB10s; omega) _) 1)
        clear m1 m1f m2
        go_wp2_with fail
        go_quiet ((go_at_call 15; exact Calls.quiet_of_same (other_any o _ ho3)))
        have m1 := m1' nq
        have m1f := m1f' nq
        have m2 := m2' nq
        have z0 := z0' nq
        have t0 := t0' nq
        obtain ⟨W1, eW, n1, n2, n3, n4, n5⟩ := NX.out nq
        have N1 := hid n1
        have N2 := hid n2
        have N3 := hid n3
        have N4 := hid n4
        have N5 := hid n5
        have s0 := n3.c0
        have s1 := n4.c0
        have s2 : W1.cell? ⟨g7, z, none⟩ = some (.int .i64 (otherV o : Nat)) := by
          rw [n2.out.cellAt z (by omega)]
          simp only [intVs, outsTo, List.getElem?_map, List.getElem?_range hlz, Option.map_some]
          rw [neg_at hzs, hoN]
        subst eW
        clear n1 n2 n3 n4 n5 NX m1' m1f' m2' z0' t0' z1' t1 hoN ho HM HN HL1 HL2
        generalize W0.drewN nq = W2 at *
        go_wp2_with fail
        go_region_held3 (fun w' => w'.cell? ⟨w10.heap.size, 0, none⟩ = some (.slice (some ⟨g5, 0, none⟩) n c5) ∧ w'.cell? ⟨w12.heap.size, 0, none⟩ = some (.slice (some ⟨g7, 0, none⟩) n c7) ∧ w'.cell? ⟨g7, z, none⟩ = some (.int .i64 (otherV o : Nat)))
          (first
            | go_keep
            | exact ⟨s0, s1, s2⟩)
          (fail)
        go_wp2_with fail
        go_roundw
        case rel => exact ⟨z + 1, by omega, by go_num, N1, N2, N3, N4, N5⟩
        case measure => simp [intOf] <;> omega
      · obtain rfl : z = n := by omega
        have HE1 : Hid (Lies W0 (w9.heap.size + 1) (.slice a5 z c5) (.slice a6 z c6) V (mixS ss z) z) := HL1
        obtain ⟨a5', c5', e5, I5⟩ := HL1.out.ints
        obtain ⟨a6', c6', e6, I6⟩ := HL1.out.lists
        obtain ⟨a7', c7', e7, I7⟩ := HL2.out.ints
        obtain ⟨a8', c8', e8, I8⟩ := HL2.out.lists
        cases e5
        cases e6
        cases e7
        cases e8
        have q1 : outsTo (mixS ss z) z = outsTo (ss.map negS) z := by rw [← HN9.out, outs_mix, mixO_all]
        have q2 : nextTo (mixS ss z) z = nextTo (ss.map negS) z := by rw [← HN9.out, next_mix, next_neg]
        rw [q1] at I5
        rw [q2] at I6
        have KS := ksame_yes a5 a6 a7 a8 z c5 z c6 c7 c8 _ _ W0 I5 I6 I7 I8
        clear I5 I6 I7 I8 q1 q2 HE1
        go_wp2_with fail
        refine KS.mono ?_
        rintro e w16 ⟨rfl, hb16⟩
        have HBF := hid (HB.out.trans (hb16.mono HB.out.size))
        clear hb16 KS
        go_wp2_with fail
        go_ret
        exact ⟨rfl, HBF.out⟩

end Go.Proofs.Ytjagijohfkffiab

/- Contrary: the row. -/
namespace Go.Proofs.Ytjagijohfkffiab.contrary
open Go.ChangeShapes Go.WideShapes Go.ChangeAt Go.RowKit
open Go.ChangeMaps (open_string shut_string)
set_option linter.unusedVariables false

theorem own : ownKnob Try.prog.godebug = none := by kernel_rfl
theorem laidOut : laidOutB Try.prog = true := by kernel_rfl

/-- A slice of ints among the arguments. -/
theorem ints_of {H : Type} {enc : TypeId × Value → H} {W : World} {a : Option Addr} {len cap : Nat} {d : DataW H} {p : List MemPlace} (h : DataW.Trod enc Try.prog W 0 (fun _ => true) true 22 (.slice a len cap) d p) : ∃ zs, Ints W a len cap zs ∧ Fits zs := by
  obtain ⟨fuel, hf⟩ := h
  rcases open_ints Try.underlying22 Try.underlying3 (by kernel_rfl) hf with ⟨hcs, _⟩ | ⟨x, l, c, zs, hcs, _, hl, hm, hz, _, hcell, hwz⟩
  · simp [Value.cells] at hcs
    obtain ⟨rfl, rfl, rfl⟩ := hcs
    exact ⟨[], ⟨rfl, Nat.le_refl _, by omega, fun _ => ⟨rfl, rfl⟩, fun h => by omega⟩, fun z hz => by simp at hz⟩
  · simp [Value.cells] at hcs
    obtain ⟨rfl, rfl, rfl⟩ := hcs
    have hz2 : zs.length = cap := by simpa using hz
    unfold maxLen at hm
    refine ⟨zs.take len, ⟨by rw [List.length_take]; omega, hl, hm, fun h => by simp at h, fun h0 => ?_⟩, fun z hz => ?_⟩
    · obtain ⟨b, off, hx, hc⟩ := ints_at hcell (by omega)
      subst hx
      refine ⟨b, off, rfl, World.block_lt_of_cell? W ⟨b, off + 0, none⟩ (hc 0 (by omega)), fun i hi => ?_⟩
      rw [hc i (by omega)]
      simp [List.getD, List.getElem?_take_of_lt hi]
    · have := bounds_i64 (hwz z (List.mem_of_mem_take hz))
      omega

set_option maxRecDepth 100000 in
theorem lifted (os : Os) (started : os.Started) (H : Type) (enc : TypeId × Value → H) :
    ReturnsInHanded {} Try.checked os 3 .any (Rows.contrarySpec.pre6 enc Try.prog Try.f3 Rows.contraryRow.domain false) (Rows.contrarySpec.post enc Try.prog Try.f3 false true false false) := by
  refine returnsInHanded_of_change (C := Try.checked) own started (by kernel_rfl) Try.func3
    (ChangeSpec.witness6 (enc := enc) (C := Try.checked) false ⟨#[], #[.string ByteArray.empty, .slice none 0 0], []⟩ 8 (by kernel_rfl) (by kernel_rfl) (by kernel_rfl) (by kernel_rfl)) ?_
  intro W base args ds gs before hval0 hW hcnd _
  have hval : ∀ (j : Nat) t v, Try.f3.params[j]? = some t → args[j]? = some v → Value.okWide Try.prog W .any base t v := hval0
  have hW' := hW
  obtain ⟨p, q, hA0, hV, rfl, hfz, hnd⟩ := hW
  have hA : DataW.TrodAll enc Try.prog W 0 (fun _ => true) true Try.f3.params.toList args.toList ds p := hA0
  rw [Try.params3] at hA hval
  obtain ⟨v0, vs0, d0, ds0, p0, q0, hargs, rfl, rfl, h0, r0⟩ := trodAll_cons hA
  obtain ⟨v1, vs1, d1, ds1, p1, q1, rfl, rfl, rfl, h1, r1⟩ := trodAll_cons r0
  obtain ⟨rfl, rfl, rfl⟩ := trodAll_nil r1
  obtain rfl : args = #[v0, v1] := by cases args; simp_all
  obtain ⟨rfl, rfl⟩ := trodVars_none hV
  obtain ⟨a0, rfl, rfl, rfl, w0⟩ := open_string Try.underlying9 (hval 0 9 v0 rfl rfl) h0
  obtain ⟨a1, len1, cap1, rfl⟩ := okWide_slice Try.underlying22 (hval 1 22 v1 rfl rfl)
  have lt1 : ∀ x ∈ p1, x.block < W.heap.size := by obtain ⟨m, hm⟩ := h1; exact DataW.trod_lt m _ _ _ hm
  obtain ⟨z1, w1, f1⟩ := ints_of h1
  clear hA0 hval0
  refine (contrary_core a0 a1 len1 cap1 z1 W w0 w1 f1).mono fun e W' ⟨he, bel⟩ => ?_
  subst he
  exact ⟨_, rfl, _, _, _, [], _, [], hW', trodAll_mk1 (shut_bool Try.underlying4 _), (trodAll_cons_mk (shut_string Try.underlying9 w0) (trodAll_cons_mk (Below.trod laidOut (by kernel_rfl) (of_decide_eq_true (by kernel_rfl)) h1 bel lt1) trodAll_mk0)), rfl, bel.frame _, fun h => by cases h⟩

theorem over : Rows.contraryRow.holds Try.pinned (OpenSpec.ofChange Rows.contrarySpec) :=
  OpenClaim.holds_of_wide 3 Try.f3 rfl rfl rfl rfl rfl rfl rfl ⟨rfl, rfl, rfl, rfl, rfl⟩ rfl rfl rfl rfl rfl (by kernel_rfl) Try.func3 (by kernel_rfl)
    (of_decide_eq_true (by kernel_rfl)) (by unfold Func.isWrapper; first | (rw [if_pos (by decide +kernel)]; kernel_rfl) | (rw [if_neg (by decide +kernel)]; exact ⟨rfl, rfl⟩))
    (fun os started H enc _ => lifted os started H enc)

theorem proved : Rows.ContrarySaid := over
end Go.Proofs.Ytjagijohfkffiab.contrary
namespace Go.Proofs.Ytjagijohfkffiab
theorem contrary_holds : Rows.ContrarySaid := contrary.proved
end Go.Proofs.Ytjagijohfkffiab
