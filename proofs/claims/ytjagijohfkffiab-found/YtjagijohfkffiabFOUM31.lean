import Derived.Test.YtjagijohfkffiabFOUM07
import Derived.Test.YtjagijohfkffiabFOUM30

/- The walk of round. -/
namespace Go.Proofs.Ytjagijohfkffiab
open Go.RowKit
set_option linter.unusedVariables false

/-- What is known of the way home. -/
structure HomeP (w : World) (E : Nat → Nat → Prop) (n t gh : Nat) (ao : Option Addr) (cap : Nat) (ls : List (Nat × Nat)) (found : Nat → Bool) : Prop where
  fl : FlatG w gh (n * 256) found
  lt : gh < w.heap.size
  lk : LinkM w ao cap ls
  sk : SeekI E (n * 256) (fun y => decide (y = t)) ls found
  fd : ∀ x, found x = true ↔ LeadsP E (fun y => decide (y = t) = true) x
theorem HomeP.below {w w' : World} {E : Nat → Nat → Prop} {n t gh : Nat} {ao : Option Addr} {cap : Nat} {ls : List (Nat × Nat)} {found : Nat → Bool} (h : HomeP w E n t gh ao cap ls found) (hb : Below w.heap.size w w') : HomeP w' E n t gh ao cap ls found :=
  ⟨h.fl.below hb h.lt, Nat.lt_of_lt_of_le h.lt hb.size, h.lk.below hb, h.sk, h.fd⟩
theorem HomeP.reach {w : World} {E : Nat → Nat → Prop} {n t gh : Nat} {ao : Option Addr} {cap : Nat} {ls : List (Nat × Nat)} {found : Nat → Bool} (h : HomeP w E n t gh ao cap ls found) (x : Nat) : found x = true ↔ reach E x t := by
  rw [h.fd x]
  constructor
  · rintro ⟨y, h1, h2⟩
    have : y = t := by simpa using h2
    rw [← this]; exact h1
  · intro h1
    exact ⟨t, h1, by simp⟩

def Rounded (n : Nat) (ns : List Nd) (into : Nat → List (Nat × Nat)) (cs : List (Nat → Bool)) (t : Nat) (w : World) (e : Ending) (w' : World) : Prop :=
  ∃ ps v, e = .returned v ∧ w'.ownsRow w.heap.size 162 2 v ps.length (flatSd ps) ∧ LoopP (Ew n ns into) (spreads cs) t ps ∧ (∀ p ∈ ps, p < n * 256) ∧ ps.length ≤ (cs.length + 1) * (n * 256) ∧ Below w.heap.size w w'

theorem meetsTo_iff {c : Nat → Bool} {xs : List Nat} : meetsTo c xs = true ↔ ∃ p ∈ xs, spread c p = true := by
  unfold meetsTo spread
  rw [List.any_eq_true]
theorem spreads_at {cs : List (Nat → Bool)} {k : Nat} {c : Nat → Bool} (h : cs[k]? = some c) : (spreads cs)[k]? = some (spread c) := by simp [spreads, h]
theorem flatSd_len (xs : List Nat) : (flatSd xs).length = xs.length * 2 := by
  induction xs with
  | nil => rfl
  | cons x xs ih => rw [show flatSd (x :: xs) = [.int .i64 (x / 256 : Nat), .int .u8 (x % 256 : Nat)] ++ flatSd xs by simp [flatSd], List.length_append, ih]; simp; omega
theorem flatSd_app (xs ys : List Nat) : flatSd (xs ++ ys) = flatSd xs ++ flatSd ys := by simp [flatSd]
theorem flatSd_one (xs : List Nat) : ∀ u ∈ flatSd xs, u.oneCell' = true := by
  intro u hu
  simp only [flatSd, List.mem_flatMap] at hu
  obtain ⟨x, _, h⟩ := hu
  simp at h
  rcases h with rfl | rfl <;> rfl
/-- A list of stands, cell by cell. -/
theorem sd_news {w : World} {B : Nat} {ao : Option Addr} {cap : Nat} {xs : List Nat} (h : w.ownsRow B 162 2 (.slice ao xs.length cap) xs.length (flatSd xs)) : (ao = none → xs.length = 0 ∧ cap = 0) ∧ ∀ ad, ao = some ad → ∀ j u, (flatSd xs)[j]? = some u → w.cell? (ad.add j) = some u := by
  rcases h.2 with ⟨e, h0⟩ | ⟨g, cap', cur, e, hb, hh, hc, hm, _⟩
  · obtain ⟨e1, e2, e3⟩ := Value.slice.inj e
    exact ⟨fun _ => ⟨h0, e3⟩, (fun ad h => by rw [e1] at h; cases h)⟩
  · obtain ⟨e1, e2, e3⟩ := Value.slice.inj e
    refine ⟨(fun h => by rw [e1] at h; cases h), fun ad e j u hj => ?_⟩
    rw [e1] at e
    cases e
    exact h.cells (by rw [e1]; rfl) j u hj

/-- A group is loaded behind a guard that is met. -/
theorem wpList_load_grp_g {ops : Array Oper} {rest : List Oper} {op : Oper} {a : Act} {w : World} {Q : Exit → Act → World → Prop} (hw : Region.wanted op (yielded ops a.tmps) = true) (x : Operand) (ho : op.op = .load 69 x)
    (b o : Nat) (g : Nat → Bool) (hx : a.eval x = .pointer (some ⟨b, o, none⟩)) (hg : GrpAt w b o g)
    (h : wpList Try.prog ops Q rest (a.put op.dst (.agg (gv g).toArray)) w) : wpList Try.prog ops Q (op :: rest) a w :=
  wpList_step fun K hK => by
    rw [if_pos hw]
    exact wp_load_mid 69 x ho b o hx (gv g) _ hg.rng Try.groupUnder rfl (Try.groupSz g) (hK _ _ h)

set_option maxHeartbeats 8000000 in
set_option maxRecDepth 100000 in
theorem round_any (P gi n icap t gh : Nat) (ns : List Nd) (into : Nat → List (Nat × Nat)) (cs : List (Nat → Bool)) (f : Nat → Bool) (x : Nat) (ao : Option Addr) (cap : Nat) (ls : List (Nat × Nat)) (found : Nat → Bool) (w : World) (h8 : ns.length ≤ 8) (hp : WaysP n into) (hn8 : n ≤ 1048576) (hbm : BefM w P ns) (hP : P < w.heap.size) (hcm : CalmM w P cs) (hcl : cs.length ≤ 8) (hw : WaysM w gi n into) (hh : HomeP w (Ew n ns into) n t gh ao cap ls found) (ht : TurnP (Ew n ns into) (spreads cs) f x t) (htn : t < n * 256) :
    Calls Try.prog 89 #[.pointer (some ⟨P, 0, none⟩), .agg #[.slice (some ⟨gi, 0, none⟩) n icap], .agg #[.slice (some ⟨gh, 0, none⟩) n n, .slice ao ls.length cap, .int .i64 ((goalsTo (fun y => decide (y = t)) (n * 256)).length : Nat)], sdV t] w (Rounded n ns into cs t w) := by
  have hn := hp.le
  have HP := hid hp
  have HM := hid (fun W (b : Below w.heap.size w W) => hbm.below b hP)
  have HW := hid (fun W (b : Below w.heap.size w W) => hw.below b)
  have HH := hid (fun W (b : Below w.heap.size w W) => hh.below b)
  have HRE := hid hh.reach
  have HTP := hid ht
  obtain ⟨ca, ccap, cc0, hcr⟩ := hcm
  have HCR := hid hcr
  have hll := seek_len hh.sk
  have hgl2 := goalsTo_le (fun y => decide (y = t)) (n * 256)
  have hgh := hh.lt
  obtain ⟨i0, hi0, hz0, hz1, hz2⟩ := info_parts Try.infoStand
  clear hp hbm hw hh ht hcr
  obtain ⟨ta, tb, rfl, htb⟩ : ∃ ta tb, t = ta * 256 + tb ∧ tb < 256 := ⟨t / 256, t % 256, by omega, by omega⟩
  rw [sdV_parts ta htb]
  have hta : ta < n := by omega
  have HGO : Hid ((goalsTo (fun y => decide (y = ta * 256 + tb)) (n * 256)).length = (goalsTo (fun y => decide (y = ta * 256 + tb)) (n * 256)).length) := hid rfl
  generalize hglE : (goalsTo (fun y => decide (y = ta * 256 + tb)) (n * 256)).length = gl at *
  have HGLE := hid hglE
  clear hglE HGO
  generalize hm : cs.length = m at *
  have HLM := hid hm
  clear hm
  have ba := (Below.refl w.heap.size w).alloc (Nat.le_refl _) (.cells #[.slice (some ⟨gi, 0, none⟩) n icap] 155)
  have bb := ba.alloc (by simp) (.cells #[.slice (some ⟨gh, 0, none⟩) n n, .slice ao ls.length cap, .int .i64 (gl : Nat)] 167)
  have bc := bb.alloc (by simp; omega) (.cells #[.int .i64 (ta : Nat), .int .u8 (tb : Nat)] 162)
  have bd := bc.alloc (by simp; omega) (.cells #[.int .i64 (ta : Nat), .int .u8 (tb : Nat)] 162)
  have B0 := hid bd
  go_enter Try.func89, Try.ntmps89
  have cc1 := (bd.cell (p := ⟨P, 2048, none⟩) hP).trans cc0
  have C0 : ((((w.alloc (.cells #[.slice (some ⟨gi, 0, none⟩) n icap] 155)).alloc (.cells #[.slice (some ⟨gh, 0, none⟩) n n, .slice ao ls.length cap, .int .i64 (gl : Nat)] 167)).alloc (.cells #[.int .i64 (ta : Nat), .int .u8 (tb : Nat)] 162)).alloc (.cells #[.int .i64 (ta : Nat), .int .u8 (tb : Nat)] 162)).cell? ⟨w.heap.size, 0, none⟩ = some (.slice (some ⟨gi, 0, none⟩) n icap) := by
    have h1 : (w.alloc (.cells #[.slice (some ⟨gi, 0, none⟩) n icap] 155)).cell? ⟨w.heap.size, 0, none⟩ = some (.slice (some ⟨gi, 0, none⟩) n icap) := by simp
    exact (((((Below.refl (w.heap.size + 1) _).alloc (by simp) (.cells #[.slice (some ⟨gh, 0, none⟩) n n, .slice ao ls.length cap, .int .i64 (gl : Nat)] 167)).alloc (by simp) (.cells #[.int .i64 (ta : Nat), .int .u8 (tb : Nat)] 162)).alloc (by simp) (.cells #[.int .i64 (ta : Nat), .int .u8 (tb : Nat)] 162)).cell (p := ⟨w.heap.size, 0, none⟩) (by show w.heap.size < w.heap.size + 1; omega)).trans h1
  have T0 : Three ((((w.alloc (.cells #[.slice (some ⟨gi, 0, none⟩) n icap] 155)).alloc (.cells #[.slice (some ⟨gh, 0, none⟩) n n, .slice ao ls.length cap, .int .i64 (gl : Nat)] 167)).alloc (.cells #[.int .i64 (ta : Nat), .int .u8 (tb : Nat)] 162)).alloc (.cells #[.int .i64 (ta : Nat), .int .u8 (tb : Nat)] 162)) (w.heap.size + 1) (.slice (some ⟨gh, 0, none⟩) n n) (.slice ao ls.length cap) (.int .i64 (gl : Nat)) := by
    have h1 := three_new (w.alloc (.cells #[.slice (some ⟨gi, 0, none⟩) n icap] 155)) (.slice (some ⟨gh, 0, none⟩) n n) (.slice ao ls.length cap) (.int .i64 (gl : Nat)) 167
    rw [show (w.alloc (.cells #[.slice (some ⟨gi, 0, none⟩) n icap] 155)).heap.size = w.heap.size + 1 by simp] at h1
    exact h1.below (((Below.refl (w.heap.size + 2) _).alloc (by simp) (.cells #[.int .i64 (ta : Nat), .int .u8 (tb : Nat)] 162)).alloc (by simp) (.cells #[.int .i64 (ta : Nat), .int .u8 (tb : Nat)] 162)) (by omega)
  have A0 : Two ((((w.alloc (.cells #[.slice (some ⟨gi, 0, none⟩) n icap] 155)).alloc (.cells #[.slice (some ⟨gh, 0, none⟩) n n, .slice ao ls.length cap, .int .i64 (gl : Nat)] 167)).alloc (.cells #[.int .i64 (ta : Nat), .int .u8 (tb : Nat)] 162)).alloc (.cells #[.int .i64 (ta : Nat), .int .u8 (tb : Nat)] 162)) (w.heap.size + 3) (.int .i64 (ta : Nat)) (.int .u8 (tb : Nat)) := by
    have h1 := two_new (((w.alloc (.cells #[.slice (some ⟨gi, 0, none⟩) n icap] 155)).alloc (.cells #[.slice (some ⟨gh, 0, none⟩) n n, .slice ao ls.length cap, .int .i64 (gl : Nat)] 167)).alloc (.cells #[.int .i64 (ta : Nat), .int .u8 (tb : Nat)] 162)) (.int .i64 (ta : Nat)) (.int .u8 (tb : Nat)) 162
    rw [show (((w.alloc (.cells #[.slice (some ⟨gi, 0, none⟩) n icap] 155)).alloc (.cells #[.slice (some ⟨gh, 0, none⟩) n n, .slice ao ls.length cap, .int .i64 (gl : Nat)] 167)).alloc (.cells #[.int .i64 (ta : Nat), .int .u8 (tb : Nat)] 162)).heap.size = w.heap.size + 3 by simp] at h1
    exact h1
  have HC0 := hid C0
  have HT0 := hid T0
  have HA0 := hid A0
  clear ba bb bc bd C0 T0 A0 cc0
  go_wp2_with fail
  generalize hWE : ((((w.alloc (.cells #[.slice (some ⟨gi, 0, none⟩) n icap] 155)).alloc (.cells #[.slice (some ⟨gh, 0, none⟩) n n, .slice ao ls.length cap, .int .i64 (gl : Nat)] 167)).alloc (.cells #[.int .i64 (ta : Nat), .int .u8 (tb : Nat)] 162)).alloc (.cells #[.int .i64 (ta : Nat), .int .u8 (tb : Nat)] 162)) = W at *
  have hWs : W.heap.size = w.heap.size + 4 := by rw [← hWE]; simp
  clear hWE cc1
  have LI0 : Hid (LoopI (Ew n ns into) (spreads cs) (ta * 256 + tb) 0 [] (ta * 256 + tb)) := hid (loopI_start HTP.out.ring)
  go_loopw [9, 25] (fun v i wq => ∃ (k ya yb : Nat) (ps : List Nat), k ≤ m ∧ i = .int .i64 k ∧ ya < n ∧ yb < 256 ∧ Hid (wq.ownsRow (w.heap.size + 4) 162 2 v ps.length (flatSd ps)) ∧ Hid (LoopI (Ew n ns into) (spreads cs) (ta * 256 + tb) k ps (ya * 256 + yb)) ∧ Hid (Two wq (w.heap.size + 3) (.int .i64 (ya : Nat)) (.int .u8 (yb : Nat))) ∧ Hid (∀ p ∈ ps, p < n * 256) ∧ ps.length ≤ k * (n * 256) ∧ Hid (Below (w.heap.size + 3) W wq) ∧ w.heap.size + 4 ≤ wq.heap.size) (fun _ i _ => m - (intOf i).toNat)
  case atStart => exact ⟨0, ta, tb, [], Nat.zero_le _, rfl, hta, htb, hid (World.ownsRow_nil _ _ _ _), LI0, HA0, hid (fun p hp => by simp at hp), Nat.zero_le _, hid (Below.refl _ _), by omega⟩
  case round =>
    obtain ⟨k, ya, yb, ps, hk, rfl, hya, hyb, HO, HLI, HA, HPN, hpl, HB, hsz⟩ := hrel
    rename World => W0
    rename Value => v0
    clear LI0 HA0
    obtain ⟨aV, cV, rfl⟩ := own_slice HO.out
    have HBW := hid (B0.out.trans (HB.out.mono (by omega)))
    have hkN : k * (n * 256) ≤ 8 * (n * 256) := Nat.mul_le_mul_right _ (by omega)
    have a0 := HA.out.c0
    have a1 := HA.out.c1
    have i3 : (0 : Int) ≤ (yb : Int) := by omega
    have i4 : (yb : Int) < 256 := by omega
    by_cases hlk : k < m
    · obtain ⟨gc, e, hgc, hcell⟩ := HCR.out (by omega)
      subst e
      obtain ⟨c, hc⟩ : ∃ c, cs[k]? = some c := ⟨cs[k]'(by rw [HLM.out]; exact hlk), List.getElem?_eq_getElem (by rw [HLM.out]; exact hlk)⟩
      have GC := hid ((hcell k c hc).below HBW.out hgc)
      have HCK := hid (spreads_at hc)
      have HCM := hid (mem_spread_at hc)
      clear hcell hc
      go_wp2_with (first | (refine wpList_load_grp rfl (.tmp 27) rfl gc (k * 256) c rfl GC.out ?_) | (refine wpList_store_grp rfl (.tmp 12) (.tmp 28) rfl W0.heap.size 0 c rfl rfl (zero_new W0).there ?_))
      intro w2 S2
      have bw2 : Below W0.heap.size W0 w2 := S2.bel _ _ (Nat.le_refl _) ((Below.refl _ _).alloc (Nat.le_refl _) _)
      have A2 := hid S2.at_
      have HX2 := hid bw2
      have hs2 := bw2.size
      have hs2' : W0.heap.size < w2.heap.size := World.block_lt_of_cell? w2 ⟨W0.heap.size, 0, none⟩ (by have := S2.at_.c 0 (by omega); exact this)
      have AA2 := HA.out.below bw2 (by omega)
      have cy : w2.cell? ⟨W0.heap.size, yb, none⟩ = some (.bool (c yb)) := by have := S2.at_.c yb hyb; rwa [Nat.zero_add] at this
      have HB2 := hid (HB.out.trans (bw2.mono (by omega)))
      clear S2 bw2 GC a0 a1
      have a0 := AA2.c0
      have a1 := AA2.c1
      have HAA2 := hid AA2
      have O2 := hid (own_keeps HO.out HX2.out)
      clear AA2
      cases hcy : c yb with
      | true =>
        have HL2 := hid (loopI_skip HLI.out HCK.out (Or.inl (by unfold spread; rw [(sd_parts ya hyb).2]; exact hcy)))
        rw [hcy] at cy
        clear hcy
        go_wp2_with fail
        go_roundw
        case rel => exact ⟨k + 1, ya, yb, ps, by omega, by go_num, hya, hyb, O2, HL2, HAA2, HPN, by rw [Nat.succ_mul]; omega, HB2, by omega⟩
        case measure => simp [intOf] <;> omega
      | false =>
        rw [hcy] at cy
        clear hcy
        obtain ⟨aV', cV', eV, SM⟩ := sdM_of O2.out
        cases eV
        have HSM := hid SM
        clear SM
        have MT := hid (fun W (h : SdM W aV cV ps) => meets_any aV cV ps c W h (by omega))
        go_wp2_with (first | (refine wpList_load_grp_g (by rfl) (.tmp 12) rfl W0.heap.size 0 c rfl A2.out ?_))
        refine (MT.out _ HSM.out).mono ?_
        rintro e w3 ⟨rfl, hb3⟩
        have HX3 := hid (HX2.out.trans (hb3.mono (by omega)))
        have A3 := hid (A2.out.below hb3 hs2')
        have HB3 := hid (HB2.out.trans (hb3.mono (by omega)))
        have AA3 := hid (HAA2.out.below hb3 (by omega))
        have O3 := hid (own_keeps O2.out hb3)
        have hs3 := hb3.size
        clear hb3 HSM MT a0 a1 cy HAA2 O2 A2
        cases hmt : meetsTo c ps with
        | true =>
          have HL2 := hid (loopI_skip HLI.out HCK.out (Or.inr (by obtain ⟨p, h1, h2⟩ := meetsTo_iff.1 hmt; exact ⟨p, h1, h2⟩)))
          clear hmt
          go_wp2_with fail
          go_roundw
          case rel => exact ⟨k + 1, ya, yb, ps, by omega, by go_num, hya, hyb, O3, HL2, AA3, HPN, by rw [Nat.succ_mul]; omega, HB3, by omega⟩
          case measure => simp [intOf] <;> omega
        | false =>
          clear hmt
          have T3 := hid (HT0.out.below HB3.out (by omega))
          have HBW3 := hid (B0.out.trans (HB3.out.mono (by omega)))
          have th0 := T3.out.c0
          have HH3 := hid (HH.out _ HBW3.out)
          go_wp2_with (refine wpList_load_grp rfl (.tmp 12) rfl W0.heap.size 0 c rfl A3.out ?_)
          refine (both_any gh n n found c w3 (by omega) HH3.out.fl (by omega)).mono ?_
          rintro e w4 ⟨g4, rfl, hg4, hg4s, F4, hb4⟩
          have HX4 := hid (HX3.out.trans (hb4.mono (by omega)))
          have HB4 := hid (HB3.out.trans (hb4.mono (by omega)))
          have HBW4 := hid (B0.out.trans (HB4.out.mono (by omega)))
          have c4 := (HB4.out.cell (p := ⟨w.heap.size, 0, none⟩) (by show w.heap.size < w.heap.size + 3; omega)).trans HC0.out
          have HF4 := hid F4
          have hs4 := hb4.size
          clear th0 hb4 F4 A3
          go_wp2_with fail
          refine (seek_any P gi n icap g4 n ns into (bothB found c) w4 h8 HP.out (HM.out _ HBW4.out) (by omega) (HW.out _ HBW4.out) HF4.out hg4s).mono ?_
          rintro e w5 ⟨g5, fo5, ls5, v5, rfl, hg5, hg5s, _, L5, SK5, OL5, hb5⟩
          obtain ⟨a5, cp5, rfl, LM5⟩ := linkM_of OL5
          have HX5 := hid (HX4.out.trans (hb5.mono (by omega)))
          have HB5 := hid (HB4.out.trans (hb5.mono (by omega)))
          have hs5 := hb5.size
          have HLM5 := hid LM5
          have HSK5 := hid SK5
          have hll5 := seek_len SK5
          have hgl5 := goalsTo_le (bothB found c) (n * 256)
          have HGO5 : Hid (∀ y, bothB found c y = true → reach (Ew n ns into) y (ta * 256 + tb) ∧ spread c y = true) := hid (fun y hy => by
            unfold bothB at hy
            simp only [Bool.and_eq_true] at hy
            exact ⟨(HRE.out y).1 hy.1, hy.2⟩)
          have HFN5 : Hid (∃ i t : Nat, (goalsTo (bothB found c) (n * 256)).length ≤ i ∧ ls5[i]? = some (ya * 256 + yb, t)) := hid (SK5.in_ _ (by
            rw [L5]
            obtain ⟨i, h1, h2, h3⟩ := HTP.out.met _ HCM.out
            refine ⟨i, reach_trans HLI.out.home h1, ?_⟩
            show (found i && c (i % 256)) = true
            rw [(HRE.out i).2 h3]
            exact h2))
          generalize hgln : (goalsTo (bothB found c) (n * 256)).length = gln at *
          have HGLN := hid hgln
          clear hgln L5 SK5 OL5 LM5 hb5 c4
          have bs := (Below.refl w5.heap.size w5).alloc (Nat.le_refl _) (.cells #[.slice (some ⟨g5, 0, none⟩) n n, .slice a5 ls5.length cp5, .int .i64 (gln : Nat)] 167)
          have HS6 := hid (three_new w5 (.slice (some ⟨g5, 0, none⟩) n n) (.slice a5 ls5.length cp5) (.int .i64 (gln : Nat)) 167)
          have HX6 := hid (HX5.out.trans (bs.mono (by omega)))
          have AA6 := hid (HA.out.below HX6.out (by omega))
          have a0 := AA6.out.c0
          have a1 := AA6.out.c1
          have HLM6 := hid (HLM5.out.below bs)
          have NA := onumber_any w5.heap.size (ya * 256 + yb) (.slice (some ⟨g5, 0, none⟩) n n) a5 cp5 gln ls5 _ HS6.out HLM6.out (by omega) (by omega) HFN5.out
          rw [sdV_parts ya hyb] at NA
          have HNA := hid NA
          clear bs NA HLM6
          go_wp2_with fail
          refine HNA.out.mono ?_
          rintro e w7 ⟨i, t, rfl, hgi, hit, hb7⟩
          simp only [World.size_alloc] at hb7
          have HX7 := hid (HX6.out.trans (hb7.mono (by omega)))
          have HS7 := hid (HS6.out.below hb7 (by omega))
          have hs7 : w5.heap.size < w7.heap.size := HS7.out.lt
          have b57 : Below w5.heap.size w5 w7 := ((Below.refl w5.heap.size w5).alloc (Nat.le_refl _) (.cells #[.slice (some ⟨g5, 0, none⟩) n n, .slice a5 ls5.length cp5, .int .i64 (gln : Nat)] 167)).trans (hb7.mono (by omega))
          have WA := walk_any w5.heap.size i (ya * 256 + yb) t (Ew n ns into) (n * 256) (bothB found c) fo5 (.slice (some ⟨g5, 0, none⟩) n n) a5 cp5 ls5 w7 HSK5.out (by rw [HGLN.out]; exact HS7.out) (HLM5.out.below b57) (by omega) (by omega) hit
          rw [HGLN.out] at WA
          have HWA := hid WA
          clear hb7 a0 a1 b57 WA HNA HS6 HS7
          go_wp2_with fail
          refine HWA.out.mono ?_
          intro e w8 htr
          unfold Tripped at htr
          obtain ⟨qs, en, vp, rfl, OP, hgo, hne, _, hhd, hge, hen, hpn, hql, hb8⟩ := htr
          obtain ⟨ap, cp, rfl⟩ := own_slice OP
          obtain ⟨ea, eb, rfl, heb⟩ : ∃ ea eb, en = ea * 256 + eb ∧ eb < 256 := ⟨en / 256, en % 256, by omega, by omega⟩
          rw [(sd_parts ea heb).1, (sd_parts ea heb).2]
          have hea : ea < n := by omega
          obtain ⟨g1, g2⟩ := HGO5.out _ hge
          have HL2 := hid (loopI_step HLI.out HCK.out (hne hgi) hhd hgo g1 g2)
          have HX8 := hid (HX7.out.trans (hb8.mono (by omega)))
          have hs8 := HX8.out.size
          have hs8' := hb8.size
          have bt := (Below.refl w8.heap.size w8).alloc (Nat.le_refl _) (.cells #[.slice ap qs.length cp, .int .i64 (ea : Nat), .int .u8 (eb : Nat)] 171)
          have HX9 := hid (HX8.out.trans (bt.mono (by omega)))
          have O9 := hid (own_keeps HO.out HX9.out)
          have NW := sd_news (own_keeps OP bt)
          have NW1 := hid NW.1
          have NW2 := hid NW.2
          have HTB := hid (fun q h => (HO.out.lt q h).1)
          have HPN2 : Hid (∀ p ∈ ps ++ qs, p < n * 256) := hid (fun p hp => (List.mem_append.1 hp).elim (HPN.out p) (hpn p))
          have hkl : (k + 1) * (n * 256) = k * (n * 256) + n * 256 := Nat.succ_mul _ _
          clear OP hgo hne hhd hge hpn hb8 NW HWA g1 g2
          go_wp2_with (at_builtin; go_must (refine wpList_append_any _ rfl (.tmp 50) (.tmp 52) 159 rfl (w.heap.size + 4) 162 i0 (.agg #[.int .i64 0, .int .u8 0]) 2 16 Try.underlying159 hi0 hz0 hz1 hz2 rfl (by decide) _ ps.length _ rfl O9.out ap qs.length cp (flatSd qs) rfl (flatSd_len qs) NW1.out NW2.out (flatSd_one qs) ?c3 ?c4 ?c5 ?_))
          case c3 => unfold maxLen; omega
          case c4 => omega
          case c5 => simp; omega
          intro v10 w10 hown hgrow
          have b10 : Below (w.heap.size + 4) (w8.alloc (.cells #[.slice ap qs.length cp, .int .i64 (ea : Nat), .int .u8 (eb : Nat)] 171)) w10 := (Below.refl (w.heap.size + 4) _).grown hgrow (by simp; omega) (fun q h => HTB.out q h)
          have T9 : Three (w8.alloc (.cells #[.slice ap qs.length cp, .int .i64 (ea : Nat), .int .u8 (eb : Nat)] 171)) w8.heap.size (.slice ap qs.length cp) (.int .i64 (ea : Nat)) (.int .u8 (eb : Nat)) := three_new _ _ _ _ _
          have HTB2 := fun q h => (HO.out.lt q h).2
          have e1 : w10.cell? ⟨w8.heap.size, 1, none⟩ = some (.int .i64 (ea : Nat)) := hgrow.cell T9.c1 (fun h => by have := HTB2 w8.heap.size h.symm; omega)
          have e2 : w10.cell? ⟨w8.heap.size, 2, none⟩ = some (.int .u8 (eb : Nat)) := hgrow.cell T9.c2 (fun h => by have := HTB2 w8.heap.size h.symm; omega)
          have AA10 := (HA.out.below HX9.out (by omega)).below b10 (by omega)
          have a0 := AA10.c0
          have a1 := AA10.c1
          have af0 := AA10.f0
          have af1 := AA10.f1
          have N1 := hid (AA10.sets (.int .i64 (ea : Nat)) (.int .u8 (eb : Nat)))
          have N2 : Hid (((w10.setCell ⟨w.heap.size + 3, 0, none⟩ (.int .i64 (ea : Nat))).setCell ⟨w.heap.size + 3, 1, none⟩ (.int .u8 (eb : Nat))).ownsRow (w.heap.size + 4) 162 2 v10 (ps ++ qs).length (flatSd (ps ++ qs))) := hid (by
            rw [flatSd_app, List.length_append]
            exact own_set_other (own_set_other hown (k := w.heap.size + 3) (by omega) 0 _) (k := w.heap.size + 3) (by omega) 1 _)
          have N3 := hid ((((HB.out.trans (HX9.out.mono (by omega))).trans (b10.mono (by omega))).setCell (p := ⟨w.heap.size + 3, 0, none⟩) (Nat.le_refl _) (.int .i64 (ea : Nat))).setCell (p := ⟨w.heap.size + 3, 1, none⟩) (Nat.le_refl _) (.int .u8 (eb : Nat)))
          have n4 : w.heap.size + 4 ≤ ((w10.setCell ⟨w.heap.size + 3, 0, none⟩ (.int .i64 (ea : Nat))).setCell ⟨w.heap.size + 3, 1, none⟩ (.int .u8 (eb : Nat))).heap.size := by have := b10.size; simp at this ⊢; omega
          have n5 : (ps ++ qs).length ≤ (k + 1) * (n * 256) := by rw [List.length_append, hkl]; omega
          have n6 : e2 = e2 := rfl
          obtain ⟨av10, cv10, rfl⟩ := own_slice hown
          clear hown hgrow b10 T9 AA10 hkl n6
          go_wp2_with fail
          go_roundw
          case rel => exact ⟨k + 1, ea, eb, ps ++ qs, by omega, by go_num, hea, heb, N2, HL2, N1, HPN2, n5, N3, n4⟩
          case measure => simp [intOf] <;> omega
    · obtain rfl : k = m := by omega
      have hs0 := HB.out.size
      have T3 := hid (HT0.out.below HB.out (by omega))
      have HH3 := hid (HH.out _ HBW.out)
      have FN : Hid (∃ i t : Nat, gl ≤ i ∧ ls[i]? = some (ya * 256 + yb, t)) := hid (by
        have h9 := HH3.out.sk.in_ _ ((HRE.out (ya * 256 + yb)).2 HLI.out.home)
        rw [HGLE.out] at h9
        exact h9)
      have NA := onumber_any (w.heap.size + 1) (ya * 256 + yb) (.slice (some ⟨gh, 0, none⟩) n n) ao cap gl ls W0 T3.out HH3.out.lk (by omega) (by omega) FN.out
      rw [sdV_parts ya hyb] at NA
      have HNA := hid NA
      clear NA
      go_wp2_with fail
      refine HNA.out.mono ?_
      rintro e w7 ⟨i, t, rfl, hgi, hit, hb7⟩
      have T7 := hid (T3.out.below hb7 (by omega))
      have WA := walk_any (w.heap.size + 1) i (ya * 256 + yb) t (Ew n ns into) (n * 256) (fun y => decide (y = ta * 256 + tb)) found (.slice (some ⟨gh, 0, none⟩) n n) ao cap ls w7 HH3.out.sk (by rw [HGLE.out]; exact T7.out) (HH3.out.lk.below hb7) (by omega) (by omega) hit
      rw [HGLE.out] at WA
      have HWA := hid WA
      have HX7 := hid hb7
      have hs7 := hb7.size
      clear hb7 WA HNA a0 a1
      go_wp2_with fail
      refine HWA.out.mono ?_
      intro e w8 htr
      unfold Tripped at htr
      obtain ⟨qs, en, vp, rfl, OP, hgo, hne, _, hhd, hge, hen, hpn, hql, hb8⟩ := htr
      obtain ⟨ap, cp, rfl⟩ := own_slice OP
      have hent : en = ta * 256 + tb := by simpa using hge
      subst hent
      rw [(sd_parts ta htb).1, (sd_parts ta htb).2]
      have HLP := hid (loop_done HLI.out (by rw [show (spreads cs).length = cs.length by simp [spreads], HLM.out]; exact Nat.le_refl _) (hne hgi) hhd hgo)
      have HX8 := hid (HX7.out.trans (hb8.mono (by omega)))
      have hs8 := HX8.out.size
      have bt := (Below.refl w8.heap.size w8).alloc (Nat.le_refl _) (.cells #[.slice ap qs.length cp, .int .i64 (ta : Nat), .int .u8 (tb : Nat)] 171)
      have HX9 := hid (HX8.out.trans (bt.mono (by omega)))
      have O9 := hid (own_keeps HO.out HX9.out)
      have NW := sd_news (own_keeps OP bt)
      have NW1 := hid NW.1
      have NW2 := hid NW.2
      have HTB := hid (fun q h => (HO.out.lt q h).1)
      have HPN2 : Hid (∀ p ∈ ps ++ qs, p < n * 256) := hid (fun p hp => (List.mem_append.1 hp).elim (HPN.out p) (hpn p))
      have hkl : (k + 1) * (n * 256) = k * (n * 256) + n * 256 := Nat.succ_mul _ _
      have t1 : (w8.alloc (.cells #[.slice ap qs.length cp, .int .i64 (ta : Nat), .int .u8 (tb : Nat)] 171)).cell? ⟨w8.heap.size, 0, none⟩ = some (.slice ap qs.length cp) := (three_new w8 _ _ _ _).c0
      clear OP hgo hne hhd hge hpn hb8 NW HWA bt
      go_wp2_with (at_builtin; go_must (refine wpList_append_any _ rfl (.tmp 61) (.tmp 63) 159 rfl (w.heap.size + 4) 162 i0 (.agg #[.int .i64 0, .int .u8 0]) 2 16 Try.underlying159 hi0 hz0 hz1 hz2 rfl (by decide) _ ps.length _ rfl O9.out ap qs.length cp (flatSd qs) rfl (flatSd_len qs) NW1.out NW2.out (flatSd_one qs) ?c3 ?c4 ?c5 ?_))
      case c3 => unfold maxLen; omega
      case c4 => omega
      case c5 => simp; omega
      intro v10 w10 hown hgrow
      have N2 : Hid (w10.ownsRow w.heap.size 162 2 v10 (ps ++ qs).length (flatSd (ps ++ qs))) := hid (by
        rw [flatSd_app, List.length_append]
        exact own_mono hown (by omega))
      have N3 := hid ((HBW.out.trans (HX9.out.mono (by omega))).grown hgrow (by simp; omega) (fun q h => by have := HTB.out q h; omega))
      have n5 : (ps ++ qs).length ≤ (cs.length + 1) * (n * 256) := by rw [List.length_append, HLM.out, hkl]; omega
      clear hown hgrow hkl
      go_wp2_with fail
      go_ret
      unfold Rounded
      exact ⟨ps ++ qs, _, rfl, N2.out, HLP.out, HPN2.out, n5, N3.out⟩

end Go.Proofs.Ytjagijohfkffiab
