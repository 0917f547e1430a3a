import Derived.Test.YtjagijohfkffiabFOUM23
import Derived.Test.YtjagijohfkffiabFOUM31
import Derived.OwnWalk

/- The walk of Path. -/
namespace Go.Proofs.Ytjagijohfkffiab
open Go.RowKit
set_option linter.unusedVariables false

def Pathed (n : Nat) (ns : List Nd) (cs : List (Nat → Bool)) (lt : Nat → Nat) (ed : Nat → Nat → Bool) (st beg : Nat → Bool) (w : World) (e : Ending) (w' : World) : Prop :=
  ∃ (tl : Nat → List (Nat × Nat)) (f : Nat → Bool), AlP lt ed n 0 tl ∧ (∀ x, f x = true ↔ Forever (Ew n ns tl) (spreads cs) x) ∧ Below w.heap.size w w' ∧
    ((e = .returned (.tuple #[.slice none 0 0, .slice none 0 0, .bool false]) ∧ ∀ x, x < n * 256 → wrB st f beg x = false) ∨
      ∃ (A B : List Nat) (t B2 : Nat) (v1 v2 : Value), e = .returned (.tuple #[v1, v2, .bool true]) ∧ w'.ownsRow w.heap.size 3 1 v1 A.length (natInts (A.map (· / 256))) ∧ w'.ownsRow B2 3 1 v2 B.length (natInts (B.map (· / 256))) ∧ w.heap.size ≤ B2 ∧ (∀ k, v1.ownBlock = some k → k < B2) ∧
        Goes (Ew n ns tl) A t ∧ LoopP (Ew n ns tl) (spreads cs) t B ∧ wrB st f beg ((A ++ B).headD 0) = true ∧ (∀ p ∈ A ++ B, p < n * 256) ∧ A.length + B.length ≤ (cs.length + 2) * (n * 256))

theorem goalsTo_nil {f : Nat → Bool} {n : Nat} (h : (goalsTo f n).length = 0) : ∀ x, x < n → f x = false := fun x hx => by
  have h1 : goalsTo f n = [] := List.length_eq_zero_iff.1 h
  cases e : f x with
  | false => rfl
  | true =>
    have : x ∈ goalsTo f n := by unfold goalsTo; rw [List.mem_filter, List.mem_range]; exact ⟨hx, e⟩
    rw [h1] at this
    simp at this

set_option maxHeartbeats 8000000 in
set_option maxRecDepth 100000 in
theorem path_any (P g n cap : Nat) (ns : List Nd) (cs : List (Nat → Bool)) (lt : Nat → Nat) (ed : Nat → Nat → Bool) (st beg : Nat → Bool) (w : World) (h0 : 0 < n) (hn : n ≤ 6) (h8 : ns.length ≤ 8) (h : NodeM w g n lt ed st) (hlt : ∀ i, i < n → lt i < 8) (hed : ∀ i j, i < n → ed i j = true → j < n) (hbm : BefM w P ns) (hP : P < w.heap.size) (hcm : CalmM w P cs) (hcl : cs.length ≤ 8) (hbg : GrpAt w P 2305 beg) :
    Calls Try.prog 45 #[.pointer (some ⟨P, 0, none⟩), .slice (some ⟨g, 0, none⟩) n cap] w (Pathed n ns cs lt ed st beg w) := by
  have hg := h.blk
  have HR := hid (fun W (b : Below w.heap.size w W) => h.below b (Nat.le_refl _) hg)
  have HM := hid (fun W (b : Below w.heap.size w W) => hbm.below b hP)
  have HC := hid (fun W (b : Below w.heap.size w W) => hcm.below b hP)
  have HBG := hid (fun W (b : Below w.heap.size w W) => hbg.below b hP)
  have HLT := hid hlt
  have AL := hid (along_any g n cap lt ed st w h0 hn h hlt hed)
  clear h hlt hed hbm hcm hbg
  go_enter Try.func45, Try.ntmps45
  go_wp2_with fail
  refine AL.out.mono ?_
  rintro e w1 ⟨gi, tl, rfl, WM, AP, b1⟩
  have HWP := hid (al_ways AP hn HLT.out)
  have HAP := hid AP
  have HB1 := hid b1
  have HWM := hid WM
  have bw := (Below.refl w1.heap.size w1).alloc (Nat.le_refl _) (.cells #[.slice (some ⟨gi, 0, none⟩) n n] 155)
  have HB2 := hid (b1.trans (bw.mono b1.size))
  have HW2 := hid (WM.below bw)
  have C2 : Hid ((w1.alloc (.cells #[.slice (some ⟨gi, 0, none⟩) n n] 155)).cell? ⟨w1.heap.size, 0, none⟩ = some (.slice (some ⟨gi, 0, none⟩) n n)) := hid (by simp)
  have hs1 := b1.size
  clear WM AP b1 bw AL HB1 HWM
  go_wp2_with fail
  generalize hW : (w1.alloc (.cells #[.slice (some ⟨gi, 0, none⟩) n n] 155)) = W at *
  have hWs : W.heap.size = w1.heap.size + 1 := by rw [← hW]; simp
  clear hW
  refine (lasting_any P gi n n ns tl cs W h8 HWP.out (HM.out _ HB2.out) (by omega) (HC.out _ HB2.out) hcl HW2.out).mono ?_
  rintro e w3 ⟨gl, f, rfl, hgl, hgls, F3, L3, b3⟩
  have HF3 := hid F3
  have HL3 := hid L3
  have X3 := hid b3
  have HB3 := hid (HB2.out.trans (b3.mono (by omega)))
  have hs3 := b3.size
  clear F3 L3 b3
  go_wp2_with fail
  refine (wrong_any P g n cap gl n lt ed st f beg w3 hn (HR.out _ HB3.out) HF3.out hgls (HBG.out _ HB3.out) (by omega)).mono ?_
  rintro e w4 ⟨gw, rfl, hgw, hgws, F4, b4⟩
  have HF4 := hid F4
  have X4 := hid (X3.out.trans (b4.mono (by omega)))
  have HB4 := hid (HB3.out.trans (b4.mono (by omega)))
  have HFL4 := hid (HF3.out.below b4 hgls)
  have hs4 := b4.size
  clear F4 b4 X3 HF3
  go_wp2_with fail
  refine (list_any gw n n (wrB st f beg) w4 (by omega) HF4.out hgws).mono ?_
  rintro e w5 ⟨vs, rfl, OS, b5⟩
  obtain ⟨as_, cs_, rfl⟩ := own_slice OS
  have X5 := hid (X4.out.trans (b5.mono (by omega)))
  have HB5 := hid (HB4.out.trans (b5.mono (by omega)))
  have HFL5 := hid (HFL4.out.below b5 (by omega))
  have HF5 := hid (HF4.out.below b5 hgws)
  have HOS := hid OS
  have hs5 := b5.size
  have hln := goalsTo_le (wrB st f beg) (n * 256)
  clear OS b5 X4 HB4 HFL4 HF4
  by_cases hz : (goalsTo (wrB st f beg) (n * 256)).length = 0
  · have HNO := hid (goalsTo_nil hz)
    rw [hz]
    clear hz HOS
    go_wp2_with fail
    go_ret3
    unfold Pathed
    exact ⟨tl, f, HAP.out, HL3.out, HB5.out, Or.inl ⟨rfl, HNO.out⟩⟩
  · obtain ⟨x, hx0⟩ : ∃ x, (goalsTo (wrB st f beg) (n * 256))[0]? = some x := ⟨_, List.getElem?_eq_getElem (by omega)⟩
    have hxm : x < n * 256 ∧ wrB st f beg x = true := by
      have h9 := List.mem_of_getElem? hx0
      unfold goalsTo at h9
      rw [List.mem_filter, List.mem_range] at h9
      exact h9
    have hfx : f x = true := by
      have h9 := hxm.2
      unfold wrB at h9
      simp only [Bool.and_eq_true] at h9
      exact h9.2.1
    obtain ⟨gs, es, _, hgs, _⟩ := own_at' HOS.out (by omega)
    subst es
    obtain ⟨k0, k1⟩ := flatSd_get hx0
    have d0 := (HOS.out.cellAt (0 * 2) (by omega)).trans k0
    have d1 := (HOS.out.cellAt (0 * 2 + 1) (by omega)).trans k1
    have HXM := hid hxm
    have HFX := hid hfx
    have C5 := (X5.out.cell (p := ⟨w1.heap.size, 0, none⟩) (by show w1.heap.size < W.heap.size; omega)).trans C2.out
    have hlz : (((goalsTo (wrB st f beg) (n * 256)).length : Int) == 0) = false := beq_eq_false_iff_ne.2 (by omega)
    generalize (goalsTo (wrB st f beg) (n * 256)).length = ln at *
    clear k0 k1 hxm hfx hx0
    obtain ⟨xa, xb, rfl, hxb⟩ : ∃ xa xb, x = xa * 256 + xb ∧ xb < 256 := ⟨x / 256, x % 256, by omega, by omega⟩
    rw [(sd_parts xa hxb).1, Nat.zero_mul] at d0
    rw [(sd_parts xa hxb).2, Nat.zero_mul] at d1
    go_wp2_with fail
    rename_i KK hKK
    have CONT : ∀ (W6 : World) (T ta tb : Nat), ta < n → tb < 256 → Hid (Two W6 T (.int .i64 (ta : Nat)) (.int .u8 (tb : Nat))) → Hid (TurnP (Ew n ns tl) (spreads cs) f (xa * 256 + xb) (ta * 256 + tb)) → Hid (Below w5.heap.size w5 W6) → T < W6.heap.size → KK { tmps := #[(.pointer (some ⟨P, 0, none⟩)), (.slice (some ⟨g, 0, none⟩) n cap), undef, undef, .slice none 0 0, .slice none 0 0, .bool false, .pointer (some ⟨w1.heap.size, 0, none⟩), (.slice (some ⟨gl, 0, none⟩) n n), (.slice (some ⟨gw, 0, none⟩) n n), (.slice (some ⟨gs, 0, none⟩) ln cs_), .pointer (some ⟨T, 0, none⟩), undef, undef, undef, undef, undef, undef, undef, (.slice (some ⟨g, 0, none⟩) n cap), (.agg #[.slice (some ⟨gi, 0, none⟩) n n]), (.pointer (some ⟨P, 0, none⟩)), (.agg #[.slice (some ⟨gi, 0, none⟩) n n]), (.slice (some ⟨gl, 0, none⟩) n n), (.pointer (some ⟨P, 0, none⟩)), (.slice (some ⟨g, 0, none⟩) n cap), (.slice (some ⟨gl, 0, none⟩) n n), (.slice (some ⟨gw, 0, none⟩) n n), (.slice (some ⟨gw, 0, none⟩) n n), (.slice (some ⟨gs, 0, none⟩) ln cs_), (.slice (some ⟨gs, 0, none⟩) ln cs_), .int .i64 (ln : Nat), .bool false, (.pointer (some ⟨P, 0, none⟩)), (.agg #[.slice (some ⟨gi, 0, none⟩) n n]), (.slice (some ⟨gl, 0, none⟩) n n), (.slice (some ⟨gs, 0, none⟩) ln cs_), .pointer (some ⟨gs, 0, none⟩), .agg #[.int .i64 (xa : Nat), .int .u8 (xb : Nat)], .agg #[.int .i64 (ta : Nat), .int .u8 (tb : Nat)], undef, undef, undef, undef, undef, undef, undef, undef, undef, undef, undef, undef, undef, undef, undef, undef, undef, undef, undef, undef, undef, undef, undef], defers := [] } W6 := by
      intro W6 T ta tb hta htb HT HTP X6 hTl
      refine hKK _ _ ?_
      clear hKK d0 d1 C5
      have hs6 := X6.out.size
      have HB6 := hid (HB5.out.trans (X6.out.mono (by omega)))
      have XW6 := hid (X5.out.trans (X6.out.mono (by omega)))
      have C6 := (XW6.out.cell (p := ⟨w1.heap.size, 0, none⟩) (by show w1.heap.size < W.heap.size; omega)).trans C2.out
      have HFL6 := hid (HFL5.out.below X6.out (by omega))
      have HF6 := hid (HF5.out.below X6.out (by omega))
      have t0 := HT.out.c0
      have t1 := HT.out.c1
      have ON := only_any (ta * 256 + tb) gl n n f W6 (by omega) HFL6.out (by omega) (by omega) HTP.out.last
      rw [sdV_parts ta htb] at ON
      have HON := hid ON
      clear ON
      go_wp2_with fail
      refine HON.out.mono ?_
      rintro e w7 ⟨g7, rfl, hg7, hg7s, F7, b7⟩
      have HF7 := hid F7
      have HB7 := hid (HB6.out.trans (b7.mono (by omega)))
      have XW7 := hid (XW6.out.trans (b7.mono (by omega)))
      have HT7 := hid (HT.out.below b7 hTl)
      have HFW7 := hid (HF6.out.below b7 (by omega))
      have hs7 := b7.size
      have C7 := (b7.cell (p := ⟨w1.heap.size, 0, none⟩) (by show w1.heap.size < W6.heap.size; omega)).trans C6
      clear F7 b7 C6 t0 t1 HON HT HFL6 HF6
      go_wp2_with fail
      refine (seek_any P gi n n g7 n ns tl (fun y => decide (y = ta * 256 + tb)) w7 h8 HWP.out (HM.out _ HB7.out) (by omega) (HW2.out.below XW7.out) HF7.out hg7s).mono ?_
      rintro e w8 ⟨gh, found, ls, vh, rfl, hgh, hghs, F8, L8, SK8, OL8, b8⟩
      obtain ⟨ah, ch, rfl, LM8⟩ := linkM_of OL8
      have HHP : Hid (HomeP w8 (Ew n ns tl) n (ta * 256 + tb) gh ah ch ls found) := hid ⟨F8, hghs, LM8, SK8, L8⟩
      have HB8 := hid (HB7.out.trans (b8.mono (by omega)))
      have XW8 := hid (XW7.out.trans (b8.mono (by omega)))
      have HT8 := hid (HT7.out.below b8 (by omega))
      have HFW8 := hid (HFW7.out.below b8 (by omega))
      have hs8 := b8.size
      have hll := seek_len SK8
      have hgl2 := goalsTo_le (fun y => decide (y = ta * 256 + tb)) (n * 256)
      have C8 := (b8.cell (p := ⟨w1.heap.size, 0, none⟩) (by show w1.heap.size < w7.heap.size; omega)).trans C7
      have HLN : Hid (∀ p ∈ ls, p.1 < n * 256) := hid (fun p hp => (SK8.lead.sound p.1 (List.mem_map.2 ⟨p, hp, rfl⟩)).1)
      -- some link is wrong
      have HNE : Hid (∃ (i : Nat) (p : Nat × Nat), ls[i]? = some p ∧ wrB st f beg p.1 = true) := hid (by
        rcases HTP.out.go with e | e
        · have hm : ta * 256 + tb ∈ goalsTo (fun y => decide (y = ta * 256 + tb)) (n * 256) := by
            unfold goalsTo
            rw [List.mem_filter, List.mem_range]
            exact ⟨by omega, by simp⟩
          obtain ⟨i, hi, e2⟩ := List.getElem_of_mem hm
          have h9 := SK8.pre i _ (List.getElem?_eq_getElem hi)
          rw [e2] at h9
          exact ⟨i, _, h9, by rw [← e]; exact HXM.out.2⟩
        · have h9 := (HHP.out.reach (xa * 256 + xb)).2 e
          obtain ⟨i, t, _, h10⟩ := SK8.in_ _ h9
          exact ⟨i, _, h10, HXM.out.2⟩)
      generalize hgln : (goalsTo (fun y => decide (y = ta * 256 + tb)) (n * 256)).length = gln at *
      have HGLN := hid hgln
      clear hgln F8 L8 SK8 OL8 LM8 b8 C7 HF7 HT7 HFW7
      have bs := (Below.refl w8.heap.size w8).alloc (Nat.le_refl _) (.cells #[.slice (some ⟨gh, 0, none⟩) n n, .slice ah ls.length ch, .int .i64 (gln : Nat)] 167)
      have HS9 := hid (three_new w8 (.slice (some ⟨gh, 0, none⟩) n n) (.slice ah ls.length ch) (.int .i64 (gln : Nat)) 167)
      have HH9 := hid (HHP.out.below bs)
      have HFW9 := hid (HFW8.out.below bs (by omega))
      have HT9 := hid (HT8.out.below bs (by omega))
      have HB9 := hid (HB8.out.trans (bs.mono (by omega)))
      have XW9 := hid (XW8.out.trans (bs.mono (by omega)))
      clear bs HHP HFW8 HT8 HB8
      have NR := nearest_any w8.heap.size gw n n (wrB st f beg) (.slice (some ⟨gh, 0, none⟩) n n) (.int .i64 (gln : Nat)) ah ch ls _ HS9.out HH9.out.lk (by omega) (by omega) HFW9.out (by simp; omega) HLN.out HNE.out
      have HNR := hid NR
      clear NR C8
      go_wp2_with fail
      generalize hW9 : (w8.alloc (.cells #[.slice (some ⟨gh, 0, none⟩) n n, .slice ah ls.length ch, .int .i64 (gln : Nat)] 167)) = W9 at *
      have hW9s : W9.heap.size = w8.heap.size + 1 := by rw [← hW9]; simp
      clear hW9
      refine HNR.out.mono ?_
      rintro e w10 ⟨i, p, rfl, hip, hwp, b10⟩
      obtain ⟨px, pt⟩ := p
      dsimp only at hwp
      have HS10 := hid (HS9.out.below b10 (by omega))
      have HH10 := hid (HH9.out.below b10)
      have HT10 := hid (HT9.out.below b10 (by omega))
      have HB10 := hid (HB9.out.trans (b10.mono (by omega)))
      have XW10 := hid (XW9.out.trans (b10.mono (by omega)))
      have hs10 := b10.size
      have HWPX := hid hwp
      have WA := walk_any w8.heap.size i px pt (Ew n ns tl) (n * 256) (fun y => decide (y = ta * 256 + tb)) found (.slice (some ⟨gh, 0, none⟩) n n) ah ch ls w10 HH10.out.sk (by rw [HGLN.out]; exact HS10.out) HH10.out.lk (by omega) (by omega) hip
      rw [HGLN.out] at WA
      have HWA := hid WA
      clear WA b10 HNR HNE HS9 HH9 HT9 HB9 XW9 hwp
      go_wp2_with fail
      refine HWA.out.mono ?_
      intro e w11 htr
      unfold Tripped at htr
      obtain ⟨A, en, vp, rfl, OP, hgo, _, _, hhd, hge, hen, hpn, hql, b11⟩ := htr
      have hent : en = ta * 256 + tb := by simpa using hge
      subst hent
      obtain ⟨ap, cp, rfl, SM⟩ := sdM_of OP
      rw [(sd_parts ta htb).1, (sd_parts ta htb).2]
      have HGOA := hid hgo
      have HHD := hid hhd
      have HPA := hid hpn
      have bt := (Below.refl w11.heap.size w11).alloc (Nat.le_refl _) (.cells #[.slice ap A.length cp, .int .i64 (ta : Nat), .int .u8 (tb : Nat)] 171)
      have x11 := b11.trans (bt.mono b11.size)
      have HS12 := hid (HS10.out.below x11 (by omega))
      have HH12 := hid (HH10.out.below x11)
      have HT12 := hid (HT10.out.below x11 (by omega))
      have HB12 := hid (HB10.out.trans (x11.mono (by omega)))
      have XW12 := hid (XW10.out.trans (x11.mono (by omega)))
      have SM12 := hid (SM.below bt)
      have hs11 := b11.size
      have tr0 : (w11.alloc (.cells #[.slice ap A.length cp, .int .i64 (ta : Nat), .int .u8 (tb : Nat)] 171)).cell? ⟨w11.heap.size, 0, none⟩ = some (.slice ap A.length cp) := (three_new w11 _ _ _ _).c0
      have SPA := hid (spots_any ap cp A _ SM12.out (by omega))
      clear OP hgo hhd hge hpn b11 SM bt x11 HWA HS10 HH10 HT10 HB10 XW10
      go_wp2_with fail
      generalize hW12 : (w11.alloc (.cells #[.slice ap A.length cp, .int .i64 (ta : Nat), .int .u8 (tb : Nat)] 171)) = W12 at *
      have hW12s : W12.heap.size = w11.heap.size + 1 := by rw [← hW12]; simp
      clear hW12 tr0
      refine SPA.out.mono ?_
      rintro e w13 ⟨v1, rfl, O1, b13⟩
      obtain ⟨av1, cv1, rfl⟩ := own_slice O1
      have HS13 := hid (HS12.out.below b13 (by omega))
      have HH13 := hid (HH12.out.below b13)
      have HT13 := hid (HT12.out.below b13 (by omega))
      have HB13 := hid (HB12.out.trans (b13.mono (by omega)))
      have XW13 := hid (XW12.out.trans (b13.mono (by omega)))
      have HO1 := hid O1
      have hs13 := b13.size
      have s0 := HS13.out.c0
      have s1 := HS13.out.c1
      have s2 := HS13.out.c2
      have t0 := HT13.out.c0
      have t1 := HT13.out.c1
      have C13 := (XW13.out.cell (p := ⟨w1.heap.size, 0, none⟩) (by show w1.heap.size < W.heap.size; omega)).trans C2.out
      have RD := round_any P gi n n (ta * 256 + tb) gh ns tl cs f (xa * 256 + xb) ah ch ls found w13 h8 HWP.out (by omega) (HM.out _ HB13.out) (by omega) (HC.out _ HB13.out) hcl (HW2.out.below XW13.out) HH13.out HTP.out (by omega)
      rw [sdV_parts ta htb, HGLN.out] at RD
      have HRD := hid RD
      clear RD O1 b13 SPA HS12 HH12 HT12 HB12 XW12
      go_wp2_with fail
      refine HRD.out.mono ?_
      intro e w14 hrd
      unfold Rounded at hrd
      obtain ⟨B, vr, rfl, OR, LP, hpB, hlB, b14⟩ := hrd
      obtain ⟨ar, cr, rfl, SMB⟩ := sdM_of OR
      have hB14 : B.length ≤ 10 * (6 * 256) := Nat.le_trans hlB (Nat.mul_le_mul (by omega) (by omega))
      have HLP := hid LP
      have HPB := hid hpB
      have HB14 := hid (HB13.out.trans (b14.mono (by omega)))
      have HO14 := hid (own_keeps HO1.out b14)
      have SPB := hid (spots_any ar cr B w14 SMB (by omega))
      have hs14 := b14.size
      have HBL : Hid (∀ k, (Value.slice av1 A.length cv1).ownBlock = some k → k < w14.heap.size) := hid (fun k h => by have := (HO1.out.lt k h).2; omega)
      clear OR LP hpB b14 SMB HRD s0 s1 s2 t0 t1 C13
      go_wp2_with fail
      refine SPB.out.mono ?_
      rintro e w15 ⟨v2, rfl, O2, b15⟩
      obtain ⟨av2, cv2, rfl⟩ := own_slice O2
      have HB15 := hid (HB14.out.trans (b15.mono (by omega)))
      have HO15 := hid (own_mono (own_keeps HO14.out b15) (show w.heap.size ≤ W12.heap.size by omega))
      have HO2 := hid O2
      clear O2 b15 SPB
      go_wp2_with fail
      go_ret3
      unfold Pathed
      refine ⟨tl, f, HAP.out, HL3.out, HB15.out, Or.inr ⟨A, B, ta * 256 + tb, w14.heap.size, _, _, rfl, HO15.out, HO2.out, by omega, HBL.out, HGOA.out, HLP.out, ?_, ?_, ?_⟩⟩
      · have h9 := HHD.out
        rw [headD_app, show B.headD 0 = ta * 256 + tb from HLP.out.head, h9]
        exact HWPX.out
      · intro p hp
        rcases List.mem_append.1 hp with hp | hp
        · exact HPA.out p hp
        · exact HPB.out p hp
      · have h9 : (cs.length + 2) * (n * 256) = (cs.length + 1) * (n * 256) + n * 256 := Nat.succ_mul _ _
        omega
    have hxa : xa < n := by have := HXM.out.1; omega
    have TA := hid (fun W' (X : Below w5.heap.size w5 W') => turn_any P gi n n gl n (xa * 256 + xb) ns tl cs f W' h8 HWP.out (by omega) (HM.out _ (HB5.out.trans (X.mono (by omega)))) (by have := X.size; omega) (HC.out _ (HB5.out.trans (X.mono (by omega)))) hcl (HW2.out.below (X5.out.trans (X.mono (by omega)))) (HFL5.out.below X (by omega)) (by have := X.size; omega) HL3.out HFX.out HXM.out.1)
    rw [sdV_parts xa hxb] at TA
    have i1 : (0 : Int) < (ln : Int) := by omega
    have ygs : gs < w5.heap.size := hgs
    have yw1 : w1.heap.size < w5.heap.size := by omega
    refine wp_region_held_drew (S := fun w' => w'.cell? ⟨w1.heap.size, 0, none⟩ = some (.slice (some ⟨gi, 0, none⟩) n n) ∧ w'.cell? ⟨gs, 0, none⟩ = some (.int .i64 (xa : Nat)) ∧ w'.cell? ⟨gs, 1, none⟩ = some (.int .u8 (xb : Nat))) (by kernel_rfl) ⟨C5, d0, d1⟩ (fun hHeld => ?_)
    refine wpAnyH_take (i := 0) (oi := { dst := some 33, op := Op.move (.tmp 0), type := _, pos := _, after := _, guard := none }) (v := (Value.pointer (some ⟨P, 0, none⟩))) rfl (by kernel_rfl) (by kernel_rfl) (by kernel_rfl) (fun _ _ _ h => h) (Or.inl ⟨by rfl, by intro w' hSw; (try dsimp only at hSw); go_simp⟩) (by assumption) ?_
    simp only [Act.put, List.setIfInBounds_toArray, List.set_cons_zero, List.set_cons_succ]
    refine wpAnyH_take (i := 1) (oi := { dst := some 34, op := Op.load _ (.tmp 7), type := _, pos := _, after := _, guard := none }) (v := (Value.agg #[.slice (some ⟨gi, 0, none⟩) n n])) rfl (by kernel_rfl) (by kernel_rfl) (by kernel_rfl) (fun _ _ _ h => h) (Or.inl ⟨by rfl, by intro w' hSw; (try dsimp only at hSw); go_simp⟩) (by assumption) ?_
    simp only [Act.put, List.setIfInBounds_toArray, List.set_cons_zero, List.set_cons_succ]
    refine wpAnyH_take (i := 2) (oi := { dst := some 35, op := Op.move (.tmp 8), type := _, pos := _, after := _, guard := none }) (v := (Value.slice (some ⟨gl, 0, none⟩) n n)) rfl (by kernel_rfl) (by kernel_rfl) (by kernel_rfl) (fun _ _ _ h => h) (Or.inl ⟨by rfl, by intro w' hSw; (try dsimp only at hSw); go_simp⟩) (by assumption) ?_
    simp only [Act.put, List.setIfInBounds_toArray, List.set_cons_zero, List.set_cons_succ]
    refine wpAnyH_take (i := 3) (oi := { dst := some 36, op := Op.move (.tmp 10), type := _, pos := _, after := _, guard := none }) (v := (Value.slice (some ⟨gs, 0, none⟩) ln cs_)) rfl (by kernel_rfl) (by kernel_rfl) (by kernel_rfl) (fun _ _ _ h => h) (Or.inl ⟨by rfl, by intro w' hSw; (try dsimp only at hSw); go_simp⟩) (by assumption) ?_
    simp only [Act.put, List.setIfInBounds_toArray, List.set_cons_zero, List.set_cons_succ]
    refine wpAnyH_take (i := 4) (oi := { dst := some 37, op := Op.indexAddr _ (.tmp 36) (Operand.const (Value.int .i64 0)), type := _, pos := _, after := _, guard := none }) (v := (Value.pointer (some ⟨gs, 0, none⟩))) rfl (by kernel_rfl) (by kernel_rfl) (by kernel_rfl) (fun _ _ _ h => h) (Or.inl ⟨by rfl, by intro w' hSw; (try dsimp only at hSw); go_simp⟩) (by assumption) ?_
    simp only [Act.put, List.setIfInBounds_toArray, List.set_cons_zero, List.set_cons_succ]
    refine wpAnyH_take (i := 5) (oi := { dst := some 38, op := Op.load _ (.tmp 37), type := _, pos := _, after := _, guard := none }) (v := (Value.agg #[.int .i64 (xa : Nat), .int .u8 (xb : Nat)])) rfl (by kernel_rfl) (by kernel_rfl) (by kernel_rfl) (fun _ _ _ h => h) (Or.inl ⟨by rfl, by intro w' hSw; (try dsimp only at hSw); go_simp⟩) (by assumption) ?_
    simp only [Act.put, List.setIfInBounds_toArray, List.set_cons_zero, List.set_cons_succ]
    refine wpAnyH_ready (rs := [6, 7]) (by kernel_rfl) (by simp) ?_
    refine AllReadyH.cons rfl (fun K hK => ?_) (AllReadyH.cons rfl (fun K hK => ?_) AllReadyH.nil)
    · go_simp
      have bd := below_drewN (Below.refl w5.heap.size w5) 1
      refine (TA.out _ bd).mono ?_
      intro e w6 htn
      unfold Turned_ at htn
      obtain ⟨t, rfl, htl, HTP, b6⟩ := htn
      obtain ⟨ta, tb, rfl, htb⟩ : ∃ ta tb, t = ta * 256 + tb ∧ tb < 256 := ⟨t / 256, t % 256, by omega, by omega⟩
      rw [sdV_parts ta htb]
      dsimp only
      have x6 : Below w5.heap.size w5 w6 := bd.trans b6
      have e1 := (x6.cell (p := ⟨w1.heap.size, 0, none⟩) yw1).trans C5
      have e2 := (x6.cell (p := ⟨gs, 0, none⟩) ygs).trans d0
      have e3 := (x6.cell (p := ⟨gs, 1, none⟩) ygs).trans d1
      have x7 : Below w5.heap.size w5 (w6.alloc (.cells #[.int .i64 0, .int .u8 0] 162)) := x6.alloc x6.size _
      have f1 := (x7.cell (p := ⟨w1.heap.size, 0, none⟩) yw1).trans C5
      have f2 := (x7.cell (p := ⟨gs, 0, none⟩) ygs).trans d0
      have f3 := (x7.cell (p := ⟨gs, 1, none⟩) ygs).trans d1
      have hs6 := x6.size
      refine hK.out _ _ ⟨e1, e2, e3⟩ (fun hHeld => ?_)
      clear hK K
      (try simp only [Act.put, List.setIfInBounds_toArray, List.set_cons_zero, List.set_cons_succ])
      refine wpAnyH_ready (rs := [7]) (by kernel_rfl) (by simp) ?_
      refine AllReadyH.cons rfl (fun K hK => ?_) AllReadyH.nil
      go_simp
      refine hK.out _ _ ⟨f1, f2, f3⟩ (fun hHeld => ?_)
      clear hK K
      have HTS := hid (two_new w6 (.int .i64 (ta : Nat)) (.int .u8 (tb : Nat)) 162)
      have x8 := x6.alloc x6.size (.cells #[.int .i64 (ta : Nat), .int .u8 (tb : Nat)] 162)
      have g1 := (x8.cell (p := ⟨w1.heap.size, 0, none⟩) yw1).trans C5
      have g2 := (x8.cell (p := ⟨gs, 0, none⟩) ygs).trans d0
      have g3 := (x8.cell (p := ⟨gs, 1, none⟩) ygs).trans d1
      have HX8 := hid x8
      (try simp only [Act.put, List.setIfInBounds_toArray, List.set_cons_zero, List.set_cons_succ])
      refine wpAnyH_ready (rs := [8]) (by kernel_rfl) (by simp) ?_
      refine AllReadyH.cons rfl (fun K hK => ?_) AllReadyH.nil
      go_simp
      refine hK.out _ _ ⟨g1, g2, g3⟩ (fun hHeld => ?_)
      clear hK K
      refine wpAnyH_done (by kernel_rfl) ?_ _
      exact CONT _ w6.heap.size ta tb (by omega) htb HTS (hid HTP) HX8 (by simp)
    · go_simp
      have x6 : Below w5.heap.size w5 (w5.alloc (.cells #[.int .i64 0, .int .u8 0] 162)).drew := below_drewN ((Below.refl w5.heap.size w5).alloc (Nat.le_refl _) (.cells #[.int .i64 0, .int .u8 0] 162)) 1
      have e1 := (x6.cell (p := ⟨w1.heap.size, 0, none⟩) yw1).trans C5
      have e2 := (x6.cell (p := ⟨gs, 0, none⟩) ygs).trans d0
      have e3 := (x6.cell (p := ⟨gs, 1, none⟩) ygs).trans d1
      refine hK.out _ _ ⟨e1, e2, e3⟩ (fun hHeld => ?_)
      clear hK K
      (try simp only [Act.put, List.setIfInBounds_toArray, List.set_cons_zero, List.set_cons_succ])
      refine wpAnyH_ready (rs := [6]) (by kernel_rfl) (by simp) ?_
      refine AllReadyH.cons rfl (fun K hK => ?_) AllReadyH.nil
      go_simp
      refine (TA.out _ x6).mono ?_
      intro e w6 htn
      unfold Turned_ at htn
      obtain ⟨t, rfl, htl, HTP, b6⟩ := htn
      obtain ⟨ta, tb, rfl, htb⟩ : ∃ ta tb, t = ta * 256 + tb ∧ tb < 256 := ⟨t / 256, t % 256, by omega, by omega⟩
      rw [sdV_parts ta htb]
      dsimp only
      have b6' : Below (w5.heap.size + 1) (w5.alloc (.cells #[.int .i64 0, .int .u8 0] 162)).drew w6 := by
        have h9 : (w5.alloc (.cells #[.int .i64 0, .int .u8 0] 162)).drew.heap.size = w5.heap.size + 1 := by show (w5.alloc (.cells #[.int .i64 0, .int .u8 0] 162)).heap.size = _; simp
        rw [h9] at b6
        exact b6
      have x7 : Below w5.heap.size w5 w6 := x6.trans (b6'.mono (by omega))
      have f1 := (x7.cell (p := ⟨w1.heap.size, 0, none⟩) yw1).trans C5
      have f2 := (x7.cell (p := ⟨gs, 0, none⟩) ygs).trans d0
      have f3 := (x7.cell (p := ⟨gs, 1, none⟩) ygs).trans d1
      have TZ := ((two_new w5 (.int .i64 0) (.int .u8 0) 162).below (below_drewN (Below.refl (w5.heap.size + 1) _) 1) (by omega)).below b6' (by omega)
      have hs6 : w5.heap.size < w6.heap.size := TZ.lt
      refine hK.out _ _ ⟨f1, f2, f3⟩ (fun hHeld => ?_)
      clear hK K
      have z0 := TZ.c0
      have z1 := TZ.c1
      have z2 := TZ.f0
      have z3 := TZ.f1
      have HTS := hid (TZ.sets (.int .i64 (ta : Nat)) (.int .u8 (tb : Nat)))
      have x8 := (x7.setCell (p := ⟨w5.heap.size, 0, none⟩) (Nat.le_refl _) (.int .i64 (ta : Nat))).setCell (p := ⟨w5.heap.size, 1, none⟩) (Nat.le_refl _) (.int .u8 (tb : Nat))
      have g1 := (x8.cell (p := ⟨w1.heap.size, 0, none⟩) yw1).trans C5
      have g2 := (x8.cell (p := ⟨gs, 0, none⟩) ygs).trans d0
      have g3 := (x8.cell (p := ⟨gs, 1, none⟩) ygs).trans d1
      have HX8 := hid x8
      (try simp only [Act.put, List.setIfInBounds_toArray, List.set_cons_zero, List.set_cons_succ])
      refine wpAnyH_ready (rs := [8]) (by kernel_rfl) (by simp) ?_
      refine AllReadyH.cons rfl (fun K hK => ?_) AllReadyH.nil
      go_simp
      refine hK.out _ _ ⟨g1, g2, g3⟩ (fun hHeld => ?_)
      clear hK K
      refine wpAnyH_done (by kernel_rfl) ?_ _
      exact CONT _ w5.heap.size ta tb (by omega) htb HTS (hid HTP) HX8 (by simp; omega)

end Go.Proofs.Ytjagijohfkffiab
