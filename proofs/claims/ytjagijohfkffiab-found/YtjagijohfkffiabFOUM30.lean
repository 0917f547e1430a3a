import Derived.Test.YtjagijohfkffiabFOUM29

/- The walk of turn. -/
namespace Go.Proofs.Ytjagijohfkffiab
open Go.RowKit
set_option linter.unusedVariables false

theorem sd_parts (xa : Nat) {xb : Nat} (h : xb < 256) : (xa * 256 + xb) / 256 = xa ∧ (xa * 256 + xb) % 256 = xb := ⟨by omega, by omega⟩
theorem sdV_parts (xa : Nat) {xb : Nat} (h : xb < 256) : sdV (xa * 256 + xb) = .agg #[.int .i64 (xa : Nat), .int .u8 (xb : Nat)] := by
  unfold sdV
  rw [(sd_parts xa h).1, (sd_parts xa h).2]
theorem two_set' {w : World} {b : Nat} {x0 x1 : Value} (d0 : w.cell? ⟨b, 0, none⟩ = some x0) (d1 : w.cell? ⟨b, 1, none⟩ = some x1) (y0 y1 : Value) : ((w.setCell ⟨b, 0, none⟩ y0).setCell ⟨b, 1, none⟩ y1).rangeAt b 0 [y0, y1] := by
  have e1 : (w.setCell ⟨b, 0, none⟩ y0).cell? ⟨b, 1, none⟩ = some x1 := by rw [World.cell?_setCell_other _ _ _ _ (by simp)]; exact d1
  intro j v hj
  have : j = 0 ∨ j = 1 := by have := (List.getElem?_eq_some_iff.1 hj).1; simp at this; omega
  rcases this with rfl | rfl
  · simp at hj
    subst hj
    rw [Nat.zero_add, World.cell?_setCell_other _ _ _ _ (by simp)]
    exact World.cell?_setCell_same _ _ _ d0
  · simp at hj
    subst hj
    exact World.cell?_setCell_same _ _ _ e1
theorem Two.sets {w : World} {b : Nat} {x y : Value} (h : Two w b x y) (x' y' : Value) : Two ((w.setCell ⟨b, 0, none⟩ x').setCell ⟨b, 1, none⟩ y') b x' y' := by
  have := two_set' h.c0 h.c1 x' y'
  refine ⟨?_, ?_, ?_, ?_⟩
  · have h1 := this 0 x' rfl
    simpa using h1
  · have h1 := this 1 y' rfl
    simpa using h1
  · rw [World.frozen?_setCell, World.frozen?_setCell]; exact h.f0
  · rw [World.frozen?_setCell, World.frozen?_setCell]; exact h.f1
theorem Try.standSize : (Try.prog.info? 162).map (·.size) = some 2 := by kernel_rfl

theorem setCell_heap_other {w : World} {b o i : Nat} {v : Value} (h : i ≠ b) : (w.setCell ⟨b, o, none⟩ v).heap[i]? = w.heap[i]? := by
  unfold World.setCell
  simp only [Array.getElem?_modify]
  rw [if_neg (fun e => h e.symm)]

def Turned_ (n : Nat) (ns : List Nd) (into : Nat → List (Nat × Nat)) (cs : List (Nat → Bool)) (f : Nat → Bool) (x : Nat) (w : World) (e : Ending) (w' : World) : Prop :=
  ∃ t, e = .returned (sdV t) ∧ t < n * 256 ∧ TurnP (Ew n ns into) (spreads cs) f x t ∧ Below w.heap.size w w'

set_option maxHeartbeats 8000000 in
set_option maxRecDepth 100000 in
theorem turn_any (P gi n icap g cap x : Nat) (ns : List Nd) (into : Nat → List (Nat × Nat)) (cs : List (Nat → Bool)) (f : Nat → Bool) (w : World) (h8 : ns.length ≤ 8) (hp : WaysP n into) (hn8 : n ≤ 1048576) (hbm : BefM w P ns) (hP : P < w.heap.size) (hcm : CalmM w P cs) (hcl : cs.length ≤ 8) (hw : WaysM w gi n into) (hf : FlatG w g (n * 256) f) (hg : g < w.heap.size) (hlast : ∀ x, f x = true ↔ Forever (Ew n ns into) (spreads cs) x) (hx : f x = true) (hxn : x < n * 256) :
    Calls Try.prog 83 #[.pointer (some ⟨P, 0, none⟩), .agg #[.slice (some ⟨gi, 0, none⟩) n icap], .slice (some ⟨g, 0, none⟩) n cap, sdV x] w (Turned_ n ns into cs f x w) := by
  have hn := hp.le
  have SR := hid (fun W (b : Below w.heap.size w W) => searches_any P gi n icap g cap ns into cs f W h8 hp (hbm.below b hP) (Nat.lt_of_lt_of_le hP b.size) (hcm.below b hP) hcl (hw.below b) (hf.below b hg) (Nat.lt_of_lt_of_le hg b.size) hlast)
  have HFN : Hid (∀ y, f y = true → y < n * 256) := hid (fun y hy => by
    obtain ⟨q, h0, hq, _⟩ := (hlast y).1 hy
    rw [← h0]
    exact ew_from h8 hp (hq 0))
  obtain ⟨xa, xb, rfl, hxb⟩ : ∃ xa xb, x = xa * 256 + xb ∧ xb < 256 := ⟨x / 256, x % 256, by omega, by omega⟩
  rw [sdV_parts xa hxb]
  have HX := hid hx
  have hxa : xa < n := by omega
  unfold Searched at SR
  clear hbm hcm hw hf hlast hp hx
  have ba := (Below.refl w.heap.size w).alloc (Nat.le_refl _) (.cells #[.slice (some ⟨gi, 0, none⟩) n icap] 155)
  have bb := ba.alloc (by simp) (.cells #[.int .i64 (xa : Nat), .int .u8 (xb : Nat)] 162)
  have bc := bb.alloc (by simp; omega) (.cells #[.int .i64 0, .int .u8 0] 162)
  have B0 := hid bc
  have F0 : Hid (Two (((w.alloc (.cells #[.slice (some ⟨gi, 0, none⟩) n icap] 155)).alloc (.cells #[.int .i64 (xa : Nat), .int .u8 (xb : Nat)] 162)).alloc (.cells #[.int .i64 0, .int .u8 0] 162)) (w.heap.size + 1) (.int .i64 (xa : Nat)) (.int .u8 (xb : Nat))) := hid (by
    have h1 := two_new (w.alloc (.cells #[.slice (some ⟨gi, 0, none⟩) n icap] 155)) (.int .i64 (xa : Nat)) (.int .u8 (xb : Nat)) 162
    rw [show (w.alloc (.cells #[.slice (some ⟨gi, 0, none⟩) n icap] 155)).heap.size = w.heap.size + 1 by simp] at h1
    exact h1.below ((Below.refl (w.heap.size + 2) _).alloc (by simp) (.cells #[.int .i64 0, .int .u8 0] 162)) (by omega))
  have R0 : Hid (Two (((w.alloc (.cells #[.slice (some ⟨gi, 0, none⟩) n icap] 155)).alloc (.cells #[.int .i64 (xa : Nat), .int .u8 (xb : Nat)] 162)).alloc (.cells #[.int .i64 0, .int .u8 0] 162)) (w.heap.size + 2) (.int .i64 0) (.int .u8 0)) := hid (by
    have h1 := two_new ((w.alloc (.cells #[.slice (some ⟨gi, 0, none⟩) n icap] 155)).alloc (.cells #[.int .i64 (xa : Nat), .int .u8 (xb : Nat)] 162)) (.int .i64 0) (.int .u8 0) 162
    rw [show ((w.alloc (.cells #[.slice (some ⟨gi, 0, none⟩) n icap] 155)).alloc (.cells #[.int .i64 (xa : Nat), .int .u8 (xb : Nat)] 162)).heap.size = w.heap.size + 2 by simp] at h1
    exact h1)
  clear ba bb bc
  go_enter Try.func83, Try.ntmps83
  go_wp2_with fail
  generalize hW : (((w.alloc (.cells #[.slice (some ⟨gi, 0, none⟩) n icap] 155)).alloc (.cells #[.int .i64 (xa : Nat), .int .u8 (xb : Nat)] 162)).alloc (.cells #[.int .i64 0, .int .u8 0] 162)) = W at *
  have hWs : W.heap.size = w.heap.size + 3 := by rw [← hW]; simp
  clear hW
  refine (SR.out _ B0.out).mono ?_
  rintro e w1 ⟨rs, vS, rfl, OS, OK, SP, hb1⟩
  obtain ⟨aS, cS, rfl⟩ := own_slice OS
  have F1 := hid (F0.out.below hb1 (by omega))
  have R1 := hid (R0.out.below hb1 (by omega))
  have B1 := hid (B0.out.trans (hb1.mono (by omega)))
  have hs1 := hb1.size
  have HOS := hid OS
  have HOK := hid OK
  have HSP := hid SP
  have HOB : Hid ((∀ k, (Value.slice aS rs.length cS).ownBlock = some k → k < w1.heap.size) ∧ ∀ r ∈ rs, ∀ k, (Value.slice r.ao r.ls.length r.cap).ownBlock = some k → k < w1.heap.size) := hid ⟨fun k h => (OS.lt k h).2, fun r hr k h => ((OK r hr).ow.lt k h).2⟩
  clear hb1 OS OK SP F0 R0 B0 SR
  go_wp2_with (at_make; go_must (refine wpList_make_groups _ rfl (.tmp 21) rfl n rfl (by omega) ?_))
  intro w2 F2 hlt2 hb2
  have G2 := hid F2
  have OS2 := hid (own_keeps HOS.out hb2)
  have OK2 : Hid (∀ r ∈ rs, SrOk w2 W.heap.size (Ew n ns into) (n * 256) f r) := hid (fun r hr => (HOK.out r hr).below hb2)
  have FF2 := hid (F1.out.below hb2 (by omega))
  have R2 := hid (R1.out.below hb2 (by omega))
  have B2 := hid (B1.out.trans (hb2.mono (by omega)))
  have f0 := FF2.out.c0
  have f1 := FF2.out.c1
  clear F2 hb2 F1 R1 B1 HOS HOK
  have ba := (Below.refl w2.heap.size w2).alloc (Nat.le_refl _) (.cells #[.int .i64 (xa : Nat), .int .u8 (xb : Nat)] 162)
  have T3 := hid (two_new w2 (.int .i64 (xa : Nat)) (.int .u8 (xb : Nat)) 162)
  have G3 := hid (G2.out.below ba hlt2)
  have OS3 := hid (own_keeps OS2.out ba)
  have OK3 : Hid (∀ r ∈ rs, SrOk (w2.alloc (.cells #[.int .i64 (xa : Nat), .int .u8 (xb : Nat)] 162)) W.heap.size (Ew n ns into) (n * 256) f r) := hid (fun r hr => (OK2.out r hr).below ba)
  have R3 := hid (R2.out.below ba (by omega))
  have B3 := hid (B2.out.trans (ba.mono (by omega)))
  clear ba G2 OS2 OK2 FF2 R2 B2
  go_wp2_with fail
  generalize hW3 : (w2.alloc (.cells #[.int .i64 (xa : Nat), .int .u8 (xb : Nat)] 162)) = W3 at *
  have hW3s : W3.heap.size = w2.heap.size + 1 := by rw [← hW3]; simp
  clear hW3 f0 f1
  have TI0 : Hid (TurnI (Ew n ns into) (spreads cs) f (xa * 256 + xb) (fun _ => false) (xa * 256 + xb)) := hid (turnI_start _ HX.out)
  go_loopw [] (fun wq => ∃ (ya yb : Nat) (seen : Nat → Bool), ya < n ∧ yb < 256 ∧ Hid (Two wq w2.heap.size (.int .i64 (ya : Nat)) (.int .u8 (yb : Nat))) ∧ Hid (FlatG wq w1.heap.size (n * 256) seen) ∧ Hid (TurnI (Ew n ns into) (spreads cs) f (xa * 256 + xb) seen (ya * 256 + yb)) ∧ Hid (wq.ownsRow W.heap.size 167 3 (.slice aS rs.length cS) rs.length (flatSr n rs)) ∧ Hid (∀ r ∈ rs, SrOk wq W.heap.size (Ew n ns into) (n * 256) f r) ∧ Hid (Two wq (w.heap.size + 2) (.int .i64 0) (.int .u8 0)) ∧ Hid (Below w.heap.size w wq) ∧ w2.heap.size < wq.heap.size) (fun wq => n * 256 - truesF wq w1.heap.size (n * 256))
  case atStart => exact ⟨xa, xb, _, hxa, hxb, T3, G3, TI0, OS3, OK3, R3, B3, by omega⟩
  case round =>
    obtain ⟨ya, yb, seen, hya, hyb, HT, HG, HI, HOS, HOK, HR, HB, hsz⟩ := hrel
    rename World => W0
    clear T3 G3 TI0 OS3 OK3 R3 B3
    have t0 := HT.out.c0
    have t1 := HT.out.c1
    have hyN : ya * 256 + yb < n * 256 := by omega
    have cs0 := HG.out.c (ya * 256 + yb) hyN
    have cf0 := HG.out.f (ya * 256 + yb) hyN
    have HTR := hid (truesF_eq HG.out _ (Nat.le_refl _))
    have i1 : (0 : Int) ≤ (ya : Int) := by omega
    have i2 : (ya : Int) < (n : Int) := by omega
    have i3 : (0 : Int) ≤ (yb : Int) := by omega
    have i4 : (yb : Int) < 256 := by omega
    cases hse : seen (ya * 256 + yb) with
    | true =>
      rw [hse] at cs0
      have HTP := hid (turn_done HI.out hse)
      clear hse
      have u0 := HR.out.c0
      have u1 := HR.out.c1
      have v0 := HR.out.f0
      have v1 := HR.out.f1
      have HQ : Hid (∀ q, Two (W0.drewN q) w2.heap.size (.int .i64 (ya : Nat)) (.int .u8 (yb : Nat)) ∧ Two (W0.drewN q) (w.heap.size + 2) (.int .i64 0) (.int .u8 0) ∧ Below w.heap.size w (W0.drewN q)) := hid (fun q => ⟨HT.out.below (below_drewN (Below.refl _ _) q) HT.out.lt, HR.out.below (below_drewN (Below.refl _ _) q) HR.out.lt, below_drewN HB.out q⟩)
      go_wp2_with fail
      go_quiet (fail)
      obtain ⟨q1, q2, q3⟩ := HQ.out nq
      have t0 := q1.c0
      have t1 := q1.c1
      have u0 := q2.c0
      have u1 := q2.c1
      have v0 := q2.f0
      have v1 := q2.f1
      have HBQ := hid q3
      clear q1 q2 q3 HQ
      generalize W0.drewN nq = W4 at *
      go_wp2_with fail
      refine ret_cells (cs := [.int .i64 (ya : Nat), .int .u8 (yb : Nat)]) (b := w.heap.size + 2) Try.results83 ?_ ?_ ?_ Try.underlying162 rfl Try.standSize ?_
      · rfl
      · rfl
      · exact two_set' u0 u1 _ _
      · unfold Turned_
        refine ⟨ya * 256 + yb, by rw [sdV_parts ya hyb], hyN, HTP.out, ?_⟩
        exact (HBQ.out.setCell (p := ⟨w.heap.size + 2, 0, none⟩) (by show w.heap.size ≤ w.heap.size + 2; omega) _).setCell (p := ⟨w.heap.size + 2, 1, none⟩) (by show w.heap.size ≤ w.heap.size + 2; omega) _
    | false =>
      rw [hse] at cs0
      have HSE := hid hse
      clear hse
      have hw12 : w1.heap.size < w2.heap.size := hlt2
      have NX : Hid (∀ q, ∃ W5, W5 = ((W0.drewN q).setCell ⟨w1.heap.size, ya * 256 + yb, none⟩ (.bool true)).drew ∧ Two W5 w2.heap.size (.int .i64 (ya : Nat)) (.int .u8 (yb : Nat)) ∧ FlatG W5 w1.heap.size (n * 256) (upd seen (ya * 256 + yb) true) ∧ W5.ownsRow W.heap.size 167 3 (.slice aS rs.length cS) rs.length (flatSr n rs) ∧ (∀ r ∈ rs, SrOk W5 W.heap.size (Ew n ns into) (n * 256) f r) ∧ Two W5 (w.heap.size + 2) (.int .i64 0) (.int .u8 0) ∧ Below w.heap.size w W5 ∧ w2.heap.size < W5.heap.size) := hid (fun q => by
        have bt : ButAt w1.heap.size W0 ((W0.drewN q).setCell ⟨w1.heap.size, ya * 256 + yb, none⟩ (.bool true)).drew := ⟨by simp, fun i hi hne => by
          have := setCell_heap_other (w := W0.drewN q) (b := w1.heap.size) (o := ya * 256 + yb) (v := .bool true) hne
          exact this⟩
        have D5 := HG.out.set (ya * 256 + yb) true
        have hsep := HOB.out
        refine ⟨_, rfl, ?_, ⟨D5.c, D5.f⟩, own_but HOS.out bt ?_, fun r hr => ?_, ?_, ?_, by simp; omega⟩
        · have X := HT.out.other (k := w1.heap.size) (o := ya * 256 + yb) (by omega) (.bool true)
          exact ⟨X.c0, X.c1, X.f0, X.f1⟩
        · exact fun e => by have := hsep.1 _ e; omega
        · have h9 := HOK.out r hr
          exact ⟨own_but h9.ow bt (fun e => by have := hsep.2 r hr _ e; omega), h9.sk, h9.gl, h9.fd⟩
        · have X := HR.out.other (k := w1.heap.size) (o := ya * 256 + yb) (by omega) (.bool true)
          exact ⟨X.c0, X.c1, X.f0, X.f1⟩
        · exact below_drewN ((below_drewN HB.out q).setCell (p := ⟨w1.heap.size, ya * 256 + yb, none⟩) (by show w.heap.size ≤ w1.heap.size; omega) (.bool true)) 1)
      have HQ : Hid (∀ q, (W0.drewN q).cell? ⟨w2.heap.size, 0, none⟩ = some (.int .i64 (ya : Nat)) ∧ (W0.drewN q).cell? ⟨w2.heap.size, 1, none⟩ = some (.int .u8 (yb : Nat)) ∧ (W0.drewN q).cell? ⟨w1.heap.size, ya * 256 + yb, none⟩ = some (.bool false) ∧ (W0.drewN q).frozen? ⟨w1.heap.size, ya * 256 + yb, none⟩ = false) := hid (fun q => ⟨t0, t1, cs0, cf0⟩)
      go_wp2_with fail
      go_quiet (fail)
      obtain ⟨q0, q1, q2, q3⟩ := HQ.out nq
      obtain ⟨W5, eW, n1, n2, n3, n4, n5, n6, n7⟩ := NX.out nq
      have N1 := hid n1
      have N2 := hid n2
      have N3 := hid n3
      have N4 := hid n4
      have N5 := hid n5
      have N6 := hid n6
      have s0 := n1.c0
      have s1 := n1.c1
      subst eW
      clear n1 n2 n3 n4 n5 n6 NX HQ t0 t1 cs0 cf0 HT HG HOS HOK HR HB
      generalize W0.drewN nq = W4 at *
      go_wp2_with fail
      go_region_held3 (fun w' => w'.cell? ⟨w2.heap.size, 0, none⟩ = some (.int .i64 (ya : Nat)) ∧ w'.cell? ⟨w2.heap.size, 1, none⟩ = some (.int .u8 (yb : Nat)))
        (first
          | go_keep
          | exact ⟨s0, s1⟩)
        (fail)
      clear s0 s1 q0 q1 q2 q3
      generalize (W4.setCell ⟨w1.heap.size, ya * 256 + yb, none⟩ (.bool true)).drew = W5 at *
      have hrl := HSP.out.le
      have hrp := HSP.out.pos
      have RI0 : Hid (RoundI (Ew n ns into) (spreads cs) 0 (ya * 256 + yb) (ya * 256 + yb)) := hid (roundI_start _ _ _)
      have L0 : Hid (f (ya * 256 + yb) = true) := hid HI.out.last
      go_wp2_with fail
      go_loopw [54] (fun k wq => ∃ (j za zb : Nat), j ≤ rs.length ∧ k = .int .i64 j ∧ za < n ∧ zb < 256 ∧ Hid (Two wq w2.heap.size (.int .i64 (za : Nat)) (.int .u8 (zb : Nat))) ∧ Hid (RoundI (Ew n ns into) (spreads cs) j (ya * 256 + yb) (za * 256 + zb)) ∧ Hid (f (za * 256 + zb) = true) ∧ Hid (FlatG wq w1.heap.size (n * 256) (upd seen (ya * 256 + yb) true)) ∧ Hid (wq.ownsRow W.heap.size 167 3 (.slice aS rs.length cS) rs.length (flatSr n rs)) ∧ Hid (∀ r ∈ rs, SrOk wq W.heap.size (Ew n ns into) (n * 256) f r) ∧ Hid (Two wq (w.heap.size + 2) (.int .i64 0) (.int .u8 0)) ∧ Hid (Below w.heap.size w wq) ∧ w2.heap.size < wq.heap.size) (fun k _ => rs.length - (intOf k).toNat)
      case atStart => exact ⟨0, ya, yb, Nat.zero_le _, rfl, hya, hyb, N1, RI0, L0, N2, N3, N4, N5, N6, n7⟩
      case round =>
        obtain ⟨j, za, zb, hj, rfl, hza, hzb, HT, HRI, HFZ, HG, HOS, HOK, HR, HB, hsz⟩ := hrel
        rename World => W6
        clear N1 RI0 L0 N2 N3 N4 N5 N6 n7
        by_cases hlj : j < rs.length
        · obtain ⟨r, hr⟩ : ∃ r, rs[j]? = some r := ⟨rs[j], List.getElem?_eq_getElem hlj⟩
          obtain ⟨gS, eS, _, hgS, _⟩ := own_at' HOS.out (by omega)
          cases eS
          obtain ⟨k0, k1, k2⟩ := flatSr_get (n := n) hr
          have d0 := (HOS.out.cellAt (j * 3) (by omega)).trans k0
          have d1 := (HOS.out.cellAt (j * 3 + 1) (by omega)).trans k1
          have d2 := (HOS.out.cellAt (j * 3 + 2) (by omega)).trans k2
          have hok := HOK.out r (List.mem_of_getElem? hr)
          have HSK := hid hok.sk
          have HLK := hid hok.lk
          have HGL := hid hok.gl
          have HFN2 := hid (hok.sk.in_ (za * 256 + zb) (hok.fd _ HFZ.out))
          have HMKJ : Hid (∀ c, (spreads cs)[j]? = some c → ∀ y, r.goal y = true → c y = true) := hid (fun c hc y hy => by
            unfold spreads at hc
            rw [List.getElem?_map] at hc
            cases hcs : cs[j]? with
            | none => rw [hcs] at hc; simp at hc
            | some c0 =>
              rw [hcs] at hc
              simp at hc
              subst hc
              obtain ⟨r', h1, h2⟩ := HSP.out.mark j c0 hcs
              rw [hr] at h1
              cases h1
              exact h2 y hy)
          have hll := seek_len hok.sk
          have hgl2 := goalsTo_le r.goal (n * 256)
          clear k0 k1 k2 hok hr
          obtain ⟨gf, rao, rcap, ls, goal, found⟩ := r
          dsimp only at *
          have bs := (Below.refl W6.heap.size W6).alloc (Nat.le_refl _) (.cells #[.slice (some ⟨gf, 0, none⟩) n n, .slice rao ls.length rcap, .int .i64 ((goalsTo goal (n * 256)).length : Nat)] 167)
          have HS3 := hid (three_new W6 (.slice (some ⟨gf, 0, none⟩) n n) (.slice rao ls.length rcap) (.int .i64 ((goalsTo goal (n * 256)).length : Nat)) 167)
          have HT7 := hid (HT.out.below bs (by omega))
          have HX7 := hid bs
          have t0 := HT7.out.c0
          have t1 := HT7.out.c1
          have HLK7 := hid (HLK.out.below bs)
          have i1 : (0 : Int) ≤ (j : Int) := by omega
          have i2 : (j : Int) < (rs.length : Int) := by omega
          have NA := onumber_any W6.heap.size (za * 256 + zb) (.slice (some ⟨gf, 0, none⟩) n n) rao rcap (goalsTo goal (n * 256)).length ls _ HS3.out HLK7.out (by omega) (by omega) HFN2.out
          rw [sdV_parts za hzb] at NA
          have HNA := hid NA
          clear bs NA
          generalize hgln : (goalsTo goal (n * 256)).length = gln at *
          have HGLN := hid hgln
          clear hgln
          go_wp2_with fail
          refine HNA.out.mono ?_
          rintro e w8 ⟨i, t, rfl, hgi, hit, hb8⟩
          simp only [World.size_alloc] at hb8
          have HX8 := hid (HX7.out.trans (hb8.mono (by omega)))
          have HS8 := hid (HS3.out.below hb8 (by omega))
          have HLK8 := hid (HLK.out.below HX8.out)
          have hs8 := HX8.out.size
          have hs8' : W6.heap.size < w8.heap.size := HS8.out.lt
          have WA := walk_any W6.heap.size i (za * 256 + zb) t (Ew n ns into) (n * 256) goal found (.slice (some ⟨gf, 0, none⟩) n n) rao rcap ls w8 HSK.out (by rw [HGLN.out]; exact HS8.out) HLK8.out (by omega) (by omega) hit
          rw [HGLN.out] at WA
          have HWA := hid WA
          clear hb8 t0 t1 d0 d1 d2 HX7 HT7 HLK7 HNA HS3 HS8 HLK8 WA
          go_wp2_with fail
          refine HWA.out.mono ?_
          intro e w9 htr
          unfold Tripped at htr
          obtain ⟨ps, en, vp, rfl, OP, hgo, hne, _, hhd, hge, hen, hpn, hpl, hb9⟩ := htr
          obtain ⟨ap, cp, rfl⟩ := own_slice OP
          have HX9 := hid (HX8.out.trans (hb9.mono (by omega)))
          obtain ⟨ea, eb, rfl, heb⟩ : ∃ ea eb, en = ea * 256 + eb ∧ eb < 256 := ⟨en / 256, en % 256, by omega, by omega⟩
          rw [(sd_parts ea heb).1, (sd_parts ea heb).2]
          have hrch : reach (Ew n ns into) (za * 256 + zb) (ea * 256 + eb) := by
            have h9 := goes_reach hgo
            have h10 := hne hgi
            cases ps with
            | nil => exact absurd rfl h10
            | cons p ps =>
              have h11 : p = za * 256 + zb := hhd
              have h12 := h9.2 p (by simp)
              rw [h11] at h12
              exact h12
          have HRI2 := hid (roundI_step HRI.out hrch (fun c hc => HMKJ.out c hc _ hge))
          have HFE := hid (HGL.out _ hge)
          have hea : ea < n := by omega
          have bt := (Below.refl w9.heap.size w9).alloc (Nat.le_refl _) (.cells #[.slice ap ps.length cp, .int .i64 (ea : Nat), .int .u8 (eb : Nat)] 171)
          have HX10 := hid (HX9.out.trans (bt.mono (by have := HX9.out.size; omega)))
          have hs9 := HX9.out.size
          have T10 := HT.out.below HX10.out (by omega)
          have a0 := T10.c0
          have a1 := T10.c1
          have af0 := T10.f0
          have af1 := T10.f1
          have N1 := hid (T10.sets (.int .i64 (ea : Nat)) (.int .u8 (eb : Nat)))
          have G10 := HG.out.below HX10.out (by omega)
          have N2 := hid ((G10.other ⟨w2.heap.size, 0, none⟩ (.int .i64 (ea : Nat)) (by show w2.heap.size ≠ w1.heap.size; omega)).other ⟨w2.heap.size, 1, none⟩ (.int .u8 (eb : Nat)) (by show w2.heap.size ≠ w1.heap.size; omega))
          have R10 := HR.out.below HX10.out (by omega)
          have N5 := hid ((R10.other (k := w2.heap.size) (o := 0) (by omega) (.int .i64 (ea : Nat))).other (k := w2.heap.size) (o := 1) (by omega) (.int .u8 (eb : Nat)))
          have bt2 : ButAt w2.heap.size (w9.alloc (.cells #[.slice ap ps.length cp, .int .i64 (ea : Nat), .int .u8 (eb : Nat)] 171)) (((w9.alloc (.cells #[.slice ap ps.length cp, .int .i64 (ea : Nat), .int .u8 (eb : Nat)] 171)).setCell ⟨w2.heap.size, 0, none⟩ (.int .i64 (ea : Nat))).setCell ⟨w2.heap.size, 1, none⟩ (.int .u8 (eb : Nat))) := ⟨by simp, fun i hi hne => by rw [setCell_heap_other hne, setCell_heap_other hne]⟩
          have hsep := HOB.out
          have N3 := hid (own_but (own_keeps HOS.out HX10.out) bt2 (fun e => by have := hsep.1 _ e; omega))
          have N4 : Hid (∀ r ∈ rs, SrOk (((w9.alloc (.cells #[.slice ap ps.length cp, .int .i64 (ea : Nat), .int .u8 (eb : Nat)] 171)).setCell ⟨w2.heap.size, 0, none⟩ (.int .i64 (ea : Nat))).setCell ⟨w2.heap.size, 1, none⟩ (.int .u8 (eb : Nat))) W.heap.size (Ew n ns into) (n * 256) f r) := hid (fun r hr => by
            have h9 := (HOK.out r hr).below HX10.out
            exact ⟨own_but h9.ow bt2 (fun e => by have := hsep.2 r hr _ e; omega), h9.sk, h9.gl, h9.fd⟩)
          have N6 := hid (((HB.out.trans (HX10.out.mono (by have := HB.out.size; omega))).setCell (p := ⟨w2.heap.size, 0, none⟩) (by show w.heap.size ≤ w2.heap.size; omega) (.int .i64 (ea : Nat))).setCell (p := ⟨w2.heap.size, 1, none⟩) (by show w.heap.size ≤ w2.heap.size; omega) (.int .u8 (eb : Nat)))
          have n7 : w2.heap.size < (((w9.alloc (.cells #[.slice ap ps.length cp, .int .i64 (ea : Nat), .int .u8 (eb : Nat)] 171)).setCell ⟨w2.heap.size, 0, none⟩ (.int .i64 (ea : Nat))).setCell ⟨w2.heap.size, 1, none⟩ (.int .u8 (eb : Nat))).heap.size := by simp; omega
          clear OP hgo hne hhd hge hpn hpl hb9 hrch bt T10 G10 R10 bt2 HWA
          go_wp2_with fail
          go_roundw
          case rel => exact ⟨j + 1, ea, eb, by omega, by go_num, hea, heb, N1, HRI2, HFE, N2, N3, N4, N5, N6, n7⟩
          case measure => simp [intOf] <;> omega
        · obtain rfl : j = rs.length := by omega
          have HI2 := hid (turnI_step HI.out HRI.out hrp (by have := HSP.out.len; simpa [spreads] using this) HFZ.out)
          have HTR2 := hid (truesF_eq HG.out _ (Nat.le_refl _))
          have HCU := hid (cntT_upd HSE.out (n * 256) hyN)
          have HCL := hid (cntT_le (upd seen (ya * 256 + yb) true) (n * 256))
          go_wp2_with fail
          go_roundw
          case rel => exact ⟨za, zb, _, hza, hzb, HT, HG, HI2, HOS, HOK, HR, HB, hsz⟩
          case measure =>
            rw [HTR2.out, HTR.out, HCU.out]
            have := HCL.out
            rw [HCU.out] at this
            omega

end Go.Proofs.Ytjagijohfkffiab
