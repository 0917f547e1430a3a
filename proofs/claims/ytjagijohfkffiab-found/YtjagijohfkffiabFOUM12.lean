import Derived.Test.YtjagijohfkffiabFOUM11

/- The walk of leads. -/
namespace Go.Proofs.Ytjagijohfkffiab
open Go.RowKit
set_option linter.unusedVariables false

set_option maxHeartbeats 4000000 in
set_option maxRecDepth 100000 in
theorem leads_any (P gi n icap g cap : Nat) (ns : List Nd) (into : Nat → List (Nat × Nat)) (goal : Nat → Bool) (w : World) (h8 : ns.length ≤ 8) (hp : WaysP n into) (hbm : BefM w P ns) (hP : P < w.heap.size) (hw : WaysM w gi n into) (hgl : FlatG w g (n * 256) goal) (hg : g < w.heap.size) :
    Calls Try.prog 127 #[.pointer (some ⟨P, 0, none⟩), .agg #[.slice (some ⟨gi, 0, none⟩) n icap], .slice (some ⟨g, 0, none⟩) n cap] w fun e w' => ∃ g' found, e = .returned (.slice (some ⟨g', 0, none⟩) n n) ∧ w.heap.size ≤ g' ∧ g' < w'.heap.size ∧ FlatG w' g' (n * 256) found ∧ (∀ x, found x = true ↔ LeadsP (Ew n ns into) (fun y => goal y = true) x) ∧ Below w.heap.size w w' := by
  have HP := hid hp
  have HM := hid hbm
  have HW := hid hw
  have HG := hid hgl
  clear hp hbm hw hgl
  go_enter Try.func127, Try.ntmps127
  go_wp2_with fail
  have ba := (Below.refl w.heap.size w).alloc (Nat.le_refl _) (.cells #[.slice (some ⟨gi, 0, none⟩) n icap] 155)
  refine (seek_any P gi n icap g cap ns into goal _ h8 HP.out (HM.out.below ba hP) (by simp; omega) (HW.out.below ba) (HG.out.below ba hg) (by simp; omega)).mono ?_
  rintro e w1 ⟨g', found, ls, v, rfl, hg', hgs, hF, hL, _, hO, hb⟩
  simp only [World.size_alloc] at hg' hb
  obtain ⟨ao, cp, rfl⟩ := own_slice hO
  have HF := hid hF
  have HL := hid hL
  have HB := hid (ba.trans (hb.mono (by omega)))
  have hs := hb.size
  clear hF hL hO hb ba
  go_wp2_with fail
  go_ret
  have bb := (Below.refl w1.heap.size w1).alloc (Nat.le_refl _) (.cells #[.slice (some ⟨g', 0, none⟩) n n, .slice ao ls.length cp, .int .i64 ((goalsTo goal (n * 256)).length : Nat)] 167)
  exact ⟨g', found, rfl, by omega, by simp; omega, HF.out.below bb hgs, HL.out, HB.out.trans (bb.mono (by omega))⟩

end Go.Proofs.Ytjagijohfkffiab

/- The walks of drop and lasting. -/
namespace Go.Proofs.Ytjagijohfkffiab
open Go.RowKit
set_option linter.unusedVariables false

/-- The calm groups of an outlook, in memory. -/
def CalmM (w : World) (P : Nat) (cs : List (Nat → Bool)) : Prop := ∃ ao cap, w.cell? ⟨P, 2048, none⟩ = some (.slice ao cs.length cap) ∧ (0 < cs.length → ∃ gc, ao = some ⟨gc, 0, none⟩ ∧ gc < w.heap.size ∧ ∀ k c, cs[k]? = some c → GrpAt w gc (k * 256) c)
theorem CalmM.below {w w' : World} {P : Nat} {cs : List (Nat → Bool)} (h : CalmM w P cs) (hb : Below w.heap.size w w') (hP : P < w.heap.size) : CalmM w' P cs := by
  obtain ⟨ao, cap, h1, h2⟩ := h
  refine ⟨ao, cap, (hb.cell (p := ⟨P, 2048, none⟩) hP).trans h1, fun h0 => ?_⟩
  obtain ⟨gc, h3, h4, h5⟩ := h2 h0
  exact ⟨gc, h3, Nat.lt_of_lt_of_le h4 hb.size, fun k c hk => (h5 k c hk).below hb h4⟩

/-- A group at each spot. -/
def spread (c : Nat → Bool) : Nat → Bool := fun x => c (x % 256)
def spreads (cs : List (Nat → Bool)) : List (Nat → Bool) := cs.map spread
theorem spreads_take {cs : List (Nat → Bool)} {k : Nat} {c : Nat → Bool} (h : cs[k]? = some c) : (spreads cs).take (k + 1) = (spreads cs).take k ++ [spread c] := by
  have hk := (List.getElem?_eq_some_iff.1 h).1
  rw [List.take_succ_eq_append_getElem (by simpa [spreads] using hk)]
  have : cs[k] = c := by rw [List.getElem?_eq_getElem hk] at h; exact Option.some.inj h
  simp [spreads, this]

set_option maxHeartbeats 8000000 in
set_option maxRecDepth 100000 in
theorem drop_any (P gi n icap g cap : Nat) (ns : List Nd) (into : Nat → List (Nat × Nat)) (cs : List (Nat → Bool)) (goal : Nat → Bool) (w : World) (h8 : ns.length ≤ 8) (hp : WaysP n into) (hbm : BefM w P ns) (hP : P < w.heap.size) (hcm : CalmM w P cs) (hcl : cs.length ≤ 8) (hw : WaysM w gi n into) (hgl : FlatG w g (n * 256) goal) (hg : g < w.heap.size) :
    Calls Try.prog 113 #[.pointer (some ⟨P, 0, none⟩), .agg #[.slice (some ⟨gi, 0, none⟩) n icap], .slice (some ⟨g, 0, none⟩) n cap] w fun e w' => ∃ g' found, e = .returned (.slice (some ⟨g', 0, none⟩) n n) ∧ w.heap.size ≤ g' ∧ g' < w'.heap.size ∧ FlatG w' g' (n * 256) found ∧ (∀ x, found x = true ↔ dropP (Ew n ns into) (spreads cs) (fun y => goal y = true) x) ∧ Below w.heap.size w w' := by
  have hn := hp.le
  have HP := hid hp
  have HM := hid hbm
  have HW := hid hw
  have HG := hid hgl
  have hgi := hw.lt
  obtain ⟨ca, ccap, cc0, hcr⟩ := hcm
  have HCR := hid hcr
  clear hp hbm hw hgl hcr
  generalize hm : cs.length = m at *
  have HLM := hid hm
  clear hm
  go_enter Try.func113, Try.ntmps113
  go_wp2_with fail
  have ba := hid ((Below.refl w.heap.size w).alloc (Nat.le_refl _) (.cells #[.slice (some ⟨gi, 0, none⟩) n icap] 155))
  refine (leads_any P gi n icap g cap ns into goal _ h8 HP.out (HM.out.below ba.out hP) (by simp; omega) (HW.out.below ba.out) (HG.out.below ba.out hg) (by simp; omega)).mono ?_
  rintro e w1 ⟨g1, f1, rfl, hg1, hg1s, F1, L1, hb1⟩
  simp only [World.size_alloc] at hg1 hb1
  have c4 : w1.cell? ⟨w.heap.size, 0, none⟩ = some (.slice (some ⟨gi, 0, none⟩) n icap) := (hb1.cell (p := ⟨w.heap.size, 0, none⟩) (by show w.heap.size < w.heap.size + 1; omega)).trans (by simp)
  have cc1 := (hb1.cell (p := ⟨P, 2048, none⟩) (by show P < w.heap.size + 1; omega)).trans ((ba.out.cell (p := ⟨P, 2048, none⟩) hP).trans cc0)
  have HB1 := hid (ba.out.trans (hb1.mono (by omega)))
  have F1 := hid F1
  have L1 := hid L1
  have hs1 : w.heap.size < w1.heap.size := by omega
  clear hb1 ba cc0
  have C4 := hid c4
  go_wp2_with fail
  clear cc1 c4
  go_loopw [7, 20] (fun v i wq => ∃ (k g2 : Nat) (f : Nat → Bool), k ≤ m ∧ i = .int .i64 k ∧ v = .slice (some ⟨g2, 0, none⟩) n n ∧ w.heap.size ≤ g2 ∧ g2 < wq.heap.size ∧ Hid (FlatG wq g2 (n * 256) f) ∧ Hid (∀ x, f x = true ↔ dropP (Ew n ns into) ((spreads cs).take k) (fun y => goal y = true) x) ∧ Hid (wq.cell? ⟨w.heap.size, 0, none⟩ = some (.slice (some ⟨gi, 0, none⟩) n icap)) ∧ Hid (Below w.heap.size w wq) ∧ w.heap.size < wq.heap.size) (fun _ i _ => m - (intOf i).toNat)
  case atStart => exact ⟨0, g1, f1, Nat.zero_le _, rfl, rfl, by omega, hg1s, F1, by simpa [dropP] using L1, C4, HB1, hs1⟩
  case round =>
    obtain ⟨k, g2, f, hk, rfl, rfl, hg2, hg2s, HF, HD, HC, HB, hsz⟩ := hrel
    rename World => W0
    by_cases hlk : k < m
    · obtain ⟨gc, e, hgc, hcell⟩ := HCR.out (by omega)
      subst e
      obtain ⟨c, hc⟩ : ∃ c, cs[k]? = some c := ⟨cs[k]'(by rw [HLM.out]; exact hlk), List.getElem?_eq_getElem (by rw [HLM.out]; exact hlk)⟩
      have GC := hid ((hcell k c hc).below HB.out hgc)
      have HTK := hid (spreads_take hc)
      clear hcell hc
      go_wp2_with (first | (refine wpList_load_grp rfl (.tmp 22) rfl gc (k * 256) c rfl GC.out ?_) | (refine wpList_store_grp rfl (.tmp 9) (.tmp 23) rfl W0.heap.size 0 c rfl rfl (zero_new W0).there ?_))
      intro w2 S2
      have bw2 : Below W0.heap.size W0 w2 := S2.bel _ _ (Nat.le_refl _) ((Below.refl _ _).alloc (Nat.le_refl _) _)
      have A9 := hid S2.at_
      have HF2 := hid (HF.out.below bw2 hg2s)
      have HC2 := hid ((bw2.cell (p := ⟨w.heap.size, 0, none⟩) hsz).trans HC.out)
      have HB2 := hid (HB.out.trans (bw2.mono (by omega)))
      have hs2 := bw2.size
      clear S2 bw2 GC
      go_wp2_with (refine wpList_load_grp rfl (.tmp 9) rfl W0.heap.size 0 c rfl A9.out ?_)
      refine (both_any g2 n n f c w2 (by omega) HF2.out (by omega)).mono ?_
      rintro e w3 ⟨g3, rfl, hg3, hg3s, F3, hb3⟩
      have F3 := hid F3
      have HB3 := hid (HB2.out.trans (hb3.mono (by omega)))
      have c43 := (hb3.cell (p := ⟨w.heap.size, 0, none⟩) (by show w.heap.size < w2.heap.size; omega)).trans HC2.out
      have C43 := hid c43
      have hs3 := hb3.size
      clear hb3 HF2 HC2
      go_wp2_with fail
      refine (leads_any P gi n icap g3 n ns into (bothB f c) w3 h8 HP.out (HM.out.below HB3.out hP) (by omega) (HW.out.below HB3.out) F3.out hg3s).mono ?_
      rintro e w4 ⟨g4, f4, rfl, hg4, hg4s, F4, L4, hb4⟩
      have F4 := hid F4
      have HB4 := hid (HB3.out.trans (hb4.mono (by omega)))
      have C44 := hid ((hb4.cell (p := ⟨w.heap.size, 0, none⟩) (by show w.heap.size < w3.heap.size; omega)).trans c43)
      have HL4 : Hid (∀ x, f4 x = true ↔ dropP (Ew n ns into) ((spreads cs).take (k + 1)) (fun y => goal y = true) x) := hid (fun x => by
        rw [L4 x, HTK.out, dropP_snoc]
        refine LeadsP.congr (fun y => ?_) x
        rw [← HD.out y]
        unfold bothB spread
        simp)
      have hs4 := hb4.size
      clear hb4 L4 c43 F3
      go_wp2_with fail
      go_roundw
      case rel => exact ⟨k + 1, g4, f4, by omega, by go_num, rfl, by omega, hg4s, F4, HL4, C44, HB4, by omega⟩
      case measure => simp [intOf]; omega
    · obtain rfl : k = m := by omega
      have HE : Hid ((spreads cs).take k = spreads cs) := hid (List.take_of_length_le (by simp [spreads, HLM.out]))
      go_wp2_with fail
      go_ret
      exact ⟨g2, f, rfl, hg2, hg2s, HF.out, by rw [HE.out] at HD; exact HD.out, HB.out⟩

end Go.Proofs.Ytjagijohfkffiab

/- The walk of lasting. -/
namespace Go.Proofs.Ytjagijohfkffiab
open Go.RowKit
set_option linter.unusedVariables false

/-- How many cells of a slice's block say true. -/
def truesF (w : World) (g : Nat) : Nat → Nat
  | 0 => 0
  | n + 1 => truesF w g n + (match w.cell? ⟨g, n, none⟩ with | some (.bool true) => 1 | _ => 0)
theorem truesF_eq {w : World} {g N : Nat} {f : Nat → Bool} (h : FlatG w g N f) : ∀ n, n ≤ N → truesF w g n = cntT f n
  | 0, _ => rfl
  | n + 1, hn => by
    rw [truesF, cntT, truesF_eq h n (by omega), h.c n (by omega)]
    cases f n <;> simp
def blockOf (v : Value) : Nat := match v with
  | .slice (some a) _ _ => a.block
  | _ => 0

/-- What is left at a round's head. -/
structure LastI (E : Nat → Nat → Prop) (N : Nat) (cs : List (Nat → Bool)) (f : Nat → Bool) : Prop where
  lt : ∀ x, f x = true → x < N
  all : ∀ x, Forever E cs x → f x = true
  sub : ∀ x, dropP E cs (fun y => f y = true) x → f x = true

theorem drop_from {E : Nat → Nat → Prop} {N : Nat} (hE : ∀ a b, E a b → a < N) : ∀ (cs : List (Nat → Bool)) {G : Nat → Prop} {x : Nat}, dropP E cs G x → x < N := by
  intro cs G x h
  obtain ⟨y, _, ⟨L, c, he, _⟩, _⟩ := drop_walk h
  exact hE _ _ he
theorem last_start {E : Nat → Nat → Prop} {N : Nat} (hE : ∀ a b, E a b → a < N) (cs : List (Nat → Bool)) : LastI E N cs (fun x => decide (x < N)) :=
  ⟨fun x h => by simpa using h, fun x ⟨q, h0, hq, _⟩ => by rw [← h0]; simpa using hE _ _ (hq 0), fun x h => by simpa using drop_from hE cs h⟩
theorem last_next {E : Nat → Nat → Prop} {N : Nat} (hE : ∀ a b, E a b → a < N) {cs : List (Nat → Bool)} {f f' : Nat → Bool} (h : LastI E N cs f) (hd : ∀ x, f' x = true ↔ dropP E cs (fun y => f y = true) x) : LastI E N cs f' :=
  ⟨fun x hx => drop_from hE cs ((hd x).1 hx), fun x hx => (hd x).2 (forever_drop h.all x hx), fun x hx => (hd x).2 (drop_mono (fun y hy => h.sub y ((hd y).1 hy)) x hx)⟩
theorem last_done {E : Nat → Nat → Prop} {N : Nat} (hE : ∀ a b, E a b → b < N) {cs : List (Nat → Bool)} {f f' : Nat → Bool} (h : LastI E N cs f) (hd : ∀ x, f' x = true ↔ dropP E cs (fun y => f y = true) x) (he : ∀ i, i < N → f' i = f i) (x : Nat) : f x = true ↔ Forever E cs x :=
  ⟨fun hx => drop_forever hE (fun y hy => (hd y).1 (by rw [he y (h.lt y hy)]; exact hy)) (h.lt x hx) hx, h.all x⟩
theorem last_less {E : Nat → Nat → Prop} {N : Nat} {cs : List (Nat → Bool)} {f f' : Nat → Bool} (h : LastI E N cs f) (hd : ∀ x, f' x = true ↔ dropP E cs (fun y => f y = true) x) (hne : ¬ ∀ i, i < N → f' i = f i) : cntT f' N < cntT f N := by
  obtain ⟨i, hi, hf⟩ : ∃ i, i < N ∧ f' i ≠ f i := Classical.byContradiction fun hh => hne fun i hi => Classical.byContradiction fun hx => hh ⟨i, hi, hx⟩
  have hs : ∀ x, f' x = true → f x = true := fun x hx => h.sub x ((hd x).1 hx)
  have h1 : f' i = false := by
    cases e : f' i with
    | false => rfl
    | true => rw [e, hs i e] at hf; exact absurd rfl hf
  have h2 : f i = true := by
    cases e : f i with
    | true => rfl
    | false => rw [e, h1] at hf; exact absurd rfl hf
  exact cntT_lt h1 h2 N hi (fun x _ => hs x)

theorem ones_step (j : Nat) : upd (upTo (fun _ => true) j) j true = upTo (fun _ => true) (j + 1) := upTo_step (fun _ => true) j

set_option maxHeartbeats 8000000 in
set_option maxRecDepth 100000 in
theorem lasting_any (P gi n icap : Nat) (ns : List Nd) (into : Nat → List (Nat × Nat)) (cs : List (Nat → Bool)) (w : World) (h8 : ns.length ≤ 8) (hp : WaysP n into) (hbm : BefM w P ns) (hP : P < w.heap.size) (hcm : CalmM w P cs) (hcl : cs.length ≤ 8) (hw : WaysM w gi n into) :
    Calls Try.prog 80 #[.pointer (some ⟨P, 0, none⟩), .agg #[.slice (some ⟨gi, 0, none⟩) n icap]] w fun e w' => ∃ g' f, e = .returned (.slice (some ⟨g', 0, none⟩) n n) ∧ w.heap.size ≤ g' ∧ g' < w'.heap.size ∧ FlatG w' g' (n * 256) f ∧ (∀ x, f x = true ↔ Forever (Ew n ns into) (spreads cs) x) ∧ Below w.heap.size w w' := by
  have hn := hp.le
  have HP := hid hp
  have HM := hid hbm
  have HW := hid hw
  have HCM := hid hcm
  have hgi := hw.lt
  have HEF : Hid (∀ a b, Ew n ns into a b → a < n * 256) := hid (fun a b h => ew_from h8 hp h)
  clear hp hbm hw hcm
  go_enter Try.func80, Try.ntmps80
  go_wp2_with (at_make; go_must (refine wpList_make_groups _ rfl (.tmp 11) rfl n rfl (by omega) ?_))
  intro w1 F1 hlt1 hb1
  have C1 : Hid (w1.cell? ⟨w.heap.size, 0, none⟩ = some (.slice (some ⟨gi, 0, none⟩) n icap)) := hid ((hb1.cell (p := ⟨w.heap.size, 0, none⟩) (by show w.heap.size < w.heap.size + 1; omega)).trans (by simp))
  have HB1 := hid (((Below.refl w.heap.size w).alloc (Nat.le_refl _) (.cells #[.slice (some ⟨gi, 0, none⟩) n icap] 155)).trans (hb1.mono (by omega)))
  have F1 := hid F1
  clear hb1
  go_wp2_with fail
  go_loopw [15] (fun i wq => ∃ t : Nat, t ≤ n ∧ i = .int .i64 t ∧ Hid (FlatG wq (w.heap.size + 1) (n * 256) (upTo (fun _ => true) (t * 256))) ∧ Hid (wq.cell? ⟨w.heap.size, 0, none⟩ = some (.slice (some ⟨gi, 0, none⟩) n icap)) ∧ w.heap.size + 1 < wq.heap.size ∧ Hid (Below w.heap.size w wq)) (fun i _ => n - (intOf i).toNat)
  case atStart => exact ⟨0, Nat.zero_le _, rfl, by rw [Nat.zero_mul, upTo_zero]; exact F1, C1, hlt1, HB1⟩
  case round =>
    obtain ⟨t, ht, rfl, H5, HC, hz, HB⟩ := hrel
    rename World => W0
    by_cases hlt : t < n
    · go_wp2_with fail
      go_loopw [18] (fun i wq => ∃ j : Nat, j ≤ 256 ∧ i = .int .i64 j ∧ Hid (FlatG wq (w.heap.size + 1) (n * 256) (upTo (fun _ => true) (t * 256 + j))) ∧ Hid (wq.cell? ⟨w.heap.size, 0, none⟩ = some (.slice (some ⟨gi, 0, none⟩) n icap)) ∧ w.heap.size + 1 < wq.heap.size ∧ Hid (Below w.heap.size w wq)) (fun i _ => 256 - (intOf i).toNat)
      case atStart => exact ⟨0, by omega, rfl, H5, HC, hz, HB⟩
      case round =>
        obtain ⟨j, hj, rfl, H5, HC, hz3, HB⟩ := hrel
        rename World => W3
        by_cases hlj : j < 256
        · have q0 := H5.out.f (t * 256 + j) (by omega)
          have q1 := H5.out.c (t * 256 + j) (by omega)
          have D5 := hid (H5.out.set (t * 256 + j) true)
          rw [ones_step] at D5
          have DC : Hid ((W3.setCell ⟨w.heap.size + 1, t * 256 + j, none⟩ (.bool true)).cell? ⟨w.heap.size, 0, none⟩ = some (.slice (some ⟨gi, 0, none⟩) n icap)) := hid (by
            rw [World.cell?_setCell_other _ _ _ _ (fun e => by have := congrArg Addr.block e; simp at this)]
            exact HC.out)
          have DB := hid (HB.out.setCell (p := ⟨w.heap.size + 1, t * 256 + j, none⟩) (by show w.heap.size ≤ w.heap.size + 1; omega) (.bool true))
          generalize upTo (fun _ => true) (t * 256 + j) (t * 256 + j) = ov at *
          go_wp2_with fail
          go_roundw
          case rel => exact ⟨j + 1, by omega, by go_num, D5, DC, by simp; omega, DB⟩
          case measure => simp [intOf]; omega
        · obtain rfl : j = 256 := by omega
          go_wp2_with fail
          go_roundw
          case rel => exact ⟨t + 1, by omega, by go_num, by rw [show (t + 1) * 256 = t * 256 + 256 by omega]; exact H5, HC, hz3, HB⟩
          case measure => simp [intOf]; omega
    · obtain rfl : t = n := by omega
      have H5 := hid (H5.out.congr (f' := fun x => decide (x < t * 256)) (fun j hj => by simp [upTo, hj]))
      go_wp2_with fail
      go_loopw [5] (fun v wq => ∃ (g2 : Nat) (f : Nat → Bool), v = .slice (some ⟨g2, 0, none⟩) t t ∧ w.heap.size ≤ g2 ∧ g2 < wq.heap.size ∧ Hid (FlatG wq g2 (t * 256) f) ∧ Hid (LastI (Ew t ns into) (t * 256) (spreads cs) f) ∧ Hid (wq.cell? ⟨w.heap.size, 0, none⟩ = some (.slice (some ⟨gi, 0, none⟩) t icap)) ∧ w.heap.size < wq.heap.size ∧ Hid (Below w.heap.size w wq)) (fun v wq => truesF wq (blockOf v) (t * 256))
      case atStart => exact ⟨_, _, rfl, by omega, hz, H5, hid (last_start HEF.out _), HC, by omega, HB⟩
      case round =>
        obtain ⟨g2, f, rfl, hg2, hg2s, HF, HI, HC, hsz, HB⟩ := hrel
        rename World => W4
        have hc := HC.out
        have HTR := hid (truesF_eq HF.out _ (Nat.le_refl _))
        go_wp2_with fail
        refine (drop_any P gi t icap g2 t ns into cs f W4 h8 HP.out (HM.out.below HB.out hP) (by omega) (HCM.out.below HB.out hP) hcl (HW.out.below HB.out) HF.out hg2s).mono ?_
        rintro e w5 ⟨g5, f5, rfl, hg5, hg5s, F5, L5, hb5⟩
        have HF5 := hid (HF.out.below hb5 hg2s)
        have C5 := hid ((hb5.cell (p := ⟨w.heap.size, 0, none⟩) hsz).trans HC.out)
        have B5 := hid (HB.out.trans (hb5.mono (by omega)))
        have F5 := hid F5
        have L5 := hid L5
        have hs5 := hb5.size
        clear hb5 hc
        go_wp2_with fail
        refine (same_any g5 g2 t t t f5 f w5 (by omega) F5.out HF5.out hg5s (by omega)).mono ?_
        rintro e w6 ⟨b, rfl, hbq, hb6⟩
        have HBQ := hid hbq
        have hs6 := hb6.size
        cases b with
        | true =>
          have HE := hid (fun x => last_done (fun a b h => ew_lt a b h) HI.out L5.out (HBQ.out.1 rfl) x)
          have F6 := hid (HF5.out.below hb6 (by omega))
          have B6 := hid (B5.out.trans (hb6.mono (by omega)))
          clear hb6 hbq
          go_wp2_with fail
          go_ret
          exact ⟨g2, f, rfl, hg2, by omega, F6.out, HE.out, B6.out⟩
        | false =>
          have HL := hid (last_less HI.out L5.out (fun k => by simpa using HBQ.out.2 k))
          have HN := hid (last_next HEF.out HI.out L5.out)
          have F6 := hid (F5.out.below hb6 hg5s)
          have B6 := hid (B5.out.trans (hb6.mono (by omega)))
          have C6 := hid ((hb6.cell (p := ⟨w.heap.size, 0, none⟩) (by show w.heap.size < w5.heap.size; omega)).trans C5.out)
          clear hb6 hbq
          go_wp2_with fail
          go_roundw
          case rel => exact ⟨g5, f5, rfl, by omega, by omega, F6, HN, C6, by omega, B6⟩
          case measure =>
            have h1 := truesF_eq F6.out _ (Nat.le_refl _)
            have h2 := HL.out
            have h3 := HTR.out
            simp only [blockOf] at *
            simp
            omega

end Go.Proofs.Ytjagijohfkffiab
