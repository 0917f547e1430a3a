import Derived.Test.YtjagijohfkffiabCHEM02
import Derived.Test.YtjagijohfkffiabCHEM05
import Derived.ChangeKeysEq

/- The walks of settled, Step, Verdict; two groups are the same. -/
namespace Go.Proofs.Ytjagijohfkffiab
open Go.RowKit
set_option linter.unusedVariables false

theorem size_alloc (w : World) (o : Obj) : (w.alloc o).heap.size = w.heap.size + 1 := by simp

def upTo (f : Nat → Bool) (n : Nat) : Nat → Bool := fun j => if j < n then f j else false
theorem upTo_step (f : Nat → Bool) (n : Nat) : upd (upTo f n) n (f n) = upTo f (n + 1) := by
  funext j
  unfold upd upTo
  by_cases e : j = n
  · subst e; simp
  · by_cases h : j < n
    · simp [e, h]; intro; omega
    · simp [e, h]; intro; omega
theorem upTo_zero (f : Nat → Bool) : upTo f 0 = fun _ => false := by funext j; simp [upTo]
theorem upTo_all (f : Nat → Bool) {j : Nat} (h : j < 256) : upTo f 256 j = f j := by simp [upTo, h]
def calmB (k e : Nat) : Nat → Bool := fun v => v.testBit k == v.testBit e

set_option maxHeartbeats 1600000 in
set_option maxRecDepth 100000 in
theorem settled_any (nd : Nd) (k : Nat) (w : World) (hk : k < 8) (hl : nd.l < 8) (hr : nd.r < 8) :
    Calls Try.prog 66 #[ndV nd, .int .i64 k] w fun e w' => e = .returned (.agg (gv (calmB k (endN nd))).toArray) ∧ Below w.heap.size w w' := by
  have hE : endN nd < 8 := by unfold endN; split <;> omega
  have LE := fun W => end_any nd W
  have HZ := hid Try.groupCells
  unfold ndV at *
  go_enter Try.func66, Try.ntmps66
  go_wp2_with (refine wpList_store_grp rfl (.tmp 5) (.tmp 10) rfl (w.heap.size + 1 + 1) 0 (fun _ => false) rfl (congrArg Value.agg HZ.out) ?t1 ?_)
  case t1 =>
    have := (zero_new ((w.alloc (.cells #[.int .u8 nd.op, .int .i64 nd.l, .int .i64 nd.r] 124)).alloc (.cells Try.zeroCells69 69))).there
    simpa using this
  intro w1 S1
  have b3 : Below (w.heap.size + 1) (w.alloc (.cells #[.int .u8 nd.op, .int .i64 nd.l, .int .i64 nd.r] 124)) w1 := S1.bel _ _ (by omega) (((Below.refl _ _).alloc (by simp) _).alloc (by simp) _)
  have n0 : w1.cell? ⟨w.heap.size, 0, none⟩ = some (.int .u8 nd.op) := (b3.cell (p := ⟨w.heap.size, 0, none⟩) (by show w.heap.size < _; omega)).trans (by simp)
  have n1 : w1.cell? ⟨w.heap.size, 1, none⟩ = some (.int .i64 nd.l) := (b3.cell (p := ⟨w.heap.size, 1, none⟩) (by show w.heap.size < _; omega)).trans (by simp)
  have n2 : w1.cell? ⟨w.heap.size, 2, none⟩ = some (.int .i64 nd.r) := (b3.cell (p := ⟨w.heap.size, 2, none⟩) (by show w.heap.size < _; omega)).trans (by simp)
  clear b3
  have G5 := hid S1.at_
  have G4 : Hid (GrpAt w1 (w.heap.size + 1) 0 (fun _ => false)) := by
    have z := (zero_new (w.alloc (.cells #[.int .u8 nd.op, .int .i64 nd.l, .int .i64 nd.r] 124))).alloc (.cells Try.zeroCells69 69)
    rw [size_alloc] at z
    exact hid (S1.grp z (Or.inl (by omega)))
  have HB1 : Hid (Below w.heap.size w w1) := hid (S1.bel _ _ (by omega) ((((Below.refl _ _).alloc (Nat.le_refl _) _).alloc (by simp) _).alloc (by simp; omega) _))
  have hs1 : w1.heap.size = w.heap.size + 3 := by rw [S1.size]; simp
  clear S1
  go_wp2_with fail
  refine (LE _).mono ?_
  rintro e w2 ⟨rfl, hb2⟩
  have G5 := hid (G5.out.below hb2 (by omega))
  have G4 := hid (G4.out.below hb2 (by omega))
  have HB2 := hid (HB1.out.trans (hb2.mono (by omega)))
  clear hb2 HB1 n0 n1 n2 LE hs1
  go_wp2_with fail
  go_loopw [13] (fun i wq => ∃ j : Nat, j ≤ 256 ∧ i = .int .i64 j ∧ Hid (GrpAt wq (w.heap.size + 1 + 1) 0 (upTo (calmB k (endN nd)) j)) ∧ Hid (GrpAt wq (w.heap.size + 1) 0 (fun _ => false)) ∧ Hid (Below w.heap.size w wq)) (fun i _ => 256 - (intOf i).toNat)
  case atStart => exact ⟨0, by omega, rfl, by rw [upTo_zero]; exact G5, G4, HB2⟩
  case round =>
    obtain ⟨j, hj, rfl, H5, H4, HB⟩ := hrel
    rename World => W0
    by_cases hlj : j < 256
    · have q0 : W0.frozen? ⟨w.heap.size + 1 + 1, j, none⟩ = false := by have := H5.out.f j hlj; rwa [Nat.zero_add] at this
      have q1 : W0.cell? ⟨w.heap.size + 1 + 1, j, none⟩ = some (.bool (upTo (calmB k (endN nd)) j j)) := by have := H5.out.c j hlj; rwa [Nat.zero_add] at this
      have D5 := hid (H5.out.set hlj (calmB k (endN nd) j))
      have D4 := hid (H4.out.other ⟨w.heap.size + 1 + 1, j, none⟩ (.bool (calmB k (endN nd) j)) (Or.inl (by simp)))
      have DB := hid (HB.out.setCell (p := ⟨w.heap.size + 1 + 1, j, none⟩) (by show w.heap.size ≤ w.heap.size + 1 + 1; omega) (.bool (calmB k (endN nd) j)))
      rw [upTo_step, Nat.zero_add] at D5
      have HA := fun W => has_any j k W hlj hk
      have HC := fun W => has_any j (endN nd) W hlj hE
      unfold calmB at D4 D5 DB
      generalize upTo (calmB k (endN nd)) j j = ov at *
      go_wp2_with fail
      refine (HA _).mono ?_
      rintro e w3 ⟨rfl, rfl⟩
      go_wp2_with fail
      refine (HC _).mono ?_
      rintro e w4 ⟨rfl, rfl⟩
      clear HA HC
      go_wp2_with fail
      go_roundw
      case rel => exact ⟨j + 1, by omega, by go_num, D5, D4, DB⟩
      case measure => simp [intOf]; omega
    · obtain rfl : j = 256 := by omega
      have G := hid (H5.out.congr (fun j hj => upTo_all (calmB k (endN nd)) hj))
      go_wp2_with (first | (refine wpList_load_grp rfl (.tmp 5) rfl (w.heap.size + 1 + 1) 0 _ rfl G.out ?_) | (refine wpList_store_grp rfl (.tmp 4) (.tmp 28) rfl (w.heap.size + 1) 0 (calmB k (endN nd)) rfl rfl H4.out.there ?_))
      intro w5 S5
      go_wp2_with fail
      refine ret_group Try.results66 ?_ ?_ S5.at_ ?_
      · rfl
      · rfl
      · exact ⟨rfl, S5.bel _ _ (by omega) HB.out⟩

/-- Two groups are the same. -/
def geq (g h : Nat → Bool) : Bool := (List.range 256).all fun j => g j == h j
theorem geq_iff {g h : Nat → Bool} : geq g h = true ↔ ∀ j, j < 256 → g j = h j := by simp [geq]
theorem run_eqItems_grp (d : Nat) (g h : Nat → Bool) (w : World) : ∀ is : List Nat, (∀ i ∈ is, i < 256) → (Op.eqItems (d + 1) 4 1 (gv g).toArray (gv h).toArray is).run Try.prog w = .ok (is.all fun j => g j == h j) w
  | [], _ => by simp [Op.eqItems]
  | i :: is, hi => by
    have h0 := hi i (by simp)
    have ih := run_eqItems_grp d g h w is (fun j hj => hi j (by simp [hj]))
    have p : ∀ f : Nat → Bool, (part 4 (gv f).toArray (i * 1)).run Try.prog w = .ok (.bool (f i)) w := fun f => by
      have := gv_get f h0
      simp [part, Try.isAgg4, this]
    simp only [Op.eqItems, Sem.run_bind, p, Result.andThen_ok, run_equalIn_bool' w d 4 _ _ Try.underlying4]
    cases e : (g i == h i)
    · simp [e]
    · simp [e, ih]
theorem Try.boolSize1 : (Try.prog.info? 4).map (·.size) = some 1 := by kernel_rfl
theorem Try.boolInfo1 : ∃ i, Try.prog.info? 4 = some i ∧ i.size = 1 := by
  have h := Try.boolSize1
  cases hq : Try.prog.info? 4 with
  | none => simp [hq] at h
  | some i => simp [hq] at h; exact ⟨i, rfl, h⟩
theorem run_equal_grp (d : Nat) (g h : Nat → Bool) (w : World) : (Op.equalIn (d + 1 + 1) 69 (.agg (gv g).toArray) (.agg (gv h).toArray)).run Try.prog w = .ok (geq g h) w := by
  obtain ⟨i, hi, hs⟩ := Try.boolInfo1
  rw [run_equalIn_array w (d + 1) _ _ Try.groupUnder hi]
  have : Try.prog.cellsOf 4 = 1 := by kernel_rfl
  rw [this]
  exact run_eqItems_grp d g h w _ (fun j hj => by simpa using hj)
end Go.Proofs.Ytjagijohfkffiab

/- Plain mathematics: what lasts: ways without end on which nothing is put off for ever. -/
namespace Go.Proofs.Ytjagijohfkffiab
set_option linter.unusedVariables false

/-- One way or more lead to the goal. -/
def LeadsP (E : Nat → Nat → Prop) (G : Nat → Prop) (x : Nat) : Prop := ∃ y, reach E x y ∧ G y
theorem LeadsP.mono {E : Nat → Nat → Prop} {G H : Nat → Prop} (h : ∀ x, G x → H x) {x : Nat} (k : LeadsP E G x) : LeadsP E H x := k.imp fun y ⟨a, b⟩ => ⟨a, h y b⟩
theorem LeadsP.congr {E : Nat → Nat → Prop} {G H : Nat → Prop} (h : ∀ x, G x ↔ H x) (x : Nat) : LeadsP E G x ↔ LeadsP E H x := ⟨LeadsP.mono fun x => (h x).1, LeadsP.mono fun x => (h x).2⟩

def dropP (E : Nat → Nat → Prop) (cs : List (Nat → Bool)) (G : Nat → Prop) : Nat → Prop := cs.foldl (fun L c => LeadsP E (fun y => L y ∧ c y = true)) (LeadsP E G)
theorem dropP_snoc (E : Nat → Nat → Prop) (cs : List (Nat → Bool)) (c : Nat → Bool) (G : Nat → Prop) : dropP E (cs ++ [c]) G = LeadsP E (fun y => dropP E cs G y ∧ c y = true) := by simp [dropP]

theorem fold_mono {E : Nat → Nat → Prop} : ∀ (cs : List (Nat → Bool)) (A B : Nat → Prop), (∀ x, A x → B x) → ∀ x, cs.foldl (fun L c => LeadsP E (fun y => L y ∧ c y = true)) A x → cs.foldl (fun L c => LeadsP E (fun y => L y ∧ c y = true)) B x
  | [], A, B, h => h
  | c :: cs, A, B, h => fold_mono cs _ _ (fun x k => k.mono fun y ⟨a, b⟩ => ⟨h y a, b⟩)
theorem drop_mono {E : Nat → Nat → Prop} {cs : List (Nat → Bool)} {G H : Nat → Prop} (h : ∀ x, G x → H x) (x : Nat) : dropP E cs G x → dropP E cs H x :=
  fold_mono cs _ _ (fun x k => k.mono h) x

def KL (cs : List (Nat → Bool)) (k i : Nat) : Prop := ∃ c, cs[k]? = some c ∧ c i = true
/-- A path without end on which each of these is met again and again. -/
def Forever (E : Nat → Nat → Prop) (cs : List (Nat → Bool)) (x : Nat) : Prop := ∃ q, q 0 = x ∧ Path E q ∧ Meets (KL cs) cs.length q

theorem forever_fold {E : Nat → Nat → Prop} {q : Nat → Nat} (hq : Path E q) : ∀ (cs : List (Nat → Bool)) (A : Nat → Prop), (∀ c ∈ cs, ∀ t, ∃ t', t ≤ t' ∧ c (q t') = true) → (∀ t, A (q t)) → ∀ t, cs.foldl (fun L c => LeadsP E (fun y => L y ∧ c y = true)) A (q t)
  | [], A, _, h => h
  | c :: cs, A, hc, h => by
    refine forever_fold hq cs _ (fun c' hc' => hc c' (List.mem_cons_of_mem _ hc')) (fun t => ?_)
    obtain ⟨t', h1, h2⟩ := hc c (List.mem_cons_self ..) (t + 1)
    obtain ⟨d, rfl⟩ : ∃ d, t' = t + d + 1 := ⟨t' - t - 1, by omega⟩
    exact ⟨_, walk_reach hq t d, h _, h2⟩

theorem meets_all {cs : List (Nat → Bool)} {q : Nat → Nat} (h : Meets (KL cs) cs.length q) : ∀ c ∈ cs, ∀ t, ∃ t', t ≤ t' ∧ c (q t') = true := by
  intro c hc t
  obtain ⟨k, hk, e⟩ := List.getElem_of_mem hc
  obtain ⟨t', h1, c', h2, h3⟩ := h k hk t
  rw [List.getElem?_eq_getElem hk, e] at h2
  cases h2
  exact ⟨t', h1, h3⟩

theorem forever_tail {E : Nat → Nat → Prop} {cs : List (Nat → Bool)} {q : Nat → Nat} (hq : Path E q) (hm : Meets (KL cs) cs.length q) (t : Nat) : Forever E cs (q t) := by
  refine ⟨fun i => q (t + i), rfl, fun i => ?_, fun k hk i => ?_⟩
  · have := hq (t + i)
    rwa [show t + i + 1 = t + (i + 1) by omega] at this
  · obtain ⟨t', h1, h2⟩ := hm k hk (t + i)
    refine ⟨t' - t, by omega, ?_⟩
    show KL cs k (q (t + (t' - t)))
    rwa [show t + (t' - t) = t' by omega]

/-- What lasts stays. -/
theorem forever_drop {E : Nat → Nat → Prop} {cs : List (Nat → Bool)} {G : Nat → Prop} (h : ∀ x, Forever E cs x → G x) (x : Nat) (hx : Forever E cs x) : dropP E cs G x := by
  obtain ⟨q, rfl, hq, hm⟩ := hx
  have hG : ∀ t, G (q t) := fun t => h _ (forever_tail hq hm t)
  exact forever_fold hq cs _ (meets_all hm) (fun t => ⟨_, walk_reach hq t 0, hG _⟩) 0

theorem fold_walk {E : Nat → Nat → Prop} {G : Nat → Prop} : ∀ (cs done : List (Nat → Bool)) (A : Nat → Prop), (∀ x, A x → ∃ y, G y ∧ reach E x y ∧ ∀ c ∈ done, ∃ i, reach E x i ∧ c i = true ∧ reach E i y) →
    ∀ x, cs.foldl (fun L c => LeadsP E (fun y => L y ∧ c y = true)) A x → ∃ y, G y ∧ reach E x y ∧ ∀ c ∈ done ++ cs, ∃ i, reach E x i ∧ c i = true ∧ reach E i y
  | [], done, A, h => by simpa using h
  | c :: cs, done, A, h => by
    have := fold_walk (G := G) cs (done ++ [c]) (LeadsP E (fun y => A y ∧ c y = true)) (fun x ⟨z, h1, h2, h3⟩ => by
      obtain ⟨y, h4, h5, h6⟩ := h z h2
      refine ⟨y, h4, reach_trans h1 h5, fun c' hc' => ?_⟩
      rcases List.mem_append.1 hc' with hc' | hc'
      · obtain ⟨i, h7, h8, h9⟩ := h6 c' hc'
        exact ⟨i, reach_trans h1 h7, h8, h9⟩
      · simp at hc'
        subst hc'
        exact ⟨z, h1, h3, h5⟩)
    simpa using this

theorem drop_walk {E : Nat → Nat → Prop} {cs : List (Nat → Bool)} {G : Nat → Prop} {x : Nat} (h : dropP E cs G x) : ∃ y, G y ∧ reach E x y ∧ ∀ c ∈ cs, ∃ i, reach E x i ∧ c i = true ∧ reach E i y := by
  have := fold_walk (E := E) (G := G) cs [] (LeadsP E G) (fun x ⟨y, h1, h2⟩ => ⟨y, h2, h1, fun c hc => by simp at hc⟩) x h
  simpa using this

/-- What stays lasts. -/
theorem drop_forever {E : Nat → Nat → Prop} {cs : List (Nat → Bool)} {G : Nat → Prop} {n : Nat} (hE : ∀ a b, E a b → b < n) (h : ∀ x, G x → dropP E cs G x) {x : Nat} (hn : x < n) (hx : G x) : Forever E cs x := by
  have nx : ∀ a : { a // G a }, ∃ b : { a // G a }, reach E a.1 b.1 ∧ ∀ c ∈ cs, ∃ i, reach E a.1 i ∧ c i = true ∧ reach E i b.1 := fun a => by
    obtain ⟨y, h1, h2⟩ := drop_walk (h a.1 a.2)
    exact ⟨⟨y, h1⟩, h2⟩
  let f : { a // G a } → { a // G a } := fun a => Classical.choose (nx a)
  have hf : ∀ a, reach E a.1 (f a).1 ∧ ∀ c ∈ cs, ∃ i, reach E a.1 i ∧ c i = true ∧ reach E i (f a).1 := fun a => Classical.choose_spec (nx a)
  let p : Nat → { a // G a } := fun t => Nat.rec ⟨x, hx⟩ (fun _ a => f a) t
  have hp : ∀ t, p (t + 1) = f (p t) := fun t => rfl
  have rb : ∀ {a b}, reach E a b → b < n := by
    intro a b ⟨L, hL⟩
    induction L generalizing a with
    | zero => obtain ⟨c, he, rfl⟩ := hL; exact hE _ _ he
    | succ L ih => obtain ⟨c, he, hc⟩ := hL; exact ih hc
  have bd : ∀ t, (p t).1 < n := fun t => by
    cases t with
    | zero => exact hn
    | succ t => rw [hp]; exact rb (hf (p t)).1
  have sq : ∀ d t, reach E (p t).1 (p (t + d + 1)).1 := by
    intro d
    induction d with
    | zero => intro t; rw [show t + 0 + 1 = t + 1 by omega, hp]; exact (hf (p t)).1
    | succ d ih =>
      intro t
      refine reach_trans (ih t) ?_
      rw [show t + (d + 1) + 1 = (t + d + 1) + 1 by omega, hp]
      exact (hf _).1
  obtain ⟨v, hv, -, hoft⟩ := met_often (q := fun t => (p t).1) (P := fun _ => True) bd (fun t => ⟨t, Nat.le_refl _, trivial⟩)
  obtain ⟨t1, -, e1⟩ := hoft 0
  obtain ⟨t2, h2, e2⟩ := hoft (t1 + 2)
  obtain ⟨d, rfl⟩ : ∃ d, t2 = t1 + 1 + d + 1 := ⟨t2 - t1 - 2, by omega⟩
  have r1 := (hf (p t1)).1
  have r2 := sq d (t1 + 1)
  rw [e2, hp] at r2
  rw [e1] at r1
  have hvv : reach E v v := reach_trans r1 r2
  have hxv : reach E x v := by
    cases t1 with
    | zero => rw [← e1] at hvv; rw [← e1]; exact hvv
    | succ t =>
      have := sq t 0
      rw [show 0 + t + 1 = t + 1 by omega, e1] at this
      exact this
  refine (endless_iff (K := KL cs) (m := cs.length) hE hn).2 ⟨v, hv, hxv, hvv, fun k hk => ?_⟩
  obtain ⟨i, h3, h4, h5⟩ := (hf (p t1)).2 cs[k] (List.getElem_mem hk)
  rw [e1] at h3
  exact ⟨i, h3, reach_trans h5 r2, cs[k], List.getElem?_eq_getElem hk, h4⟩

/-! ### The search -/
/-- How many are in. -/
def cntT (f : Nat → Bool) : Nat → Nat
  | 0 => 0
  | n + 1 => cntT f n + (if f n = true then 1 else 0)
theorem cntT_le (f : Nat → Bool) : ∀ n, cntT f n ≤ n
  | 0 => Nat.le_refl _
  | n + 1 => by have := cntT_le f n; rw [cntT]; split <;> omega
theorem cntT_congr {f g : Nat → Bool} : ∀ n, (∀ i, i < n → f i = g i) → cntT f n = cntT g n
  | 0, _ => rfl
  | n + 1, h => by rw [cntT, cntT, cntT_congr n (fun i hi => h i (by omega)), h n (by omega)]
theorem cntT_upd {f : Nat → Bool} {b : Nat} (hf : f b = false) : ∀ n, b < n → cntT (upd f b true) n = cntT f n + 1
  | 0, h => by omega
  | n + 1, h => by
    by_cases e : b = n
    · subst e
      rw [cntT, cntT, cntT_congr (f := upd f b true) (g := f) b (fun i hi => by unfold upd; rw [if_neg (by omega)])]
      simp [upd, hf]
    · rw [cntT, cntT, cntT_upd hf n (by omega)]
      have e2 : upd f b true n = f n := by unfold upd; rw [if_neg (fun h => e h.symm)]
      rw [e2]; omega
theorem cntT_mono {f g : Nat → Bool} : ∀ n, (∀ i, i < n → f i = true → g i = true) → cntT f n ≤ cntT g n
  | 0, _ => Nat.le_refl _
  | n + 1, h => by
    have h1 := cntT_mono n (fun i hi => h i (by omega))
    have h2 := h n (by omega)
    rw [cntT, cntT]
    by_cases e : f n = true
    · rw [if_pos e, if_pos (h2 e)]; omega
    · rw [if_neg e]; split <;> omega
theorem cntT_lt {f g : Nat → Bool} {b : Nat} (hf : f b = false) (hg : g b = true) : ∀ n, b < n → (∀ i, i < n → f i = true → g i = true) → cntT f n < cntT g n
  | 0, h, _ => by omega
  | n + 1, h, hm => by
    by_cases e : b = n
    · subst e
      have := cntT_mono b (fun i hi => hm i (by omega))
      rw [cntT, cntT, if_neg (by simp [hf]), if_pos hg]; omega
    · have h1 := cntT_lt hf hg n (by omega) (fun i hi => hm i (by omega))
      have h2 := hm n (by omega)
      rw [cntT, cntT]
      by_cases e : f n = true
      · rw [if_pos e, if_pos (h2 e)]; omega
      · rw [if_neg e]; split <;> omega

structure LeadI (E : Nat → Nat → Prop) (N : Nat) (goal : Nat → Bool) (rl : List Nat) (found : Nat → Bool) : Prop where
  goal_in : ∀ x, x < N → goal x = true → x ∈ rl
  sound : ∀ x ∈ rl, x < N ∧ (goal x = true ∨ found x = true)
  ok : ∀ x, found x = true → x < N ∧ LeadsP E (fun y => goal y = true) x
  in_ : ∀ x, found x = true → x ∈ rl
  len : rl.length = cntT goal N + cntT found N

theorem lead_add {E : Nat → Nat → Prop} {N : Nat} {goal found : Nat → Bool} {rl : List Nat} (h : LeadI E N goal rl found) {a y : Nat} (ha : a ∈ rl) (he : E y a) (hy : y < N) (hf : found y = false) : LeadI E N goal (rl ++ [y]) (upd found y true) := by
  have hu : ∀ x, upd found y true x = true ↔ (found x = true ∨ x = y) := fun x => by
    unfold upd
    by_cases e : x = y
    · simp [e]
    · simp [e]
  refine ⟨fun x hx hg => List.mem_append_left _ (h.goal_in x hx hg), fun x hx => ?_, fun x hx => ?_, fun x hx => ?_, ?_⟩
  · rcases List.mem_append.1 hx with hx | hx
    · obtain ⟨h1, h2⟩ := h.sound x hx
      exact ⟨h1, h2.imp id fun h3 => (hu x).2 (Or.inl h3)⟩
    · simp at hx
      subst hx
      exact ⟨hy, Or.inr ((hu x).2 (Or.inr rfl))⟩
  · rcases (hu x).1 hx with h1 | rfl
    · exact h.ok x h1
    · refine ⟨hy, ?_⟩
      obtain ⟨h1, h2⟩ := h.sound a ha
      rcases h2 with h2 | h2
      · exact ⟨a, reach_edge he, h2⟩
      · obtain ⟨z, h3, h4⟩ := (h.ok a h2).2
        exact ⟨z, reach_cons he h3, h4⟩
  · rcases (hu x).1 hx with h1 | rfl
    · exact List.mem_append_left _ (h.in_ x h1)
    · exact List.mem_append_right _ (by simp)
  · rw [cntT_upd hf N hy, List.length_append, h.len]; simp; omega
theorem lead_done {E : Nat → Nat → Prop} {N : Nat} {goal found : Nat → Bool} {rl : List Nat} (hE : ∀ a b, E a b → b < N) (h : LeadI E N goal rl found) (hall : ∀ a ∈ rl, ∀ y, E y a → found y = true) (x : Nat) : found x = true ↔ LeadsP E (fun y => goal y = true) x := by
  refine ⟨fun k => (h.ok x k).2, ?_⟩
  rintro ⟨y, ⟨L, hL⟩, hg⟩
  induction L generalizing x with
  | zero =>
    obtain ⟨c, he, rfl⟩ := hL
    exact hall _ (h.goal_in _ (hE _ _ he) hg) x he
  | succ L ih =>
    obtain ⟨c, he, hc⟩ := hL
    exact hall c (h.in_ c (ih c hc)) x he

/-- The first list: those of the goal, as they come. -/
def goalsTo (goal : Nat → Bool) (n : Nat) : List Nat := (List.range n).filter goal
theorem goalsTo_succ (goal : Nat → Bool) (n : Nat) : goalsTo goal (n + 1) = goalsTo goal n ++ (if goal n = true then [n] else []) := by
  unfold goalsTo
  rw [List.range_succ, List.filter_append]
  cases e : goal n <;> simp [e]
theorem goalsTo_len (goal : Nat → Bool) : ∀ n, (goalsTo goal n).length = cntT goal n
  | 0 => rfl
  | n + 1 => by rw [goalsTo_succ, cntT, List.length_append, goalsTo_len goal n]; split <;> simp
theorem lead_start (E : Nat → Nat → Prop) (N : Nat) (goal : Nat → Bool) : LeadI E N goal (goalsTo goal N) (fun _ => false) := by
  have z : ∀ n, cntT (fun _ => false) n = 0 := fun n => by
    induction n with
    | zero => rfl
    | succ n ih => rw [cntT, ih]; simp
  refine ⟨fun x hx hg => by simp [goalsTo, hx, hg], fun x hx => ?_, fun x hx => by simp at hx, fun x hx => by simp at hx, by rw [goalsTo_len, z]; rfl⟩
  simp [goalsTo] at hx
  exact ⟨hx.1, Or.inl hx.2⟩

end Go.Proofs.Ytjagijohfkffiab
