import Derived.Test.YtjagijohfkffiabFOUM07
import Derived.Test.YtjagijohfkffiabFOUM08
import Derived.Deep.RegionHeld3

/- Plain mathematics: what lasts: ways without end on which nothing is put off for ever. -/
namespace Go.Proofs.Ytjagijohfkffiab
set_option linter.unusedVariables false

/-- One way or more lead to the goal. -/
def LeadsP (E : Nat → Nat → Prop) (G : Nat → Prop) (x : Nat) : Prop := ∃ y, reach E x y ∧ G y
theorem LeadsP.mono {E : Nat → Nat → Prop} {G H : Nat → Prop} (h : ∀ x, G x → H x) {x : Nat} (k : LeadsP E G x) : LeadsP E H x := k.imp fun y ⟨a, b⟩ => ⟨a, h y b⟩
theorem LeadsP.congr {E : Nat → Nat → Prop} {G H : Nat → Prop} (h : ∀ x, G x ↔ H x) (x : Nat) : LeadsP E G x ↔ LeadsP E H x := ⟨LeadsP.mono fun x => (h x).1, LeadsP.mono fun x => (h x).2⟩

def dropP (E : Nat → Nat → Prop) (cs : List (Nat → Bool)) (G : Nat → Prop) : Nat → Prop := cs.foldl (fun L c => LeadsP E (fun y => L y ∧ c y = true)) (LeadsP E G)
theorem dropP_snoc (E : Nat → Nat → Prop) (cs : List (Nat → Bool)) (c : Nat → Bool) (G : Nat → Prop) : dropP E (cs ++ [c]) G = LeadsP E (fun y => dropP E cs G y ∧ c y = true) := by simp [dropP]

theorem fold_mono {E : Nat → Nat → Prop} : ∀ (cs : List (Nat → Bool)) (A B : Nat → Prop), (∀ x, A x → B x) → ∀ x, cs.foldl (fun L c => LeadsP E (fun y => L y ∧ c y = true)) A x → cs.foldl (fun L c => LeadsP E (fun y => L y ∧ c y = true)) B x
  | [], A, B, h => h
  | c :: cs, A, B, h => fold_mono cs _ _ (fun x k => k.mono fun y ⟨a, b⟩ => ⟨h y a, b⟩)
theorem drop_mono {E : Nat → Nat → Prop} {cs : List (Nat → Bool)} {G H : Nat → Prop} (h : ∀ x, G x → H x) (x : Nat) : dropP E cs G x → dropP E cs H x :=
  fold_mono cs _ _ (fun x k => k.mono h) x

def KL (cs : List (Nat → Bool)) (k i : Nat) : Prop := ∃ c, cs[k]? = some c ∧ c i = true
/-- A path without end on which each of these is met again and again. -/
def Forever (E : Nat → Nat → Prop) (cs : List (Nat → Bool)) (x : Nat) : Prop := ∃ q, q 0 = x ∧ Path E q ∧ Meets (KL cs) cs.length q

theorem forever_fold {E : Nat → Nat → Prop} {q : Nat → Nat} (hq : Path E q) : ∀ (cs : List (Nat → Bool)) (A : Nat → Prop), (∀ c ∈ cs, ∀ t, ∃ t', t ≤ t' ∧ c (q t') = true) → (∀ t, A (q t)) → ∀ t, cs.foldl (fun L c => LeadsP E (fun y => L y ∧ c y = true)) A (q t)
  | [], A, _, h => h
  | c :: cs, A, hc, h => by
    refine forever_fold hq cs _ (fun c' hc' => hc c' (List.mem_cons_of_mem _ hc')) (fun t => ?_)
    obtain ⟨t', h1, h2⟩ := hc c (List.mem_cons_self ..) (t + 1)
    obtain ⟨d, rfl⟩ : ∃ d, t' = t + d + 1 := ⟨t' - t - 1, by omega⟩
    exact ⟨_, walk_reach hq t d, h _, h2⟩

theorem meets_all {cs : List (Nat → Bool)} {q : Nat → Nat} (h : Meets (KL cs) cs.length q) : ∀ c ∈ cs, ∀ t, ∃ t', t ≤ t' ∧ c (q t') = true := by
  intro c hc t
  obtain ⟨k, hk, e⟩ := List.getElem_of_mem hc
  obtain ⟨t', h1, c', h2, h3⟩ := h k hk t
  rw [List.getElem?_eq_getElem hk, e] at h2
  cases h2
  exact ⟨t', h1, h3⟩

theorem forever_tail {E : Nat → Nat → Prop} {cs : List (Nat → Bool)} {q : Nat → Nat} (hq : Path E q) (hm : Meets (KL cs) cs.length q) (t : Nat) : Forever E cs (q t) := by
  refine ⟨fun i => q (t + i), rfl, fun i => ?_, fun k hk i => ?_⟩
  · have := hq (t + i)
    rwa [show t + i + 1 = t + (i + 1) by omega] at this
  · obtain ⟨t', h1, h2⟩ := hm k hk (t + i)
    refine ⟨t' - t, by omega, ?_⟩
    show KL cs k (q (t + (t' - t)))
    rwa [show t + (t' - t) = t' by omega]

/-- What lasts stays. -/
theorem forever_drop {E : Nat → Nat → Prop} {cs : List (Nat → Bool)} {G : Nat → Prop} (h : ∀ x, Forever E cs x → G x) (x : Nat) (hx : Forever E cs x) : dropP E cs G x := by
  obtain ⟨q, rfl, hq, hm⟩ := hx
  have hG : ∀ t, G (q t) := fun t => h _ (forever_tail hq hm t)
  exact forever_fold hq cs _ (meets_all hm) (fun t => ⟨_, walk_reach hq t 0, hG _⟩) 0

theorem fold_walk {E : Nat → Nat → Prop} {G : Nat → Prop} : ∀ (cs done : List (Nat → Bool)) (A : Nat → Prop), (∀ x, A x → ∃ y, G y ∧ reach E x y ∧ ∀ c ∈ done, ∃ i, reach E x i ∧ c i = true ∧ reach E i y) →
    ∀ x, cs.foldl (fun L c => LeadsP E (fun y => L y ∧ c y = true)) A x → ∃ y, G y ∧ reach E x y ∧ ∀ c ∈ done ++ cs, ∃ i, reach E x i ∧ c i = true ∧ reach E i y
  | [], done, A, h => by simpa using h
  | c :: cs, done, A, h => by
    have := fold_walk (G := G) cs (done ++ [c]) (LeadsP E (fun y => A y ∧ c y = true)) (fun x ⟨z, h1, h2, h3⟩ => by
      obtain ⟨y, h4, h5, h6⟩ := h z h2
      refine ⟨y, h4, reach_trans h1 h5, fun c' hc' => ?_⟩
      rcases List.mem_append.1 hc' with hc' | hc'
      · obtain ⟨i, h7, h8, h9⟩ := h6 c' hc'
        exact ⟨i, reach_trans h1 h7, h8, h9⟩
      · simp at hc'
        subst hc'
        exact ⟨z, h1, h3, h5⟩)
    simpa using this

theorem drop_walk {E : Nat → Nat → Prop} {cs : List (Nat → Bool)} {G : Nat → Prop} {x : Nat} (h : dropP E cs G x) : ∃ y, G y ∧ reach E x y ∧ ∀ c ∈ cs, ∃ i, reach E x i ∧ c i = true ∧ reach E i y := by
  have := fold_walk (E := E) (G := G) cs [] (LeadsP E G) (fun x ⟨y, h1, h2⟩ => ⟨y, h2, h1, fun c hc => by simp at hc⟩) x h
  simpa using this

/-- What stays lasts. -/
theorem drop_forever {E : Nat → Nat → Prop} {cs : List (Nat → Bool)} {G : Nat → Prop} {n : Nat} (hE : ∀ a b, E a b → b < n) (h : ∀ x, G x → dropP E cs G x) {x : Nat} (hn : x < n) (hx : G x) : Forever E cs x := by
  have nx : ∀ a : { a // G a }, ∃ b : { a // G a }, reach E a.1 b.1 ∧ ∀ c ∈ cs, ∃ i, reach E a.1 i ∧ c i = true ∧ reach E i b.1 := fun a => by
    obtain ⟨y, h1, h2⟩ := drop_walk (h a.1 a.2)
    exact ⟨⟨y, h1⟩, h2⟩
  let f : { a // G a } → { a // G a } := fun a => Classical.choose (nx a)
  have hf : ∀ a, reach E a.1 (f a).1 ∧ ∀ c ∈ cs, ∃ i, reach E a.1 i ∧ c i = true ∧ reach E i (f a).1 := fun a => Classical.choose_spec (nx a)
  let p : Nat → { a // G a } := fun t => Nat.rec ⟨x, hx⟩ (fun _ a => f a) t
  have hp : ∀ t, p (t + 1) = f (p t) := fun t => rfl
  have rb : ∀ {a b}, reach E a b → b < n := by
    intro a b ⟨L, hL⟩
    induction L generalizing a with
    | zero => obtain ⟨c, he, rfl⟩ := hL; exact hE _ _ he
    | succ L ih => obtain ⟨c, he, hc⟩ := hL; exact ih hc
  have bd : ∀ t, (p t).1 < n := fun t => by
    cases t with
    | zero => exact hn
    | succ t => rw [hp]; exact rb (hf (p t)).1
  have sq : ∀ d t, reach E (p t).1 (p (t + d + 1)).1 := by
    intro d
    induction d with
    | zero => intro t; rw [show t + 0 + 1 = t + 1 by omega, hp]; exact (hf (p t)).1
    | succ d ih =>
      intro t
      refine reach_trans (ih t) ?_
      rw [show t + (d + 1) + 1 = (t + d + 1) + 1 by omega, hp]
      exact (hf _).1
  obtain ⟨v, hv, -, hoft⟩ := met_often (q := fun t => (p t).1) (P := fun _ => True) bd (fun t => ⟨t, Nat.le_refl _, trivial⟩)
  obtain ⟨t1, -, e1⟩ := hoft 0
  obtain ⟨t2, h2, e2⟩ := hoft (t1 + 2)
  obtain ⟨d, rfl⟩ : ∃ d, t2 = t1 + 1 + d + 1 := ⟨t2 - t1 - 2, by omega⟩
  have r1 := (hf (p t1)).1
  have r2 := sq d (t1 + 1)
  rw [e2, hp] at r2
  rw [e1] at r1
  have hvv : reach E v v := reach_trans r1 r2
  have hxv : reach E x v := by
    cases t1 with
    | zero => rw [← e1] at hvv; rw [← e1]; exact hvv
    | succ t =>
      have := sq t 0
      rw [show 0 + t + 1 = t + 1 by omega, e1] at this
      exact this
  refine (endless_iff (K := KL cs) (m := cs.length) hE hn).2 ⟨v, hv, hxv, hvv, fun k hk => ?_⟩
  obtain ⟨i, h3, h4, h5⟩ := (hf (p t1)).2 cs[k] (List.getElem_mem hk)
  rw [e1] at h3
  exact ⟨i, h3, reach_trans h5 r2, cs[k], List.getElem?_eq_getElem hk, h4⟩

/-! ### The search -/
/-- How many are in. -/
def cntT (f : Nat → Bool) : Nat → Nat
  | 0 => 0
  | n + 1 => cntT f n + (if f n = true then 1 else 0)
theorem cntT_le (f : Nat → Bool) : ∀ n, cntT f n ≤ n
  | 0 => Nat.le_refl _
  | n + 1 => by have := cntT_le f n; rw [cntT]; split <;> omega
theorem cntT_congr {f g : Nat → Bool} : ∀ n, (∀ i, i < n → f i = g i) → cntT f n = cntT g n
  | 0, _ => rfl
  | n + 1, h => by rw [cntT, cntT, cntT_congr n (fun i hi => h i (by omega)), h n (by omega)]
theorem cntT_upd {f : Nat → Bool} {b : Nat} (hf : f b = false) : ∀ n, b < n → cntT (upd f b true) n = cntT f n + 1
  | 0, h => by omega
  | n + 1, h => by
    by_cases e : b = n
    · subst e
      rw [cntT, cntT, cntT_congr (f := upd f b true) (g := f) b (fun i hi => by unfold upd; rw [if_neg (by omega)])]
      simp [upd, hf]
    · rw [cntT, cntT, cntT_upd hf n (by omega)]
      have e2 : upd f b true n = f n := by unfold upd; rw [if_neg (fun h => e h.symm)]
      rw [e2]; omega
theorem cntT_mono {f g : Nat → Bool} : ∀ n, (∀ i, i < n → f i = true → g i = true) → cntT f n ≤ cntT g n
  | 0, _ => Nat.le_refl _
  | n + 1, h => by
    have h1 := cntT_mono n (fun i hi => h i (by omega))
    have h2 := h n (by omega)
    rw [cntT, cntT]
    by_cases e : f n = true
    · rw [if_pos e, if_pos (h2 e)]; omega
    · rw [if_neg e]; split <;> omega
theorem cntT_lt {f g : Nat → Bool} {b : Nat} (hf : f b = false) (hg : g b = true) : ∀ n, b < n → (∀ i, i < n → f i = true → g i = true) → cntT f n < cntT g n
  | 0, h, _ => by omega
  | n + 1, h, hm => by
    by_cases e : b = n
    · subst e
      have := cntT_mono b (fun i hi => hm i (by omega))
      rw [cntT, cntT, if_neg (by simp [hf]), if_pos hg]; omega
    · have h1 := cntT_lt hf hg n (by omega) (fun i hi => hm i (by omega))
      have h2 := hm n (by omega)
      rw [cntT, cntT]
      by_cases e : f n = true
      · rw [if_pos e, if_pos (h2 e)]; omega
      · rw [if_neg e]; split <;> omega

structure LeadI (E : Nat → Nat → Prop) (N : Nat) (goal : Nat → Bool) (rl : List Nat) (found : Nat → Bool) : Prop where
  goal_in : ∀ x, x < N → goal x = true → x ∈ rl
  sound : ∀ x ∈ rl, x < N ∧ (goal x = true ∨ found x = true)
  ok : ∀ x, found x = true → x < N ∧ LeadsP E (fun y => goal y = true) x
  in_ : ∀ x, found x = true → x ∈ rl
  len : rl.length = cntT goal N + cntT found N

theorem lead_add {E : Nat → Nat → Prop} {N : Nat} {goal found : Nat → Bool} {rl : List Nat} (h : LeadI E N goal rl found) {a y : Nat} (ha : a ∈ rl) (he : E y a) (hy : y < N) (hf : found y = false) : LeadI E N goal (rl ++ [y]) (upd found y true) := by
  have hu : ∀ x, upd found y true x = true ↔ (found x = true ∨ x = y) := fun x => by
    unfold upd
    by_cases e : x = y
    · simp [e]
    · simp [e]
  refine ⟨fun x hx hg => List.mem_append_left _ (h.goal_in x hx hg), fun x hx => ?_, fun x hx => ?_, fun x hx => ?_, ?_⟩
  · rcases List.mem_append.1 hx with hx | hx
    · obtain ⟨h1, h2⟩ := h.sound x hx
      exact ⟨h1, h2.imp id fun h3 => (hu x).2 (Or.inl h3)⟩
    · simp at hx
      subst hx
      exact ⟨hy, Or.inr ((hu x).2 (Or.inr rfl))⟩
  · rcases (hu x).1 hx with h1 | rfl
    · exact h.ok x h1
    · refine ⟨hy, ?_⟩
      obtain ⟨h1, h2⟩ := h.sound a ha
      rcases h2 with h2 | h2
      · exact ⟨a, reach_edge he, h2⟩
      · obtain ⟨z, h3, h4⟩ := (h.ok a h2).2
        exact ⟨z, reach_cons he h3, h4⟩
  · rcases (hu x).1 hx with h1 | rfl
    · exact List.mem_append_left _ (h.in_ x h1)
    · exact List.mem_append_right _ (by simp)
  · rw [cntT_upd hf N hy, List.length_append, h.len]; simp; omega
theorem lead_done {E : Nat → Nat → Prop} {N : Nat} {goal found : Nat → Bool} {rl : List Nat} (hE : ∀ a b, E a b → b < N) (h : LeadI E N goal rl found) (hall : ∀ a ∈ rl, ∀ y, E y a → found y = true) (x : Nat) : found x = true ↔ LeadsP E (fun y => goal y = true) x := by
  refine ⟨fun k => (h.ok x k).2, ?_⟩
  rintro ⟨y, ⟨L, hL⟩, hg⟩
  induction L generalizing x with
  | zero =>
    obtain ⟨c, he, rfl⟩ := hL
    exact hall _ (h.goal_in _ (hE _ _ he) hg) x he
  | succ L ih =>
    obtain ⟨c, he, hc⟩ := hL
    exact hall c (h.in_ c (ih c hc)) x he

/-- The first list: those of the goal, as they come. -/
def goalsTo (goal : Nat → Bool) (n : Nat) : List Nat := (List.range n).filter goal
theorem goalsTo_succ (goal : Nat → Bool) (n : Nat) : goalsTo goal (n + 1) = goalsTo goal n ++ (if goal n = true then [n] else []) := by
  unfold goalsTo
  rw [List.range_succ, List.filter_append]
  cases e : goal n <;> simp [e]
theorem goalsTo_len (goal : Nat → Bool) : ∀ n, (goalsTo goal n).length = cntT goal n
  | 0 => rfl
  | n + 1 => by rw [goalsTo_succ, cntT, List.length_append, goalsTo_len goal n]; split <;> simp
theorem lead_start (E : Nat → Nat → Prop) (N : Nat) (goal : Nat → Bool) : LeadI E N goal (goalsTo goal N) (fun _ => false) := by
  have z : ∀ n, cntT (fun _ => false) n = 0 := fun n => by
    induction n with
    | zero => rfl
    | succ n ih => rw [cntT, ih]; simp
  refine ⟨fun x hx hg => by simp [goalsTo, hx, hg], fun x hx => ?_, fun x hx => by simp at hx, fun x hx => by simp at hx, by rw [goalsTo_len, z]; rfl⟩
  simp [goalsTo] at hx
  exact ⟨hx.1, Or.inl hx.2⟩

end Go.Proofs.Ytjagijohfkffiab

/- Lists of groups in memory, and the walks of both, same. -/
namespace Go.Proofs.Ytjagijohfkffiab
open Go.RowKit
set_option linter.unusedVariables false

/-- A list of groups: a row of bools, 256 a group. -/
structure FlatG (w : World) (g N : Nat) (f : Nat → Bool) : Prop where
  c : ∀ i, i < N → w.cell? ⟨g, i, none⟩ = some (.bool (f i))
  f : ∀ i, i < N → w.frozen? ⟨g, i, none⟩ = false
theorem FlatG.below {B : Nat} {w w' : World} {g N : Nat} {f : Nat → Bool} (h : FlatG w g N f) (hb : Below B w w') (hlt : g < B) : FlatG w' g N f :=
  ⟨fun j hj => (hb.cell (p := ⟨g, j, none⟩) hlt).trans (h.c j hj), fun j hj => (hb.frozen (p := ⟨g, j, none⟩) hlt).trans (h.f j hj)⟩
theorem FlatG.drew {w : World} {g N : Nat} {f : Nat → Bool} (h : FlatG w g N f) : FlatG w.drew g N f := ⟨h.c, h.f⟩
theorem FlatG.congr {w : World} {g N : Nat} {f f' : Nat → Bool} (h : FlatG w g N f) (e : ∀ j, j < N → f j = f' j) : FlatG w g N f' := ⟨fun j hj => by rw [h.c j hj, e j hj], h.f⟩
theorem FlatG.set {w : World} {g N : Nat} {f : Nat → Bool} (h : FlatG w g N f) (i : Nat) (v : Bool) : FlatG (w.setCell ⟨g, i, none⟩ (.bool v)) g N (upd f i v) := by
  refine ⟨fun j hj => ?_, fun j hj => by rw [World.frozen?_setCell]; exact h.f j hj⟩
  by_cases e : j = i
  · subst e
    rw [World.cell?_setCell_same _ _ _ (h.c j hj)]
    simp [upd]
  · rw [World.cell?_setCell_other _ ⟨g, i, none⟩ ⟨g, j, none⟩ _ (fun q => e (by have := congrArg Addr.off q; simp at this; omega)), h.c j hj]
    simp [upd, e]
theorem FlatG.other {w : World} {g N : Nat} {f : Nat → Bool} (h : FlatG w g N f) (p : Addr) (v : Value) (hp : p.block ≠ g) : FlatG (w.setCell p v) g N f := by
  refine ⟨fun j hj => ?_, fun j hj => by rw [World.frozen?_setCell]; exact h.f j hj⟩
  rw [World.cell?_setCell_other _ p ⟨g, j, none⟩ _ (fun q => hp (congrArg Addr.block q))]
  exact h.c j hj
theorem FlatG.grp {w : World} {g N : Nat} {f : Nat → Bool} (h : FlatG w g N f) {t : Nat} (ht : t * 256 + 256 ≤ N) : GrpAt w g (t * 256) (fun j => f (t * 256 + j)) :=
  ⟨fun j hj => h.c _ (by omega), fun j hj => h.f _ (by omega)⟩
theorem FlatG.stored {w w1 : World} {b o g N : Nat} {f g' : Nat → Bool} (h : FlatG w g N f) (s : StoredG w b o g' w1) (hne : g ≠ b) : FlatG w1 g N f :=
  ⟨fun j hj => by rw [s.cell ⟨g, j, none⟩ (Or.inl hne)]; exact h.c j hj, fun j hj => by rw [s.fz]; exact h.f j hj⟩
theorem FlatG.grown {w w' : World} {g N : Nat} {f : Nat → Bool} (h : FlatG w g N f) (hg : w.grownBy w' none) (hlt : g < w.heap.size) : FlatG w' g N f :=
  h.below ((Below.refl w.heap.size w).grown hg (Nat.le_refl _) (fun k h => by cases h)) hlt

theorem Try.infoGroup : (Try.prog.info? 69).map (fun i => (i.zero, i.size, i.bytes)) = some (some (.agg (gv fun _ => false).toArray), 256, 256) := by kernel_rfl

theorem flat_made {w : World} {base g n : Nat} (h : w.ownsRow base 69 256 (.slice (some ⟨g, 0, none⟩) n n) n (madeCells (gv fun _ => false).toArray (n * 256)).toList) : FlatG w g (n * 256) (fun _ => false) := by
  refine ⟨fun i hi => ?_, fun i hi => World.ownsRow.frozenAt h i⟩
  rw [World.ownsRow.cellAt h i (by omega)]
  have h1 : (madeCells (gv fun _ => false).toArray (n * 256)).toList[i]? = some ((gv fun _ => false).toArray[i % (gv fun _ => false).toArray.size]!) := by
    simp [madeCells, hi]
  rw [h1]
  have h2 : i % 256 < 256 := Nat.mod_lt _ (by omega)
  simp [gv, h2]

/-- make([]Group, n) -/
theorem wpList_make_groups {ops : Array Oper} {rest : List Oper} {o : Oper} {a : Act} {Q : Exit → Act → World → Prop} (w : World) (hg : o.guard = none) (l : Operand) (hop : o.op = Op.makeSlice 67 l l) (n : Nat) (hl : a.eval l = .int .i64 n) (hn : n ≤ 1099511627776)
    (hK : ∀ w', FlatG w' w.heap.size (n * 256) (fun _ => false) → w.heap.size < w'.heap.size → Below w.heap.size w w' → wpList Try.prog ops Q rest (a.put o.dst (.slice (some ⟨w.heap.size, 0, none⟩) n n)) w') :
    wpList Try.prog ops Q (o :: rest) a w := by
  obtain ⟨i0, hi, hz0, hz1, hz2⟩ := info_parts Try.infoGroup
  refine wpList_make_full w hg l l 67 hop w.heap.size 69 i0 (.agg (gv fun _ => false).toArray) 256 Try.underlying67 hi hz0 hz1 .i64 .i64 n n n hl hl rfl rfl ?_ ?_ (Nat.le_refl _) ?_
  · rw [hz2]; omega
  · unfold maxLen; omega
  · intro w' own grow
    exact hK w' (flat_made own) (own.lt _ rfl).2 ((Below.refl _ _).grown grow (Nat.le_refl _) (fun k h => by cases h))

def bothB (f wt : Nat → Bool) : Nat → Bool := fun x => f x && wt (x % 256)

theorem run_index_grp (f : Nat → Bool) {j : Nat} (hj : j < 256) (W : World) : (Instr.index 69 (.agg (gv f).toArray) (.int .i64 (j : Nat))).run Try.prog W = .ok (.bool (f j)) W :=
  run_index_one W Try.groupUnder (fun w => run_isAgg_bool Try.underlying4 w) Try.boolSize1 hj (by simpa using gv_get f hj)

set_option maxHeartbeats 4000000 in
set_option maxRecDepth 100000 in
theorem both_any (g n cap : Nat) (f wt : Nat → Bool) (w : World) (hn : n ≤ 1099511627776) (hf : FlatG w g (n * 256) f) (hg : g < w.heap.size) :
    Calls Try.prog 119 #[.slice (some ⟨g, 0, none⟩) n cap, .agg (gv wt).toArray] w fun e w' => ∃ g', e = .returned (.slice (some ⟨g', 0, none⟩) n n) ∧ w.heap.size ≤ g' ∧ g' < w'.heap.size ∧ FlatG w' g' (n * 256) (bothB f wt) ∧ Below w.heap.size w w' := by
  have HF := hid hf
  clear hf
  go_enter Try.func119, Try.ntmps119
  go_wp2_with (at_make; go_must (refine wpList_make_groups _ rfl (.tmp 11) rfl n rfl hn ?_))
  intro w1 F1 hlt1 hb1
  have G3 := hid ((grp_new w wt 69).below hb1 (by omega))
  have F5 := hid F1
  have HB1 := hid (((Below.refl w.heap.size w).alloc (Nat.le_refl _) (.cells (gv wt).toArray 69)).trans (hb1.mono (by omega)))
  clear F1 hb1
  go_wp2_with fail
  go_loopw [15] (fun i wq => ∃ t : Nat, t ≤ n ∧ i = .int .i64 t ∧ Hid (FlatG wq (w.heap.size + 1) (n * 256) (upTo (bothB f wt) (t * 256))) ∧ Hid (GrpAt wq w.heap.size 0 wt) ∧ w.heap.size + 1 < wq.heap.size ∧ Hid (Below w.heap.size w wq)) (fun i _ => n - (intOf i).toNat)
  case atStart => exact ⟨0, Nat.zero_le _, rfl, by rw [Nat.zero_mul, upTo_zero]; exact F5, G3, hlt1, HB1⟩
  case round =>
    obtain ⟨t, ht, rfl, H5, H3, hz, HB⟩ := hrel
    rename World => W0
    by_cases hlt : t < n
    · have GG := hid ((HF.out.below HB.out hg).grp (t := t) (by omega))
      go_wp2_with (first | (refine wpList_load_grp rfl (.tmp 18) rfl g (t * 256) _ rfl GG.out ?_) | (refine wpList_store_grp rfl (.tmp 7) (.tmp 19) rfl W0.heap.size 0 (fun j => f (t * 256 + j)) rfl rfl (zero_new W0).there ?_))
      intro w2 S2
      have A7 := hid S2.at_
      have A3 := hid (S2.grp (H3.out.alloc (.cells Try.zeroCells69 69)) (Or.inl (by omega)))
      have A5 := hid ((H5.out.below ((Below.refl W0.heap.size W0).alloc (Nat.le_refl _) (.cells Try.zeroCells69 69)) (by omega)).stored S2 (by omega))
      have AB := hid (S2.bel _ _ (by omega) (HB.out.alloc (by omega) (.cells Try.zeroCells69 69)))
      have hz2 : w.heap.size + 1 < w2.heap.size := by rw [S2.size, size_alloc]; omega
      clear S2 GG
      go_wp2_with (refine wpList_load_grp rfl (.tmp 7) rfl W0.heap.size 0 _ rfl A7.out ?_)
      go_loopw [21] (fun i wq => ∃ j : Nat, j ≤ 256 ∧ i = .int .i64 j ∧ Hid (FlatG wq (w.heap.size + 1) (n * 256) (upTo (bothB f wt) (t * 256 + j))) ∧ Hid (GrpAt wq w.heap.size 0 wt) ∧ w.heap.size + 1 < wq.heap.size ∧ Hid (Below w.heap.size w wq)) (fun i _ => 256 - (intOf i).toNat)
      case atStart => exact ⟨0, by omega, rfl, A5, A3, hz2, AB⟩
      case round =>
        obtain ⟨j, hj, rfl, H5, H3, hz3, HB⟩ := hrel
        rename World => W3
        by_cases hlj : j < 256
        · have q0 := H5.out.f (t * 256 + j) (by omega)
          have q1 := H5.out.c (t * 256 + j) (by omega)
          have q2 : W3.cell? ⟨w.heap.size, j, none⟩ = some (.bool (wt j)) := by have := H3.out.c j hlj; rwa [Nat.zero_add] at this
          have ix := fun W => run_index_grp (fun j => f (t * 256 + j)) hlj W
          have e0 : bothB f wt (t * 256 + j) = (f (t * 256 + j) && wt j) := by unfold bothB; rw [show (t * 256 + j) % 256 = j by omega]
          have D5 := hid (H5.out.drew.set (t * 256 + j) (bothB f wt (t * 256 + j)))
          have D3 := hid (H3.out.drew.other ⟨w.heap.size + 1, t * 256 + j, none⟩ (.bool (bothB f wt (t * 256 + j))) (Or.inl (by simp)))
          have DB := hid (HB.out.drew.setCell (p := ⟨w.heap.size + 1, t * 256 + j, none⟩) (by show w.heap.size ≤ w.heap.size + 1; omega) (.bool (bothB f wt (t * 256 + j))))
          rw [upTo_step] at D5
          generalize upTo (bothB f wt) (t * 256 + j) (t * 256 + j) = ov at *
          generalize bothB f wt (t * 256 + j) = sv at *
          generalize f (t * 256 + j) = fv at *
          generalize wt j = wv at *
          subst e0
          cases fv with
          | false =>
            simp only [Bool.false_and] at D5 D3 DB
            go_wp2_with fail
            refine wp_region_held_drew (S := fun _ => True) (by kernel_rfl) trivial (fun hHeld => ?_)
            refine wpAnyH_take (i := 0) (oi := { dst := some 25, op := Op.move (.tmp 5), type := _, pos := _, after := _, guard := none }) (v := (Value.slice (some ⟨w.heap.size + 1, 0, none⟩) n n)) rfl (by kernel_rfl) (by kernel_rfl) (by kernel_rfl) (fun _ _ _ h => h) (Or.inl ⟨by rfl, by intro w' hSw; (try dsimp only at hSw); go_simp⟩) (by assumption) ?_
            simp only [Act.put, List.setIfInBounds_toArray, List.set_cons_zero, List.set_cons_succ]
            refine wpAnyH_take (i := 1) (oi := { dst := some 26, op := Op.move (.tmp 6), type := _, pos := _, after := _, guard := none }) (v := (Value.int .i64 (t : Nat))) rfl (by kernel_rfl) (by kernel_rfl) (by kernel_rfl) (fun _ _ _ h => h) (Or.inl ⟨by rfl, by intro w' hSw; (try dsimp only at hSw); go_simp⟩) (by assumption) ?_
            simp only [Act.put, List.setIfInBounds_toArray, List.set_cons_zero, List.set_cons_succ]
            refine wpAnyH_take (i := 2) (oi := { dst := some 27, op := Op.move (.tmp 8), type := _, pos := _, after := _, guard := none }) (v := (Value.int .i64 (j : Nat))) rfl (by kernel_rfl) (by kernel_rfl) (by kernel_rfl) (fun _ _ _ h => h) (Or.inl ⟨by rfl, by intro w' hSw; (try dsimp only at hSw); go_simp⟩) (by assumption) ?_
            simp only [Act.put, List.setIfInBounds_toArray, List.set_cons_zero, List.set_cons_succ]
            refine wpAnyH_take (i := 3) (oi := { dst := some 28, op := Op.move (.tmp 9), type := _, pos := _, after := _, guard := none }) (v := (Value.bool false)) rfl (by kernel_rfl) (by kernel_rfl) (by kernel_rfl) (fun _ _ _ h => h) (Or.inl ⟨by rfl, by intro w' hSw; (try dsimp only at hSw); go_simp⟩) (by assumption) ?_
            simp only [Act.put, List.setIfInBounds_toArray, List.set_cons_zero, List.set_cons_succ]
            refine wpAnyH_take (i := 4) (oi := { dst := some 29, op := Op.move (.tmp 28), type := _, pos := _, after := _, guard := none }) (v := (Value.bool false)) rfl (by kernel_rfl) (by kernel_rfl) (by kernel_rfl) (fun _ _ _ h => h) (Or.inl ⟨by rfl, by intro w' hSw; (try dsimp only at hSw); go_simp⟩) (by assumption) ?_
            simp only [Act.put, List.setIfInBounds_toArray, List.set_cons_zero, List.set_cons_succ]
            refine wpAnyH_take (i := 5) (oi := { dst := some 30, op := Op.move (.tmp 8), type := _, pos := _, after := _, guard := some (4, true) }) (v := undef) rfl (by kernel_rfl) (by kernel_rfl) (by kernel_rfl) (fun _ _ _ h => h) (Or.inr ⟨by rfl, rfl⟩) (by assumption) ?_
            simp only [Act.put, List.setIfInBounds_toArray, List.set_cons_zero, List.set_cons_succ]
            refine wpAnyH_take (i := 6) (oi := { dst := some 31, op := Op.indexAddr _ (.tmp 3) (.tmp 30), type := _, pos := _, after := _, guard := some (4, true) }) (v := undef) rfl (by kernel_rfl) (by kernel_rfl) (by kernel_rfl) (fun _ _ _ h => h) (Or.inr ⟨by rfl, rfl⟩) (by assumption) ?_
            simp only [Act.put, List.setIfInBounds_toArray, List.set_cons_zero, List.set_cons_succ]
            refine wpAnyH_take (i := 7) (oi := { dst := some 32, op := Op.load _ (.tmp 31), type := _, pos := _, after := _, guard := some (4, true) }) (v := undef) rfl (by kernel_rfl) (by kernel_rfl) (by kernel_rfl) (fun _ _ _ h => h) (Or.inr ⟨by rfl, rfl⟩) (by assumption) ?_
            simp only [Act.put, List.setIfInBounds_toArray, List.set_cons_zero, List.set_cons_succ]
            refine wpAnyH_take (i := 8) (oi := { dst := some 33, op := Op.pick (.tmp 29) (.tmp 32) (Operand.const (Value.bool false)), type := _, pos := _, after := _, guard := none }) (v := (Value.bool false)) rfl (by kernel_rfl) (by kernel_rfl) (by kernel_rfl) (fun _ _ _ h => h) (Or.inl ⟨by rfl, by intro w' hSw; (try dsimp only at hSw); go_simp⟩) (by assumption) ?_
            simp only [Act.put, List.setIfInBounds_toArray, List.set_cons_zero, List.set_cons_succ]
            refine wpAnyH_take (i := 9) (oi := { dst := some 34, op := Op.indexAddr _ (.tmp 25) (.tmp 26), type := _, pos := _, after := _, guard := none }) (v := (Value.pointer (some ⟨w.heap.size + 1, t * 256, none⟩))) rfl (by kernel_rfl) (by kernel_rfl) (by kernel_rfl) (fun _ _ _ h => h) (Or.inl ⟨by rfl, by intro w' hSw; (try dsimp only at hSw); go_simp⟩) (by assumption) ?_
            simp only [Act.put, List.setIfInBounds_toArray, List.set_cons_zero, List.set_cons_succ]
            refine wpAnyH_take (i := 10) (oi := { dst := some 35, op := Op.indexAddr _ (.tmp 34) (.tmp 27), type := _, pos := _, after := _, guard := none }) (v := (Value.pointer (some ⟨w.heap.size + 1, t * 256 + j, none⟩))) rfl (by kernel_rfl) (by kernel_rfl) (by kernel_rfl) (fun _ _ _ h => h) (Or.inl ⟨by rfl, by intro w' hSw; (try dsimp only at hSw); go_simp⟩) (by assumption) ?_
            simp only [Act.put, List.setIfInBounds_toArray, List.set_cons_zero, List.set_cons_succ]
            refine wpAnyH_ready (rs := [11]) (by kernel_rfl) (by simp) ?_
            refine AllReadyH.cons rfl (fun K hK => ?_) AllReadyH.nil
            go_simp
            refine hK.out _ _ trivial (fun hHeld => ?_)
            clear hK K
            refine wpAnyH_done (by kernel_rfl) ?_ _
            go_wp2_with fail
            go_roundw
            case rel => exact ⟨j + 1, by omega, by go_num, D5, D3, by simp; omega, DB⟩
            case measure => simp [intOf]; omega
          | true =>
            simp only [Bool.true_and] at D5 D3 DB
            go_wp2_with fail
            go_region_held3 (fun w' => w'.cell? ⟨w.heap.size, j, none⟩ = some (.bool wv)) (go_keep) (fail)
            go_wp2_with fail
            go_roundw
            case rel => exact ⟨j + 1, by omega, by go_num, D5, D3, by simp; omega, DB⟩
            case measure => simp [intOf]; omega
        · obtain rfl : j = 256 := by omega
          go_wp2_with fail
          go_roundw
          case rel => exact ⟨t + 1, by omega, by go_num, by rw [show (t + 1) * 256 = t * 256 + 256 by omega]; exact H5, H3, hz3, HB⟩
          case measure => simp [intOf]; omega
    · obtain rfl : t = n := by omega
      go_wp2_with fail
      go_ret
      exact ⟨_, rfl, by omega, hz, H5.out.congr (fun j hj => by simp [upTo, hj]), HB.out⟩

end Go.Proofs.Ytjagijohfkffiab
