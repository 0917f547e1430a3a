import Derived.Test.YtjagijohfkffiabKINM01
import Derived.Deep.MidRow
import Derived.WalkLawsBesides

/- Plain mathematics: looking through a graph, as the reference does. -/
namespace Go.Proofs.Ytjagijohfkffiab

theorem nodup_le : ∀ (n : Nat) (l : List Nat), l.Nodup → (∀ b ∈ l, b < n) → l.length ≤ n
  | 0, l, _, h => by
    cases l with
    | nil => exact Nat.le_refl _
    | cons b l => exact absurd (h b (List.mem_cons_self ..)) (by omega)
  | n + 1, l, hd, h => by
    have h1 := nodup_le n (l.erase n) (hd.erase n) (fun b hb => by
      have hb2 := (List.Nodup.mem_erase_iff hd).1 hb
      have := h b hb2.2
      omega)
    have h2 : l.length ≤ (l.erase n).length + 1 := by rw [List.length_erase]; split <;> omega
    omega

def upd (f : Nat → Bool) (b : Nat) (v : Bool) : Nat → Bool := fun i => if i = b then v else f i

/-- What has been met from 'at' on; 'seen' marks all but 'at' itself, which it marks if one comes back. -/
structure Bfs (E : Nat → Nat → Prop) (n at0 : Nat) (todo : List Nat) (seen : Nat → Bool) : Prop where
  parts : ∃ rest, todo = at0 :: rest ∧ rest.Nodup ∧ (∀ b, seen b = true ↔ b ∈ rest) ∧ ∀ b ∈ rest, reach E at0 b ∧ b < n

theorem Bfs.len {E : Nat → Nat → Prop} {n at0 : Nat} {todo : List Nat} {seen : Nat → Bool} (h : Bfs E n at0 todo seen) : todo.length ≤ n + 1 := by
  obtain ⟨rest, rfl, h1, _, h3⟩ := h.parts
  have := nodup_le n rest h1 (fun b hb => (h3 b hb).2)
  simp; omega
theorem Bfs.mem {E : Nat → Nat → Prop} {n at0 : Nat} {todo : List Nat} {seen : Nat → Bool} (h : Bfs E n at0 todo seen) {a : Nat} (ha : a ∈ todo) : a = at0 ∨ (reach E at0 a ∧ a < n) := by
  obtain ⟨rest, rfl, _, _, h3⟩ := h.parts
  rcases List.mem_cons.1 ha with rfl | ha
  · exact Or.inl rfl
  · exact Or.inr (h3 a ha)

end Go.Proofs.Ytjagijohfkffiab

/- Groups of views: rows of 256 bools in memory. -/
namespace Go.Proofs.Ytjagijohfkffiab
open Go.RowKit
set_option linter.unusedVariables false

/-- A group as the cells of a value. -/
def gv (g : Nat → Bool) : List Value := (List.range 256).map fun j => .bool (g j)
theorem gv_len (g : Nat → Bool) : (gv g).length = 256 := by simp [gv]
theorem gv_get (g : Nat → Bool) {j : Nat} (h : j < 256) : (gv g)[j]? = some (.bool (g j)) := by simp [gv, h]
theorem gv_one (g : Nat → Bool) : ∀ v ∈ gv g, v.oneCell' = true := by
  intro v hv
  simp only [gv, List.mem_map] at hv
  obtain ⟨j, _, rfl⟩ := hv
  rfl
theorem gv_congr {g h : Nat → Bool} (e : ∀ j, j < 256 → g j = h j) : gv g = gv h := by
  unfold gv
  refine List.map_congr_left fun j hj => ?_
  rw [e j (by simpa using hj)]
theorem gv_inj {g h : Nat → Bool} (e : gv g = gv h) : ∀ j, j < 256 → g j = h j := fun j hj => by
  have := gv_get g hj
  rw [e, gv_get h hj] at this
  simpa using this.symm
/-- A group in memory, at an offset of a block, that may be written. -/
structure GrpAt (w : World) (b o : Nat) (g : Nat → Bool) : Prop where
  c : ∀ j, j < 256 → w.cell? ⟨b, o + j, none⟩ = some (.bool (g j))
  f : ∀ j, j < 256 → w.frozen? ⟨b, o + j, none⟩ = false

theorem GrpAt.rng {w : World} {b o : Nat} {g : Nat → Bool} (h : GrpAt w b o g) : w.rangeAt b o (gv g) := fun j v hv => by
  have hj : j < 256 := by have := (List.getElem?_eq_some_iff.1 hv).1; rwa [gv_len] at this
  rw [gv_get g hj] at hv
  rw [h.c j hj, hv]
theorem GrpAt.there {w : World} {b o : Nat} {g : Nat → Bool} (h : GrpAt w b o g) : w.there b o 256 := fun j hj => ⟨by rw [h.c j hj]; rfl, h.f j hj⟩
theorem GrpAt.lt {w : World} {b o : Nat} {g : Nat → Bool} (h : GrpAt w b o g) : b < w.heap.size := World.block_lt_of_cell? w ⟨b, o + 0, none⟩ (h.c 0 (by omega))
theorem GrpAt.below {B : Nat} {w w' : World} {b o : Nat} {g : Nat → Bool} (h : GrpAt w b o g) (hb : Below B w w') (hlt : b < B) : GrpAt w' b o g :=
  ⟨fun j hj => (hb.cell (p := ⟨b, o + j, none⟩) hlt).trans (h.c j hj), fun j hj => (hb.frozen (p := ⟨b, o + j, none⟩) hlt).trans (h.f j hj)⟩
theorem GrpAt.alloc {w : World} {b o : Nat} {g : Nat → Bool} (h : GrpAt w b o g) (ob : Obj) : GrpAt (w.alloc ob) b o g := by
  have hl := h.lt
  refine ⟨fun j hj => ?_, fun j hj => ?_⟩
  · rw [World.cell?_alloc_lt _ _ _ hl]; exact h.c j hj
  · rw [World.frozen?_alloc_past _ _ _ hl]; exact h.f j hj
theorem GrpAt.drew {w : World} {b o : Nat} {g : Nat → Bool} (h : GrpAt w b o g) : GrpAt w.drew b o g := ⟨h.c, h.f⟩
theorem GrpAt.congr {w : World} {b o : Nat} {g g' : Nat → Bool} (h : GrpAt w b o g) (e : ∀ j, j < 256 → g j = g' j) : GrpAt w b o g' :=
  ⟨fun j hj => by rw [h.c j hj, e j hj], h.f⟩
theorem GrpAt.set {w : World} {b o : Nat} {g : Nat → Bool} (h : GrpAt w b o g) {i : Nat} (hi : i < 256) (v : Bool) : GrpAt (w.setCell ⟨b, o + i, none⟩ (.bool v)) b o (upd g i v) := by
  refine ⟨fun j hj => ?_, fun j hj => by rw [World.frozen?_setCell]; exact h.f j hj⟩
  by_cases e : j = i
  · subst e
    rw [World.cell?_setCell_same _ _ _ (h.c j hj)]
    simp [upd]
  · rw [World.cell?_setCell_other _ ⟨b, o + i, none⟩ ⟨b, o + j, none⟩ _ (fun q => e (by have := congrArg Addr.off q; simp at this; omega)), h.c j hj]
    simp [upd, e]
theorem GrpAt.other {w : World} {b o : Nat} {g : Nat → Bool} (h : GrpAt w b o g) (p : Addr) (v : Value) (hp : p.block ≠ b ∨ p.off < o ∨ o + 256 ≤ p.off) : GrpAt (w.setCell p v) b o g := by
  refine ⟨fun j hj => ?_, fun j hj => by rw [World.frozen?_setCell]; exact h.f j hj⟩
  rw [World.cell?_setCell_other _ _ _ _ (fun e => by subst e; simp at hp; omega)]
  exact h.c j hj
theorem grp_stored {w : World} {b o : Nat} (h : w.there b o 256) (g : Nat → Bool) : GrpAt (w.setCells b o (gv g)) b o g := by
  have h1 := World.rangeAt_setCells_same w b o (gv g) (by rw [gv_len]; exact h)
  refine ⟨fun j hj => h1 j _ (gv_get g hj), fun j hj => by rw [World.frozen?_setCells]; exact (h j hj).2⟩
theorem GrpAt.apart {w : World} {b o : Nat} {g : Nat → Bool} (h : GrpAt w b o g) (b' o' : Nat) (vs : List Value) (hp : b ≠ b' ∨ o + 256 ≤ o' ∨ o' + vs.length ≤ o) : GrpAt (w.setCells b' o' vs) b o g := by
  refine ⟨fun j hj => ?_, fun j hj => by rw [World.frozen?_setCells]; exact h.f j hj⟩
  exact World.rangeAt_setCells_apart h.rng b' o' vs (by rw [gv_len]; exact hp) j _ (gv_get g hj)
theorem grp_new (w : World) (g : Nat → Bool) (t : TypeId) : GrpAt (w.alloc (.cells (gv g).toArray t)) w.heap.size 0 g := by
  refine ⟨fun j hj => ?_, fun j hj => ?_⟩
  · have := cell_of_row (w.alloc (.cells (gv g).toArray t)) w.heap.size (0 + j) (gv g).toArray t (0, 0) (heap_alloc_last w _)
    rw [this]
    simp [gv, hj]
  · simp

theorem Try.groupCells : Try.zeroCells69 = (gv fun _ => false).toArray := by kernel_rfl
theorem Try.groupSize : (Try.prog.info? 69).map (·.size) = some 256 := by kernel_rfl
theorem Try.groupUnder : Try.prog.underlying 69 = some (.array 256 4) := Try.underlying69
theorem Try.groupSz (g : Nat → Bool) : (Try.prog.info? 69).map (·.size) = some (gv g).length := by rw [gv_len]; exact Try.groupSize
theorem Try.groupSa (g : Nat → Bool) : (Try.prog.info? 69).map (·.size) = some (gv g).toArray.size := by simp only [List.size_toArray]; exact Try.groupSz g
theorem GrpAt.thereA {w : World} {b o : Nat} {g : Nat → Bool} (h : GrpAt w b o g) (g' : Nat → Bool) : w.there b o (gv g').toArray.size := by simp only [List.size_toArray, gv_len]; exact h.there
theorem zero_new (w : World) : GrpAt (w.alloc (.cells Try.zeroCells69 69)) w.heap.size 0 (fun _ => false) := by rw [Try.groupCells]; exact grp_new w _ _

theorem below_setCells {B : Nat} {a : World} {b : Nat} (hb : B ≤ b) : ∀ (vs : List Value) (o : Nat) (w : World), Below B a w → Below B a (w.setCells b o vs)
  | [], _, _, h => h
  | v :: r, o, w, h => by
    rw [World.setCells]
    exact below_setCells hb r (o + 1) _ (h.setCell (p := ⟨b, o, none⟩) hb v)
theorem size_setCells (b : Nat) : ∀ (vs : List Value) (o : Nat) (w : World), (w.setCells b o vs).heap.size = w.heap.size
  | [], _, _ => rfl
  | v :: r, o, w => by
    rw [World.setCells, size_setCells b r (o + 1) _]
    simp [World.setCell]

theorem results_one_cell {fn : Func} {p : Tmp} {ty : TypeId} (h : fn.results = #[.cell p ty]) (tmps : Array Value) (P : Program) (w : World) :
    (results fn tmps).run P w = ((asAddr (tmps.getD p undef)).run P w).andThen fun a w₁ => (loadVar ty a).run P w₁ := by
  simp only [results, h]
  simp [Sem.run_bind, Result.andThen]

/-- A group is handed back through a cell. -/
theorem ret_group {fn : Func} {c b o : Nat} {g : Nat → Bool} {a : Act} {w : World} {R : Ending → World → Prop} (h : fn.results = #[.cell c 69]) (hd : a.defers = []) (hp : a.tmps.getD c undef = .pointer (some ⟨b, o, none⟩))
    (hg : GrpAt w b o g) (hR : R (.returned (.agg (gv g).toArray)) w) : bodyPost Try.prog fn R .ret a w := by
  refine bodyPost_ret (v := .agg (gv g).toArray) ?_ hd hR
  rw [results_one_cell h, hp]
  simp only [asAddr, Sem.run_pure, Result.andThen_ok]
  exact run_loadVar_mid w b o _ (gv g) _ hg.rng Try.groupUnder rfl (Try.groupSz g)

/-- A group was stored: what is there, what stayed. -/
structure StoredG (w : World) (b o : Nat) (g : Nat → Bool) (w1 : World) : Prop where
  at_ : GrpAt w1 b o g
  size : w1.heap.size = w.heap.size
  bel : ∀ B a, B ≤ b → Below B a w → Below B a w1
  cell : ∀ p : Addr, (p.block ≠ b ∨ p.off < o ∨ o + 256 ≤ p.off) → w1.cell? p = w.cell? p
  fz : ∀ p, w1.frozen? p = w.frozen? p

theorem storedG {w : World} {b o : Nat} (h : w.there b o 256) (g : Nat → Bool) : StoredG w b o g (w.setCells b o (gv g)) := by
  refine ⟨grp_stored h g, size_setCells _ _ _ _, fun B a hB hb => below_setCells hB _ _ _ hb, fun p hp => ?_, fun p => World.frozen?_setCells _ _ _ _ _⟩
  rw [World.cell?_setCells_out b (gv g) o w p (fun hb _ => by rw [gv_len]; omega)]

theorem StoredG.grp {w w1 : World} {b o : Nat} {g : Nat → Bool} (h : StoredG w b o g w1) {b' o' : Nat} {g' : Nat → Bool} (k : GrpAt w b' o' g') (hp : b' ≠ b ∨ o' + 256 ≤ o ∨ o + 256 ≤ o') : GrpAt w1 b' o' g' :=
  ⟨fun j hj => by rw [h.cell ⟨b', o' + j, none⟩ (by simp; omega)]; exact k.c j hj, fun j hj => by rw [h.fz]; exact k.f j hj⟩

theorem wpList_store_grp {ops : Array Oper} {rest : List Oper} {op : Oper} {a : Act} {w : World} {Q : Exit → Act → World → Prop} (hgd : op.guard = none) (x y : Operand) (ho : op.op = .store 69 x y)
    (b o : Nat) (g : Nat → Bool) (hx : a.eval x = .pointer (some ⟨b, o, none⟩)) (hy : a.eval y = .agg (gv g).toArray) (ht : w.there b o 256)
    (h : ∀ w1, StoredG w b o g w1 → wpList Try.prog ops Q rest (a.put op.dst undef) w1) : wpList Try.prog ops Q (op :: rest) a w := by
  refine wpList_store_mid hgd 69 x y ho b o (gv g).toArray hx hy (by simp only [List.size_toArray, gv_len]; exact ht) (Try.groupSa g) (all_oneCell_toArray (gv_one g)) ?_
  exact h _ (storedG ht g)

theorem wpList_load_grp {ops : Array Oper} {rest : List Oper} {op : Oper} {a : Act} {w : World} {Q : Exit → Act → World → Prop} (hgd : op.guard = none) (x : Operand) (ho : op.op = .load 69 x)
    (b o : Nat) (g : Nat → Bool) (hx : a.eval x = .pointer (some ⟨b, o, none⟩)) (hg : GrpAt w b o g)
    (h : wpList Try.prog ops Q rest (a.put op.dst (.agg (gv g).toArray)) w) : wpList Try.prog ops Q (op :: rest) a w :=
  wpList_load_mid hgd 69 x ho b o hx (gv g) _ hg.rng Try.groupUnder rfl (Try.groupSz g) h

set_option maxRecDepth 100000 in
theorem begin_any (P : Nat) (g : Nat → Bool) (w : World) (h : GrpAt w P 2305 g) : Calls Try.prog 69 #[.pointer (some ⟨P, 0, none⟩)] w fun e w' => e = .returned (.agg (gv g).toArray) ∧ Below w.heap.size w w' := by
  have H0 := hid (zero_new w)
  have H1 := hid (h.alloc (.cells Try.zeroCells69 69))
  clear h
  go_enter Try.func69, Try.ntmps69
  go_wp2_with (first | (refine wpList_load_mid rfl 69 (.tmp 5) rfl P 2305 rfl (gv g) _ H1.out.rng Try.groupUnder rfl (Try.groupSz g) ?_) | (refine wpList_store_mid rfl 69 (.tmp 2) (.tmp 6) rfl w.heap.size 0 (gv g).toArray rfl rfl (H0.out.thereA g) (Try.groupSa g) (all_oneCell_toArray (gv_one g)) ?_))
  exact ret_group Try.results69 rfl rfl (grp_stored H0.out.there g) ⟨rfl, below_setCells (Nat.le_refl _) _ _ _ ((Below.refl _ _).alloc (Nat.le_refl _) _)⟩

end Go.Proofs.Ytjagijohfkffiab

/- Plain mathematics: what a formula means at a place of a row of places ('nx': the place behind a place, 'lt': its letter). At nx = (· + 1) it is the document's own. -/
namespace Go.Proofs.Ytjagijohfkffiab

/-- s steps on. -/
def it (nx : Nat → Nat) : Nat → Nat → Nat
  | 0, i => i
  | s + 1, i => it nx s (nx i)

theorem it_succ (nx : Nat → Nat) (s i : Nat) : it nx (s + 1) i = nx (it nx s i) := by
  induction s generalizing i with
  | zero => rfl
  | succ s ih => exact ih (nx i)
theorem it_add (nx : Nat → Nat) (s t i : Nat) : it nx (s + t) i = it nx s (it nx t i) := by
  induction s with
  | zero => simp [it]
  | succ s ih => rw [show s + 1 + t = (s + t) + 1 by omega, it_succ, it_succ, ih]

/-- B some time, and A up to it. -/
def UU (nx : Nat → Nat) (A B : Nat → Prop) (i : Nat) : Prop := ∃ s, B (it nx s i) ∧ ∀ m, m < s → A (it nx m i)

theorem UU_fix (nx : Nat → Nat) (A B : Nat → Prop) (i : Nat) : UU nx A B i ↔ B i ∨ (A i ∧ UU nx A B (nx i)) := by
  constructor
  · rintro ⟨s, hb, ha⟩
    cases s with
    | zero => exact Or.inl hb
    | succ s => exact Or.inr ⟨ha 0 (by omega), s, hb, fun m hm => ha (m + 1) (by omega)⟩
  · rintro (hb | ⟨ha, s, hb, h⟩)
    · exact ⟨0, hb, fun m hm => by omega⟩
    · refine ⟨s + 1, hb, fun m hm => ?_⟩
      cases m with
      | zero => exact ha
      | succ m => exact h m (by omega)

/-- What a node means, by what the nodes listed ahead of it mean. -/
def den (nx lt : Nat → Nat) (n : Nd) (rs : List (Nat → Prop)) (i : Nat) : Prop :=
  if n.op = 49 then True
  else if n.op = 112 then (lt i).testBit 0 = true
  else if n.op = 113 then (lt i).testBit 1 = true
  else if n.op = 114 then (lt i).testBit 2 = true
  else if n.op = 33 then ¬ rs.getD n.l (fun _ => False) i
  else if n.op = 88 then rs.getD n.l (fun _ => False) (nx i)
  else if n.op = 70 then ∃ s, rs.getD n.l (fun _ => False) (it nx s i)
  else if n.op = 71 then ∀ s, rs.getD n.l (fun _ => False) (it nx s i)
  else if n.op = 38 then rs.getD n.l (fun _ => False) i ∧ rs.getD n.r (fun _ => False) i
  else if n.op = 124 then rs.getD n.l (fun _ => False) i ∨ rs.getD n.r (fun _ => False) i
  else if n.op = 85 then ∃ s, rs.getD n.r (fun _ => False) (it nx s i) ∧ ∀ m, m < s → rs.getD n.l (fun _ => False) (it nx m i)
  else if n.op = 82 then ∀ s, rs.getD n.r (fun _ => False) (it nx s i) ∨ ∃ m, m < s ∧ rs.getD n.l (fun _ => False) (it nx m i)
  else False

def rows (nx lt : Nat → Nat) (ns : List Nd) : List (Nat → Prop) := ns.foldl (fun rs n => rs ++ [den nx lt n rs]) []

theorem rows_snoc (nx lt : Nat → Nat) (ns : List Nd) (n : Nd) : rows nx lt (ns ++ [n]) = rows nx lt ns ++ [den nx lt n (rows nx lt ns)] := by
  simp [rows]
theorem foldl_len (nx lt : Nat → Nat) (ns : List Nd) : ∀ rs : List (Nat → Prop), (ns.foldl (fun rs n => rs ++ [den nx lt n rs]) rs).length = rs.length + ns.length := by
  induction ns with
  | nil => intro rs; rfl
  | cons n ns ih => intro rs; simp only [List.foldl_cons, List.length_cons]; rw [ih]; simp; omega
theorem rows_len (nx lt : Nat → Nat) (ns : List Nd) : (rows nx lt ns).length = ns.length := by
  unfold rows; rw [foldl_len]; simp

/-- Node k holds at place i. -/
def sem (nx lt : Nat → Nat) (ns : List Nd) (k i : Nat) : Prop := (rows nx lt ns).getD k (fun _ => False) i

theorem sem_old {nx lt : Nat → Nat} {ns : List Nd} {n : Nd} {k : Nat} (h : k < ns.length) (i : Nat) : sem nx lt (ns ++ [n]) k i = sem nx lt ns k i := by
  unfold sem
  rw [rows_snoc, List.getD, List.getD, List.getElem?_append_left (by rw [rows_len]; exact h)]
theorem sem_new (nx lt : Nat → Nat) (ns : List Nd) (n : Nd) (i : Nat) : sem nx lt (ns ++ [n]) ns.length i = den nx lt n (rows nx lt ns) i := by
  unfold sem
  rw [rows_snoc, List.getD, List.getElem?_append_right (by rw [rows_len]; exact Nat.le_refl _), rows_len]
  simp

theorem foldl_pre (nx lt : Nat → Nat) (ms : List Nd) : ∀ rs : List (Nat → Prop), ∀ k, k < rs.length → (ms.foldl (fun rs n => rs ++ [den nx lt n rs]) rs).getD k (fun _ => False) = rs.getD k (fun _ => False) := by
  induction ms with
  | nil => intro rs k _; rfl
  | cons n ms ih =>
    intro rs k hk
    simp only [List.foldl_cons]
    rw [ih _ k (by simp; omega)]
    simp [List.getD, List.getElem?_append_left hk]
theorem sem_pre {nx lt : Nat → Nat} {ns ms : List Nd} {k : Nat} (h : k < ns.length) (i : Nat) : sem nx lt (ns ++ ms) k i = sem nx lt ns k i := by
  unfold sem rows
  rw [List.foldl_append, foldl_pre _ _ _ _ _ (by rw [foldl_len]; simpa using h)]

/-- What a node means hangs on the rows below it alone. -/
theorem den_congr {nx1 lt1 nx2 lt2 : Nat → Nat} {f : Nat → Nat} (hn : ∀ i, f (nx1 i) = nx2 (f i)) (hl : ∀ i, lt1 i = lt2 (f i)) {n : Nd} {r1 r2 : List (Nat → Prop)}
    (hr : ∀ k i, r1.getD k (fun _ => False) i ↔ r2.getD k (fun _ => False) (f i)) (i : Nat) : den nx1 lt1 n r1 i ↔ den nx2 lt2 n r2 (f i) := by
  have hit : ∀ s i, f (it nx1 s i) = it nx2 s (f i) := by
    intro s
    induction s with
    | zero => intro i; rfl
    | succ s ih => intro i; simp only [it]; rw [ih, hn]
  unfold den
  simp only [hl, hr, hn, hit]

theorem sem_map {nx1 lt1 nx2 lt2 : Nat → Nat} {f : Nat → Nat} (hn : ∀ i, f (nx1 i) = nx2 (f i)) (hl : ∀ i, lt1 i = lt2 (f i)) (ns : List Nd) (k i : Nat) : sem nx1 lt1 ns k i ↔ sem nx2 lt2 ns k (f i) := by
  have key : ∀ ms : List Nd, ∀ r1 r2 : List (Nat → Prop), (r1.length = r2.length) → (∀ k i, r1.getD k (fun _ => False) i ↔ r2.getD k (fun _ => False) (f i)) →
      ∀ k i, (ms.foldl (fun rs n => rs ++ [den nx1 lt1 n rs]) r1).getD k (fun _ => False) i ↔ (ms.foldl (fun rs n => rs ++ [den nx2 lt2 n rs]) r2).getD k (fun _ => False) (f i) := by
    intro ms
    induction ms with
    | nil => intro r1 r2 _ hr; exact hr
    | cons n ms ih =>
      intro r1 r2 hlen hr
      simp only [List.foldl_cons]
      refine ih _ _ (by simp [hlen]) ?_
      intro k i
      by_cases hk : k < r1.length
      · simp only [List.getD, List.getElem?_append_left hk, List.getElem?_append_left (show k < r2.length by omega)]
        exact hr k i
      · simp only [List.getD, List.getElem?_append_right (show r1.length ≤ k by omega), List.getElem?_append_right (show r2.length ≤ k by omega), hlen]
        cases hk0 : k - r2.length with
        | zero => simpa using den_congr hn hl hr i
        | succ j => simp
  exact key ns [] [] rfl (fun k i => by simp) k i

/-- The places of a stem and a loop: behind the last of n comes 'back'. -/
def lnx (n back i : Nat) : Nat := if i + 1 < n then i + 1 else back

theorem lnx_lt {n back i : Nat} (hb : back < n) : lnx n back i < n := by unfold lnx; split <;> omega

theorem it_lt {n back : Nat} (hb : back < n) : ∀ s i, i < n → it (lnx n back) s i < n := by
  intro s
  induction s with
  | zero => intro i h; exact h
  | succ s ih => intro i h; exact ih _ (lnx_lt hb)

/-- Straight on as long as the end is not reached. -/
theorem it_straight {n back : Nat} : ∀ s i, i + s < n → it (lnx n back) s i = i + s := by
  intro s
  induction s with
  | zero => intro i _; rfl
  | succ s ih =>
    intro i h
    simp only [it]
    rw [show lnx n back i = i + 1 by unfold lnx; rw [if_pos (by omega)], ih (i + 1) (by omega)]
    omega
/-- From i on, so many steps lead to 'back'. -/
theorem it_back {n back i : Nat} (hi : i < n) : it (lnx n back) (n - i) i = back := by
  rw [show n - i = (n - 1 - i) + 1 by omega, it_succ, it_straight _ _ (by omega)]
  unfold lnx
  rw [if_neg (by omega)]
/-- Once round the loop. -/
theorem it_round {n back j : Nat} (hb : back < n) (hj : back ≤ j) (hn : j < n) : it (lnx n back) (n - back) j = j := by
  rw [show n - back = (j - back) + (n - j) by omega, it_add, it_back hn, it_straight _ _ (by omega)]
  omega
/-- Two sweeps settle what comes some time. -/
theorem sweep_until {n back : Nat} (hb : back < n) (A B : Nat → Bool) (x1 x2 : Nat → Bool)
    (h1 : ∀ i, i < n → x1 i = (B i || (A i && (if i + 1 < n then x1 (i + 1) else false)))) (h2 : ∀ i, i < n → x2 i = (B i || (A i && (if i + 1 < n then x2 (i + 1) else x1 back)))) (i : Nat) (hi : i < n) :
    x2 i = true ↔ UU (lnx n back) (fun i => A i = true) (fun i => B i = true) i := by
  have fx := UU_fix (lnx n back) (fun i => A i = true) (fun i => B i = true)
  -- sound
  have s1 : ∀ d i, i + d + 1 = n → x1 i = true → UU (lnx n back) (fun i => A i = true) (fun i => B i = true) i := by
    intro d
    induction d with
    | zero =>
      intro i hd hx
      rw [h1 i (by omega), if_neg (by omega)] at hx
      rw [fx]; simp at hx; exact Or.inl hx
    | succ d ih =>
      intro i hd hx
      rw [h1 i (by omega), if_pos (by omega)] at hx
      rw [fx]
      simp only [Bool.or_eq_true, Bool.and_eq_true] at hx
      rcases hx with hx | ⟨ha, hx⟩
      · exact Or.inl hx
      · refine Or.inr ⟨ha, ?_⟩
        rw [show lnx n back i = i + 1 by unfold lnx; rw [if_pos (by omega)]]
        exact ih (i + 1) (by omega) hx
  -- what comes before the end is seen by the first sweep
  have c1 : ∀ s i, i + s < n → B (i + s) = true → (∀ m, m < s → A (i + m) = true) → x1 i = true := by
    intro s
    induction s with
    | zero => intro i hi hB _; rw [h1 i (by omega)]; simp at hB; simp [hB]
    | succ s ih =>
      intro i hi hB hA
      rw [h1 i (by omega), if_pos (by omega)]
      have := ih (i + 1) (by omega) (by rw [show i + 1 + s = i + (s + 1) by omega]; exact hB) (fun m hm => by rw [show i + 1 + m = i + (m + 1) by omega]; exact hA (m + 1) (by omega))
      have ha := hA 0 (by omega)
      simp only [Nat.add_zero] at ha
      simp [this, ha]
  have b1 : x1 back = true ↔ UU (lnx n back) (fun i => A i = true) (fun i => B i = true) back := by
    constructor
    · exact s1 (n - 1 - back) back (by omega)
    · rintro ⟨s, hB, hA⟩
      induction s using Nat.strongRecOn with
      | _ s ih =>
        by_cases hs : s < n - back
        · rw [it_straight s back (by omega)] at hB
          exact c1 s back (by omega) hB (fun m hm => by have := hA m hm; rw [it_straight m back (by omega)] at this; exact this)
        · refine ih (s - (n - back)) (by omega) ?_ (fun m hm => hA m (by omega))
          have h3 := it_round hb (Nat.le_refl back) hb
          rw [show s = (s - (n - back)) + (n - back) by omega, it_add, h3] at hB
          exact hB
  have s2 : ∀ d i, i + d + 1 = n → (x2 i = true ↔ UU (lnx n back) (fun i => A i = true) (fun i => B i = true) i) := by
    intro d
    induction d with
    | zero =>
      intro i hd
      rw [h2 i (by omega), if_neg (by omega), fx, show lnx n back i = back by unfold lnx; rw [if_neg (by omega)], ← b1]
      simp
    | succ d ih =>
      intro i hd
      rw [h2 i (by omega), if_pos (by omega), fx, show lnx n back i = i + 1 by unfold lnx; rw [if_pos (by omega)], ← ih (i + 1) (by omega)]
      simp
  exact s2 (n - 1 - i) i (by omega)

end Go.Proofs.Ytjagijohfkffiab

/- Sets of nodes as ints: Has, With. -/
namespace Go.Proofs.Ytjagijohfkffiab
open Go.RowKit
set_option linter.unusedVariables false

/-- The set with node k in it, or without it. -/
def wth (S k : Nat) (b : Bool) : Nat := if b then S ||| 2 ^ k else S - (if S.testBit k then 2 ^ k else 0)

theorem has_fin : ∀ S : Fin 256, ∀ k : Fin 8, (bits BinOp.and IntKind.i64 ((S.val : Int) / 2 ^ k.val) 1 == 1) = S.val.testBit k.val := by decide +kernel
theorem wth_t_fin : ∀ S : Fin 256, ∀ k : Fin 8, bits BinOp.or IntKind.i64 (S.val : Int) (2 ^ k.val) = ((wth S.val k.val true : Nat) : Int) := by decide +kernel
theorem wth_f_fin : ∀ S : Fin 256, ∀ k : Fin 8, bits BinOp.andNot IntKind.i64 (S.val : Int) (2 ^ k.val) = ((wth S.val k.val false : Nat) : Int) := by decide +kernel
theorem wth_lt_fin : ∀ S : Fin 256, ∀ k : Fin 8, ∀ b : Bool, wth S.val k.val b < 256 := by decide +kernel
theorem wth_bit_fin : ∀ S : Fin 256, ∀ k : Fin 8, ∀ j : Fin 8, ∀ b : Bool, (wth S.val k.val b).testBit j.val = if j.val = k.val then b else S.val.testBit j.val := by decide +kernel

theorem wth_lt {S k : Nat} {b : Bool} (hS : S < 256) (hk : k < 8) : wth S k b < 256 := wth_lt_fin ⟨S, hS⟩ ⟨k, hk⟩ b
theorem wth_bit {S k j : Nat} {b : Bool} (hS : S < 256) (hk : k < 8) (hj : j < 8) : (wth S k b).testBit j = if j = k then b else S.testBit j := wth_bit_fin ⟨S, hS⟩ ⟨k, hk⟩ ⟨j, hj⟩ b
theorem pow_wrap {k : Nat} (hk : k < 8) : wrap64 (2 ^ k) = 2 ^ k := by
  have : (2 : Int) ^ k ≤ 128 ∧ 0 ≤ (2 : Int) ^ k := by
    have h : ∀ k : Fin 8, (2 : Int) ^ k.val ≤ 128 ∧ 0 ≤ (2 : Int) ^ k.val := by decide
    exact h ⟨k, hk⟩
  exact IntWalk.wrap64_in _ ⟨by omega, by omega⟩

theorem ret_bool {a b : Bool} (h : a = b) : Ending.returned (.bool a) = .returned (.bool b) := by rw [h]
theorem ret_int {k : IntKind} {a b : Int} (h : a = b) : Ending.returned (.int k a) = .returned (.int k b) := by rw [h]

set_option maxHeartbeats 400000 in
theorem has_any (S k : Nat) (w : World) (hS : S < 256) (hk : k < 8) : Calls Try.prog 68 #[.int .i64 S, .int .i64 k] w fun e w' => e = .returned (.bool (S.testBit k)) ∧ w' = w := by
  have H := hid (has_fin ⟨S, hS⟩ ⟨k, hk⟩)
  go_enter Try.func68, Try.ntmps68
  go_wp2
  go_ret
  exact ⟨ret_bool H.out, rfl⟩

set_option maxHeartbeats 400000 in
theorem with_any (S k : Nat) (b : Bool) (w : World) (hS : S < 256) (hk : k < 8) : Calls Try.prog 105 #[.int .i64 S, .int .i64 k, .bool b] w fun e w' => e = .returned (.int .i64 (wth S k b : Nat)) ∧ w' = w := by
  have HT : Hid (bits BinOp.or IntKind.i64 (S : Int) (wrap64 (2 ^ k)) = ((wth S k true : Nat) : Int)) := hid (by rw [pow_wrap hk]; exact wth_t_fin ⟨S, hS⟩ ⟨k, hk⟩)
  have HF : Hid (bits BinOp.andNot IntKind.i64 (S : Int) (wrap64 (2 ^ k)) = ((wth S k false : Nat) : Int)) := hid (by rw [pow_wrap hk]; exact wth_f_fin ⟨S, hS⟩ ⟨k, hk⟩)
  cases b with
  | true =>
    go_enter Try.func105, Try.ntmps105
    go_wp2
    go_ret
    exact ⟨ret_int HT.out, rfl⟩
  | false =>
    go_enter Try.func105, Try.ntmps105
    go_wp2
    go_ret
    exact ⟨ret_int HF.out, rfl⟩

end Go.Proofs.Ytjagijohfkffiab
