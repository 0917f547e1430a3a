import Derived.Test.YtjagijohfkffiabFOUM02
import Derived.Test.YtjagijohfkffiabFOUM04
import Derived.Test.YtjagijohfkffiabFOUM07
import Derived.Deep.MidRow
import Derived.Outline
import Derived.ChangeKeysEq

/- Groups of views: rows of 256 bools in memory. -/
namespace Go.Proofs.Ytjagijohfkffiab
open Go.RowKit
set_option linter.unusedVariables false

/-- A group as the cells of a value. -/
def gv (g : Nat → Bool) : List Value := (List.range 256).map fun j => .bool (g j)
theorem gv_len (g : Nat → Bool) : (gv g).length = 256 := by simp [gv]
theorem gv_get (g : Nat → Bool) {j : Nat} (h : j < 256) : (gv g)[j]? = some (.bool (g j)) := by simp [gv, h]
theorem gv_one (g : Nat → Bool) : ∀ v ∈ gv g, v.oneCell' = true := by
  intro v hv
  simp only [gv, List.mem_map] at hv
  obtain ⟨j, _, rfl⟩ := hv
  rfl
theorem gv_congr {g h : Nat → Bool} (e : ∀ j, j < 256 → g j = h j) : gv g = gv h := by
  unfold gv
  refine List.map_congr_left fun j hj => ?_
  rw [e j (by simpa using hj)]
/-- A group in memory, at an offset of a block, that may be written. -/
structure GrpAt (w : World) (b o : Nat) (g : Nat → Bool) : Prop where
  c : ∀ j, j < 256 → w.cell? ⟨b, o + j, none⟩ = some (.bool (g j))
  f : ∀ j, j < 256 → w.frozen? ⟨b, o + j, none⟩ = false

theorem GrpAt.rng {w : World} {b o : Nat} {g : Nat → Bool} (h : GrpAt w b o g) : w.rangeAt b o (gv g) := fun j v hv => by
  have hj : j < 256 := by have := (List.getElem?_eq_some_iff.1 hv).1; rwa [gv_len] at this
  rw [gv_get g hj] at hv
  rw [h.c j hj, hv]
theorem GrpAt.there {w : World} {b o : Nat} {g : Nat → Bool} (h : GrpAt w b o g) : w.there b o 256 := fun j hj => ⟨by rw [h.c j hj]; rfl, h.f j hj⟩
theorem GrpAt.lt {w : World} {b o : Nat} {g : Nat → Bool} (h : GrpAt w b o g) : b < w.heap.size := World.block_lt_of_cell? w ⟨b, o + 0, none⟩ (h.c 0 (by omega))
theorem GrpAt.below {B : Nat} {w w' : World} {b o : Nat} {g : Nat → Bool} (h : GrpAt w b o g) (hb : Below B w w') (hlt : b < B) : GrpAt w' b o g :=
  ⟨fun j hj => (hb.cell (p := ⟨b, o + j, none⟩) hlt).trans (h.c j hj), fun j hj => (hb.frozen (p := ⟨b, o + j, none⟩) hlt).trans (h.f j hj)⟩
theorem GrpAt.alloc {w : World} {b o : Nat} {g : Nat → Bool} (h : GrpAt w b o g) (ob : Obj) : GrpAt (w.alloc ob) b o g := by
  have hl := h.lt
  refine ⟨fun j hj => ?_, fun j hj => ?_⟩
  · rw [World.cell?_alloc_lt _ _ _ hl]; exact h.c j hj
  · rw [World.frozen?_alloc_past _ _ _ hl]; exact h.f j hj
theorem GrpAt.drew {w : World} {b o : Nat} {g : Nat → Bool} (h : GrpAt w b o g) : GrpAt w.drew b o g := ⟨h.c, h.f⟩
theorem GrpAt.congr {w : World} {b o : Nat} {g g' : Nat → Bool} (h : GrpAt w b o g) (e : ∀ j, j < 256 → g j = g' j) : GrpAt w b o g' :=
  ⟨fun j hj => by rw [h.c j hj, e j hj], h.f⟩
theorem GrpAt.set {w : World} {b o : Nat} {g : Nat → Bool} (h : GrpAt w b o g) {i : Nat} (hi : i < 256) (v : Bool) : GrpAt (w.setCell ⟨b, o + i, none⟩ (.bool v)) b o (upd g i v) := by
  refine ⟨fun j hj => ?_, fun j hj => by rw [World.frozen?_setCell]; exact h.f j hj⟩
  by_cases e : j = i
  · subst e
    rw [World.cell?_setCell_same _ _ _ (h.c j hj)]
    simp [upd]
  · rw [World.cell?_setCell_other _ ⟨b, o + i, none⟩ ⟨b, o + j, none⟩ _ (fun q => e (by have := congrArg Addr.off q; simp at this; omega)), h.c j hj]
    simp [upd, e]
theorem GrpAt.other {w : World} {b o : Nat} {g : Nat → Bool} (h : GrpAt w b o g) (p : Addr) (v : Value) (hp : p.block ≠ b ∨ p.off < o ∨ o + 256 ≤ p.off) : GrpAt (w.setCell p v) b o g := by
  refine ⟨fun j hj => ?_, fun j hj => by rw [World.frozen?_setCell]; exact h.f j hj⟩
  rw [World.cell?_setCell_other _ _ _ _ (fun e => by subst e; simp at hp; omega)]
  exact h.c j hj
theorem grp_stored {w : World} {b o : Nat} (h : w.there b o 256) (g : Nat → Bool) : GrpAt (w.setCells b o (gv g)) b o g := by
  have h1 := World.rangeAt_setCells_same w b o (gv g) (by rw [gv_len]; exact h)
  refine ⟨fun j hj => h1 j _ (gv_get g hj), fun j hj => by rw [World.frozen?_setCells]; exact (h j hj).2⟩
theorem GrpAt.apart {w : World} {b o : Nat} {g : Nat → Bool} (h : GrpAt w b o g) (b' o' : Nat) (vs : List Value) (hp : b ≠ b' ∨ o + 256 ≤ o' ∨ o' + vs.length ≤ o) : GrpAt (w.setCells b' o' vs) b o g := by
  refine ⟨fun j hj => ?_, fun j hj => by rw [World.frozen?_setCells]; exact h.f j hj⟩
  exact World.rangeAt_setCells_apart h.rng b' o' vs (by rw [gv_len]; exact hp) j _ (gv_get g hj)
theorem grp_new (w : World) (g : Nat → Bool) (t : TypeId) : GrpAt (w.alloc (.cells (gv g).toArray t)) w.heap.size 0 g := by
  refine ⟨fun j hj => ?_, fun j hj => ?_⟩
  · have := cell_of_row (w.alloc (.cells (gv g).toArray t)) w.heap.size (0 + j) (gv g).toArray t (0, 0) (heap_alloc_last w _)
    rw [this]
    simp [gv, hj]
  · simp

theorem Try.groupCells : Try.zeroCells69 = (gv fun _ => false).toArray := by kernel_rfl
theorem Try.groupSize : (Try.prog.info? 69).map (·.size) = some 256 := by kernel_rfl
theorem Try.groupUnder : Try.prog.underlying 69 = some (.array 256 4) := Try.underlying69
theorem Try.groupSz (g : Nat → Bool) : (Try.prog.info? 69).map (·.size) = some (gv g).length := by rw [gv_len]; exact Try.groupSize
theorem Try.groupSa (g : Nat → Bool) : (Try.prog.info? 69).map (·.size) = some (gv g).toArray.size := by simp only [List.size_toArray]; exact Try.groupSz g
theorem zero_new (w : World) : GrpAt (w.alloc (.cells Try.zeroCells69 69)) w.heap.size 0 (fun _ => false) := by rw [Try.groupCells]; exact grp_new w _ _

theorem below_setCells {B : Nat} {a : World} {b : Nat} (hb : B ≤ b) : ∀ (vs : List Value) (o : Nat) (w : World), Below B a w → Below B a (w.setCells b o vs)
  | [], _, _, h => h
  | v :: r, o, w, h => by
    rw [World.setCells]
    exact below_setCells hb r (o + 1) _ (h.setCell (p := ⟨b, o, none⟩) hb v)
theorem size_setCells (b : Nat) : ∀ (vs : List Value) (o : Nat) (w : World), (w.setCells b o vs).heap.size = w.heap.size
  | [], _, _ => rfl
  | v :: r, o, w => by
    rw [World.setCells, size_setCells b r (o + 1) _]
    simp [World.setCell]

theorem results_one_cell {fn : Func} {p : Tmp} {ty : TypeId} (h : fn.results = #[.cell p ty]) (tmps : Array Value) (P : Program) (w : World) :
    (results fn tmps).run P w = ((asAddr (tmps.getD p undef)).run P w).andThen fun a w₁ => (loadVar ty a).run P w₁ := by
  simp only [results, h]
  simp [Sem.run_bind, Result.andThen]

/-- A group is handed back through a cell. -/
theorem ret_group {fn : Func} {c b o : Nat} {g : Nat → Bool} {a : Act} {w : World} {R : Ending → World → Prop} (h : fn.results = #[.cell c 69]) (hd : a.defers = []) (hp : a.tmps.getD c undef = .pointer (some ⟨b, o, none⟩))
    (hg : GrpAt w b o g) (hR : R (.returned (.agg (gv g).toArray)) w) : bodyPost Try.prog fn R .ret a w := by
  refine bodyPost_ret (v := .agg (gv g).toArray) ?_ hd hR
  rw [results_one_cell h, hp]
  simp only [asAddr, Sem.run_pure, Result.andThen_ok]
  exact run_loadVar_mid w b o _ (gv g) _ hg.rng Try.groupUnder rfl (Try.groupSz g)

/-- A group was stored: what is there, what stayed. -/
structure StoredG (w : World) (b o : Nat) (g : Nat → Bool) (w1 : World) : Prop where
  at_ : GrpAt w1 b o g
  size : w1.heap.size = w.heap.size
  bel : ∀ B a, B ≤ b → Below B a w → Below B a w1
  cell : ∀ p : Addr, (p.block ≠ b ∨ p.off < o ∨ o + 256 ≤ p.off) → w1.cell? p = w.cell? p
  fz : ∀ p, w1.frozen? p = w.frozen? p

theorem storedG {w : World} {b o : Nat} (h : w.there b o 256) (g : Nat → Bool) : StoredG w b o g (w.setCells b o (gv g)) := by
  refine ⟨grp_stored h g, size_setCells _ _ _ _, fun B a hB hb => below_setCells hB _ _ _ hb, fun p hp => ?_, fun p => World.frozen?_setCells _ _ _ _ _⟩
  rw [World.cell?_setCells_out b (gv g) o w p (fun hb _ => by rw [gv_len]; omega)]

theorem StoredG.grp {w w1 : World} {b o : Nat} {g : Nat → Bool} (h : StoredG w b o g w1) {b' o' : Nat} {g' : Nat → Bool} (k : GrpAt w b' o' g') (hp : b' ≠ b ∨ o' + 256 ≤ o ∨ o + 256 ≤ o') : GrpAt w1 b' o' g' :=
  ⟨fun j hj => by rw [h.cell ⟨b', o' + j, none⟩ (by simp; omega)]; exact k.c j hj, fun j hj => by rw [h.fz]; exact k.f j hj⟩

theorem wpList_store_grp {ops : Array Oper} {rest : List Oper} {op : Oper} {a : Act} {w : World} {Q : Exit → Act → World → Prop} (hgd : op.guard = none) (x y : Operand) (ho : op.op = .store 69 x y)
    (b o : Nat) (g : Nat → Bool) (hx : a.eval x = .pointer (some ⟨b, o, none⟩)) (hy : a.eval y = .agg (gv g).toArray) (ht : w.there b o 256)
    (h : ∀ w1, StoredG w b o g w1 → wpList Try.prog ops Q rest (a.put op.dst undef) w1) : wpList Try.prog ops Q (op :: rest) a w := by
  refine wpList_store_mid hgd 69 x y ho b o (gv g).toArray hx hy (by simp only [List.size_toArray, gv_len]; exact ht) (Try.groupSa g) (all_oneCell_toArray (gv_one g)) ?_
  exact h _ (storedG ht g)

theorem wpList_load_grp {ops : Array Oper} {rest : List Oper} {op : Oper} {a : Act} {w : World} {Q : Exit → Act → World → Prop} (hgd : op.guard = none) (x : Operand) (ho : op.op = .load 69 x)
    (b o : Nat) (g : Nat → Bool) (hx : a.eval x = .pointer (some ⟨b, o, none⟩)) (hg : GrpAt w b o g)
    (h : wpList Try.prog ops Q rest (a.put op.dst (.agg (gv g).toArray)) w) : wpList Try.prog ops Q (op :: rest) a w :=
  wpList_load_mid hgd 69 x ho b o hx (gv g) _ hg.rng Try.groupUnder rfl (Try.groupSz g) h

end Go.Proofs.Ytjagijohfkffiab

/- The walks of Waits, End, before, settled. -/
namespace Go.Proofs.Ytjagijohfkffiab
open Go.RowKit
set_option linter.unusedVariables false

/-- The nodes of a formula in memory. -/
structure NdM (w : World) (gn : Nat) (ns : List Nd) : Prop where
  lt : gn < w.heap.size
  c0 : ∀ i, i < ns.length → w.cell? ⟨gn, i * 3, none⟩ = some (.int .u8 (ndAt ns i).op)
  c1 : ∀ i, i < ns.length → w.cell? ⟨gn, i * 3 + 1, none⟩ = some (.int .i64 (ndAt ns i).l)
  c2 : ∀ i, i < ns.length → w.cell? ⟨gn, i * 3 + 2, none⟩ = some (.int .i64 (ndAt ns i).r)
theorem NdM.below {B : Nat} {w w' : World} {gn : Nat} {ns : List Nd} (h : NdM w gn ns) (hb : Below B w w') (hB : gn < B) : NdM w' gn ns :=
  ⟨Nat.lt_of_lt_of_le h.lt hb.size, fun i hi => (hb.cell (p := ⟨gn, i * 3, none⟩) hB).trans (h.c0 i hi), fun i hi => (hb.cell (p := ⟨gn, i * 3 + 1, none⟩) hB).trans (h.c1 i hi), fun i hi => (hb.cell (p := ⟨gn, i * 3 + 2, none⟩) hB).trans (h.c2 i hi)⟩

def waitsB (op : Nat) : Bool := op == 70 || op == 85 || lastsB op
def endN (n : Nd) : Nat := if n.op = 85 ∨ n.op = 82 then n.r else n.l

theorem waits_any (n : Nd) (w : World) : Calls Try.prog 65 #[ndV n] w fun e w' => e = .returned (.bool (waitsB n.op)) ∧ Below w.heap.size w w' := by
  obtain ⟨op, l, r⟩ := n
  have LW := fun W => lasts_any ⟨op, l, r⟩ W
  unfold ndV at *
  dsimp only at *
  by_cases h1 : op = 70
  · subst h1
    clear LW
    go_enter Try.func65, Try.ntmps65
    go_wp2_with fail
    go_ret
    exact ⟨rfl, (Below.refl _ _).alloc (Nat.le_refl _) _⟩
  by_cases h2 : op = 85
  · subst h2
    clear LW
    go_enter Try.func65, Try.ntmps65
    go_wp2_with fail
    go_ret
    exact ⟨rfl, (Below.refl _ _).alloc (Nat.le_refl _) _⟩
  have k1 : ((op : Int) == 70) = false := beq_eq_false_iff_ne.2 (by omega)
  have k2 : ((op : Int) == 85) = false := beq_eq_false_iff_ne.2 (by omega)
  have E : Hid (waitsB op = lastsB op) := hid (by simp [waitsB, h1, h2])
  go_enter Try.func65, Try.ntmps65
  go_wp2_with fail
  refine (LW _).mono ?_
  rintro e w' ⟨rfl, hb⟩
  go_wp2_with fail
  go_ret
  exact ⟨by rw [E.out]; rfl, ((Below.refl _ _).alloc (Nat.le_refl _) _).trans (hb.mono (by simp))⟩

theorem end_any (n : Nd) (w : World) : Calls Try.prog 107 #[ndV n] w fun e w' => e = .returned (.int .i64 (endN n : Nat)) ∧ Below w.heap.size w w' := by
  obtain ⟨op, l, r⟩ := n
  unfold ndV
  dsimp only at *
  by_cases h1 : op = 85
  · subst h1
    go_enter Try.func107, Try.ntmps107
    go_wp2_with fail
    go_ret
    exact ⟨by simp [endN], (Below.refl _ _).alloc (Nat.le_refl _) _⟩
  by_cases h2 : op = 82
  · subst h2
    go_enter Try.func107, Try.ntmps107
    go_wp2_with fail
    go_ret
    exact ⟨by simp [endN], (Below.refl _ _).alloc (Nat.le_refl _) _⟩
  have k1 : ((op : Int) == 85) = false := beq_eq_false_iff_ne.2 (by omega)
  have k2 : ((op : Int) == 82) = false := beq_eq_false_iff_ne.2 (by omega)
  have E : Hid (endN ⟨op, l, r⟩ = l) := hid (by simp [endN, h1, h2])
  go_enter Try.func107, Try.ntmps107
  go_wp2_with fail
  go_ret
  exact ⟨by rw [E.out]; rfl, (Below.refl _ _).alloc (Nat.le_refl _) _⟩

/-- The view before, node by node. -/
def befTo (ns : List Nd) (x N : Nat) : Nat → Nat
  | 0 => 0
  | k + 1 => wth (befTo ns x N k) k (lawB (ndAt ns k).op x ((befTo ns x N k).testBit (ndAt ns k).l) ((befTo ns x N k).testBit (ndAt ns k).r) (N.testBit k) (N.testBit (ndAt ns k).l))
def bef (ns : List Nd) (x N : Nat) : Nat := befTo ns x N ns.length
theorem befTo_lt (ns : List Nd) (x N : Nat) : ∀ k, k ≤ 8 → befTo ns x N k < 256
  | 0, _ => by simp [befTo]
  | k + 1, h => wth_lt (befTo_lt ns x N k (by omega)) (by omega)
theorem bef_lt {ns : List Nd} (h : ns.length ≤ 8) (x N : Nat) : bef ns x N < 256 := befTo_lt ns x N _ h
theorem ndAt_gets {ns : List Nd} {k : Nat} (h : k < ns.length) : ns[k]? = some (ndAt ns k) := by simp [ndAt, List.getD, List.getElem?_eq_getElem h]

set_option maxHeartbeats 1600000 in
set_option maxRecDepth 100000 in
theorem before_any (gn m ncap x N : Nat) (ns : List Nd) (w : World) (hm : NdM w gn ns) (hg : Good ns) (hlm : ns.length = m) (hx : x < 8) (hN : N < 256) :
    Calls Try.prog 64 #[.slice (some ⟨gn, 0, none⟩) m ncap, .int .i64 x, .int .i64 N] w fun e w' => e = .returned (.int .u8 (bef ns x N : Nat)) ∧ Below w.heap.size w w' := by
  have hle := hg.le
  have HG := hid hg
  have HM := hid hm
  have hgn := hm.lt
  have HE : Hid (befTo ns x N m = bef ns x N) := hid (by rw [← hlm]; rfl)
  have HL := hid hlm
  have hm8 : m ≤ 8 := by omega
  clear hm hg hle hlm
  go_enter Try.func64, Try.ntmps64
  go_wp2_with fail
  go_loopw [7, 13] (fun h i wq => ∃ k : Nat, k ≤ m ∧ i = .int .i64 k ∧ h = .int .i64 (befTo ns x N k : Nat) ∧ Below w.heap.size w wq) (fun _ i _ => m - (intOf i).toNat)
  case atStart => exact ⟨0, Nat.zero_le _, rfl, rfl, Below.refl _ _⟩
  case round =>
    obtain ⟨k, hk, rfl, rfl, hb⟩ := hrel
    by_cases hlk : k < m
    · have hk8 : k < 8 := by omega
      have hS := befTo_lt ns x N k (by omega)
      obtain ⟨h1, h2⟩ := Wf2.small HG.out.wf HG.out.le (ndAt_gets (ns := ns) (k := k) (by rw [HL.out]; exact hlk))
      have n0 := (hb.cell (p := ⟨gn, k * 3, none⟩) hgn).trans (HM.out.c0 k (by rw [HL.out]; exact hlk))
      have n1 := (hb.cell (p := ⟨gn, k * 3 + 1, none⟩) hgn).trans (HM.out.c1 k (by rw [HL.out]; exact hlk))
      have n2 := (hb.cell (p := ⟨gn, k * 3 + 2, none⟩) hgn).trans (HM.out.c2 k (by rw [HL.out]; exact hlk))
      have LW := fun W => law_any (ndAt ns k) k x (befTo ns x N k) N W h1 h2 hk8 hx hS hN
      have HS : Hid (befTo ns x N (k + 1) = wth (befTo ns x N k) k (lawB (ndAt ns k).op x ((befTo ns x N k).testBit (ndAt ns k).l) ((befTo ns x N k).testBit (ndAt ns k).r) (N.testBit k) (N.testBit (ndAt ns k).l))) := hid rfl
      unfold ndV at LW
      generalize ndAt ns k = nd at *
      generalize befTo ns x N k = S at *
      go_wp2_with fail
      refine (LW _).mono ?_
      rintro e w2 ⟨rfl, hb2⟩
      clear LW n0 n1 n2
      generalize lawB nd.op x (S.testBit nd.l) (S.testBit nd.r) (N.testBit k) (N.testBit nd.l) = v at *
      go_wp2_with fail
      refine (with_any S k v _ hS hk8).mono ?_
      rintro e w3 ⟨rfl, rfl⟩
      go_wp2_with fail
      go_roundw
      case rel => exact ⟨k + 1, by omega, by go_num, by rw [HS.out], (hb.alloc hb.size _).trans (hb2.mono (by have := hb.size; simp; omega))⟩
      case measure => simp [intOf]; omega
    · obtain rfl : k = m := by omega
      have hS := befTo_lt ns x N k (by omega)
      have e1 : IntKind.u8.wrap ((befTo ns x N k : Nat) : Int) = ((befTo ns x N k : Nat) : Int) := by
        rw [IntKind.wrap_u8]; omega
      go_wp2_with fail
      go_ret
      exact ⟨by rw [← HE.out]; rfl, hb⟩

end Go.Proofs.Ytjagijohfkffiab

/- The walks of settled, Step, Verdict; two groups are the same. -/
namespace Go.Proofs.Ytjagijohfkffiab
open Go.RowKit
set_option linter.unusedVariables false

theorem size_alloc (w : World) (o : Obj) : (w.alloc o).heap.size = w.heap.size + 1 := by simp

def upTo (f : Nat → Bool) (n : Nat) : Nat → Bool := fun j => if j < n then f j else false
theorem upTo_step (f : Nat → Bool) (n : Nat) : upd (upTo f n) n (f n) = upTo f (n + 1) := by
  funext j
  unfold upd upTo
  by_cases e : j = n
  · subst e; simp
  · by_cases h : j < n
    · simp [e, h]; intro; omega
    · simp [e, h]; intro; omega
theorem upTo_zero (f : Nat → Bool) : upTo f 0 = fun _ => false := by funext j; simp [upTo]
theorem upTo_all (f : Nat → Bool) {j : Nat} (h : j < 256) : upTo f 256 j = f j := by simp [upTo, h]
def calmB (k e : Nat) : Nat → Bool := fun v => v.testBit k == v.testBit e

set_option maxHeartbeats 1600000 in
set_option maxRecDepth 100000 in
theorem settled_any (nd : Nd) (k : Nat) (w : World) (hk : k < 8) (hl : nd.l < 8) (hr : nd.r < 8) :
    Calls Try.prog 66 #[ndV nd, .int .i64 k] w fun e w' => e = .returned (.agg (gv (calmB k (endN nd))).toArray) ∧ Below w.heap.size w w' := by
  have hE : endN nd < 8 := by unfold endN; split <;> omega
  have LE := fun W => end_any nd W
  have HZ := hid Try.groupCells
  unfold ndV at *
  go_enter Try.func66, Try.ntmps66
  go_wp2_with (refine wpList_store_grp rfl (.tmp 5) (.tmp 10) rfl (w.heap.size + 1 + 1) 0 (fun _ => false) rfl (congrArg Value.agg HZ.out) ?t1 ?_)
  case t1 =>
    have := (zero_new ((w.alloc (.cells #[.int .u8 nd.op, .int .i64 nd.l, .int .i64 nd.r] 124)).alloc (.cells Try.zeroCells69 69))).there
    simpa using this
  intro w1 S1
  have b3 : Below (w.heap.size + 1) (w.alloc (.cells #[.int .u8 nd.op, .int .i64 nd.l, .int .i64 nd.r] 124)) w1 := S1.bel _ _ (by omega) (((Below.refl _ _).alloc (by simp) _).alloc (by simp) _)
  have n0 : w1.cell? ⟨w.heap.size, 0, none⟩ = some (.int .u8 nd.op) := (b3.cell (p := ⟨w.heap.size, 0, none⟩) (by show w.heap.size < _; omega)).trans (by simp)
  have n1 : w1.cell? ⟨w.heap.size, 1, none⟩ = some (.int .i64 nd.l) := (b3.cell (p := ⟨w.heap.size, 1, none⟩) (by show w.heap.size < _; omega)).trans (by simp)
  have n2 : w1.cell? ⟨w.heap.size, 2, none⟩ = some (.int .i64 nd.r) := (b3.cell (p := ⟨w.heap.size, 2, none⟩) (by show w.heap.size < _; omega)).trans (by simp)
  clear b3
  have G5 := hid S1.at_
  have G4 : Hid (GrpAt w1 (w.heap.size + 1) 0 (fun _ => false)) := by
    have z := (zero_new (w.alloc (.cells #[.int .u8 nd.op, .int .i64 nd.l, .int .i64 nd.r] 124))).alloc (.cells Try.zeroCells69 69)
    rw [size_alloc] at z
    exact hid (S1.grp z (Or.inl (by omega)))
  have HB1 : Hid (Below w.heap.size w w1) := hid (S1.bel _ _ (by omega) ((((Below.refl _ _).alloc (Nat.le_refl _) _).alloc (by simp) _).alloc (by simp; omega) _))
  have hs1 : w1.heap.size = w.heap.size + 3 := by rw [S1.size]; simp
  clear S1
  go_wp2_with fail
  refine (LE _).mono ?_
  rintro e w2 ⟨rfl, hb2⟩
  have G5 := hid (G5.out.below hb2 (by omega))
  have G4 := hid (G4.out.below hb2 (by omega))
  have HB2 := hid (HB1.out.trans (hb2.mono (by omega)))
  clear hb2 HB1 n0 n1 n2 LE hs1
  go_wp2_with fail
  go_loopw [13] (fun i wq => ∃ j : Nat, j ≤ 256 ∧ i = .int .i64 j ∧ Hid (GrpAt wq (w.heap.size + 1 + 1) 0 (upTo (calmB k (endN nd)) j)) ∧ Hid (GrpAt wq (w.heap.size + 1) 0 (fun _ => false)) ∧ Hid (Below w.heap.size w wq)) (fun i _ => 256 - (intOf i).toNat)
  case atStart => exact ⟨0, by omega, rfl, by rw [upTo_zero]; exact G5, G4, HB2⟩
  case round =>
    obtain ⟨j, hj, rfl, H5, H4, HB⟩ := hrel
    rename World => W0
    by_cases hlj : j < 256
    · have q0 : W0.frozen? ⟨w.heap.size + 1 + 1, j, none⟩ = false := by have := H5.out.f j hlj; rwa [Nat.zero_add] at this
      have q1 : W0.cell? ⟨w.heap.size + 1 + 1, j, none⟩ = some (.bool (upTo (calmB k (endN nd)) j j)) := by have := H5.out.c j hlj; rwa [Nat.zero_add] at this
      have D5 := hid (H5.out.set hlj (calmB k (endN nd) j))
      have D4 := hid (H4.out.other ⟨w.heap.size + 1 + 1, j, none⟩ (.bool (calmB k (endN nd) j)) (Or.inl (by simp)))
      have DB := hid (HB.out.setCell (p := ⟨w.heap.size + 1 + 1, j, none⟩) (by show w.heap.size ≤ w.heap.size + 1 + 1; omega) (.bool (calmB k (endN nd) j)))
      rw [upTo_step, Nat.zero_add] at D5
      have HA := fun W => has_any j k W hlj hk
      have HC := fun W => has_any j (endN nd) W hlj hE
      unfold calmB at D4 D5 DB
      generalize upTo (calmB k (endN nd)) j j = ov at *
      go_wp2_with fail
      refine (HA _).mono ?_
      rintro e w3 ⟨rfl, rfl⟩
      go_wp2_with fail
      refine (HC _).mono ?_
      rintro e w4 ⟨rfl, rfl⟩
      clear HA HC
      go_wp2_with fail
      go_roundw
      case rel => exact ⟨j + 1, by omega, by go_num, D5, D4, DB⟩
      case measure => simp [intOf]; omega
    · obtain rfl : j = 256 := by omega
      have G := hid (H5.out.congr (fun j hj => upTo_all (calmB k (endN nd)) hj))
      go_wp2_with (first | (refine wpList_load_grp rfl (.tmp 5) rfl (w.heap.size + 1 + 1) 0 _ rfl G.out ?_) | (refine wpList_store_grp rfl (.tmp 4) (.tmp 28) rfl (w.heap.size + 1) 0 (calmB k (endN nd)) rfl rfl H4.out.there ?_))
      intro w5 S5
      go_wp2_with fail
      refine ret_group Try.results66 ?_ ?_ S5.at_ ?_
      · rfl
      · rfl
      · exact ⟨rfl, S5.bel _ _ (by omega) HB.out⟩

/-- Two groups are the same. -/
def geq (g h : Nat → Bool) : Bool := (List.range 256).all fun j => g j == h j
theorem geq_iff {g h : Nat → Bool} : geq g h = true ↔ ∀ j, j < 256 → g j = h j := by simp [geq]
theorem run_eqItems_grp (d : Nat) (g h : Nat → Bool) (w : World) : ∀ is : List Nat, (∀ i ∈ is, i < 256) → (Op.eqItems (d + 1) 4 1 (gv g).toArray (gv h).toArray is).run Try.prog w = .ok (is.all fun j => g j == h j) w
  | [], _ => by simp [Op.eqItems]
  | i :: is, hi => by
    have h0 := hi i (by simp)
    have ih := run_eqItems_grp d g h w is (fun j hj => hi j (by simp [hj]))
    have p : ∀ f : Nat → Bool, (part 4 (gv f).toArray (i * 1)).run Try.prog w = .ok (.bool (f i)) w := fun f => by
      have := gv_get f h0
      simp [part, Try.isAgg4, this]
    simp only [Op.eqItems, Sem.run_bind, p, Result.andThen_ok, run_equalIn_bool' w d 4 _ _ Try.underlying4]
    cases e : (g i == h i)
    · simp [e]
    · simp [e, ih]
theorem Try.boolSize1 : (Try.prog.info? 4).map (·.size) = some 1 := by kernel_rfl
theorem Try.boolInfo1 : ∃ i, Try.prog.info? 4 = some i ∧ i.size = 1 := by
  have h := Try.boolSize1
  cases hq : Try.prog.info? 4 with
  | none => simp [hq] at h
  | some i => simp [hq] at h; exact ⟨i, rfl, h⟩
theorem run_equal_grp (d : Nat) (g h : Nat → Bool) (w : World) : (Op.equalIn (d + 1 + 1) 69 (.agg (gv g).toArray) (.agg (gv h).toArray)).run Try.prog w = .ok (geq g h) w := by
  obtain ⟨i, hi, hs⟩ := Try.boolInfo1
  rw [run_equalIn_array w (d + 1) _ _ Try.groupUnder hi]
  have : Try.prog.cellsOf 4 = 1 := by kernel_rfl
  rw [this]
  exact run_eqItems_grp d g h w _ (fun j hj => by simpa using hj)
end Go.Proofs.Ytjagijohfkffiab
