import Derived.Test.YtjagijohfkffiabFOUM01
import Derived.Test.YtjagijohfkffiabFOUM05
import Derived.Test.YtjagijohfkffiabFOUM07
import Derived.Test.YtjagijohfkffiabFOUM08
import Derived.Test.YtjagijohfkffiabFOUM10
import Derived.Test.YtjagijohfkffiabFOUM13
import Derived.Deep.RegionHeld3
import Derived.Outline

/- The walks of Step, Verdict, and the Outlook's Judge. -/
namespace Go.Proofs.Ytjagijohfkffiab
open Go.RowKit
set_option linter.unusedVariables false

/-- An outlook in memory: the views before, the living ones, those of the beginning. -/
structure OutM (w : World) (P : Nat) (ns : List Nd) (liv beg : Nat → Bool) : Prop where
  bef : ∀ x N, x < 8 → N < 256 → w.cell? ⟨P, x * 256 + N, none⟩ = some (.int .u8 (bef ns x N : Nat))
  liv : GrpAt w P 2049 liv
  beg : GrpAt w P 2305 beg
theorem OutM.lt {w : World} {P : Nat} {ns : List Nd} {liv beg : Nat → Bool} (h : OutM w P ns liv beg) : P < w.heap.size := h.liv.lt
theorem OutM.below {B : Nat} {w w' : World} {P : Nat} {ns : List Nd} {liv beg : Nat → Bool} (h : OutM w P ns liv beg) (hb : Below B w w') (hlt : P < B) : OutM w' P ns liv beg :=
  ⟨fun x N hx hN => (hb.cell (p := ⟨P, x * 256 + N, none⟩) hlt).trans (h.bef x N hx hN), h.liv.below hb hlt, h.beg.below hb hlt⟩

def stepG (ns : List Nd) (liv fr : Nat → Bool) (x : Nat) : Nat → Bool := fun N => liv N && fr (bef ns x N)

end Go.Proofs.Ytjagijohfkffiab

/- The walk of the Outlook's Judge. -/
namespace Go.Proofs.Ytjagijohfkffiab
open Go.RowKit
set_option linter.unusedVariables false

def runG (ns : List Nd) (liv : Nat → Bool) (g : Nat → Bool) (us : List Nat) : Nat → Bool := us.foldl (fun g x => stepG ns liv g x) g
theorem runG_snoc (ns : List Nd) (liv g : Nat → Bool) (us : List Nat) (x : Nat) : runG ns liv g (us ++ [x]) = stepG ns liv (runG ns liv g us) x := by simp [runG]

end Go.Proofs.Ytjagijohfkffiab

/- An outlook as a value and in memory: a row of 2561 cells. -/
namespace Go.Proofs.Ytjagijohfkffiab
open Go.RowKit
set_option linter.unusedVariables false

def rv (c : Nat → Value) (N : Nat) : List Value := (List.range N).map c
theorem rv_len (c : Nat → Value) (N : Nat) : (rv c N).length = N := by simp [rv]
theorem rv_get (c : Nat → Value) {N i : Nat} (h : i < N) : (rv c N)[i]? = some (c i) := by simp [rv, h]
def One (c : Nat → Value) (N : Nat) : Prop := ∀ i, i < N → (c i).oneCell' = true
theorem rv_one {c : Nat → Value} {N : Nat} (h : One c N) : ∀ v ∈ rv c N, v.oneCell' = true := by
  intro v hv
  simp only [rv, List.mem_map, List.mem_range] at hv
  obtain ⟨j, hj, rfl⟩ := hv
  exact h j hj

structure RawAt (w : World) (b N : Nat) (c : Nat → Value) : Prop where
  c : ∀ i, i < N → w.cell? ⟨b, i, none⟩ = some (c i)
  f : ∀ i, i < N → w.frozen? ⟨b, i, none⟩ = false
theorem RawAt.rng {w : World} {b N : Nat} {c : Nat → Value} (h : RawAt w b N c) : w.rangeAt b 0 (rv c N) := fun j v hv => by
  have hj : j < N := by have := (List.getElem?_eq_some_iff.1 hv).1; rwa [rv_len] at this
  rw [rv_get c hj] at hv
  rw [Nat.zero_add, h.c j hj, hv]
theorem RawAt.there {w : World} {b N : Nat} {c : Nat → Value} (h : RawAt w b N c) (o n : Nat) (hn : o + n ≤ N) : w.there b o n := fun j hj => ⟨by rw [h.c (o + j) (by omega)]; rfl, h.f (o + j) (by omega)⟩
theorem RawAt.below {B : Nat} {w w' : World} {b N : Nat} {c : Nat → Value} (h : RawAt w b N c) (hb : Below B w w') (hlt : b < B) : RawAt w' b N c :=
  ⟨fun j hj => (hb.cell (p := ⟨b, j, none⟩) hlt).trans (h.c j hj), fun j hj => (hb.frozen (p := ⟨b, j, none⟩) hlt).trans (h.f j hj)⟩
theorem RawAt.congr {w : World} {b N : Nat} {c d : Nat → Value} (h : RawAt w b N c) (e : ∀ j, j < N → c j = d j) : RawAt w b N d := ⟨fun j hj => by rw [h.c j hj, e j hj], h.f⟩
theorem RawAt.drewN {w : World} {b N : Nat} {c : Nat → Value} (h : RawAt w b N c) (n : Nat) : RawAt (w.drewN n) b N c := ⟨h.c, h.f⟩
def updV (c : Nat → Value) (i : Nat) (v : Value) : Nat → Value := fun j => if j = i then v else c j
theorem RawAt.set {w : World} {b N : Nat} {c : Nat → Value} (h : RawAt w b N c) (i : Nat) (v : Value) : RawAt (w.setCell ⟨b, i, none⟩ v) b N (updV c i v) := by
  refine ⟨fun j hj => ?_, fun j hj => by rw [World.frozen?_setCell]; exact h.f j hj⟩
  by_cases e : j = i
  · subst e
    rw [World.cell?_setCell_same _ _ _ (h.c j hj)]
    simp [updV]
  · rw [World.cell?_setCell_other _ ⟨b, i, none⟩ ⟨b, j, none⟩ _ (fun q => e (by have := congrArg Addr.off q; simp at this; omega)), h.c j hj]
    simp [updV, e]
theorem RawAt.other {w : World} {b N : Nat} {c : Nat → Value} (h : RawAt w b N c) (p : Addr) (v : Value) (hp : p.block ≠ b) : RawAt (w.setCell p v) b N c := by
  refine ⟨fun j hj => ?_, fun j hj => by rw [World.frozen?_setCell]; exact h.f j hj⟩
  rw [World.cell?_setCell_other _ p ⟨b, j, none⟩ _ (fun q => hp (congrArg Addr.block q))]
  exact h.c j hj
theorem raw_new (w : World) (c : Nat → Value) (N : Nat) (t : TypeId) : RawAt (w.alloc (.cells (rv c N).toArray t)) w.heap.size N c := by
  refine ⟨fun j hj => ?_, fun j hj => ?_⟩
  · rw [cell_of_row (w.alloc (.cells (rv c N).toArray t)) w.heap.size j (rv c N).toArray t (0, 0) (heap_alloc_last w _)]
    simp [rv, hj]
  · simp

/-- A row was stored whole: what is there, what stayed. -/
structure StoredR (w : World) (b N : Nat) (c : Nat → Value) (w1 : World) : Prop where
  at_ : RawAt w1 b N c
  size : w1.heap.size = w.heap.size
  bel : ∀ B a, B ≤ b → Below B a w → Below B a w1
  cell : ∀ p : Addr, p.block ≠ b → w1.cell? p = w.cell? p
  fz : ∀ p, w1.frozen? p = w.frozen? p
theorem storedR {w : World} {b N : Nat} (h : w.there b 0 N) (c : Nat → Value) : StoredR w b N c (w.setCells b 0 (rv c N)) := by
  refine ⟨⟨fun j hj => ?_, fun j hj => ?_⟩, size_setCells _ _ _ _, fun B a hB hb => below_setCells hB _ _ _ hb, fun p hp => ?_, fun p => World.frozen?_setCells _ _ _ _ _⟩
  · have := World.rangeAt_setCells_same w b 0 (rv c N) (by rw [rv_len]; exact h) j _ (rv_get c hj)
    rwa [Nat.zero_add] at this
  · rw [World.frozen?_setCells]
    have := (h j hj).2
    rwa [Nat.zero_add] at this
  · rw [World.cell?_setCells_out b (rv c N) 0 w p (fun hb _ => absurd hb hp)]
theorem StoredR.raw {w w1 : World} {b N : Nat} {c : Nat → Value} (h : StoredR w b N c w1) {b' N' : Nat} {c' : Nat → Value} (k : RawAt w b' N' c') (hp : b' ≠ b) : RawAt w1 b' N' c' :=
  ⟨fun j hj => by rw [h.cell ⟨b', j, none⟩ hp]; exact k.c j hj, fun j hj => by rw [h.fz]; exact k.f j hj⟩

theorem wpList_store_raw {ops : Array Oper} {rest : List Oper} {op : Oper} {a : Act} {w : World} {Q : Exit → Act → World → Prop} (hgd : op.guard = none) (ty : TypeId) (x y : Operand) (ho : op.op = .store ty x y)
    (b N : Nat) (c : Nat → Value) (hx : a.eval x = .pointer (some ⟨b, 0, none⟩)) (hy : a.eval y = .agg (rv c N).toArray) (ht : w.there b 0 N) (hs : (Try.prog.info? ty).map (·.size) = some N) (h1 : One c N)
    (h : ∀ w1, StoredR w b N c w1 → wpList Try.prog ops Q rest (a.put op.dst undef) w1) : wpList Try.prog ops Q (op :: rest) a w := by
  refine wpList_store_mid hgd ty x y ho b 0 (rv c N).toArray hx hy (by simp only [List.size_toArray, rv_len]; exact ht) (by simp only [List.size_toArray, rv_len]; exact hs) (all_oneCell_toArray (rv_one h1)) ?_
  exact h _ (storedR ht c)
theorem wpList_load_raw {ops : Array Oper} {rest : List Oper} {op : Oper} {a : Act} {w : World} {Q : Exit → Act → World → Prop} (hgd : op.guard = none) (ty : TypeId) (x : Operand) (ho : op.op = .load ty x)
    (b N : Nat) (c : Nat → Value) (d : TypeDesc) (hx : a.eval x = .pointer (some ⟨b, 0, none⟩)) (hg : RawAt w b N c) (hu : Try.prog.underlying ty = some d) (hd : d.isRow = true) (hs : (Try.prog.info? ty).map (·.size) = some N)
    (h : wpList Try.prog ops Q rest (a.put op.dst (.agg (rv c N).toArray)) w) : wpList Try.prog ops Q (op :: rest) a w :=
  wpList_load_mid hgd ty x ho b 0 hx (rv c N) d hg.rng hu hd (by rw [rv_len]; exact hs) h

/-- The cells of an outlook. -/
def outC (bf : Nat → Nat) (sl : Value) (liv beg : Nat → Bool) : Nat → Value := fun i =>
  if i < 2048 then .int .u8 (bf i : Nat) else if i = 2048 then sl else if i < 2305 then .bool (liv (i - 2049)) else .bool (beg (i - 2305))
theorem Try.outCells : Try.zeroCells71 = (rv (outC (fun _ => 0) (.slice none 0 0) (fun _ => false) (fun _ => false)) 2561).toArray := by kernel_rfl
theorem Try.outSize : (Try.prog.info? 71).map (·.size) = some 2561 := by kernel_rfl
theorem outC_one (bf : Nat → Nat) {sl : Value} (liv beg : Nat → Bool) (h : sl.oneCell' = true) : One (outC bf sl liv beg) 2561 := fun i hi => by
  unfold outC
  split
  · rfl
  · split
    · exact h
    · split <;> rfl

def updN (f : Nat → Nat) (i v : Nat) : Nat → Nat := fun j => if j = i then v else f j
theorem outC_bef (bf : Nat → Nat) (sl : Value) (liv beg : Nat → Bool) {i : Nat} (hi : i < 2048) (v : Nat) : updV (outC bf sl liv beg) i (.int .u8 (v : Nat)) = outC (updN bf i v) sl liv beg := by
  funext j
  unfold updV outC updN
  by_cases e : j = i
  · subst e; simp [hi]
  · simp [e]
theorem outC_sl (bf : Nat → Nat) (sl sl' : Value) (liv beg : Nat → Bool) : updV (outC bf sl liv beg) 2048 sl' = outC bf sl' liv beg := by
  funext j
  unfold updV outC
  by_cases e : j = 2048
  · subst e; simp
  · simp [e]
theorem outC_beg (bf : Nat → Nat) (sl : Value) (liv beg : Nat → Bool) {i : Nat} (hi : i < 256) (v : Bool) : updV (outC bf sl liv beg) (2305 + i) (.bool v) = outC bf sl liv (upd beg i v) := by
  funext j
  unfold updV outC upd
  by_cases e : j = 2305 + i
  · subst e
    rw [if_pos rfl, if_neg (by omega), if_neg (by omega), if_neg (by omega), if_pos (by omega)]
  · rw [if_neg e]
    by_cases h1 : j < 2048
    · rw [if_pos h1, if_pos h1]
    · rw [if_neg h1, if_neg h1]
      by_cases h2 : j = 2048
      · rw [if_pos h2, if_pos h2]
      · rw [if_neg h2, if_neg h2]
        by_cases h3 : j < 2305
        · rw [if_pos h3, if_pos h3]
        · rw [if_neg h3, if_neg h3, if_neg (by omega)]

/-- The living are laid in. -/
theorem raw_liv {w w1 : World} {b : Nat} {bf : Nat → Nat} {sl : Value} {liv beg g : Nat → Bool} (h : RawAt w b 2561 (outC bf sl liv beg)) (s : StoredG w b 2049 g w1) : RawAt w1 b 2561 (outC bf sl g beg) := by
  refine ⟨fun i hi => ?_, fun i hi => by rw [s.fz]; exact h.f i hi⟩
  by_cases h1 : i < 2049
  · rw [s.cell ⟨b, i, none⟩ (Or.inr (Or.inl h1)), h.c i hi]
    unfold outC
    by_cases h2 : i < 2048
    · rw [if_pos h2, if_pos h2]
    · have h3 : i = 2048 := by omega
      rw [if_neg h2, if_neg h2, if_pos h3, if_pos h3]
  · by_cases h2 : i < 2305
    · have := s.at_.c (i - 2049) (by omega)
      rw [show 2049 + (i - 2049) = i by omega] at this
      rw [this]
      unfold outC
      rw [if_neg (by omega), if_neg (by omega), if_pos h2]
    · rw [s.cell ⟨b, i, none⟩ (Or.inr (Or.inr (by show 2049 + 256 ≤ i; omega))), h.c i hi]
      unfold outC
      rw [if_neg (by omega), if_neg (by omega), if_neg h2, if_neg (by omega), if_neg (by omega), if_neg h2]
theorem raw_livAt {w : World} {b : Nat} {bf : Nat → Nat} {sl : Value} {liv beg : Nat → Bool} (h : RawAt w b 2561 (outC bf sl liv beg)) : GrpAt w b 2049 liv := by
  refine ⟨fun j hj => ?_, fun j hj => h.f _ (by omega)⟩
  rw [h.c _ (by omega)]
  unfold outC
  rw [if_neg (by omega), if_neg (by omega), if_pos (by omega), show 2049 + j - 2049 = j by omega]
theorem raw_begAt {w : World} {b : Nat} {bf : Nat → Nat} {sl : Value} {liv beg : Nat → Bool} (h : RawAt w b 2561 (outC bf sl liv beg)) : GrpAt w b 2305 beg := by
  refine ⟨fun j hj => ?_, fun j hj => h.f _ (by omega)⟩
  rw [h.c _ (by omega)]
  unfold outC
  rw [if_neg (by omega), if_neg (by omega), if_neg (by omega), show 2305 + j - 2305 = j by omega]
def befF (ns : List Nd) : Nat → Nat := fun i => bef ns (i / 256) (i % 256)
theorem raw_befM {w : World} {b : Nat} {ns : List Nd} {sl : Value} {liv beg : Nat → Bool} (h : RawAt w b 2561 (outC (befF ns) sl liv beg)) : BefM w b ns := fun x N hx hN => by
  rw [h.c _ (by omega)]
  unfold outC befF
  rw [if_pos (by omega), show (x * 256 + N) / 256 = x by omega, show (x * 256 + N) % 256 = N by omega]
theorem raw_sl {w : World} {b : Nat} {bf : Nat → Nat} {sl : Value} {liv beg : Nat → Bool} (h : RawAt w b 2561 (outC bf sl liv beg)) : w.cell? ⟨b, 2048, none⟩ = some sl := by
  rw [h.c _ (by omega)]
  simp [outC]
theorem outM_of {w : World} {b : Nat} {ns : List Nd} {sl : Value} {liv beg : Nat → Bool} (h : RawAt w b 2561 (outC (befF ns) sl liv beg)) : OutM w b ns liv beg := ⟨raw_befM h, raw_livAt h, raw_begAt h⟩

/-- The calm groups, by the slice. -/
def CalmV (w : World) (sl : Value) (cs : List (Nat → Bool)) : Prop := ∃ ao cap, sl = .slice ao cs.length cap ∧ (0 < cs.length → ∃ gc, ao = some ⟨gc, 0, none⟩ ∧ gc < w.heap.size ∧ ∀ k c, cs[k]? = some c → GrpAt w gc (k * 256) c)
theorem CalmV.below {w w' : World} {sl : Value} {cs : List (Nat → Bool)} (h : CalmV w sl cs) (hb : Below w.heap.size w w') : CalmV w' sl cs := by
  obtain ⟨ao, cap, h1, h2⟩ := h
  refine ⟨ao, cap, h1, fun h0 => ?_⟩
  obtain ⟨gc, h3, h4, h5⟩ := h2 h0
  exact ⟨gc, h3, Nat.lt_of_lt_of_le h4 hb.size, fun k c hk => (h5 k c hk).below hb h4⟩
theorem calmM_of {w : World} {b : Nat} {bf : Nat → Nat} {sl : Value} {liv beg : Nat → Bool} {cs : List (Nat → Bool)} (h : RawAt w b 2561 (outC bf sl liv beg)) (hv : CalmV w sl cs) : CalmM w b cs := by
  obtain ⟨ao, cap, rfl, h2⟩ := hv
  exact ⟨ao, cap, raw_sl h, h2⟩

def flatC (cs : List (Nat → Bool)) : List Value := cs.flatMap gv
theorem flatC_get {cs : List (Nat → Bool)} {k : Nat} {c : Nat → Bool} (h : cs[k]? = some c) {j : Nat} (hj : j < 256) : (flatC cs)[k * 256 + j]? = some (.bool (c j)) := by
  induction cs generalizing k with
  | nil => simp at h
  | cons p ps ih =>
    rw [show flatC (p :: ps) = gv p ++ flatC ps by simp [flatC]]
    cases k with
    | zero =>
      simp at h; subst h
      rw [List.getElem?_append_left (by rw [gv_len]; omega), Nat.zero_mul, Nat.zero_add]
      exact gv_get p hj
    | succ k =>
      rw [List.getElem?_append_right (by rw [gv_len]; omega), gv_len, show (k + 1) * 256 + j - 256 = k * 256 + j by omega]
      exact ih (by simpa using h)
theorem calmV_own {w : World} {B : Nat} {sl : Value} {cs : List (Nat → Bool)} (h : w.ownsRow B 69 256 sl cs.length (flatC cs)) : CalmV w sl cs := by
  obtain ⟨ao, cap, rfl⟩ := own_slice h
  refine ⟨ao, cap, rfl, fun h0 => ?_⟩
  obtain ⟨gc, rfl, h1, h2, h3⟩ := own_at' h h0
  refine ⟨gc, rfl, h2, fun k c hk => ⟨fun j hj => ?_, fun j hj => h.frozenAt _⟩⟩
  have hkl := (List.getElem?_eq_some_iff.1 hk).1
  rw [h.cellAt (k * 256 + j) (by have : (k + 1) * 256 ≤ cs.length * 256 := Nat.mul_le_mul_right _ hkl; omega)]
  exact flatC_get hk hj

end Go.Proofs.Ytjagijohfkffiab

/- Plain mathematics: machines as lists of states; when they are well formed; their bytes. -/
namespace Go.Proofs.Ytjagijohfkffiab
open Go.RowKit
set_option linter.unusedVariables false

/-- A state: what it tells, where its letters lead. -/
structure St where
  out : Int
  next : List Int

def stAt (ss : List St) (i : Nat) : St := ss.getD i ⟨0, []⟩
/-- Each state has eight letters. -/
def Eight (ss : List St) : Prop := ∀ s ∈ ss, s.next.length = 8

def stCells (s : St) : List Value := Value.int .i64 s.out :: s.next.map (Value.int .i64)
def flatS (ss : List St) : List Value := ss.flatMap stCells

end Go.Proofs.Ytjagijohfkffiab

/- The walks of State.fits and wellFormed. -/
namespace Go.Proofs.Ytjagijohfkffiab
open Go.RowKit
set_option linter.unusedVariables false

end Go.Proofs.Ytjagijohfkffiab

/- The walk of machine.Take; lists of lists of ints that are read. -/
namespace Go.Proofs.Ytjagijohfkffiab
open Go.RowKit
set_option linter.unusedVariables false

/-- The slice value has the lists zss. -/
structure Lists (w : World) (ao : Option Addr) (len cap : Nat) (zss : List (List Int)) : Prop where
  hlen : zss.length = len
  hcap : len ≤ cap
  hmax : cap ≤ 9223372036854775807
  hnil : ao = none → len = 0 ∧ cap = 0
  hcell : 0 < len → ∃ b off, ao = some ⟨b, off, none⟩ ∧ b < w.heap.size ∧ ∀ i, i < len → ∃ a l c, w.cell? ⟨b, off + i, none⟩ = some (.slice a l c) ∧ Ints w a l c (zss.getD i [])

theorem Lists.below {w w' : World} {ao : Option Addr} {len cap : Nat} {zss : List (List Int)} (h : Lists w ao len cap zss) (hb : Below w.heap.size w w') : Lists w' ao len cap zss := by
  refine ⟨h.hlen, h.hcap, h.hmax, h.hnil, fun h0 => ?_⟩
  obtain ⟨b, off, e, hlt, hc⟩ := h.hcell h0
  refine ⟨b, off, e, Nat.lt_of_lt_of_le hlt hb.size, fun i hi => ?_⟩
  obtain ⟨a, l, c, h1, h2⟩ := hc i hi
  exact ⟨a, l, c, by rw [hb.cell (p := ⟨b, off + i, none⟩) hlt]; exact h1, h2.below hb⟩

/-- Nine ints at a block of their own. -/
structure Nine (w : World) (b : Nat) (f : Nat → Int) : Prop where
  cell : ∀ i, i < 9 → w.cell? ⟨b, i, none⟩ = some (.int .i64 (f i))
  free : ∀ i, i < 9 → w.frozen? ⟨b, i, none⟩ = false

theorem Nine.set {w : World} {b : Nat} {f : Nat → Int} (h : Nine w b f) {k : Nat} (hk : k < 9) (z : Int) : Nine (w.setCell ⟨b, k, none⟩ (.int .i64 z)) b (fun i => if i = k then z else f i) := by
  refine ⟨fun i hi => ?_, fun i hi => by rw [World.frozen?_setCell]; exact h.free i hi⟩
  by_cases e : i = k
  · subst e
    simp only [if_true]
    exact World.cell?_setCell_same _ _ _ (h.cell i hi)
  · simp only [if_neg e]
    rw [World.cell?_setCell_other _ _ _ _ (fun h => e (by have := congrArg Addr.off h; simp at this; omega))]
    exact h.cell i hi

theorem cell_nine_new (w : World) (xs : List Value) (t : TypeId) : ∀ j u, xs[j]? = some u → (w.alloc (.cells xs.toArray t)).cell? ((⟨w.heap.size, 0, none⟩ : Addr).add j) = some u := by
  intro j u hj
  rw [add_off, Nat.zero_add, World.cell?_alloc_new]
  simpa using hj

section
variable (a1 a2 : Option Addr) (l1 c1 l2 c2 : Nat) (os : List Int) (ls : List (List Int)) (w : World)

end
end Go.Proofs.Ytjagijohfkffiab

/- []Group{g}: a slice of one group is built. -/
namespace Go.Proofs.Ytjagijohfkffiab
open Go.RowKit
set_option linter.unusedVariables false

theorem fold_size (off : Nat) : ∀ (xs : List Value) (k : Nat) (base : Array Value), ((xs.zipIdx k).foldl (fun cs p => cs.setIfInBounds (off + p.2) p.1) base).size = base.size
  | [], _, _ => rfl
  | x :: xs, k, base => by
    rw [List.zipIdx_cons, List.foldl_cons, fold_size off xs (k + 1)]
    simp
theorem fold_get : ∀ (xs : List Value) (k : Nat) (base : Array Value) (i : Nat), i < base.size →
    ((xs.zipIdx k).foldl (fun cs p => cs.setIfInBounds (0 + p.2) p.1) base)[i]? = if k ≤ i ∧ i < k + xs.length then xs[i - k]? else base[i]?
  | [], k, base, i, _ => by simp; intro h1 h2; omega
  | x :: xs, k, base, i, hi => by
    rw [List.zipIdx_cons, List.foldl_cons, fold_get xs (k + 1) _ i (by simpa using hi)]
    by_cases e : i = k
    · subst e
      rw [if_neg (by omega), if_pos (by simp)]
      simp [hi]
    · by_cases h : k + 1 ≤ i ∧ i < k + 1 + xs.length
      · rw [if_pos h, if_pos (by simp; omega), show i - k = (i - (k + 1)) + 1 by omega]
        simp
      · rw [if_neg h, if_neg (by simp; omega)]
        simp [Array.getElem?_setIfInBounds]
        intro h2; omega

/-- One part over all cells. -/
theorem fill_one (c base : Array Value) (n : Nat) (hc : c.size = n) (hb : base.size = n) : Instr.fill (fun i => some (i * n, n)) base [(0, .agg c)] = some c := by
  have h1 : (Value.agg c).cells = c := rfl
  simp only [Instr.fill, h1, Nat.zero_mul, Nat.zero_add, hc, hb, ne_eq, not_true, decide_false, Bool.false_or, gt_iff_lt, Nat.lt_irrefl, decide_false, Bool.false_eq_true, if_false]
  congr 1
  apply Array.ext_getElem?
  intro i
  rw [← Array.foldl_toList, Array.toList_zipIdx]
  by_cases hi : i < n
  · have := fold_get c.toList 0 base i (by omega)
    simp only [Nat.zero_add] at this
    rw [this, if_pos (by simp; omega)]
    simp
  · have hs := fold_size 0 c.toList 0 base
    simp only [Nat.zero_add] at hs
    rw [Array.getElem?_eq_none (by rw [hs]; omega), Array.getElem?_eq_none (by omega)]

theorem run_buildSlice_grp (g : Nat → Bool) (w : World) : (Instr.buildSlice 67 1 #[(0, .agg (gv g).toArray)]).run Try.prog w = .ok (.slice (some ⟨w.heap.size, 0, none⟩) 1 1) (w.alloc (.cells (gv g).toArray 69)) := by
  have hf := fill_one (gv g).toArray ((Array.range 256).map fun x => (Value.agg Try.zeroCells69).cells[x % (Value.agg Try.zeroCells69).cells.size]!) 256 (by simp [gv_len]) (by simp)
  simp [Instr.buildSlice, Try.runUnderlying67, Try.sizeOf69, Try.zeroValue69, newRow]
  rw [hf]
  simp

theorem wpList_build_grp {ops : Array Oper} {rest : List Oper} {op : Oper} {a : Act} {w : World} {Q : Exit → Act → World → Prop} (hgd : op.guard = none) (x : Operand) (ho : op.op = .buildSlice 67 1 #[(0, x)])
    (g : Nat → Bool) (hx : a.eval x = .agg (gv g).toArray)
    (h : wpList Try.prog ops Q rest (a.put op.dst (.slice (some ⟨w.heap.size, 0, none⟩) 1 1)) (w.alloc (.cells (gv g).toArray 69))) : wpList Try.prog ops Q (op :: rest) a w :=
  wpList_plain hgd fun _ hK => by
    unfold Oper.wp execOp
    have := run_buildSlice_grp g w
    simp only [ho, hx, List.map_toArray, List.map_cons, List.map_nil, Sem.run_bind, this, Result.andThen_ok, Sem.run_pure]
    exact hK _ _ h

end Go.Proofs.Ytjagijohfkffiab
