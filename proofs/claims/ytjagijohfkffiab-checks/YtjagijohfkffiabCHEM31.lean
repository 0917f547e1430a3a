import Derived.Test.YtjagijohfkffiabCHEM02
import Derived.Test.YtjagijohfkffiabCHEM15
import Derived.Test.YtjagijohfkffiabCHEM16
import Derived.Deep.QuietTactic
import Derived.BigQuiet

/- Plain mathematics: sets of nodes as the reference looks at them, and its nets of sets. -/
namespace Go.Proofs.Ytjagijohfkffiab

def fitN (nd : Nd) (k : Nat) (S : Nat → Bool) : Bool :=
  if nd.op = 48 then !S k else if nd.op = 49 then S k else if nd.op = 33 then S k != S nd.l else if nd.op = 38 then S k == (S nd.l && S nd.r) else if nd.op = 124 then S k == (S nd.l || S nd.r)
  else if nd.op = 70 then S k || !S nd.l else if nd.op = 71 then !S k || S nd.l else if nd.op = 85 then (S k || !S nd.r) && (!S k || S nd.l || S nd.r) else if nd.op = 82 then (!S k || S nd.r) && (S k || !S nd.l || !S nd.r) else true
def readN (nd : Nd) (k : Nat) (S : Nat → Bool) (x : Nat) : Bool := if nd.op = 112 ∨ nd.op = 113 ∨ nd.op = 114 then saysB x nd.op == S k else true
def folN (nd : Nd) (k : Nat) (S T : Nat → Bool) : Bool :=
  if nd.op = 88 then S k == T nd.l else if nd.op = 70 then S k == (S nd.l || T k) else if nd.op = 71 then S k == (S nd.l && T k) else if nd.op = 85 then S k == (S nd.r || (S nd.l && T k)) else if nd.op = 82 then S k == (S nd.r && (S nd.l || T k)) else true

def fitsP (ns : List Nd) (S : Nat → Bool) : Prop := ∀ k, k < ns.length → fitN (ndAt ns k) k S = true
def readP (ns : List Nd) (S : Nat → Bool) (x : Nat) : Prop := ∀ k, k < ns.length → readN (ndAt ns k) k S x = true
def folP (ns : List Nd) (S T : Nat → Bool) : Prop := ∀ k, k < ns.length → folN (ndAt ns k) k S T = true

theorem ndAt_some {ns : List Nd} {k : Nat} (h : k < ns.length) : ns[k]? = some (ndAt ns k) := by
  simp [ndAt, List.getD, List.getElem?_eq_getElem h]
theorem ndAt_of {ns : List Nd} {k : Nat} {nd : Nd} (h : ns[k]? = some nd) : k < ns.length ∧ ndAt ns k = nd := by
  obtain ⟨hk, e⟩ := List.getElem?_eq_some_iff.1 h
  exact ⟨hk, by simp [ndAt, List.getD, h]⟩

theorem law_three {nd : Nd} (hc : leafB nd.op = true ∨ oneB nd.op = true ∨ twoB nd.op = true) (k x : Nat) (S T : Nat → Bool) : S k = lawB nd.op x (S nd.l) (S nd.r) (T k) (T nd.l) ↔ fitN nd k S = true ∧ readN nd k S x = true ∧ folN nd k S T = true := by
  unfold fitN readN folN
  rcases hc with hc | hc | hc
  · rcases leaf_is hc with e | e | e | e | e
    · simp [e, lawB]
    · simp [e, lawB]
    · simp [e, lawB, saysB]; exact eq_comm
    · simp [e, lawB, saysB]; exact eq_comm
    · simp [e, lawB, saysB]; exact eq_comm
  · rcases one_is hc with e | e | e | e
    · simp [e, lawB]; cases S k <;> cases S nd.l <;> simp
    · simp [e, lawB]
    · simp [e, lawB]; cases S k <;> cases S nd.l <;> simp
    · simp [e, lawB]; cases S k <;> cases S nd.l <;> simp
  · rcases two_is hc with e | e | e | e
    · simp [e, lawB]
    · simp [e, lawB]
    · simp [e, lawB]; cases S k <;> cases S nd.l <;> cases S nd.r <;> simp
    · simp [e, lawB]; cases S k <;> cases S nd.l <;> cases S nd.r <;> simp

theorem step_iff {ns : List Nd} (hw : Wf2 ns) (x : Nat) (S T : Nat → Bool) : Step ns x S T ↔ fitsP ns S ∧ readP ns S x ∧ folP ns S T := by
  constructor
  · intro h
    have key := fun k (hk : k < ns.length) => (law_three (wf2_class hw (ndAt_some hk)).1 k x S T).1 (h k _ (ndAt_some hk))
    exact ⟨fun k hk => (key k hk).1, fun k hk => (key k hk).2.1, fun k hk => (key k hk).2.2⟩
  · rintro ⟨h1, h2, h3⟩ k nd hn
    obtain ⟨hk, e⟩ := ndAt_of hn
    subst e
    exact (law_three (wf2_class hw hn).1 k x S T).2 ⟨h1 k hk, h2 k hk, h3 k hk⟩

/-- The number whose bits are these. -/
def bitsN (S : Nat → Bool) : Nat → Nat
  | 0 => 0
  | j + 1 => (if S j then 2 ^ j else 0) + bitsN S j

theorem bitsN_lt (S : Nat → Bool) (n : Nat) : bitsN S n < 2 ^ n := by
  induction n with
  | zero => simp [bitsN]
  | succ n ih => simp only [bitsN, Nat.pow_succ]; split <;> omega
theorem bitsN_bit (S : Nat → Bool) (n k : Nat) (hk : k < n) : (bitsN S n).testBit k = S k := by
  induction n with
  | zero => omega
  | succ n ih =>
    simp only [bitsN]
    have hb := bitsN_lt S n
    by_cases e : k = n
    · subst e
      cases hS : S k with
      | true => rw [if_pos rfl, Nat.testBit_two_pow_add_eq, Nat.testBit_lt_two_pow hb]; rfl
      | false => rw [if_neg (by simp), Nat.zero_add, Nat.testBit_lt_two_pow hb]
    · cases hS : S n with
      | true => rw [if_pos rfl, Nat.testBit_two_pow_add_gt (by omega)]; exact ih (by omega)
      | false => rw [if_neg (by simp), Nat.zero_add]; exact ih (by omega)

/-- A family of sets: all that fit and that some letter reads, and no others. -/
structure AllSets (ns : List Nd) (N : Nat) (m : Nat → Nat → Bool) : Prop where
  fits : ∀ i, i < N → fitsP ns (m i)
  read : ∀ i, i < N → ∃ x, x < 8 ∧ readP ns (m i) x
  all : ∀ S x, x < 8 → fitsP ns S → readP ns S x → ∃ i, i < N ∧ EqOn ns.length S (m i)

theorem fits_congr {ns : List Nd} (hw : Wf2 ns) {S T : Nat → Bool} (h : EqOn ns.length S T) (hf : fitsP ns S) : fitsP ns T := fun k hk => by
  obtain ⟨h1, h2, h3⟩ := wf2_lt hw (ndAt_some hk)
  have := hf k hk
  unfold fitN at this ⊢
  rw [← h k h1, ← h _ h2, ← h _ h3]
  exact this
theorem read_congr {ns : List Nd} {S T : Nat → Bool} (h : EqOn ns.length S T) {x : Nat} (hf : readP ns S x) : readP ns T x := fun k hk => by
  have := hf k hk
  unfold readN at this ⊢
  rw [← h k hk]
  exact this
theorem fol_congr {ns : List Nd} (hw : Wf2 ns) {S T S' T' : Nat → Bool} (h : EqOn ns.length S S') (h' : EqOn ns.length T T') (hf : folP ns S T) : folP ns S' T' := fun k hk => by
  obtain ⟨h1, h2, h3⟩ := wf2_lt hw (ndAt_some hk)
  have := hf k hk
  unfold folN at this ⊢
  rw [← h k h1, ← h _ h2, ← h _ h3, ← h' k h1, ← h' _ h2]
  exact this
theorem kept_congr {ns : List Nd} (hw : Wf2 ns) {S T : Nat → Bool} (h : EqOn ns.length S T) {k : Nat} (hk : k < ns.length) : keptN (ndAt ns k) k S = keptN (ndAt ns k) k T := by
  obtain ⟨h1, h2, h3⟩ := wf2_lt hw (ndAt_some hk)
  unfold keptN
  rw [h k h1, h _ h2, h _ h3]

def edgeS (ns : List Nd) (N : Nat) (m : Nat → Nat → Bool) (i j : Nat) : Prop := i < N ∧ j < N ∧ folP ns (m i) (m j)
def markS (ns : List Nd) (m : Nat → Nat → Bool) (k i : Nat) : Prop := keptN (ndAt ns k) k (m i) = true

/-- A set may begin an endless row just if an endless path that keeps all goes from it. -/
theorem live_path {ns : List Nd} (hw : Wf2 ns) {N : Nat} {m : Nat → Nat → Bool} (hA : AllSets ns N m) {i : Nat} (hi : i < N) :
    chain ns [] (m i) ↔ ∃ q, q 0 = i ∧ Path (edgeS ns N m) q ∧ Meets (markS ns m) ns.length q := by
  constructor
  · rintro ⟨x, S, h1, h2, h3⟩
    have ex : ∀ t, ∃ j, j < N ∧ EqOn ns.length (S t) (m j) := fun t => by
      obtain ⟨f1, f2, _⟩ := (step_iff hw (x t) (S t) (S (t + 1))).1 (h2.step t)
      exact hA.all (S t) (x t) (h1 t) f1 f2
    let q : Nat → Nat := fun t => if t = 0 then i else Classical.choose (ex t)
    have hq : ∀ t, q t < N ∧ EqOn ns.length (S t) (m (q t)) := fun t => by
      by_cases e : t = 0
      · subst e; exact ⟨hi, h3⟩
      · have e2 : q t = Classical.choose (ex t) := if_neg e
        rw [e2]; exact Classical.choose_spec (ex t)
    refine ⟨q, if_pos rfl, fun t => ⟨(hq t).1, (hq (t + 1)).1, ?_⟩, fun k hk t => ?_⟩
    · obtain ⟨_, _, f3⟩ := (step_iff hw (x t) (S t) (S (t + 1))).1 (h2.step t)
      exact fol_congr hw (hq t).2 (hq (t + 1)).2 f3
    · obtain ⟨t', ht, h4⟩ := h2.kept k _ (ndAt_some hk) t
      exact ⟨t', ht, by unfold markS; rw [← kept_congr hw (hq t').2 hk]; exact h4⟩
  · rintro ⟨q, q0, hq, hm⟩
    have hN : ∀ t, q t < N := fun t => (hq t).1
    let x : Nat → Nat := fun t => Classical.choose (hA.read (q t) (hN t))
    have hx : ∀ t, x t < 8 ∧ readP ns (m (q t)) (x t) := fun t => Classical.choose_spec (hA.read (q t) (hN t))
    refine ⟨x, fun t => m (q t), fun t => (hx t).1, ⟨fun t => ?_, fun k nd hn t => ?_⟩, by show EqOn _ (m (q 0)) (m i); rw [q0]; exact EqOn.refl _ _⟩
    · exact (step_iff hw _ _ _).2 ⟨hA.fits _ (hN t), (hx t).2, (hq t).2.2⟩
    · obtain ⟨hk, e⟩ := ndAt_of hn
      obtain ⟨t', ht, h4⟩ := hm k hk t
      subst e
      exact ⟨t', ht, h4⟩

theorem live_good {ns : List Nd} (hw : Wf2 ns) {N : Nat} {m : Nat → Nat → Bool} (hA : AllSets ns N m) {i : Nat} (hi : i < N) :
    chain ns [] (m i) ↔ ∃ c, c < N ∧ reach (edgeS ns N m) i c ∧ GoodN (edgeS ns N m) (markS ns m) ns.length c := by
  rw [live_path hw hA hi]
  exact endless_iff (fun a b h => h.2.1) hi

/-- A family of the sets that may begin endless rows: all, and no others. -/
structure LiveSets (ns : List Nd) (M : Nat) (m : Nat → Nat → Bool) : Prop where
  live : ∀ i, i < M → chain ns [] (m i)
  all : ∀ S, chain ns [] S → ∃ i, i < M ∧ EqOn ns.length S (m i)

theorem chain_step {ns : List Nd} (hw : Wf2 ns) {S : Nat → Bool} (h : chain ns [] S) : fitsP ns S := by
  obtain ⟨x, S', _, h2, h3⟩ := h
  exact fits_congr hw h3 ((step_iff hw _ _ _).1 (h2.step 0)).1

end Go.Proofs.Ytjagijohfkffiab

/- The reference's formula in memory, as it is read. -/
namespace Go.Proofs.Ytjagijohfkffiab
open Go.RowKit
set_option linter.unusedVariables false

def bAt (bs : List Nat) (k : Nat) : Nat := bs.getD k 0

structure FR (w : World) (F gp cap : Nat) (ns : List Nd) (bs : List Nat) : Prop where
  c0 : w.cell? ⟨F, 0, none⟩ = some (.slice (some ⟨gp, 0, none⟩) ns.length cap)
  hcap : ns.length ≤ cap
  lt0 : F < w.heap.size
  ltp : gp < w.heap.size
  ptr : ∀ k, k < ns.length → w.cell? ⟨gp, k, none⟩ = some (.pointer (some ⟨bAt bs k, 0, none⟩))
  op : ∀ k, k < ns.length → w.cell? ⟨bAt bs k, 0, none⟩ = some (.int .u8 (ndAt ns k).op)
  lp : ∀ k, k < ns.length → leafB (ndAt ns k).op = false → w.cell? ⟨bAt bs k, 1, none⟩ = some (.pointer (some ⟨bAt bs (ndAt ns k).l, 0, none⟩))
  rp : ∀ k, k < ns.length → twoB (ndAt ns k).op = true → w.cell? ⟨bAt bs k, 2, none⟩ = some (.pointer (some ⟨bAt bs (ndAt ns k).r, 0, none⟩))
  nn : ∀ k, k < ns.length → w.cell? ⟨bAt bs k, 3, none⟩ = some (.int .i64 k)
  ltb : ∀ k, k < ns.length → bAt bs k < w.heap.size

theorem FR.below {w w' : World} {F gp cap : Nat} {ns : List Nd} {bs : List Nat} (h : FR w F gp cap ns bs) (hb : Below w.heap.size w w') : FR w' F gp cap ns bs :=
  ⟨(hb.cell (p := ⟨F, 0, none⟩) h.lt0).trans h.c0, h.hcap, Nat.lt_of_lt_of_le h.lt0 hb.size, Nat.lt_of_lt_of_le h.ltp hb.size, fun k hk => (hb.cell (p := ⟨gp, k, none⟩) h.ltp).trans (h.ptr k hk),
    fun k hk => (hb.cell (p := ⟨bAt bs k, 0, none⟩) (h.ltb k hk)).trans (h.op k hk), fun k hk e => (hb.cell (p := ⟨bAt bs k, 1, none⟩) (h.ltb k hk)).trans (h.lp k hk e), fun k hk e => (hb.cell (p := ⟨bAt bs k, 2, none⟩) (h.ltb k hk)).trans (h.rp k hk e),
    fun k hk => (hb.cell (p := ⟨bAt bs k, 3, none⟩) (h.ltb k hk)).trans (h.nn k hk), fun k hk => Nat.lt_of_lt_of_le (h.ltb k hk) hb.size⟩

theorem fr_of {w : World} {F : Nat} {ns : List Nd} {bs : List Nat} (h : Fm w F ns bs) (hp : 0 < ns.length) : ∃ gp cap, FR w F gp cap ns bs := by
  obtain ⟨ao, cap, hc, own⟩ := h.c0
  obtain ⟨gp, rfl, _, hg, hcap⟩ := own_at own hp
  have part : ∀ k, k < ns.length → w.heap[bAt bs k]? = some (partObj bs k (ndAt ns k)) := fun k hk => by
    obtain ⟨b, hb, _, hh⟩ := h.parts k _ (ndAt_some hk)
    have : bAt bs k = b := by simp [bAt, List.getD, hb]
    rw [this]; exact hh
  refine ⟨gp, cap, hc, hcap, h.ltF, hg, fun k hk => ?_, fun k hk => ?_, fun k hk e => ?_, fun k hk e => ?_, fun k hk => ?_, fun k hk => heap_lt (part k hk)⟩
  · have hk2 : k < bs.length := by rw [h.len]; exact hk
    rw [own.cellAt k (by omega)]
    simp [ptrTo1, bAt, List.getD, List.getElem?_eq_getElem hk2]
  · rw [cell_of_row w _ _ _ _ _ (part k hk)]; rfl
  · rw [cell_of_row w _ _ _ _ _ (part k hk)]; simp [lptr, e, bAt]
  · rw [cell_of_row w _ _ _ _ _ (part k hk)]; simp [rptr, e, bAt]
  · rw [cell_of_row w _ _ _ _ _ (part k hk)]; rfl

theorem Rb.drewN {w : World} {g n : Nat} {f : Nat → Bool} (h : Rb w g n f) (m : Nat) : Rb (w.drewN m) g n f := ⟨h.lt, h.cell⟩
theorem FR.drewN {w : World} {F gp cap : Nat} {ns : List Nd} {bs : List Nat} (h : FR w F gp cap ns bs) (m : Nat) : FR (w.drewN m) F gp cap ns bs :=
  ⟨h.c0, h.hcap, h.lt0, h.ltp, h.ptr, h.op, h.lp, h.rp, h.nn, h.ltb⟩

/-- What can be asked of all nodes at once. -/
def allN (ns : List Nd) (p : Nd → Nat → Bool) : Bool := (List.range ns.length).all fun k => p (ndAt ns k) k
theorem allN_iff {ns : List Nd} {p : Nd → Nat → Bool} : allN ns p = true ↔ ∀ k, k < ns.length → p (ndAt ns k) k = true := by simp [allN, List.all_eq_true]
theorem allN_no {ns : List Nd} {p : Nd → Nat → Bool} {k : Nat} (hk : k < ns.length) (h : p (ndAt ns k) k = false) : allN ns p = false := by
  cases e : allN ns p with
  | false => rfl
  | true => rw [allN_iff] at e; rw [e k hk] at h; cases h

def fitsB (ns : List Nd) (S : Nat → Bool) : Bool := allN ns fun nd k => fitN nd k S
def readB' (ns : List Nd) (S : Nat → Bool) (x : Nat) : Bool := allN ns fun nd k => readN nd k S x
def folB (ns : List Nd) (S T : Nat → Bool) : Bool := allN ns fun nd k => folN nd k S T
theorem fitsB_iff {ns : List Nd} {S : Nat → Bool} : fitsB ns S = true ↔ fitsP ns S := allN_iff
theorem readB_iff {ns : List Nd} {S : Nat → Bool} {x : Nat} : readB' ns S x = true ↔ readP ns S x := allN_iff
theorem folB_iff {ns : List Nd} {S T : Nat → Bool} : folB ns S T = true ↔ folP ns S T := allN_iff

end Go.Proofs.Ytjagijohfkffiab

/- A great loop, cut into declarations: its body, its frame. -/
namespace Go.Proofs.Ytjagijohfkffiab
open Go.RowKit
set_option linter.unusedVariables false

def firstLoop : Code → Option Code
  | .loop c => some c
  | .seq a b => match firstLoop a with
    | some c => some c
    | none => firstLoop b
  | .block _ c => firstLoop c
  | .scope c => firstLoop c
  | .cond _ a b => match firstLoop a with
    | some c => some c
    | none => firstLoop b
  | _ => none

def bodyOf (f : Func) : Code := (f.body.bind firstLoop).getD .skip

theorem arr_range {a : Array Value} {n : Nat} (h : a.size = n) : a = ((List.range n).map (fun i => a.getD i undef)).toArray := by
  apply Array.ext
  · simp [h]
  · intro i h1 h2
    simp [h1]

/-- Between the rounds: the slots s0, s1 stay, the slot c counts. -/
def GI (size : Nat) (fixed : List (Nat × Value)) (c n : Nat) (P : Nat → Prop) (w : World) (a : Act) (w' : World) : Prop :=
  a.defers = [] ∧ a.tmps.size = size ∧ (∀ x ∈ fixed, a.tmps.getD x.1 undef = x.2) ∧ ∃ j, j ≤ n ∧ a.tmps.getD c undef = .int .i64 (j : Nat) ∧ P j ∧ ∃ m, w' = w.drewN m
def GM (c n : Nat) (a : Act) (_ : World) : Nat := n - (intOf (a.tmps.getD c undef)).toNat

end Go.Proofs.Ytjagijohfkffiab
