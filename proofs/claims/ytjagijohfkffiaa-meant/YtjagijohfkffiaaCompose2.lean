/- Plain mathematics: what a composed formula is, and what it means. -/
import Derived.Test.YtjagijohfkffiaaCompose
import Derived.Test.YtjagijohfkffiaaRow
namespace Go.Proofs.Ytjagijohfkffiaa

theorem parse_ok {s : ByteArray} (h : (parseOf s).1 = 0) : s.size ≤ 24 ∧ ps 25 s 0 [] = some (s.size, (parseOf s).2) := by
  unfold parseOf at h ⊢
  split at h
  · simp at h
  · rename_i h1
    rw [if_neg h1]
    refine ⟨by omega, ?_⟩
    cases e : ps 25 s 0 [] with
    | none => rw [e] at h; simp at h
    | some x =>
      obtain ⟨a, ns⟩ := x
      rw [e] at h
      simp only at h ⊢
      split at h
      · rename_i h2
        rw [if_pos h2]
        split at h
        · simp at h
        · rename_i h3
          rw [if_neg h3, h2]
      · simp at h

theorem parse_of {s : ByteArray} {ns : List Nd} (hs : ¬ 24 < s.size) (h : ps 25 s 0 [] = some (s.size, ns)) : parseOf s = if 8 < ns.length then (3, []) else (0, ns) := by
  unfold parseOf
  rw [if_neg hs, h]
  simp

theorem parse_one {f t : ByteArray} {op : Nat} (hop : oneB op = true) (hf : (parseOf f).1 = 0) (hs : t.size = f.size + 1) (h0 : bt t 0 = op) (hi : ∀ i, i < f.size → bt t (i + 1) = bt f i) (hl : ¬ 24 < t.size) :
    parseOf t = if 8 < (parseOf f).2.length + 1 then (3, []) else (0, (parseOf f).2 ++ [⟨op, (parseOf f).2.length - 1, 0⟩]) := by
  obtain ⟨_, hp⟩ := parse_ok hf
  obtain ⟨ms, hne, e1, e2⟩ := ps_move _ _ _ _ _ _ hp
  have e3 := e2 t 1 24 [] (fun i _ h => hi i h) (by omega)
  simp only [List.nil_append, List.length_nil] at e1 e3
  rw [← e1] at e3
  have key : ps 25 t 0 [] = some (t.size, (parseOf f).2 ++ [⟨op, (parseOf f).2.length - 1, 0⟩]) := by
    rw [ps_one (k := 24) (by rw [h0]; exact hop), h0, ps1, show 0 + 1 = 0 + 1 from rfl, e3, hs]
  rw [parse_of hl key]
  simp

/-- The second formula's nodes, as they stand behind the first's. -/
def rel0 (ns : List Nd) : Prop := ∃ ms, ns = List.map (shiftNd 0) ms

theorem shift0 (b : Nat) (ms : List Nd) : (ms.map (shiftNd 0)).map (shiftNd b) = ms.map (shiftNd b) := by rw [map_shift]; simp

theorem parse_two {f g t : ByteArray} {op : Nat} (hop : twoB op = true) (hf : (parseOf f).1 = 0) (hg : (parseOf g).1 = 0) (hs : t.size = f.size + g.size + 3) (h0 : bt t 0 = 40) (hi : ∀ i, i < f.size → bt t (i + 1) = bt f i) (h1 : bt t (f.size + 1) = op)
    (hj : ∀ i, i < g.size → bt t (i + (f.size + 2)) = bt g i) (h2 : bt t (f.size + g.size + 2) = 41) (hl : ¬ 24 < t.size) :
    parseOf t = if 8 < (parseOf f).2.length + (parseOf g).2.length + 1 then (3, []) else (0, (parseOf f).2 ++ (parseOf g).2.map (shiftNd (parseOf f).2.length) ++ [⟨op, (parseOf f).2.length - 1, (parseOf f).2.length + (parseOf g).2.length - 1⟩]) := by
  obtain ⟨_, hp⟩ := parse_ok hf
  obtain ⟨_, hq⟩ := parse_ok hg
  obtain ⟨ms, hne, e1, e2⟩ := ps_move _ _ _ _ _ _ hp
  obtain ⟨ms2, hne2, e4, e5⟩ := ps_move _ _ _ _ _ _ hq
  have e3 := e2 t 1 24 [] (fun i _ h => hi i h) (by omega)
  simp only [List.nil_append, List.length_nil] at e1 e3 e4
  rw [← e1] at e3
  have e6 := e5 t (f.size + 2) 24 (parseOf f).2 (fun i _ h => hj i h) (by omega)
  have e7 : ms2.map (shiftNd (parseOf f).2.length) = (parseOf g).2.map (shiftNd (parseOf f).2.length) := by rw [e4, shift0]
  rw [e7] at e6
  have key : ps 25 t 0 [] = some (t.size, (parseOf f).2 ++ (parseOf g).2.map (shiftNd (parseOf f).2.length) ++ [⟨op, (parseOf f).2.length - 1, (parseOf f).2.length + (parseOf g).2.length - 1⟩]) := by
    rw [ps_two (k := 24) h0, ps2, e3]
    simp only
    rw [h1, if_pos hop, show f.size + 1 + 1 = 0 + (f.size + 2) by omega, e6]
    simp only
    rw [show g.size + (f.size + 2) = f.size + g.size + 2 by omega, if_pos h2, hs]
    simp
  rw [parse_of hl key]
  simp [Nat.add_assoc]

/-- The rows of nodes that stand behind others are what they were. -/
theorem rows_shift {nx lt : Nat → Nat} (b : Nat) : ∀ (ms : List Nd) (r1 r2 : List (Nat → Prop)), r1.length = b + r2.length → (∀ j, j < r2.length → r1.getD (b + j) (fun _ => False) = r2.getD j (fun _ => False)) →
    (∀ (i : Nat) (n : Nd), ms[i]? = some n → (leafB n.op = true ∨ oneB n.op = true ∨ twoB n.op = true) ∧ (leafB n.op = false → n.l < r2.length + i) ∧ (twoB n.op = true → n.r < r2.length + i)) →
    ((ms.map (shiftNd b)).foldl (fun rs n => rs ++ [den nx lt n rs]) r1).length = b + (ms.foldl (fun rs n => rs ++ [den nx lt n rs]) r2).length ∧
    ∀ j, j < (ms.foldl (fun rs n => rs ++ [den nx lt n rs]) r2).length → ((ms.map (shiftNd b)).foldl (fun rs n => rs ++ [den nx lt n rs]) r1).getD (b + j) (fun _ => False) = (ms.foldl (fun rs n => rs ++ [den nx lt n rs]) r2).getD j (fun _ => False)
  | [], r1, r2, hl, hr, _ => ⟨hl, hr⟩
  | n :: ms, r1, r2, hl, hr, hw => by
    simp only [List.map_cons, List.foldl_cons]
    obtain ⟨hc, h1, h2⟩ := hw 0 n rfl
    have hd : den nx lt (shiftNd b n) r1 = den nx lt n r2 := by
      funext i
      apply propext
      unfold den
      rw [shift_op]
      rcases hc with hc | hc | hc
      · rcases leaf_is hc with e | e | e | e | e <;> simp [e]
      · have hL := hr n.l (by have := h1 (leaf_not_one hc); omega)
        have e0 : (shiftNd b n).l = b + n.l := by unfold shiftNd; simp [leaf_not_one hc, hc, Nat.add_comm]
        rcases one_is hc with e | e | e | e <;> simp only [e, e0, hL, Nat.reduceEqDiff, if_false, if_true]
      · have hL := hr n.l (by have := h1 (two_not_leaf hc); omega)
        have hR := hr n.r (by have := h2 hc; omega)
        have c2 : oneB n.op = false := by
          cases c : oneB n.op with
          | false => rfl
          | true => rw [one_not_two c] at hc; simp at hc
        have e0 : (shiftNd b n).l = b + n.l := by unfold shiftNd; simp [two_not_leaf hc, c2, Nat.add_comm]
        have e9 : (shiftNd b n).r = b + n.r := by unfold shiftNd; simp [two_not_leaf hc, c2, Nat.add_comm]
        rcases two_is hc with e | e | e | e <;> simp only [e, e0, e9, hL, hR, Nat.reduceEqDiff, if_false, if_true]
    refine rows_shift b ms _ _ (by simp; omega) ?_ ?_
    · intro j hj
      simp at hj
      by_cases hj2 : j < r2.length
      · simp only [List.getD, List.getElem?_append_left (show b + j < r1.length by omega), List.getElem?_append_left hj2]
        exact hr j hj2
      · have : j = r2.length := by omega
        subst this
        rw [← hl]
        simp [List.getD, hd]
    · intro i m hm
      have := hw (i + 1) m (by simpa using hm)
      simp only [List.length_append, List.length_singleton]
      exact ⟨this.1, fun h => by have := this.2.1 h; omega, fun h => by have := this.2.2 h; omega⟩

theorem sem_behind {nx lt : Nat → Nat} {nf ng : List Nd} (hw : Wf2 ng) {k : Nat} (hk : k < ng.length) (i : Nat) : sem nx lt (nf ++ ng.map (shiftNd nf.length)) (nf.length + k) i = sem nx lt ng k i := by
  have h := rows_shift (nx := nx) (lt := lt) nf.length ng (rows nx lt nf) [] (by rw [rows_len]; rfl) (fun j hj => by simp at hj) (fun i n hn => by
    obtain ⟨h1, h2, h3⟩ := wf2_class hw hn
    exact ⟨h1, fun h => by have := h2 h; simp; omega, fun h => by have := h3 h; simp; omega⟩)
  unfold sem rows
  rw [List.foldl_append]
  have e := h.2 k (by have := foldl_len nx lt ng []; rw [this]; simpa using hk)
  unfold rows at e
  rw [e]

theorem it_one (s i : Nat) : it (fun i => i + 1) s i = i + s := by
  induction s generalizing i with
  | zero => rfl
  | succ s ih => simp only [it]; rw [ih]; omega

/-- What a composed formula means at the beginning. -/
def Comp (op : Nat) (F G : Nat → Prop) : Prop :=
  if op = 33 then ¬ F 0 else if op = 88 then F 1 else if op = 70 then ∃ s, F s else if op = 71 then ∀ s, F s
  else if op = 38 then F 0 ∧ G 0 else if op = 124 then F 0 ∨ G 0 else if op = 85 then ∃ s, G s ∧ ∀ m, m < s → F m else ∀ s, G s ∨ ∃ m, m < s ∧ F m

theorem sem_one {lt : Nat → Nat} {nf : List Nd} {op : Nat} (hop : oneB op = true) (G : Nat → Prop) : sem (fun i => i + 1) lt (nf ++ [⟨op, nf.length - 1, 0⟩]) nf.length 0 ↔ Comp op (sem (fun i => i + 1) lt nf (nf.length - 1)) G := by
  rw [sem_new]
  unfold den Comp sem
  rcases one_is hop with e | e | e | e <;> simp [e, it_one]

theorem sem_two {lt : Nat → Nat} {nf ng : List Nd} {op : Nat} (hop : twoB op = true) (hp : 0 < nf.length) (hw : Wf2 ng) (hq : 0 < ng.length) :
    sem (fun i => i + 1) lt (nf ++ ng.map (shiftNd nf.length) ++ [⟨op, nf.length - 1, nf.length + ng.length - 1⟩]) (nf.length + ng.length) 0 ↔ Comp op (sem (fun i => i + 1) lt nf (nf.length - 1)) (sem (fun i => i + 1) lt ng (ng.length - 1)) := by
  have hl : (nf ++ ng.map (shiftNd nf.length)).length = nf.length + ng.length := by simp
  have h := sem_new (fun i => i + 1) lt (nf ++ ng.map (shiftNd nf.length)) ⟨op, nf.length - 1, nf.length + ng.length - 1⟩ 0
  rw [hl] at h
  rw [h]
  have e1 : ∀ i, (rows (fun i => i + 1) lt (nf ++ ng.map (shiftNd nf.length))).getD (nf.length - 1) (fun _ => False) i = sem (fun i => i + 1) lt nf (nf.length - 1) i := fun i => sem_pre (by omega) i
  have e2 : ∀ i, (rows (fun i => i + 1) lt (nf ++ ng.map (shiftNd nf.length))).getD (nf.length + ng.length - 1) (fun _ => False) i = sem (fun i => i + 1) lt ng (ng.length - 1) i := fun i => by
    have := sem_behind (nx := fun i => i + 1) (lt := lt) (nf := nf) hw (k := ng.length - 1) (by omega) i
    rw [show nf.length + (ng.length - 1) = nf.length + ng.length - 1 by omega] at this
    exact this
  unfold den Comp
  rcases two_is hop with e | e | e | e <;> simp only [e, e1, e2, it_one, Nat.zero_add, Nat.reduceEqDiff, if_false, if_true]

end Go.Proofs.Ytjagijohfkffiaa
