import Derived.Test.YtjagijohfkffiabCHEM06
import Derived.Test.YtjagijohfkffiabCHEM20
import Derived.Test.YtjagijohfkffiabCHEM22
import Derived.Test.YtjagijohfkffiabCHEM23
import Derived.Test.YtjagijohfkffiabCHEM24

/- Plain mathematics: a stem and a loop of places, as the program's search finds them. -/
namespace Go.Proofs.Ytjagijohfkffiab
set_option linter.unusedVariables false

/-- One goes along the list, and from its last place to e. -/
def Goes (E : Nat → Nat → Prop) : List Nat → Nat → Prop
  | [], _ => True
  | a :: l, e => E a (l.headD e) ∧ Goes E l e
theorem headD_app (l m : List Nat) (e : Nat) : (l ++ m).headD e = l.headD (m.headD e) := by cases l <;> rfl
theorem goes_app {E : Nat → Nat → Prop} : ∀ {l m : List Nat} {e : Nat}, Goes E l (m.headD e) → Goes E m e → Goes E (l ++ m) e
  | [], m, e, _, h => h
  | a :: l, m, e, ⟨h1, h2⟩, h => ⟨by show E a ((l ++ m).headD e); rw [headD_app]; exact h1, goes_app h2 h⟩
theorem goes_snoc {E : Nat → Nat → Prop} {l : List Nat} {a b : Nat} (h : Goes E l a) (he : E a b) : Goes E (l ++ [a]) b := goes_app (m := [a]) h ⟨he, trivial⟩
theorem goes_at {E : Nat → Nat → Prop} : ∀ {l : List Nat} {e : Nat}, Goes E l e → ∀ i (hi : i < l.length), E l[i] (if h : i + 1 < l.length then l[i + 1] else e)
  | [], e, _, i, hi => by simp at hi
  | a :: l, e, ⟨h1, h2⟩, i, hi => by
    cases i with
    | zero =>
      cases l with
      | nil => simpa using h1
      | cons b l => simpa using h1
    | succ i =>
      have := goes_at h2 i (by simpa using hi)
      simpa using this

/-- From the one to the other, or it is the same. -/
def Toward (E : Nat → Nat → Prop) (a b : Nat) : Prop := a = b ∨ reach E a b
theorem toward_trans {E : Nat → Nat → Prop} {a b c : Nat} (h : Toward E a b) (k : Toward E b c) : Toward E a c := by
  rcases h with rfl | h
  · exact k
  · rcases k with rfl | k
    · exact Or.inr h
    · exact Or.inr (reach_trans h k)
theorem toward_reach {E : Nat → Nat → Prop} {a b c : Nat} (h : Toward E a b) (k : reach E b c) : reach E a c := by
  rcases h with rfl | h
  · exact k
  · exact reach_trans h k
theorem reach_toward {E : Nat → Nat → Prop} {a b c : Nat} (h : reach E a b) (k : Toward E b c) : reach E a c := by
  rcases k with rfl | k
  · exact h
  · exact reach_trans h k

theorem goes_reach {E : Nat → Nat → Prop} : ∀ {l : List Nat} {e : Nat}, Goes E l e → Toward E (l.headD e) e ∧ ∀ x ∈ l, reach E x e
  | [], e, _ => ⟨Or.inl rfl, fun x hx => by simp at hx⟩
  | a :: l, e, ⟨h1, h2⟩ => by
    obtain ⟨k1, k2⟩ := goes_reach h2
    have : reach E a e := reach_toward (reach_edge h1) k1
    exact ⟨Or.inr this, fun x hx => by
      rcases List.mem_cons.1 hx with rfl | hx
      · exact this
      · exact k2 x hx⟩

/-- What a round from a to b has met: the first k of the marks. -/
structure RoundI (E : Nat → Nat → Prop) (cs : List (Nat → Bool)) (k a b : Nat) : Prop where
  go : if k = 0 then a = b else reach E a b
  met : ∀ c, c ∈ cs.take k → ∃ i, reach E a i ∧ c i = true ∧ Toward E i b
theorem roundI_start (E : Nat → Nat → Prop) (cs : List (Nat → Bool)) (a : Nat) : RoundI E cs 0 a a := ⟨rfl, fun c hc => by simp at hc⟩
theorem roundI_step {E : Nat → Nat → Prop} {cs : List (Nat → Bool)} {k a b b' : Nat} (h : RoundI E cs k a b) (hr : reach E b b') (hc : ∀ c, cs[k]? = some c → c b' = true) : RoundI E cs (k + 1) a b' := by
  have hab : Toward E a b := by
    have := h.go
    by_cases e : k = 0
    · rw [if_pos e] at this; exact Or.inl this
    · rw [if_neg e] at this; exact Or.inr this
  refine ⟨by rw [if_neg (by omega)]; exact toward_reach hab hr, fun c hm => ?_⟩
  rw [List.take_add_one] at hm
  rcases List.mem_append.1 hm with hm | hm
  · obtain ⟨i, h1, h2, h3⟩ := h.met c hm
    exact ⟨i, h1, h2, toward_trans h3 (Or.inr hr)⟩
  · cases e : cs[k]? with
    | none => rw [e] at hm; simp at hm
    | some c' =>
      rw [e] at hm
      simp at hm
      subst hm
      exact ⟨b', toward_reach hab hr, hc _ e, Or.inl rfl⟩

/-- What is known when a round sets out. -/
structure TurnI (E : Nat → Nat → Prop) (cs : List (Nat → Bool)) (last : Nat → Bool) (from_ : Nat) (seen : Nat → Bool) (at_ : Nat) : Prop where
  last : last at_ = true
  go : Toward E from_ at_
  old : ∀ x, seen x = true → ∃ y, reach E x y ∧ (∀ c ∈ cs, ∃ i, reach E x i ∧ c i = true ∧ Toward E i y) ∧ Toward E y at_
theorem turnI_start {E : Nat → Nat → Prop} (cs : List (Nat → Bool)) {last : Nat → Bool} {a : Nat} (h : last a = true) : TurnI E cs last a (fun _ => false) a := ⟨h, Or.inl rfl, fun x hx => by cases hx⟩
theorem turnI_step {E : Nat → Nat → Prop} {cs : List (Nat → Bool)} {last seen : Nat → Bool} {f a b k : Nat} (h : TurnI E cs last f seen a) (hr : RoundI E cs k a b) (hk : 0 < k) (hkc : cs.length ≤ k) (hb : last b = true) : TurnI E cs last f (upd seen a true) b := by
  have hab := hr.go
  rw [if_neg (by omega)] at hab
  refine ⟨hb, toward_trans h.go (Or.inr hab), fun x hx => ?_⟩
  by_cases e : x = a
  · subst e
    refine ⟨b, hab, fun c hc => hr.met c ?_, Or.inl rfl⟩
    rw [List.take_of_length_le hkc]
    exact hc
  · unfold upd at hx
    rw [if_neg e] at hx
    obtain ⟨y, h1, h2, h3⟩ := h.old x hx
    exact ⟨y, h1, h2, toward_trans h3 (Or.inr hab)⟩

/-- The turn: one comes back to it, and on the way to each mark. -/
structure TurnP (E : Nat → Nat → Prop) (cs : List (Nat → Bool)) (last : Nat → Bool) (f a : Nat) : Prop where
  last : last a = true
  go : Toward E f a
  ring : reach E a a
  met : ∀ c ∈ cs, ∃ i, reach E a i ∧ c i = true ∧ reach E i a
theorem turn_done {E : Nat → Nat → Prop} {cs : List (Nat → Bool)} {last seen : Nat → Bool} {f a : Nat} (h : TurnI E cs last f seen a) (hs : seen a = true) : TurnP E cs last f a := by
  obtain ⟨y, h1, h2, h3⟩ := h.old a hs
  have hr : reach E a a := reach_toward h1 h3
  refine ⟨h.last, h.go, hr, fun c hc => ?_⟩
  obtain ⟨i, k1, k2, k3⟩ := h2 c hc
  refine ⟨i, k1, k2, ?_⟩
  rcases toward_trans k3 h3 with rfl | k
  · exact hr
  · exact k

/-- The loop, as far as it has come: the first k marks have been met. -/
structure LoopI (E : Nat → Nat → Prop) (cs : List (Nat → Bool)) (turn k : Nat) (ps : List Nat) (at_ : Nat) : Prop where
  go : Goes E ps at_
  head : ps.headD at_ = turn
  home : reach E at_ turn
  met : ∀ c ∈ cs.take k, c at_ = true ∨ ∃ p ∈ ps, c p = true
theorem loopI_start {E : Nat → Nat → Prop} {cs : List (Nat → Bool)} {turn : Nat} (h : reach E turn turn) : LoopI E cs turn 0 [] turn := ⟨trivial, rfl, h, fun c hc => by simp at hc⟩
theorem loopI_skip {E : Nat → Nat → Prop} {cs : List (Nat → Bool)} {turn k at_ : Nat} {ps : List Nat} (h : LoopI E cs turn k ps at_) {c : Nat → Bool} (hc : cs[k]? = some c) (hm : c at_ = true ∨ ∃ p ∈ ps, c p = true) : LoopI E cs turn (k + 1) ps at_ := by
  refine ⟨h.go, h.head, h.home, fun d hd => ?_⟩
  rw [List.take_add_one, hc] at hd
  rcases List.mem_append.1 hd with hd | hd
  · exact h.met d hd
  · simp at hd; subst hd; exact hm
theorem loopI_step {E : Nat → Nat → Prop} {cs : List (Nat → Bool)} {turn k at_ b : Nat} {ps qs : List Nat} (h : LoopI E cs turn k ps at_) {c : Nat → Bool} (hc : cs[k]? = some c) (hq : qs ≠ []) (hh : qs.headD b = at_) (hg : Goes E qs b) (hb : reach E b turn) (hcb : c b = true) : LoopI E cs turn (k + 1) (ps ++ qs) b := by
  refine ⟨goes_app (by rw [hh]; exact h.go) hg, by rw [headD_app, hh]; exact h.head, hb, fun d hd => ?_⟩
  have hat : at_ ∈ qs := by
    cases qs with
    | nil => exact absurd rfl hq
    | cons x l => simp at hh; subst hh; simp
  rw [List.take_add_one, hc] at hd
  rcases List.mem_append.1 hd with hd | hd
  · rcases h.met d hd with h1 | ⟨p, h1, h2⟩
    · exact Or.inr ⟨at_, List.mem_append_right _ hat, h1⟩
    · exact Or.inr ⟨p, List.mem_append_left _ h1, h2⟩
  · simp at hd; subst hd; exact Or.inl hcb

/-- The loop. -/
structure LoopP (E : Nat → Nat → Prop) (cs : List (Nat → Bool)) (turn : Nat) (ps : List Nat) : Prop where
  ne : ps ≠ []
  head : ps.headD 0 = turn
  go : Goes E ps turn
  met : ∀ c ∈ cs, ∃ p ∈ ps, c p = true
theorem loop_done {E : Nat → Nat → Prop} {cs : List (Nat → Bool)} {turn k at_ : Nat} {ps qs : List Nat} (h : LoopI E cs turn k ps at_) (hk : cs.length ≤ k) (hq : qs ≠ []) (hh : qs.headD turn = at_) (hg : Goes E qs turn) : LoopP E cs turn (ps ++ qs) := by
  have hat : at_ ∈ qs := by
    cases qs with
    | nil => exact absurd rfl hq
    | cons x l => simp at hh; subst hh; simp
  refine ⟨by simp [hq], ?_, goes_app (by rw [hh]; exact h.go) hg, fun c hc => ?_⟩
  · have e : ∀ l : List Nat, l ≠ [] → ∀ x y, l.headD x = l.headD y := fun l hl x y => by cases l with
      | nil => exact absurd rfl hl
      | cons a l => rfl
    rw [e _ (by simp [hq]) 0 turn, headD_app, hh]; exact h.head
  · rcases h.met c (by rw [List.take_of_length_le hk]; exact hc) with h1 | ⟨p, h1, h2⟩
    · exact ⟨at_, List.mem_append_right _ hat, h1⟩
    · exact ⟨p, List.mem_append_left _ h1, h2⟩

/-- A stem and a loop, as a row without end. -/
def rowAt (A B : List Nat) (i : Nat) : Nat := if i < A.length then A.getD i 0 else B.getD ((i - A.length) % B.length) 0
theorem rowAt_path {E : Nat → Nat → Prop} {cs : List (Nat → Bool)} {A B : List Nat} {turn : Nat} (hA : Goes E A turn) (hB : LoopP E cs turn B) : Path E (rowAt A B) ∧ Meets (KL cs) cs.length (rowAt A B) := by
  have hb : 0 < B.length := List.length_pos_iff.2 hB.ne
  have h0 : B.getD 0 0 = turn := by
    have := hB.head
    cases B with
    | nil => simp at hb
    | cons b l => simpa using this
  have ga := goes_at hA
  have gb := goes_at hB.go
  have inl : ∀ j, j < B.length → E (B.getD j 0) (B.getD ((j + 1) % B.length) 0) := fun j hj => by
    have h1 := gb j hj
    rw [show B.getD j 0 = B[j] by simp [List.getD, List.getElem?_eq_getElem hj]]
    by_cases e : j + 1 < B.length
    · rw [dif_pos e] at h1
      rw [Nat.mod_eq_of_lt e, show B.getD (j + 1) 0 = B[j + 1] by simp [List.getD, List.getElem?_eq_getElem e]]
      exact h1
    · rw [dif_neg e] at h1
      rw [show j + 1 = B.length by omega, Nat.mod_self, h0]
      exact h1
  constructor
  · intro t
    unfold rowAt
    by_cases c1 : t < A.length
    · rw [if_pos c1]
      have h1 := ga t c1
      rw [show A.getD t 0 = A[t] by simp [List.getD, List.getElem?_eq_getElem c1]]
      by_cases c2 : t + 1 < A.length
      · rw [dif_pos c2] at h1
        rw [if_pos c2, show A.getD (t + 1) 0 = A[t + 1] by simp [List.getD, List.getElem?_eq_getElem c2]]
        exact h1
      · rw [dif_neg c2] at h1
        rw [if_neg c2, show t + 1 - A.length = 0 by omega, Nat.zero_mod, h0]
        exact h1
    · rw [if_neg c1, if_neg (by omega), show t + 1 - A.length = (t - A.length) + 1 by omega]
      have h1 := inl ((t - A.length) % B.length) (Nat.mod_lt _ hb)
      rw [show ((t - A.length) % B.length + 1) % B.length = (t - A.length + 1) % B.length by rw [Nat.mod_add_mod]] at h1
      exact h1
  · intro k hk t
    obtain ⟨p, h1, h2⟩ := hB.met cs[k] (List.getElem_mem hk)
    obtain ⟨j, hj, e⟩ := List.getElem_of_mem h1
    refine ⟨A.length + t * B.length + j, ?_, cs[k], List.getElem?_eq_getElem hk, ?_⟩
    · have : t * 1 ≤ t * B.length := Nat.mul_le_mul_left t hb
      omega
    · unfold rowAt
      rw [if_neg (by omega), show A.length + t * B.length + j - A.length = j + B.length * t by rw [Nat.mul_comm]; omega, Nat.add_mul_mod_self_left, Nat.mod_eq_of_lt hj]
      rw [show B.getD j 0 = p by simp [List.getD, List.getElem?_eq_getElem hj, e]]
      exact h2

/-- Each that lasts leads to such a one where a mark is met. -/
theorem last_leads {E : Nat → Nat → Prop} {cs : List (Nat → Bool)} {c : Nat → Bool} (hc : c ∈ cs) {x : Nat} (h : Forever E cs x) : LeadsP E (fun y => Forever E cs y ∧ c y = true) x := by
  obtain ⟨q, rfl, hq, hm⟩ := h
  obtain ⟨t, h1, h2⟩ := meets_all hm c hc 1
  obtain ⟨d, rfl⟩ : ∃ d, t = 0 + d + 1 := ⟨t - 1, by omega⟩
  exact ⟨_, walk_reach hq 0 d, forever_tail hq hm _, h2⟩
theorem last_leads_any {E : Nat → Nat → Prop} {cs : List (Nat → Bool)} {x : Nat} (h : Forever E cs x) : LeadsP E (fun y => Forever E cs y) x := by
  obtain ⟨q, rfl, hq, hm⟩ := h
  exact ⟨_, walk_reach hq 0 0, forever_tail hq hm _⟩

end Go.Proofs.Ytjagijohfkffiab

/- Plain mathematics: what Check tells. -/
namespace Go.Proofs.Ytjagijohfkffiab
set_option linter.unusedVariables false

/-- An endless row of nodes that begins with one in Start and goes along the edges. -/
def GPath (n : Nat) (ed : Nat → Nat → Bool) (st : Nat → Bool) (q : Nat → Nat) : Prop := st (q 0) = true ∧ ∀ t, q t < n ∧ ed (q t) (q (t + 1)) = true
/-- The formula holds in the graph. -/
def HoldsIn (ns : List Nd) (n : Nat) (lt : Nat → Nat) (ed : Nat → Nat → Bool) (st : Nat → Bool) : Prop := ∀ q, GPath n ed st q → sem (fun i => i + 1) (fun t => lt (q t)) ns (ns.length - 1) 0

section
variable {ns : List Nd} {liv : Nat → Bool} {n : Nat} {lt : Nat → Nat} {ed : Nat → Nat → Bool} {st f : Nat → Bool} {tl : Nat → List (Nat × Nat)}

/-- A row of stands is the truth of its word. -/
theorem stands_sem (hg : Good ns) (hl : LivP ns (calmsTo ns ns.length) liv) (hn : n ≤ 6) (hlt : ∀ i, i < n → lt i < 8) (hA : AlP lt ed n 0 tl) {q : Nat → Nat} (hq : Path (Ew n ns tl) q) (hm : Meets (KL (spreads (calmsTo ns ns.length))) (spreads (calmsTo ns ns.length)).length q) :
    (∀ t, q t / 256 < n ∧ ed (q t / 256) (q (t + 1) / 256) = true) ∧ liv (q 0 % 256) = true ∧ ((q 0 % 256).testBit (ns.length - 1) = true ↔ sem (fun i => i + 1) (fun t => lt (q t / 256)) ns (ns.length - 1) 0) := by
  have h8 := hg.le
  have hpos := hg.pos
  have pt : ∀ t, q t / 256 < n ∧ ed (q t / 256) (q (t + 1) / 256) = true ∧ q t % 256 = bef ns (lt (q t / 256)) (q (t + 1) % 256) := fun t => by
    obtain ⟨_, i, h1, h2, h3⟩ := (al_ew hA hn).1 (hq t)
    have hb := bef_lt h8 (lt i) (q (t + 1) % 256)
    have e1 : q t / 256 = i := by rw [h3]; omega
    have e2 : q t % 256 = bef ns (lt i) (q (t + 1) % 256) := by rw [h3]; omega
    rw [e1, e2]
    exact ⟨h1, h2, rfl⟩
  have lives : Lives ns (q 0 % 256) := by
    refine ⟨fun t => q t % 256, rfl, fun t => ew_any.2 ⟨Nat.mod_lt _ (by omega), lt (q t / 256), hlt _ (pt t).1, (pt t).2.2⟩, meets_of_all fun c hc t => ?_⟩
    obtain ⟨t', h1, h2⟩ := meets_all hm c hc t
    refine ⟨t', h1, ?_⟩
    obtain ⟨k, _, _, rfl⟩ := mem_spreads.1 hc
    unfold spread at h2 ⊢
    rw [Nat.mod_mod]
    exact h2
  have row : ERow ns (fun t => lt (q t / 256)) (fun t => tb (q t % 256)) := by
    refine ⟨fun t => ?_, fun k nd hnd t => ?_⟩
    · have := bef_step hg (lt (q t / 256)) (q (t + 1) % 256)
      rw [← (pt t).2.2] at this
      exact this
    · obtain ⟨h1, h2, h3⟩ := wf2_lt hg.wf hnd
      have hnda : ndAt ns k = nd := by have := ndAt_gets (ns := ns) h1; rw [hnd] at this; exact (Option.some.inj this).symm
      cases hww : waitsB nd.op with
      | false => exact ⟨t, Nat.le_refl _, kept_else hww⟩
      | true =>
        obtain ⟨t', h4, h5⟩ := meets_all hm _ (mem_spreads.2 ⟨k, h1, by rw [hnda]; exact hww, rfl⟩) t
        refine ⟨t', h4, ?_⟩
        have hst := bef_step hg (lt (q t' / 256)) (q (t' + 1) % 256) k nd hnd
        rw [← (pt t').2.2] at hst
        rw [calm_kept hst hww]
        simp only [spread, calmB, hnda] at h5
        exact h5
  refine ⟨fun t => ⟨(pt t).1, (pt t).2.1⟩, (hl _).2 lives, ?_⟩
  rw [← erow_sem hg.wf row _ (by omega)]
  rfl

theorem wrong_parts {beg : Nat → Bool} {x : Nat} (h : wrB st f beg x = true) : st (x / 256) = true ∧ f x = true ∧ beg (x % 256) = false := by
  unfold wrB at h
  simp only [Bool.and_eq_true, Bool.not_eq_true'] at h
  exact ⟨h.1, h.2.1, h.2.2⟩

/-- No stand is wrong: it holds in the graph. -/
theorem none_holds (hg : Good ns) (hl : LivP ns (calmsTo ns ns.length) liv) (hn : n ≤ 6) (hlt : ∀ i, i < n → lt i < 8) (hA : AlP lt ed n 0 tl) (hf : ∀ x, f x = true ↔ Forever (Ew n ns tl) (spreads (calmsTo ns ns.length)) x) (hno : ∀ x, x < n * 256 → wrB st f (begB ns liv) x = false) : HoldsIn ns n lt ed st := by
  intro q hq
  have h8 := hg.le
  have hpos := hg.pos
  apply Classical.byContradiction
  intro hsem
  have hL : Letters (fun t => lt (q t)) := fun t => hlt _ (hq.2 t).1
  obtain ⟨S, hS, hR⟩ := erow_truth hg.wf (fun t => lt (q t))
  have vl : ∀ t, cdTo (S t) ns.length < 256 := fun t => cdTo_lt _ _ h8
  have hfv : f (q 0 * 256 + cdTo (S 0) ns.length) = true := by
    rw [hf]
    refine ⟨fun t => q t * 256 + cdTo (S t) ns.length, rfl, fun t => ?_, meets_of_all fun c hc t => ?_⟩
    · have v1 := vl (t + 1)
      have d1 : (q (t + 1) * 256 + cdTo (S (t + 1)) ns.length) / 256 = q (t + 1) := by omega
      have d2 : (q (t + 1) * 256 + cdTo (S (t + 1)) ns.length) % 256 = cdTo (S (t + 1)) ns.length := by omega
      have hql := (hq.2 (t + 1)).1
      refine (al_ew hA hn).2 ⟨by show q (t + 1) * 256 + cdTo (S (t + 1)) ns.length < n * 256; omega, q t, (hq.2 t).1, by rw [d1]; exact (hq.2 t).2, ?_⟩
      rw [d2, bef_cd hg (hR.step t) (cd_eqOn hg _)]
    · obtain ⟨k, h1, h2, rfl⟩ := mem_spreads.1 hc
      have hnd := ndAt_gets (ns := ns) h1
      obtain ⟨_, h3, h4⟩ := wf2_lt hg.wf hnd
      obtain ⟨t', h5, h6⟩ := hR.kept k _ hnd t
      refine ⟨t', h5, ?_⟩
      rw [calm_kept (hR.step t' k _ hnd) h2] at h6
      have e1 := cd_eqOn hg (S t') k h1
      have hen : endN (ndAt ns k) < ns.length := by unfold endN; split <;> omega
      have e2 := cd_eqOn hg (S t') _ hen
      have v1 := vl t'
      have d2 : (q t' * 256 + cdTo (S t') ns.length) % 256 = cdTo (S t') ns.length := by omega
      simp only [tb] at e1 e2
      simp only [spread, calmB, d2, e1, e2]
      exact h6
  have v0 := vl 0
  have hq0 := (hq.2 0).1
  have h9 := hno (q 0 * 256 + cdTo (S 0) ns.length) (by omega)
  unfold wrB at h9
  rw [show (q 0 * 256 + cdTo (S 0) ns.length) / 256 = q 0 by omega, show (q 0 * 256 + cdTo (S 0) ns.length) % 256 = cdTo (S 0) ns.length by omega, hq.1, hfv] at h9
  have hb : begB ns liv (cdTo (S 0) ns.length) = false := by
    unfold begB
    have e1 : (cdTo (S 0) ns.length).testBit (ns.length - 1) = S 0 (ns.length - 1) := cd_eqOn hg (S 0) (ns.length - 1) (by omega)
    have e2 : S 0 (ns.length - 1) = false := by
      cases e : S 0 (ns.length - 1) with
      | false => rfl
      | true => exact absurd ((hS 0 (ns.length - 1)).1 e) hsem
    rw [e1, e2]; simp
  rw [hb] at h9
  simp at h9

/-- A stem and a loop of nodes that show that it does not. -/
structure ShowsP (ns : List Nd) (n : Nat) (lt : Nat → Nat) (ed : Nat → Nat → Bool) (st : Nat → Bool) (SA SB : List Nat) : Prop where
  ne : SB ≠ []
  lt_ : ∀ p ∈ SA ++ SB, p < n
  begins : st ((SA ++ SB).headD 0) = true
  go : Goes (fun a b => ed a b = true) (SA ++ SB) (SB.headD 0)
  sem_ : ¬ sem (fun i => i + 1) (wordAt (SA.map lt) (SB.map lt)) ns (ns.length - 1) 0
  len : SA.length + SB.length ≤ 20000

theorem goes_map {E F : Nat → Nat → Prop} {g : Nat → Nat} (h : ∀ a b, E a b → F (g a) (g b)) : ∀ {l : List Nat} {e : Nat}, Goes E l e → Goes F (l.map g) (g e)
  | [], e, _ => trivial
  | a :: l, e, ⟨h1, h2⟩ => by
    refine ⟨?_, goes_map h h2⟩
    have := h _ _ h1
    cases l with
    | nil => exact this
    | cons b l => exact this

theorem path_shows (hg : Good ns) (hl : LivP ns (calmsTo ns ns.length) liv) (hn : n ≤ 6) (hlt : ∀ i, i < n → lt i < 8) (hA : AlP lt ed n 0 tl) {A B : List Nat} {t : Nat} (hG : Goes (Ew n ns tl) A t) (hP : LoopP (Ew n ns tl) (spreads (calmsTo ns ns.length)) t B) (hw : wrB st f (begB ns liv) ((A ++ B).headD 0) = true) (hlen : A.length + B.length ≤ 20000) (hpn : ∀ p ∈ A ++ B, p < n * 256) :
    ShowsP ns n lt ed st (A.map (· / 256)) (B.map (· / 256)) := by
  have hb : 0 < B.length := List.length_pos_iff.2 hP.ne
  obtain ⟨hq, hm⟩ := rowAt_path hG hP
  obtain ⟨p1, p2, p3⟩ := stands_sem hg hl hn hlt hA hq hm
  obtain ⟨w1, w2, w3⟩ := wrong_parts hw
  have h0 : rowAt A B 0 = (A ++ B).headD 0 := by
    unfold rowAt
    cases A with
    | nil =>
      simp
      cases B with
      | nil => simp at hb
      | cons b B => simp
    | cons a A => simp
  have hE : ∀ a b, Ew n ns tl a b → ed (a / 256) (b / 256) = true := fun a b h => by
    obtain ⟨_, i, h1, h2, h3⟩ := (al_ew hA hn).1 h
    have hbl := bef_lt hg.le (lt i) (b % 256)
    rw [h3, show (i * 256 + bef ns (lt i) (b % 256)) / 256 = i by omega]
    exact h2
  have hh : B.headD 0 = t := hP.head
  have hhd : (B.map (· / 256)).headD 0 = t / 256 := by
    cases B with
    | nil => simp at hb
    | cons b B => simp at hh ⊢; rw [hh]
  refine ⟨by simpa using hP.ne, fun p hp => ?_, ?_, ?_, ?_, by simpa using hlen⟩
  · rw [← List.map_append] at hp
    obtain ⟨x, hx, rfl⟩ := List.mem_map.1 hp
    have := hpn x hx
    omega
  · rw [← List.map_append]
    have : ((A ++ B).map (· / 256)).headD 0 = (A ++ B).headD 0 / 256 := by
      cases hAB : A ++ B with
      | nil => rfl
      | cons a l => rfl
    rw [this]
    exact w1
  · rw [← List.map_append, hhd]
    exact goes_map (g := (· / 256)) hE (goes_app (by rw [show B.headD t = t by cases B with | nil => simp at hb | cons b B => simpa using hh]; exact hG) hP.go)
  · have hx : wordAt ((A.map (· / 256)).map lt) ((B.map (· / 256)).map lt) = fun i => lt (rowAt A B i / 256) := by
      funext i
      unfold wordAt rowAt
      simp only [List.length_map]
      by_cases c : i < A.length
      · rw [if_pos c, if_pos c]
        simp [List.getD, List.getElem?_eq_getElem c]
      · rw [if_neg c, if_neg c]
        have c2 : (i - A.length) % B.length < B.length := Nat.mod_lt _ hb
        simp [List.getD, List.getElem?_eq_getElem c2]
    rw [hx, ← p3]
    rw [h0]
    rw [h0] at p2
    unfold begB at w3
    rw [p2, Bool.true_and] at w3
    rw [w3]
    simp
end

end Go.Proofs.Ytjagijohfkffiab

/- Plain mathematics: what a path that shows it gives the reference's Shows. -/
namespace Go.Proofs.Ytjagijohfkffiab
open Go.RowKit
set_option linter.unusedVariables false

theorem goes_spot {E : Nat → Nat → Prop} : ∀ {l : List Nat} {e : Nat}, Goes E l e → ∀ i, i < l.length → E (l.getD i 0) (if i + 1 < l.length then l.getD (i + 1) 0 else e)
  | [], e, _, i, hi => by simp at hi
  | a :: l, e, ⟨h1, h2⟩, 0, hi => by
    cases l with
    | nil => simpa using h1
    | cons b l => simpa using h1
  | a :: l, e, ⟨h1, h2⟩, i + 1, hi => by
    have h := goes_spot h2 i (by simpa using hi)
    simpa using h

section
variable {ns : List Nd} {n : Nat} {lt : Nat → Nat} {ed : Nat → Nat → Bool} {st : Nat → Bool} {SA SB : List Nat}

theorem show_edge (h : ShowsP ns n lt ed st SA SB) (i : Nat) (hi : i < (SA ++ SB).length) : ed ((SA ++ SB).getD i 0) (if i + 1 < (SA ++ SB).length then (SA ++ SB).getD (i + 1) 0 else SB.headD 0) = true := goes_spot h.go i hi

theorem show_lt (h : ShowsP ns n lt ed st SA SB) (i : Nat) (hi : i < (SA ++ SB).length) : (SA ++ SB).getD i 0 < n := by
  refine h.lt_ _ ?_
  rw [List.getD, List.getElem?_eq_getElem hi]
  exact List.getElem_mem _

theorem show_pos (h : ShowsP ns n lt ed st SA SB) : 0 < SB.length := List.length_pos_iff.2 h.ne

theorem show_not (hg : Good ns) (h : ShowsP ns n lt ed st SA SB) (hlt : ∀ i, i < n → lt i < 8) : holdsB SA.length ns ((SA ++ SB).map lt) = false := by
  have h8 : ∀ x ∈ SA.map lt ++ SB.map lt, x < 8 := fun x hx => by
    rw [← List.map_append] at hx
    obtain ⟨p, hp, rfl⟩ := List.mem_map.1 hx
    exact hlt p (h.lt_ p hp)
  have hi := holdsB_inf (A := SA.map lt) (B := SB.map lt) hg (by simpa using show_pos h) h8
  rw [List.length_map, ← List.map_append] at hi
  cases e : holdsB SA.length ns ((SA ++ SB).map lt) with
  | false => rfl
  | true => exact absurd (hi.1 e) h.sem_

theorem show_num (h : ShowsP ns n lt ed st SA SB) : numB n ((SA ++ SB).map fun (p : Nat) => (p : Int)) = true := numB_iff.2 fun z hz => by
  obtain ⟨p, hp, rfl⟩ := List.mem_map.1 hz
  have := h.lt_ p hp
  exact ⟨by omega, by omega⟩
end

/-- The start of it is among the starts. -/
theorem show_start {ns : List Nd} {n : Nat} {lt : Nat → Nat} {ed : Nat → Nat → Bool} {ss : List Int} {SA SB : List Nat} (h : ShowsP ns n lt ed (gSt ss) SA SB) : ∃ j, j < ss.length ∧ ss.getD j 0 = (((SA ++ SB).getD 0 0 : Nat) : Int) := by
  have hb := inB_iff.1 h.begins
  obtain ⟨j, hj, e⟩ := List.getElem_of_mem hb
  refine ⟨j, hj, ?_⟩
  rw [List.getD, List.getElem?_eq_getElem hj]
  simp only [Option.getD_some]
  rw [e]
  congr 1
  cases (SA ++ SB) <;> rfl

end Go.Proofs.Ytjagijohfkffiab
