import Derived.Test.YtjagijohfkffiabKINM02
import Derived.Test.YtjagijohfkffiabKINM17

/- Plain mathematics: how many rising functions of six bools there are, at most. -/
namespace Go.Proofs.Ytjagijohfkffiab
set_option linter.unusedVariables false

theorem nodup_sub {α : Type} [DecidableEq α] : ∀ (L M : List α), L.Nodup → (∀ x ∈ L, x ∈ M) → L.length ≤ M.length
  | [], M, _, _ => Nat.zero_le _
  | x :: L, M, hd, hs => by
    rw [List.nodup_cons] at hd
    have hx := hs x (List.mem_cons_self ..)
    have h1 := nodup_sub L (M.erase x) hd.2 (fun y hy => (List.mem_erase_of_ne (fun e => hd.1 (by subst e; exact hy))).2 (hs y (List.mem_cons_of_mem _ hy)))
    rw [List.length_erase_of_mem hx] at h1
    have : 0 < M.length := List.length_pos_of_mem hx
    simp; omega

/-- A function of n bools as the list of its values. -/
def tab (n : Nat) (f : Nat → Bool) : List Bool := (List.range (2 ^ n)).map f
theorem tab_len (n : Nat) (f : Nat → Bool) : (tab n f).length = 2 ^ n := by simp [tab]
theorem tab_succ (n : Nat) (f : Nat → Bool) : tab (n + 1) f = tab n f ++ tab n (fun b => f (2 ^ n + b)) := by
  unfold tab
  rw [show 2 ^ (n + 1) = 2 ^ n + 2 ^ n by omega, List.range_add, List.map_append, List.map_map]
  rfl
theorem tab_inj {n : Nat} {f g : Nat → Bool} (h : tab n f = tab n g) {b : Nat} (hb : b < 2 ^ n) : f b = g b := by
  have h1 : (tab n f)[b]? = some (f b) := by simp [tab, hb]
  have h2 : (tab n g)[b]? = some (g b) := by simp [tab, hb]
  rw [h, h2] at h1
  exact (Option.some.inj h1).symm

/-- The one holds where the other does. -/
def subB (a b : Nat) : Prop := ∀ i, a.testBit i = true → b.testBit i = true
def Rise (n : Nat) (f : Nat → Bool) : Prop := ∀ a b, a < 2 ^ n → b < 2 ^ n → subB a b → f a = true → f b = true

theorem rise_low {n : Nat} {f : Nat → Bool} (h : Rise (n + 1) f) : Rise n f := fun a b ha hb hs hf => h a b (by rw [Nat.pow_succ]; omega) (by rw [Nat.pow_succ]; omega) hs hf
theorem testBit_high {n b : Nat} (hb : b < 2 ^ n) (i : Nat) : (2 ^ n + b).testBit i = (if i = n then true else b.testBit i) := by
  by_cases e : i = n
  · subst e
    rw [if_pos rfl, Nat.testBit_two_pow_add_eq, Nat.testBit_lt_two_pow hb]
    rfl
  · rw [if_neg e]
    by_cases h : i < n
    · exact Nat.testBit_two_pow_add_gt h b
    · have h1 : 2 ^ n + b < 2 ^ i := by
        have : 2 ^ (n + 1) ≤ 2 ^ i := Nat.pow_le_pow_right (by omega) (by omega)
        rw [Nat.pow_succ] at this
        omega
      rw [Nat.testBit_lt_two_pow h1, Nat.testBit_lt_two_pow (Nat.lt_of_lt_of_le hb (Nat.pow_le_pow_right (by omega) (by omega)))]
theorem rise_high {n : Nat} {f : Nat → Bool} (h : Rise (n + 1) f) : Rise n (fun b => f (2 ^ n + b)) := fun a b ha hb hs hf =>
  h (2 ^ n + a) (2 ^ n + b) (by rw [Nat.pow_succ]; omega) (by rw [Nat.pow_succ]; omega) (fun i hi => by
    rw [testBit_high ha] at hi
    rw [testBit_high hb]
    split
    · rfl
    · rename_i e; rw [if_neg e] at hi; exact hs i hi) hf
theorem rise_pair {n : Nat} {f : Nat → Bool} (h : Rise (n + 1) f) : ∀ b, b < 2 ^ n → f b = true → f (2 ^ n + b) = true := fun b hb hf =>
  h b (2 ^ n + b) (by rw [Nat.pow_succ]; omega) (by rw [Nat.pow_succ]; omega) (fun i hi => by
    rw [testBit_high hb]
    split
    · rfl
    · exact hi) hf

/-- All lists of n bools. -/
def allB : Nat → List (List Bool)
  | 0 => [[]]
  | n + 1 => (allB n).flatMap fun l => [false :: l, true :: l]
theorem mem_allB : ∀ (l : List Bool), l ∈ allB l.length
  | [] => by simp [allB]
  | b :: l => by
    simp only [List.length_cons, allB, List.mem_flatMap]
    exact ⟨l, mem_allB l, by cases b <;> simp⟩
/-- Rising, at eight values. -/
def upB (l : List Bool) : Bool := (List.range 8).all fun a => (List.range 8).all fun b => !((a &&& b) == a) || (!(l.getD a false) || l.getD b false)
def leB (p q : List Bool) : Bool := (p.zip q).all fun x => !x.1 || x.2
def m3 : List (List Bool) := (allB 8).filter upB
def m4 : List (List Bool) := m3.flatMap fun p => (m3.filter fun q => leB p q).map fun q => p ++ q
theorem m4_len : m4.length = 168 := by decide +kernel

theorem subB_and {a b : Nat} (h : a &&& b = a) : subB a b := fun i hi => by
  have : (a &&& b).testBit i = true := by rw [h]; exact hi
  rw [Nat.testBit_and, Bool.and_eq_true] at this
  exact this.2
theorem tab_getD {n : Nat} {f : Nat → Bool} {b : Nat} (hb : b < 2 ^ n) : (tab n f).getD b false = f b := by simp [tab, List.getD, hb]
theorem mem_m3 {f : Nat → Bool} (h : Rise 3 f) : tab 3 f ∈ m3 := by
  unfold m3
  rw [List.mem_filter]
  refine ⟨by have := mem_allB (tab 3 f); rwa [tab_len] at this, ?_⟩
  unfold upB
  simp only [List.all_eq_true, List.mem_range]
  intro a ha b hb
  rw [tab_getD (n := 3) (by simpa using ha), tab_getD (n := 3) (by simpa using hb)]
  by_cases e : a &&& b = a
  · cases hf : f a with
    | false => simp
    | true => simp [h a b (by simpa using ha) (by simpa using hb) (subB_and e) hf]
  · have : ((a &&& b) == a) = false := beq_eq_false_iff_ne.2 e
    simp [this]
theorem leB_tab {n : Nat} {f g : Nat → Bool} (h : ∀ b, b < 2 ^ n → f b = true → g b = true) : leB (tab n f) (tab n g) = true := by
  unfold leB tab
  rw [List.all_eq_true]
  intro x hx
  rw [List.zip_map', List.mem_map] at hx
  obtain ⟨b, hb, rfl⟩ := hx
  have := h b (by simpa using hb)
  dsimp only
  cases hf : f b with
  | false => rfl
  | true => simp [this hf]
theorem mem_m4 {f : Nat → Bool} (h : Rise 4 f) : tab 4 f ∈ m4 := by
  rw [tab_succ]
  unfold m4
  rw [List.mem_flatMap]
  refine ⟨_, mem_m3 (rise_low h), ?_⟩
  rw [List.mem_map]
  exact ⟨_, List.mem_filter.2 ⟨mem_m3 (rise_high h), leB_tab (rise_pair h)⟩, rfl⟩

def twice (M : List (List Bool)) : List (List Bool) := M.flatMap fun p => M.map fun q => p ++ q
theorem twice_len (M : List (List Bool)) : (twice M).length = M.length * M.length := by
  unfold twice
  rw [List.length_flatMap]
  have : (M.map fun p => (M.map fun q => p ++ q).length) = List.replicate M.length M.length := by
    rw [List.eq_replicate_iff]
    exact ⟨by simp, fun b hb => by simp at hb; obtain ⟨_, _, rfl⟩ := hb; rfl⟩
  rw [this]
  simp
theorem mem_twice {n : Nat} {M : List (List Bool)} (hM : ∀ f, Rise n f → tab n f ∈ M) {f : Nat → Bool} (h : Rise (n + 1) f) : tab (n + 1) f ∈ twice M := by
  rw [tab_succ]
  unfold twice
  rw [List.mem_flatMap]
  exact ⟨_, hM _ (rise_low h), List.mem_map.2 ⟨_, hM _ (rise_high h), rfl⟩⟩

def m6 : List (List Bool) := twice (twice m4)
theorem m6_len : m6.length = 796594176 := by
  unfold m6
  rw [twice_len, twice_len, m4_len]
theorem mem_m6 {f : Nat → Bool} (h : Rise 6 f) : tab 6 f ∈ m6 := mem_twice (fun g hg => mem_twice (fun k hk => mem_m4 hk) hg) h

end Go.Proofs.Ytjagijohfkffiab

/- Plain mathematics: how many states there are, at most. -/
namespace Go.Proofs.Ytjagijohfkffiab
set_option linter.unusedVariables false

def leS (s a b : Bool) : Prop := if s = true then (a = true → b = true) else (b = true → a = true)
theorem leS_refl (s a : Bool) : leS s a a := by unfold leS; split <;> exact id
theorem leS_eq {s a b : Bool} (h : leS s a b) (k : leS s b a) : a = b := by
  unfold leS at h k
  cases s <;> cases a <;> cases b <;> simp_all
theorem leS_or {s a b a' b' : Bool} (h : leS s a a') (k : leS s b b') : leS s (a || b) (a' || b') := by
  unfold leS at *
  cases s <;> cases a <;> cases b <;> cases a' <;> cases b' <;> simp_all
theorem leS_and {s a b a' b' : Bool} (h : leS s a a') (k : leS s b b') : leS s (a && b) (a' && b') := by
  unfold leS at *
  cases s <;> cases a <;> cases b <;> cases a' <;> cases b' <;> simp_all
theorem leS_not {s a a' : Bool} (h : leS (!s) a a') : leS s (!a) (!a') := by
  unfold leS at *
  cases s <;> cases a <;> cases a' <;> simp_all

def tempB (op : Nat) : Bool := op == 70 || op == 71 || op == 85 || op == 82 || op == 88
/-- The bits of the next place that count. -/
def relF : Nat → List Nd → List Nat
  | _, [] => []
  | i, nd :: ms => (if tempB nd.op = true then [if nd.op = 88 then nd.l else i] else []) ++ relF (i + 1) ms
theorem mem_relF : ∀ (ms : List Nd) (i j : Nat) (nd : Nd), ms[j]? = some nd → tempB nd.op = true → (if nd.op = 88 then nd.l else i + j) ∈ relF i ms
  | [], i, j, nd, h, _ => by simp at h
  | n0 :: ms, i, j, nd, h, ht => by
    rw [relF, List.mem_append]
    cases j with
    | zero =>
      simp at h
      subst h
      left
      rw [if_pos ht]
      simp
    | succ j =>
      right
      have := mem_relF ms (i + 1) j nd (by simpa using h) ht
      rwa [show i + 1 + j = i + (j + 1) by omega] at this

def Signs (σ : Nat → Bool) (ns : List Nd) : Prop := ∀ i nd, ns[i]? = some nd → SignAt σ i nd
def LeR (ns : List Nd) (σ : Nat → Bool) (N N' : Nat) : Prop := ∀ k, k ∈ relF 0 ns → leS (σ k) (N.testBit k) (N'.testBit k)

theorem bef_mono {ns : List Nd} (hg : Good ns) {σ : Nat → Bool} (hs : Signs σ ns) {x N N' : Nat} (hr : LeR ns σ N N') : ∀ k, k < ns.length → leS (σ k) ((bef ns x N).testBit k) ((bef ns x N').testBit k) := by
  have key : ∀ n k, k < n → k < ns.length → leS (σ k) ((bef ns x N).testBit k) ((bef ns x N').testBit k) := by
    intro n
    induction n with
    | zero => intro k h; omega
    | succ n ih =>
      intro k hk hkl
      obtain ⟨nd, hn⟩ : ∃ nd, ns[k]? = some nd := ⟨ns[k], List.getElem?_eq_getElem hkl⟩
      have e1 := bef_step hg x N k nd hn
      have e2 := bef_step hg x N' k nd hn
      simp only [tb] at e1 e2
      rw [e1, e2]
      have sg := hs k nd hn
      have rel := fun ht => hr _ (mem_relF ns 0 k nd hn ht)
      rcases hg.wf k nd hn with ⟨h, _, _⟩ | ⟨h, hl, _⟩ | ⟨h, hl, hr2⟩
      · simp only [leafB, Bool.or_eq_true, beq_iff_eq] at h
        rcases h with (((h | h) | h) | h) | h <;> simp only [lawB, h] <;> exact leS_refl _ _
      · have s1 := sg.1 h
        have i1 := ih nd.l (by omega) (by omega)
        rw [s1] at i1
        simp only [oneB, Bool.or_eq_true, beq_iff_eq] at h
        rcases h with ((h | h) | h) | h
        · rw [if_pos h] at i1
          simp only [lawB, h]
          exact leS_not i1
        · rw [if_neg (by omega)] at s1
          have r1 := rel (by rw [h]; decide)
          rw [if_pos h, s1] at r1
          simp only [lawB, h]
          exact r1
        · rw [if_neg (by omega)] at i1
          have r1 := rel (by rw [h]; decide)
          rw [if_neg (by omega), Nat.zero_add] at r1
          simp only [lawB, h]
          exact leS_or i1 r1
        · rw [if_neg (by omega)] at i1
          have r1 := rel (by rw [h]; decide)
          rw [if_neg (by omega), Nat.zero_add] at r1
          simp only [lawB, h]
          exact leS_and i1 r1
      · obtain ⟨s1, s2⟩ := sg.2 h
        have i1 := ih nd.l (by omega) (by omega)
        have i2 := ih nd.r (by omega) (by omega)
        rw [s1] at i1
        rw [s2] at i2
        simp only [twoB, Bool.or_eq_true, beq_iff_eq] at h
        rcases h with ((h | h) | h) | h
        · simp only [lawB, h]
          exact leS_and i1 i2
        · simp only [lawB, h]
          exact leS_or i1 i2
        · have r1 := rel (by rw [h]; decide)
          rw [if_neg (by omega), Nat.zero_add] at r1
          simp only [lawB, h]
          exact leS_or i2 (leS_and i1 r1)
        · have r1 := rel (by rw [h]; decide)
          rw [if_neg (by omega), Nat.zero_add] at r1
          simp only [lawB, h]
          exact leS_and i2 (leS_or i1 r1)
  exact fun k hk => key (k + 1) k (by omega) hk

theorem relF_lt {ns : List Nd} (hg : Good ns) : ∀ k ∈ relF 0 ns, k < ns.length := by
  have key : ∀ (ms : List Nd) (i : Nat), (∀ j nd, ms[j]? = some nd → nd.l < ns.length ∧ i + j < ns.length) → ∀ k ∈ relF i ms, k < ns.length := by
    intro ms
    induction ms with
    | nil => intro i _ k hk; simp [relF] at hk
    | cons nd ms ih =>
      intro i h k hk
      rw [relF, List.mem_append] at hk
      rcases hk with hk | hk
      · split at hk
        · simp at hk
          obtain ⟨h1, h2⟩ := h 0 nd rfl
          subst hk
          split <;> omega
        · simp at hk
      · exact ih (i + 1) (fun j n hj => by
          obtain ⟨h1, h2⟩ := h (j + 1) n (by simpa using hj)
          exact ⟨h1, by omega⟩) k hk
  refine key ns 0 (fun j nd hj => ?_)
  obtain ⟨h1, h2, _⟩ := wf2_lt hg.wf hj
  exact ⟨h2, by omega⟩

theorem back_mono {ns : List Nd} (hg : Good ns) {σ : Nat → Bool} (hs : Signs σ ns) {N N' : Nat} (hr : LeR ns σ N N') : ∀ (u : List Nat), u ≠ [] → ∀ k, k < ns.length → leS (σ k) ((back ns u N).testBit k) ((back ns u N').testBit k)
  | [], h, _, _ => absurd rfl h
  | [a], _, k, hk => bef_mono hg hs hr k hk
  | a :: b :: u, _, k, hk => bef_mono hg hs (fun j hj => back_mono hg hs hr (b :: u) (by simp) j (relF_lt hg j hj)) k hk

theorem cdTo_pow (S : Nat → Bool) {k : Nat} (h : k ≤ 8) : cdTo S k < 2 ^ k := by
  refine Nat.lt_pow_two_of_testBit _ fun i hi => ?_
  by_cases h8 : i < 8
  · rw [cdTo_bit S k h i h8, if_neg (by omega)]
  · exact Nat.testBit_lt_two_pow (Nat.lt_of_lt_of_le (cdTo_lt S k h) (by rw [show (256 : Nat) = 2 ^ 8 by rfl]; exact Nat.pow_le_pow_right (by omega) (by omega)))

section
variable {ns : List Nd} (hg : Good ns) {σ : Nat → Bool} (hs : Signs σ ns)

/-- A view out of the six bits that count; and back. -/
def vw (ns : List Nd) (σ : Nat → Bool) (b : Nat) : Nat := cdTo (fun k => decide (k ∈ relF 0 ns) && (b.testBit ((relF 0 ns).idxOf k) == σ k)) ns.length
def pj (ns : List Nd) (σ : Nat → Bool) (N : Nat) : Nat := cdTo (fun i => N.testBit ((relF 0 ns).getD i 0) == σ ((relF 0 ns).getD i 0)) 6

theorem vw_bit {ns : List Nd} (hg : Good ns) (σ : Nat → Bool) (b : Nat) {k : Nat} (hk : k ∈ relF 0 ns) : (vw ns σ b).testBit k = (b.testBit ((relF 0 ns).idxOf k) == σ k) := by
  have h8 := hg.le
  have hl := relF_lt hg k hk
  unfold vw
  rw [cdTo_bit _ _ h8 k (by omega), if_pos hl]
  simp [hk]
theorem vw_pj {ns : List Nd} (hg : Good ns) (h6 : (relF 0 ns).length ≤ 6) (σ : Nat → Bool) (N : Nat) {k : Nat} (hk : k ∈ relF 0 ns) : (vw ns σ (pj ns σ N)).testBit k = N.testBit k := by
  have hi := List.idxOf_lt_length_of_mem hk
  rw [vw_bit hg σ _ hk]
  unfold pj
  rw [cdTo_bit _ 6 (by omega) _ (by omega), if_pos (by omega)]
  have : (relF 0 ns).getD ((relF 0 ns).idxOf k) 0 = k := by
    rw [List.getD, List.getElem?_eq_getElem hi]
    simp
  rw [this]
  cases N.testBit k <;> cases σ k <;> rfl

def hOf (ns : List Nd) (σ : Nat → Bool) (u : List Nat) : Nat → Bool := fun b => (back ns u (vw ns σ b)).testBit (ns.length - 1)

theorem hOf_rise {ns : List Nd} (hg : Good ns) {σ : Nat → Bool} (hs : Signs σ ns) (ht : σ (ns.length - 1) = true) (h6 : (relF 0 ns).length ≤ 6) {u : List Nat} (hu : u ≠ []) : Rise 6 (hOf ns σ u) := by
  intro a b ha hb hsub hf
  have hp := hg.pos
  have hr : LeR ns σ (vw ns σ a) (vw ns σ b) := fun k hk => by
    rw [vw_bit hg σ a hk, vw_bit hg σ b hk]
    have := hsub ((relF 0 ns).idxOf k)
    unfold leS
    cases σ k <;> cases h1 : a.testBit ((relF 0 ns).idxOf k) <;> cases h2 : b.testBit ((relF 0 ns).idxOf k) <;> simp_all
  have := back_mono hg hs hr u hu (ns.length - 1) (by omega)
  rw [ht] at this
  unfold leS at this
  rw [if_pos rfl] at this
  exact this hf
theorem hOf_pj {ns : List Nd} (hg : Good ns) {σ : Nat → Bool} (hs : Signs σ ns) (h6 : (relF 0 ns).length ≤ 6) {u : List Nat} (hu : u ≠ []) (N : Nat) : hOf ns σ u (pj ns σ N) = (back ns u N).testBit (ns.length - 1) := by
  have hp := hg.pos
  unfold hOf
  refine leS_eq (s := σ (ns.length - 1)) ?_ ?_
  · exact back_mono hg hs (fun k hk => by rw [vw_pj hg h6 σ N hk]; exact leS_refl _ _) u hu _ (by omega)
  · exact back_mono hg hs (fun k hk => by rw [vw_pj hg h6 σ N hk]; exact leS_refl _ _) u hu _ (by omega)
end

/-- Words that lead to unlike groups are few, where no more than six bits count. -/
theorem few_six {ns : List Nd} (hg : Good ns) (ht : Seg 0 ns) (h6 : (relF 0 ns).length ≤ 6) {liv : Nat → Bool} (hl : LivP ns (calmsTo ns ns.length) liv) (us : List (List Nat)) (hu : ∀ u ∈ us, u ≠ [] ∧ ∀ x ∈ u, x < 8)
    (hd : (us.map fun u => gv (runG ns liv (begB ns liv) u)).Nodup) : us.length ≤ 796594176 := by
  obtain ⟨σ, hr, hs0⟩ := seg_sign ht true
  have hs : Signs σ ns := fun i nd hi => by have := hs0 i nd hi; rwa [Nat.zero_add] at this
  rw [Nat.zero_add] at hr
  have key : (us.map fun u => tab 6 (hOf ns σ u)).Nodup := by
    rw [List.nodup_iff_pairwise_ne, List.pairwise_map] at hd ⊢
    refine List.Pairwise.imp_of_mem ?_ hd
    intro u v hu1 hv1 hne e
    refine hne (gv_congr fun N hN => ?_)
    obtain ⟨a1, a2⟩ := hu u hu1
    obtain ⟨b1, b2⟩ := hu v hv1
    rw [Bool.eq_iff_iff, runG_iff hg hl u a2, runG_iff hg hl v b2, ← hOf_pj hg hs h6 a1, ← hOf_pj hg hs h6 b1]
    have : pj ns σ N < 2 ^ 6 := cdTo_pow _ (by omega)
    rw [tab_inj e this]
  have := nodup_sub _ m6 key (fun x hx => by
    obtain ⟨u, hu1, rfl⟩ := List.mem_map.1 hx
    exact mem_m6 (hOf_rise hg hs hr h6 (hu u hu1).1))
  rw [m6_len] at this
  simpa using this

end Go.Proofs.Ytjagijohfkffiab

/- Plain mathematics: how many states there are, at most, for every formula. -/
namespace Go.Proofs.Ytjagijohfkffiab
set_option linter.unusedVariables false

theorem relF_len : ∀ (ms : List Nd) (i : Nat), (relF i ms).length = ms.countP fun nd => tempB nd.op
  | [], _ => rfl
  | nd :: ms, i => by
    rw [relF, List.length_append, relF_len ms (i + 1), List.countP_cons]
    cases tempB nd.op <;> simp <;> omega

def nd_one (nd : Nd) : Bool := oneB nd.op
def nd_two (nd : Nd) : Bool := twoB nd.op
def nd_tmp (nd : Nd) : Bool := tempB nd.op
def nd_not (nd : Nd) : Bool := nd.op == 33
def cntN (p : Nd → Bool) (ms : List Nd) : Nat := ms.countP p
theorem cntN_snoc (p : Nd → Bool) (ms : List Nd) (nd : Nd) : cntN p (ms ++ [nd]) = cntN p ms + (if p nd = true then 1 else 0) := by unfold cntN; rw [List.countP_append, List.countP_singleton]
theorem cntN_app (p : Nd → Bool) (ms ls : List Nd) : cntN p (ms ++ ls) = cntN p ms + cntN p ls := by unfold cntN; rw [List.countP_append]
theorem filter_both {α : Type} (p : α → Bool) : ∀ l : List α, (l.filter p).length + (l.filter fun x => !p x).length = l.length
  | [] => rfl
  | x :: l => by
    have := filter_both p l
    cases h : p x <;> simp [h] <;> omega

theorem seg_counts {b : Nat} {ms : List Nd} (h : Seg b ms) : ms.length = 2 * cntN nd_two ms + 1 + cntN nd_one ms ∧ cntN nd_tmp ms + cntN nd_not ms ≤ cntN nd_one ms + cntN nd_two ms := by
  induction h using seg_ind with
  | leaf b op ho =>
    simp only [leafB, Bool.or_eq_true, beq_iff_eq] at ho
    rcases ho with (((h | h) | h) | h) | h <;> subst h <;> decide
  | one b op ms ho hs ih =>
    obtain ⟨h1, h2⟩ := ih
    rw [cntN_snoc, cntN_snoc, cntN_snoc, cntN_snoc, List.length_append, List.length_singleton]
    simp only [oneB, Bool.or_eq_true, beq_iff_eq] at ho
    rcases ho with ((h | h) | h) | h <;> subst h <;> simp [nd_one, nd_two, nd_tmp, nd_not, oneB, twoB, tempB] <;> omega
  | two b op ms ls ho h1 h2 ih1 ih2 =>
    obtain ⟨a1, a2⟩ := ih1
    obtain ⟨b1, b2⟩ := ih2
    rw [cntN_snoc, cntN_snoc, cntN_snoc, cntN_snoc, cntN_app, cntN_app, cntN_app, cntN_app, List.length_append, List.length_append, List.length_singleton]
    simp only [twoB, Bool.or_eq_true, beq_iff_eq] at ho
    rcases ho with ((h | h) | h) | h <;> subst h <;> simp [nd_one, nd_two, nd_tmp, nd_not, oneB, twoB, tempB] <;> omega

/-- Where no sign joins two, the nodes are a chain. -/
theorem seg_chain {b : Nat} {ms : List Nd} (h : Seg b ms) : cntN nd_two ms = 0 → cntN nd_not ms = 0 → ∀ i nd, ms[i]? = some nd → (i = 0 ∧ leafB nd.op = true) ∨ (0 < i ∧ oneB nd.op = true ∧ nd.op ≠ 33 ∧ nd.l = b + i - 1 ∧ nd.r = 0) := by
  induction h using seg_ind with
  | leaf b op ho =>
    intro _ _ i nd hi
    cases i with
    | zero => simp at hi; subst hi; exact Or.inl ⟨rfl, ho⟩
    | succ i => simp at hi
  | one b op ms ho hs ih =>
    intro h0 h1 i nd hi
    have hp := seg_pos hs
    rw [cntN_snoc] at h0 h1
    by_cases e : i < ms.length
    · rw [List.getElem?_append_left e] at hi
      exact ih (by omega) (by omega) i nd hi
    · rw [List.getElem?_append_right (by omega)] at hi
      have e2 : i = ms.length := by
        have := (List.getElem?_eq_some_iff.1 hi).1
        simp at this; omega
      subst e2
      simp at hi
      subst hi
      refine Or.inr ⟨hp, ho, fun e => ?_, rfl, rfl⟩
      dsimp only at e
      rw [e] at h1
      simp [nd_not] at h1
  | two b op ms ls ho h1 h2 ih1 ih2 =>
    intro h0
    rw [cntN_snoc] at h0
    simp [nd_two, ho] at h0

/-- The chain but for its last node. -/
theorem chain_seg : ∀ (ms : List Nd), (∀ i nd, ms[i]? = some nd → (i = 0 ∧ leafB nd.op = true ∧ nd.l = 0 ∧ nd.r = 0) ∨ (0 < i ∧ oneB nd.op = true ∧ nd.l = i - 1 ∧ nd.r = 0)) → 0 < ms.length → Seg 0 ms := by
  intro ms
  generalize hn : ms.length = n
  induction n generalizing ms with
  | zero => intro _ h; omega
  | succ n ih =>
    intro h _
    obtain ⟨ms', nd, rfl⟩ : ∃ ms' nd, ms = ms' ++ [nd] := ⟨ms.dropLast, ms.getLast (by intro e; rw [e] at hn; simp at hn), (List.dropLast_concat_getLast _).symm⟩
    rw [List.length_append, List.length_singleton] at hn
    have hl : ms'.length = n := by omega
    have hlast := h n nd (by rw [List.getElem?_append_right (by omega), hl]; simp)
    by_cases e : n = 0
    · subst e
      have : ms' = [] := List.eq_nil_of_length_eq_zero hl
      subst this
      rcases hlast with ⟨_, h1, h2, h3⟩ | ⟨h1, _⟩
      · obtain ⟨op, l, r⟩ := nd
        dsimp only at h1 h2 h3
        subst h2
        subst h3
        exact Seg.leaf 0 op h1
      · omega
    · have hs := ih ms' hl (fun i m hi => h i m (by rw [List.getElem?_append_left (List.getElem?_eq_some_iff.1 hi).1]; exact hi)) (by omega)
      rcases hlast with ⟨h1, _⟩ | ⟨_, h1, h2, h3⟩
      · omega
      · obtain ⟨op, l, r⟩ := nd
        dsimp only at h1 h2 h3
        subst h2
        subst h3
        have := Seg.one 0 op ms' h1 hs
        rwa [hl, Nat.zero_add] at this

theorem good_take {ns : List Nd} (hg : Good ns) {m : Nat} (h0 : 0 < m) (hm : m ≤ ns.length) : Good (ns.take m) := by
  have := hg.le
  refine ⟨by rw [List.length_take]; omega, by rw [List.length_take]; omega, fun i nd hi => ?_⟩
  have hl := (List.getElem?_eq_some_iff.1 hi).1
  rw [List.length_take] at hl
  rw [List.getElem?_take_of_lt (by omega)] at hi
  exact hg.wf i nd hi

/-- The lower bits are those of the part. -/
theorem back_take {ns : List Nd} (hg : Good ns) {m : Nat} (h0 : 0 < m) (hm : m ≤ ns.length) (N : Nat) : ∀ u, EqOn m (tb (back ns u N)) (tb (back (ns.take m) u N))
  | [] => EqOn.refl _ _
  | a :: u => by
    have hl : (ns.take m).length = m := by rw [List.length_take]; omega
    have h1 := back_take hg h0 hm N u
    have hst : Step (ns.take m) a (tb (bef ns a (back ns u N))) (tb (back ns u N)) := fun k nd hk => by
      have hkl := (List.getElem?_eq_some_iff.1 hk).1
      rw [List.getElem?_take_of_lt (by omega)] at hk
      exact bef_step hg a _ k nd hk
    have := bef_eqOn (good_take hg h0 hm) hst (N := back (ns.take m) u N) (by rw [hl]; exact h1.symm)
    rw [hl] at this
    exact this.symm

def orS (ns : List Nd) (σ : Nat → Bool) : List Nat → Nat → Bool
  | [], _ => false
  | a :: u, b => hOf ns σ (a :: u) b || orS ns σ u b
def andS (ns : List Nd) (σ : Nat → Bool) : List Nat → Nat → Bool
  | [], _ => true
  | a :: u, b => hOf ns σ (a :: u) b && andS ns σ u b
theorem orS_rise {ns : List Nd} (hg : Good ns) {σ : Nat → Bool} (hs : Signs σ ns) (ht : σ (ns.length - 1) = true) (h6 : (relF 0 ns).length ≤ 6) : ∀ u, Rise 6 (orS ns σ u)
  | [] => fun a b _ _ _ h => by simp [orS] at h
  | a :: u => fun x y hx hy hsub h => by
    rw [orS, Bool.or_eq_true] at h ⊢
    exact h.imp (hOf_rise hg hs ht h6 (by simp) x y hx hy hsub) (orS_rise hg hs ht h6 u x y hx hy hsub)
theorem andS_rise {ns : List Nd} (hg : Good ns) {σ : Nat → Bool} (hs : Signs σ ns) (ht : σ (ns.length - 1) = true) (h6 : (relF 0 ns).length ≤ 6) : ∀ u, Rise 6 (andS ns σ u)
  | [] => fun a b _ _ _ h => rfl
  | a :: u => fun x y hx hy hsub h => by
    rw [andS, Bool.and_eq_true] at h ⊢
    exact ⟨hOf_rise hg hs ht h6 (by simp) x y hx hy hsub h.1, andS_rise hg hs ht h6 u x y hx hy hsub h.2⟩

/-- The same by some rising function of six bools for each word. -/
theorem few_by {ns : List Nd} (hg : Good ns) {liv : Nat → Bool} (hl : LivP ns (calmsTo ns ns.length) liv) (us : List (List Nat)) (hu : ∀ u ∈ us, ∀ x ∈ u, x < 8)
    (hd : (us.map fun u => gv (runG ns liv (begB ns liv) u)).Nodup) (F : List Nat → Nat → Bool) (hF : ∀ u ∈ us, Rise 6 (F u)) (P : Nat → Nat) (hP : ∀ N, P N < 2 ^ 6) (C : Nat → Bool → Bool)
    (hC : ∀ u ∈ us, ∀ N, (back ns u N).testBit (ns.length - 1) = C N (F u (P N))) : us.length ≤ 796594176 := by
  have key : (us.map fun u => tab 6 (F u)).Nodup := by
    rw [List.nodup_iff_pairwise_ne, List.pairwise_map] at hd ⊢
    refine List.Pairwise.imp_of_mem ?_ hd
    intro u v hu1 hv1 hne e
    refine hne (gv_congr fun N hN => ?_)
    rw [Bool.eq_iff_iff, runG_iff hg hl u (hu u hu1), runG_iff hg hl v (hu v hv1), hC u hu1, hC v hv1, tab_inj e (hP N)]
  have := nodup_sub _ m6 key (fun x hx => by
    obtain ⟨u, hu1, rfl⟩ := List.mem_map.1 hx
    exact mem_m6 (hF u hu1))
  rw [m6_len] at this
  simpa using this

theorem few_two {ns : List Nd} (hg : Good ns) (ht : Seg 0 ns) {liv : Nat → Bool} (hl : LivP ns (calmsTo ns ns.length) liv) (us : List (List Nat)) (hu : ∀ u ∈ us, 2 ≤ u.length ∧ ∀ x ∈ u, x < 8)
    (hd : (us.map fun u => gv (runG ns liv (begB ns liv) u)).Nodup) : us.length ≤ 796594176 := by
  have h8 := hg.le
  by_cases h6 : (relF 0 ns).length ≤ 6
  · exact few_six hg ht h6 hl us (fun u h => ⟨fun e => by have := (hu u h).1; rw [e] at this; simp at this, (hu u h).2⟩) hd
  · obtain ⟨c1, c2⟩ := seg_counts ht
    rw [relF_len, show ns.countP (fun nd => tempB nd.op) = cntN nd_tmp ns from rfl] at h6
    have n2 : cntN nd_two ns = 0 := by omega
    have n3 : cntN nd_not ns = 0 := by omega
    have hlen : ns.length = 8 := by omega
    have hch := seg_chain ht n2 n3
    have wf := hg.wf
    have hg7 := good_take hg (m := 7) (by omega) (by omega)
    have l7 : (ns.take 7).length = 7 := by rw [List.length_take]; omega
    have s7 : Seg 0 (ns.take 7) := chain_seg _ (fun i nd hi => by
      have hil := (List.getElem?_eq_some_iff.1 hi).1
      rw [List.getElem?_take_of_lt (by omega)] at hi
      rcases hch i nd hi with ⟨h1, h2⟩ | ⟨h1, h2, _, h3, h4⟩
      · rcases wf i nd hi with ⟨_, a, b⟩ | ⟨a, b, _⟩ | ⟨a, b, _⟩
        · exact Or.inl ⟨h1, h2, a, b⟩
        · omega
        · omega
      · exact Or.inr ⟨h1, h2, by omega, h4⟩) (by omega)
    have h67 : (relF 0 (ns.take 7)).length ≤ 6 := by
      obtain ⟨d1, d2⟩ := seg_counts s7
      rw [relF_len, show (ns.take 7).countP (fun nd => tempB nd.op) = cntN nd_tmp (ns.take 7) from rfl]
      omega
    obtain ⟨σ, hr, hs0⟩ := seg_sign s7 true
    have hs : Signs σ (ns.take 7) := fun i nd hi => by have := hs0 i nd hi; rwa [Nat.zero_add] at this
    rw [Nat.zero_add] at hr
    obtain ⟨nd, hn⟩ : ∃ nd, ns[7]? = some nd := ⟨ns[7], List.getElem?_eq_getElem (by omega)⟩
    have hP : ∀ N, pj (ns.take 7) σ N < 2 ^ 6 := fun N => cdTo_pow _ (by omega)
    have b6 : ∀ u N, u ≠ [] → (back ns u N).testBit 6 = hOf (ns.take 7) σ u (pj (ns.take 7) σ N) := fun u N hne => by
      rw [hOf_pj hg7 hs h67 hne, l7]
      exact back_take hg (m := 7) (by omega) (by omega) N u 6 (by omega)
    rcases hch 7 nd hn with ⟨h1, _⟩ | ⟨_, h1, h2, h3, _⟩
    · omega
    · have hstep : ∀ a u N, (back ns (a :: u) N).testBit 7 = lawB nd.op a ((back ns (a :: u) N).testBit 6) ((back ns (a :: u) N).testBit nd.r) ((back ns u N).testBit 7) ((back ns u N).testBit 6) := fun a u N => by
        have := bef_step hg a (back ns u N) 7 nd hn
        simp only [tb] at this
        rw [show nd.l = 6 by omega] at this
        exact this
      simp only [oneB, Bool.or_eq_true, beq_iff_eq] at h1
      rcases h1 with ((h1 | h1) | h1) | h1
      · exact absurd h1 h2
      · refine few_by hg hl us (fun u h => (hu u h).2) hd (fun u => hOf (ns.take 7) σ u.tail) (fun u h => ?_) (pj (ns.take 7) σ) hP (fun _ b => b) (fun u h N => ?_)
        · obtain ⟨q1, _⟩ := hu u h
          refine hOf_rise hg7 hs hr h67 ?_
          cases u with
          | nil => simp at q1
          | cons a u => cases u with
            | nil => simp at q1
            | cons b u => simp
        · obtain ⟨q1, _⟩ := hu u h
          cases u with
          | nil => simp at q1
          | cons a u =>
            rw [hlen]
            show (back ns (a :: u) N).testBit 7 = _
            rw [hstep]
            simp only [lawB, h1]
            simp only [List.tail_cons]
            exact b6 u N (by intro e; rw [e] at q1; simp at q1)
      · have root : ∀ u N, (back ns u N).testBit 7 = (orS (ns.take 7) σ u (pj (ns.take 7) σ N) || N.testBit 7) := by
          intro u N
          induction u with
          | nil => simp [orS, back]
          | cons a u ih =>
            rw [hstep]
            simp only [lawB, h1]
            rw [orS, ← b6 (a :: u) N (by simp), Bool.or_assoc, ← ih]
            simp
        refine few_by hg hl us (fun u h => (hu u h).2) hd (orS (ns.take 7) σ) (fun u _ => orS_rise hg7 hs hr h67 u) (pj (ns.take 7) σ) hP (fun N b => b || N.testBit 7) (fun u h N => ?_)
        rw [hlen]
        exact root u N
      · have root : ∀ u N, (back ns u N).testBit 7 = (andS (ns.take 7) σ u (pj (ns.take 7) σ N) && N.testBit 7) := by
          intro u N
          induction u with
          | nil => simp [andS, back]
          | cons a u ih =>
            rw [hstep]
            simp only [lawB, h1]
            rw [andS, ← b6 (a :: u) N (by simp), Bool.and_assoc, ← ih]
            simp
        refine few_by hg hl us (fun u h => (hu u h).2) hd (andS (ns.take 7) σ) (fun u _ => andS_rise hg7 hs hr h67 u) (pj (ns.take 7) σ) hP (fun N b => b && N.testBit 7) (fun u h N => ?_)
        rw [hlen]
        exact root u N

/-- Words that lead to unlike groups are few. -/
theorem few {ns : List Nd} (hg : Good ns) (ht : Seg 0 ns) {liv : Nat → Bool} (hl : LivP ns (calmsTo ns ns.length) liv) (us : List (List Nat)) (hu : ∀ u ∈ us, ∀ x ∈ u, x < 8)
    (hd : (us.map fun u => gv (runG ns liv (begB ns liv) u)).Nodup) : us.length ≤ 796594185 := by
  have hnd : us.Nodup := by
    rw [List.nodup_iff_pairwise_ne, List.pairwise_map] at hd
    rw [List.nodup_iff_pairwise_ne]
    exact hd.imp fun h e => h (by rw [e])
  have h1 := few_two hg ht hl (us.filter fun u => decide (2 ≤ u.length)) (fun u h => by
    rw [List.mem_filter] at h
    exact ⟨by simpa using h.2, hu u h.1⟩) (List.Nodup.sublist (List.Sublist.map _ List.filter_sublist) hd)
  have h2 : (us.filter fun u => !decide (2 ≤ u.length)).length ≤ 9 := by
    have := nodup_sub (us.filter fun u => !decide (2 ≤ u.length)) ([] :: (List.range 8).map fun x => [x]) (hnd.sublist List.filter_sublist) (fun u h => by
      rw [List.mem_filter] at h
      obtain ⟨h3, h4⟩ := h
      cases u with
      | nil => simp
      | cons a u => cases u with
        | nil =>
          have := hu [a] h3 a (by simp)
          simp [this]
        | cons b u => simp at h4)
    simpa using this
  have h3 := filter_both (fun u : List Nat => decide (2 ≤ u.length)) us
  omega

end Go.Proofs.Ytjagijohfkffiab
