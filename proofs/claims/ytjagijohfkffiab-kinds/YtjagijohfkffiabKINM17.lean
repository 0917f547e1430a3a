import Derived.Test.YtjagijohfkffiabKINM12
import Derived.Test.YtjagijohfkffiabKINM16

/- Plain mathematics: what the program's groups tell is the verdict. -/
namespace Go.Proofs.Ytjagijohfkffiab
set_option linter.unusedVariables false

theorem law_congr {nd : Nd} {i x : Nat} {a b a' b' t n : Bool} (hw : (leafB nd.op = true ∧ nd.l = 0 ∧ nd.r = 0) ∨ (oneB nd.op = true ∧ nd.l < i ∧ nd.r = 0) ∨ (twoB nd.op = true ∧ nd.l < i ∧ nd.r < i)) (hl : nd.l < i → a = a') (hr : nd.r < i → b = b') : lawB nd.op x a b t n = lawB nd.op x a' b' t n := by
  rcases hw with ⟨h, _, _⟩ | ⟨h, h1, _⟩ | ⟨h, h1, h2⟩
  · simp [leafB] at h
    rcases h with (((h | h) | h) | h) | h <;> simp [lawB, h]
  · rw [hl h1]
    simp [oneB] at h
    rcases h with ((h | h) | h) | h <;> simp [lawB, h]
  · rw [hl h1, hr h2]

def cdTo (S : Nat → Bool) : Nat → Nat
  | 0 => 0
  | k + 1 => wth (cdTo S k) k (S k)
theorem cdTo_lt (S : Nat → Bool) : ∀ k, k ≤ 8 → cdTo S k < 256
  | 0, _ => by simp [cdTo]
  | k + 1, h => wth_lt (cdTo_lt S k (by omega)) (by omega)
theorem cdTo_bit (S : Nat → Bool) : ∀ k, k ≤ 8 → ∀ j, j < 8 → (cdTo S k).testBit j = (if j < k then S j else false)
  | 0, _, j, _ => by simp [cdTo]
  | k + 1, h, j, hj => by
    rw [cdTo, wth_bit (cdTo_lt S k (by omega)) (by omega) hj, cdTo_bit S k (by omega) j hj]
    by_cases e : j = k
    · rw [if_pos e, if_pos (by omega), e]
    · rw [if_neg e]
      by_cases h2 : j < k
      · rw [if_pos h2, if_pos (by omega)]
      · rw [if_neg h2, if_neg (by omega)]
theorem cdTo_congr {S T : Nat → Bool} : ∀ k, (∀ j, j < k → S j = T j) → cdTo S k = cdTo T k
  | 0, _ => rfl
  | k + 1, h => by rw [cdTo, cdTo, cdTo_congr k (fun j hj => h j (by omega)), h k (by omega)]

def tb (v : Nat) : Nat → Bool := fun k => v.testBit k

theorem befTo_cd {ns : List Nd} (hg : Good ns) {x N : Nat} {S T : Nat → Bool} (hs : Step ns x S T) (hN : EqOn ns.length (tb N) T) : ∀ k, k ≤ ns.length → befTo ns x N k = cdTo S k
  | 0, _ => rfl
  | k + 1, h => by
    have h8 := hg.le
    have hn := ndAt_gets (ns := ns) (k := k) (by omega)
    obtain ⟨h1, h2, h3⟩ := wf2_lt hg.wf hn
    rw [befTo, cdTo, befTo_cd hg hs hN k (by omega), hs k _ hn]
    congr 1
    have e1 : N.testBit k = T k := hN k (by omega)
    have e2 : N.testBit (ndAt ns k).l = T (ndAt ns k).l := hN _ h2
    rw [e1, e2]
    exact law_congr (hg.wf k _ hn) (fun hl => by rw [cdTo_bit S k (by omega) _ (by omega), if_pos hl]) (fun hr => by rw [cdTo_bit S k (by omega) _ (by omega), if_pos hr])
theorem bef_cd {ns : List Nd} (hg : Good ns) {x N : Nat} {S T : Nat → Bool} (hs : Step ns x S T) (hN : EqOn ns.length (tb N) T) : bef ns x N = cdTo S ns.length := befTo_cd hg hs hN _ (Nat.le_refl _)
theorem cd_eqOn {ns : List Nd} (hg : Good ns) (S : Nat → Bool) : EqOn ns.length (tb (cdTo S ns.length)) S := fun k hk => by
  have h8 := hg.le
  show (cdTo S ns.length).testBit k = S k
  rw [cdTo_bit S _ h8 k (by omega), if_pos hk]
/-- The laws leave no choice. -/
theorem bef_eqOn {ns : List Nd} (hg : Good ns) {x N : Nat} {S T : Nat → Bool} (hs : Step ns x S T) (hN : EqOn ns.length (tb N) T) : EqOn ns.length (tb (bef ns x N)) S := by
  rw [bef_cd hg hs hN]; exact cd_eqOn hg S

theorem befTo_stable (ns : List Nd) (x N : Nat) {j k : Nat} (hj : j < k) : ∀ d, k + d ≤ 8 → (befTo ns x N (k + d)).testBit j = (befTo ns x N k).testBit j
  | 0, _ => rfl
  | d + 1, h => by
    rw [show k + (d + 1) = (k + d) + 1 by omega, befTo, wth_bit (befTo_lt ns x N _ (by omega)) (by omega) (by omega), if_neg (by omega)]
    exact befTo_stable ns x N hj d (by omega)
theorem bef_step {ns : List Nd} (hg : Good ns) (x N : Nat) : Step ns x (tb (bef ns x N)) (tb N) := by
  intro k nd hn
  have h8 := hg.le
  obtain ⟨h1, h2, h3⟩ := wf2_lt hg.wf hn
  have hnd : ndAt ns k = nd := by have := ndAt_gets (ns := ns) h1; rw [hn] at this; exact (Option.some.inj this).symm
  have st : ∀ j i, j < i → i ≤ ns.length → (bef ns x N).testBit j = (befTo ns x N i).testBit j := fun j i hj hi => by
    have := befTo_stable ns x N hj (ns.length - i) (by omega)
    rw [show i + (ns.length - i) = ns.length by omega] at this
    exact this
  show (bef ns x N).testBit k = _
  rw [st k (k + 1) (by omega) (by omega), befTo, wth_bit (befTo_lt ns x N k (by omega)) (by omega) (by omega), if_pos rfl, hnd]
  exact law_congr (hg.wf k nd hn) (fun hl => (st _ _ hl (by omega)).symm) (fun hr => (st _ _ hr (by omega)).symm)

theorem ew_any {ns : List Nd} {y a : Nat} : Ew 1 ns (anyInto 8) y a ↔ a < 256 ∧ ∃ l, l < 8 ∧ y = bef ns l a := by
  unfold Ew
  constructor
  · rintro ⟨ha, st, hs, rfl⟩
    have h0 : a / 256 = 0 := by omega
    rw [h0] at hs
    simp [anyInto] at hs
    obtain ⟨l, hl, rfl⟩ := hs
    exact ⟨by omega, l, hl, by simp [show a % 256 = a by omega]⟩
  · rintro ⟨ha, l, hl, rfl⟩
    refine ⟨by omega, (0, l), ?_, by simp [show a % 256 = a by omega]⟩
    have h0 : a / 256 = 0 := by omega
    rw [h0]
    simp [anyInto, hl]

theorem calm_kept {nd : Nd} {k x : Nat} {S T : Nat → Bool} (hs : S k = lawB nd.op x (S nd.l) (S nd.r) (T k) (T nd.l)) (hw : waitsB nd.op = true) : keptN nd k S = (S k == S (endN nd)) := by
  simp [waitsB, lastsB] at hw
  rcases hw with (h | h) | h | h
  · simp only [lawB, keptN, endN, h] at *
    simp at *
    rw [hs]
    cases S nd.l <;> cases T k <;> rfl
  · simp only [lawB, keptN, endN, h] at *
    simp at *
    rw [hs]
    cases S nd.l <;> cases S nd.r <;> cases T k <;> rfl
  · simp only [lawB, keptN, endN, h] at *
    simp at *
    rw [hs]
    cases S nd.l <;> cases T k <;> rfl
  · simp only [lawB, keptN, endN, h] at *
    simp at *
    rw [hs]
    cases S nd.l <;> cases S nd.r <;> cases T k <;> rfl
theorem kept_else {nd : Nd} {k : Nat} {S : Nat → Bool} (hw : waitsB nd.op = false) : keptN nd k S = true := by
  simp [waitsB, lastsB] at hw
  simp [keptN, hw]

theorem mem_spreads {ns : List Nd} {c : Nat → Bool} {m : Nat} : c ∈ spreads (calmsTo ns m) ↔ ∃ k, k < m ∧ waitsB (ndAt ns k).op = true ∧ c = spread (calmB k (endN (ndAt ns k))) := by
  simp only [spreads, calmsTo, List.map_map, List.mem_map, List.mem_filter, List.mem_range, Function.comp]
  constructor
  · rintro ⟨k, ⟨h1, h2⟩, rfl⟩; exact ⟨k, h1, h2, rfl⟩
  · rintro ⟨k, h1, h2, rfl⟩; exact ⟨k, ⟨h1, h2⟩, rfl⟩
theorem meets_of_all {cs : List (Nat → Bool)} {q : Nat → Nat} (h : ∀ c ∈ cs, ∀ t, ∃ t', t ≤ t' ∧ c (q t') = true) : Meets (KL cs) cs.length q := fun k hk t => by
  obtain ⟨t', h1, h2⟩ := h cs[k] (List.getElem_mem hk) t
  exact ⟨t', h1, cs[k], List.getElem?_eq_getElem hk, h2⟩

abbrev Lives (ns : List Nd) (v : Nat) : Prop := Forever (Ew 1 ns (anyInto 8)) (spreads (calmsTo ns ns.length)) v

/-- What lasts is the truth of some endless word. -/
theorem live_chain' {ns : List Nd} (hg : Good ns) {v : Nat} (h : Lives ns v) : chain ns [] (tb v) := by
  have h8 := hg.le
  obtain ⟨q, rfl, hq, hm⟩ := h
  have hx : ∀ t, ∃ l, l < 8 ∧ q t = bef ns l (q (t + 1)) := fun t => (ew_any.1 (hq t)).2
  have h256 : ∀ t, q t < 256 := fun t => by
    obtain ⟨l, _, e⟩ := hx t
    rw [e]; exact bef_lt h8 _ _
  refine ⟨fun t => Classical.choose (hx t), fun t => tb (q t), fun t => (Classical.choose_spec (hx t)).1, ⟨fun t => ?_, fun k nd hn t => ?_⟩, EqOn.refl _ _⟩
  · have := bef_step hg (Classical.choose (hx t)) (q (t + 1))
    rw [← (Classical.choose_spec (hx t)).2] at this
    exact this
  · obtain ⟨h1, h2, h3⟩ := wf2_lt hg.wf hn
    have hnd : ndAt ns k = nd := by have := ndAt_gets (ns := ns) h1; rw [hn] at this; exact (Option.some.inj this).symm
    cases hw : waitsB nd.op with
    | false => exact ⟨t, Nat.le_refl _, kept_else hw⟩
    | true =>
      obtain ⟨t', h4, h5⟩ := meets_all hm _ (mem_spreads.2 ⟨k, h1, by rw [hnd]; exact hw, rfl⟩) t
      refine ⟨t', h4, ?_⟩
      obtain ⟨l, _, e⟩ := hx t'
      have hst := bef_step hg l (q (t' + 1)) k nd hn
      rw [← e] at hst
      rw [calm_kept hst hw]
      have : q t' % 256 = q t' := Nat.mod_eq_of_lt (h256 t')
      simp only [spread, this, calmB, hnd] at h5
      exact h5
theorem chain_live' {ns : List Nd} (hg : Good ns) {S : Nat → Bool} (h : chain ns [] S) : Lives ns (cdTo S ns.length) := by
  have h8 := hg.le
  obtain ⟨x, S', hl, hr, he⟩ := h
  have lt : ∀ t, cdTo (S' t) ns.length < 256 := fun t => cdTo_lt _ _ h8
  refine ⟨fun t => cdTo (S' t) ns.length, cdTo_congr _ he, fun t => ?_, meets_of_all fun c hc t => ?_⟩
  · exact ew_any.2 ⟨lt _, x t, hl t, (bef_cd hg (hr.step t) (cd_eqOn hg _)).symm⟩
  · obtain ⟨k, h1, h2, rfl⟩ := mem_spreads.1 hc
    have hn := ndAt_gets (ns := ns) h1
    obtain ⟨_, h3, h4⟩ := wf2_lt hg.wf hn
    obtain ⟨t', h5, h6⟩ := hr.kept k _ hn t
    refine ⟨t', h5, ?_⟩
    rw [calm_kept (hr.step t' k _ hn) h2] at h6
    have e1 := cd_eqOn hg (S' t') k h1
    have hen : endN (ndAt ns k) < ns.length := by unfold endN; split <;> omega
    have e2 := cd_eqOn hg (S' t') _ hen
    have e3 : cdTo (S' t') ns.length % 256 = cdTo (S' t') ns.length := Nat.mod_eq_of_lt (lt t')
    simp only [tb] at e1 e2
    simp only [spread, calmB, e3, e1, e2]
    exact h6

theorem lives_bef {ns : List Nd} {x N : Nat} (hx : x < 8) (h : Lives ns N) (hN : N < 256) : Lives ns (bef ns x N) := by
  obtain ⟨q, h0, hq, hm⟩ := h
  refine ⟨fun t => if t = 0 then bef ns x N else q (t - 1), rfl, fun t => ?_, fun k hk t => ?_⟩
  · cases t with
    | zero => simp; rw [h0]; exact ew_any.2 ⟨hN, x, hx, rfl⟩
    | succ t => simpa using hq t
  · obtain ⟨t', h1, h2⟩ := hm k hk t
    exact ⟨t' + 1, by omega, by simpa using h2⟩
theorem lives_lt {ns : List Nd} (h8 : ns.length ≤ 8) {v : Nat} (h : Lives ns v) : v < 256 := by
  obtain ⟨q, rfl, hq, _⟩ := h
  obtain ⟨_, l, _, e⟩ := ew_any.1 (hq 0)
  rw [e]; exact bef_lt h8 _ _

/-- The view at the start, from the one behind the word. -/
def back (ns : List Nd) : List Nat → Nat → Nat
  | [], N => N
  | a :: u, N => bef ns a (back ns u N)
theorem back_snoc (ns : List Nd) (u : List Nat) (x N : Nat) : back ns (u ++ [x]) N = back ns u (bef ns x N) := by
  induction u with
  | nil => rfl
  | cons a u ih => simp [back, ih]

theorem runG_iff {ns : List Nd} (hg : Good ns) {liv : Nat → Bool} (hl : LivP ns (calmsTo ns ns.length) liv) (u : List Nat) (hu : ∀ x ∈ u, x < 8) : ∀ N, (runG ns liv (begB ns liv) u N = true ↔ liv N = true ∧ (back ns u N).testBit (ns.length - 1) = true) := by
  have h8 := hg.le
  generalize hn : u.length = n
  induction n generalizing u with
  | zero =>
    obtain rfl := List.eq_nil_of_length_eq_zero hn
    intro N
    simp [runG, begB, back]
  | succ n ih =>
    intro N
    obtain ⟨u', x, rfl⟩ : ∃ u' x, u = u' ++ [x] := ⟨u.dropLast, u.getLast (by intro e; rw [e] at hn; simp at hn), (List.dropLast_concat_getLast _).symm⟩
    rw [runG_snoc, back_snoc]
    have hx := hu x (by simp)
    unfold stepG
    rw [Bool.and_eq_true, ih u' (fun y hy => hu y (by simp [hy])) (by simpa using hn)]
    constructor
    · rintro ⟨h1, _, h2⟩; exact ⟨h1, h2⟩
    · rintro ⟨h1, h2⟩
      have hN := (hl N).1 h1
      exact ⟨h1, (hl _).2 (lives_bef hx hN (lives_lt h8 hN)), h2⟩

theorem chain_back {ns : List Nd} (hg : Good ns) : ∀ (u : List Nat) (S : Nat → Bool), chain ns u S → ∃ N, Lives ns N ∧ EqOn ns.length (tb (back ns u N)) S
  | [], S, h => ⟨cdTo S ns.length, chain_live' hg h, cd_eqOn hg S⟩
  | a :: u, S, ⟨_, T, hs, hc⟩ => by
    obtain ⟨N, h1, h2⟩ := chain_back hg u T hc
    exact ⟨N, h1, bef_eqOn hg hs h2⟩
theorem back_chain {ns : List Nd} (hg : Good ns) : ∀ (u : List Nat) (hu : ∀ x ∈ u, x < 8) (N : Nat), Lives ns N → chain ns u (tb (back ns u N))
  | [], _, N, h => live_chain' hg h
  | a :: u, hu, N, h => ⟨hu a (by simp), tb (back ns u N), bef_step hg a _, back_chain hg u (fun x hx => hu x (by simp [hx])) N h⟩
theorem may_back {ns : List Nd} (hg : Good ns) {u : List Nat} (hu : ∀ x ∈ u, x < 8) (b : Bool) : May ns u b ↔ ∃ N, Lives ns N ∧ (back ns u N).testBit (ns.length - 1) = b := by
  have hp := hg.pos
  rw [may_iff hg]
  constructor
  · rintro ⟨S, h1, h2⟩
    obtain ⟨N, h3, h4⟩ := chain_back hg u S h2
    exact ⟨N, h3, by rw [← h1]; exact h4 _ (by omega)⟩
  · rintro ⟨N, h1, h2⟩
    exact ⟨_, h2, back_chain hg u hu N h1⟩

/-- What the groups tell is the verdict. -/
theorem verdG_verdict {ns : List Nd} (hg : Good ns) {liv : Nat → Bool} (hl : LivP ns (calmsTo ns ns.length) liv) {u : List Nat} (hu : ∀ x ∈ u, x < 8) : Verdict ns u (verdG liv (runG ns liv (begB ns liv) u)) := by
  have h8 := hg.le
  have hr := runG_iff hg hl u hu
  have mt := may_back hg hu true
  have mf := may_back hg hu false
  have ht : geq (runG ns liv (begB ns liv) u) (fun _ => false) = true ↔ ¬ May ns u true := by
    rw [geq_iff, mt]
    constructor
    · rintro h ⟨N, h1, h2⟩
      have := h N (lives_lt h8 h1)
      rw [(hr N).2 ⟨(hl N).2 h1, h2⟩] at this
      cases this
    · intro h N hN
      cases e : runG ns liv (begB ns liv) u N with
      | false => rfl
      | true =>
        obtain ⟨h1, h2⟩ := (hr N).1 e
        exact absurd ⟨N, (hl N).1 h1, h2⟩ h
  have hf : geq (runG ns liv (begB ns liv) u) liv = true ↔ ¬ May ns u false := by
    rw [geq_iff, mf]
    constructor
    · rintro h ⟨N, h1, h2⟩
      have h3 := h N (lives_lt h8 h1)
      rw [(hl N).2 h1] at h3
      rw [((hr N).1 h3).2] at h2
      cases h2
    · intro h N hN
      cases e : runG ns liv (begB ns liv) u N with
      | true => exact ((hr N).1 e).1.symm
      | false =>
        cases e2 : liv N with
        | false => rfl
        | true =>
          exfalso
          refine h ⟨N, (hl N).1 e2, ?_⟩
          cases e3 : (back ns u N).testBit (ns.length - 1) with
          | false => rfl
          | true => rw [(hr N).2 ⟨e2, e3⟩] at e; cases e
  have some_ : May ns u true ∨ May ns u false := by
    obtain ⟨S, hS, hR⟩ := erow_truth hg.wf (fun i => u.getD i 0)
    have hL : Letters (fun i => u.getD i 0) := fun t => by
      show u.getD t 0 < 8
      rw [List.getD]
      cases e : u[t]? with
      | none => simp
      | some y => exact hu y (List.mem_of_getElem? e)
    by_cases h3 : sem (fun i => i + 1) (fun i => u.getD i 0) ns (ns.length - 1) 0
    · exact Or.inl ⟨_, hL, fun i _ => rfl, by simpa using h3⟩
    · exact Or.inr ⟨_, hL, fun i _ => rfl, by simpa using h3⟩
  unfold verdG
  by_cases h1 : geq (runG ns liv (begB ns liv) u) liv = true
  · rw [if_pos h1]
    have := hf.1 h1
    exact Or.inr (Or.inl ⟨rfl, some_.resolve_right this, this⟩)
  · rw [if_neg h1]
    have hm : May ns u false := Classical.byContradiction fun h => h1 (hf.2 h)
    by_cases h2 : geq (runG ns liv (begB ns liv) u) (fun _ => false) = true
    · rw [if_pos h2]
      exact Or.inl ⟨rfl, ht.1 h2⟩
    · rw [if_neg h2]
      exact Or.inr (Or.inr ⟨rfl, Classical.byContradiction fun h => h2 (ht.2 h), hm⟩)

end Go.Proofs.Ytjagijohfkffiab

/- Plain mathematics: the nodes of a formula are a tree: signs, and how many wait. -/
namespace Go.Proofs.Ytjagijohfkffiab
set_option linter.unusedVariables false

/-- The nodes of one formula, the first of which has the number b; made in k steps. -/
def SegN : Nat → Nat → List Nd → Prop
  | 0, _, _ => False
  | k + 1, b, ns => (∃ op, leafB op = true ∧ ns = [⟨op, 0, 0⟩]) ∨ (∃ op ms, oneB op = true ∧ SegN k b ms ∧ ns = ms ++ [⟨op, b + ms.length - 1, 0⟩])
    ∨ (∃ op ms ls, twoB op = true ∧ SegN k b ms ∧ SegN k (b + ms.length) ls ∧ ns = ms ++ ls ++ [⟨op, b + ms.length - 1, b + ms.length + ls.length - 1⟩])
def Seg (b : Nat) (ms : List Nd) : Prop := ∃ k, SegN k b ms
theorem segN_more : ∀ (k b : Nat) (ms : List Nd), SegN k b ms → SegN (k + 1) b ms
  | 0, _, _, h => h.elim
  | k + 1, b, ms, h => by
    rcases h with h | ⟨op, m, h1, h2, h3⟩ | ⟨op, m, l, h1, h2, h3, h4⟩
    · exact Or.inl h
    · exact Or.inr (Or.inl ⟨op, m, h1, segN_more k b m h2, h3⟩)
    · exact Or.inr (Or.inr ⟨op, m, l, h1, segN_more k b m h2, segN_more k _ l h3, h4⟩)
theorem segN_le {k b : Nat} {ms : List Nd} (h : SegN k b ms) : ∀ d, SegN (k + d) b ms
  | 0 => h
  | d + 1 => segN_more _ _ _ (segN_le h d)
theorem Seg.leaf (b op : Nat) (h : leafB op = true) : Seg b [⟨op, 0, 0⟩] := ⟨1, Or.inl ⟨op, h, rfl⟩⟩
theorem Seg.one (b op : Nat) (ms : List Nd) (h : oneB op = true) (hs : Seg b ms) : Seg b (ms ++ [⟨op, b + ms.length - 1, 0⟩]) := by
  obtain ⟨k, hk⟩ := hs
  exact ⟨k + 1, Or.inr (Or.inl ⟨op, ms, h, hk, rfl⟩)⟩
theorem Seg.two (b op : Nat) (ms ls : List Nd) (h : twoB op = true) (h1 : Seg b ms) (h2 : Seg (b + ms.length) ls) : Seg b (ms ++ ls ++ [⟨op, b + ms.length - 1, b + ms.length + ls.length - 1⟩]) := by
  obtain ⟨k, hk⟩ := h1
  obtain ⟨j, hj⟩ := h2
  refine ⟨(k + j) + 1, Or.inr (Or.inr ⟨op, ms, ls, h, segN_le hk j, ?_, rfl⟩)⟩
  rw [Nat.add_comm]
  exact segN_le hj k
theorem seg_ind {motive : (b : Nat) → (ms : List Nd) → Seg b ms → Prop} (leaf : ∀ (b op : Nat) (h : leafB op = true), motive b [⟨op, 0, 0⟩] (Seg.leaf b op h))
    (one : ∀ (b op : Nat) (ms : List Nd) (h : oneB op = true) (hs : Seg b ms), motive b ms hs → motive b (ms ++ [⟨op, b + ms.length - 1, 0⟩]) (Seg.one b op ms h hs))
    (two : ∀ (b op : Nat) (ms ls : List Nd) (h : twoB op = true) (h1 : Seg b ms) (h2 : Seg (b + ms.length) ls), motive b ms h1 → motive (b + ms.length) ls h2 → motive b (ms ++ ls ++ [⟨op, b + ms.length - 1, b + ms.length + ls.length - 1⟩]) (Seg.two b op ms ls h h1 h2))
    {b : Nat} {ms : List Nd} (t : Seg b ms) : motive b ms t := by
  obtain ⟨k, hk⟩ := t
  induction k generalizing b ms with
  | zero => exact hk.elim
  | succ k ih =>
    have hk' := hk
    rcases hk' with ⟨op, h, rfl⟩ | ⟨op, m, h1, h2, rfl⟩ | ⟨op, m, l, h1, h2, h3, rfl⟩
    · exact leaf b op h
    · exact one b op m h1 ⟨k, h2⟩ (ih h2)
    · exact two b op m l h1 ⟨k, h2⟩ ⟨k, h3⟩ (ih h2) (ih h3)

theorem ps_seg : ∀ (k : Nat) (s : ByteArray) (a : Nat) (ns : List Nd) (a' : Nat) (ns' : List Nd), ps k s a ns = some (a', ns') → ∃ ms, ns' = ns ++ ms ∧ Seg ns.length ms
  | 0, _, _, _, _, _, h => by simp [ps] at h
  | k + 1, s, a, ns, a', ns', h => by
    by_cases b1 : leafB (bt s a) = true
    · rw [ps_leaf b1] at h
      simp only [Option.some.injEq, Prod.mk.injEq] at h
      obtain ⟨rfl, rfl⟩ := h
      exact ⟨_, rfl, Seg.leaf _ _ b1⟩
    · rw [Bool.not_eq_true] at b1
      by_cases b2 : oneB (bt s a) = true
      · rw [ps_one b2] at h
        unfold ps1 at h
        cases e : ps k s (a + 1) ns with
        | none => rw [e] at h; simp at h
        | some x =>
          obtain ⟨a1, n1⟩ := x
          rw [e] at h
          simp only [Option.some.injEq, Prod.mk.injEq] at h
          obtain ⟨rfl, rfl⟩ := h
          obtain ⟨ms, rfl, hs⟩ := ps_seg k s _ _ _ _ e
          refine ⟨_, List.append_assoc _ _ _, ?_⟩
          rw [List.length_append]
          exact Seg.one _ _ _ b2 hs
      · rw [Bool.not_eq_true] at b2
        by_cases b3 : bt s a = 40
        · rw [ps_two b3] at h
          unfold ps2 at h
          cases e : ps k s (a + 1) ns with
          | none => rw [e] at h; simp at h
          | some x =>
            obtain ⟨a1, n1⟩ := x
            rw [e] at h
            simp only at h
            by_cases b4 : twoB (bt s a1) = true
            · rw [if_pos b4] at h
              cases e2 : ps k s (a1 + 1) n1 with
              | none => rw [e2] at h; simp at h
              | some x =>
                obtain ⟨a2, n2⟩ := x
                rw [e2] at h
                simp only at h
                by_cases b5 : bt s a2 = 41
                · rw [if_pos b5] at h
                  simp only [Option.some.injEq, Prod.mk.injEq] at h
                  obtain ⟨rfl, rfl⟩ := h
                  obtain ⟨ms, rfl, h1⟩ := ps_seg k s _ _ _ _ e
                  obtain ⟨ls, rfl, h2⟩ := ps_seg k s _ _ _ _ e2
                  rw [List.length_append] at h2
                  have h3 := Seg.two ns.length (bt s a1) ms ls b4 h1 h2
                  refine ⟨_, ?_, h3⟩
                  simp only [List.append_assoc, List.length_append]
                  rw [show ns.length + (ms.length + ls.length) - 1 = ns.length + ms.length + ls.length - 1 by omega]
                · rw [if_neg b5] at h; simp at h
            · rw [if_neg b4] at h; simp at h
        · rw [ps_no b1 b2 b3] at h; simp at h

theorem parse_seg {s : ByteArray} (h : (parseOf s).1 = 0) : Seg 0 (parseOf s).2 := by
  unfold parseOf at h ⊢
  split at h
  · simp at h
  · rename_i h1
    rw [if_neg h1]
    cases e : ps 25 s 0 [] with
    | none => rw [e] at h; simp at h
    | some x =>
      obtain ⟨a, ns⟩ := x
      rw [e] at h
      simp only at h ⊢
      split at h
      · rename_i h2
        rw [if_pos h2]
        split at h
        · simp at h
        · rename_i h3
          rw [if_neg h3]
          obtain ⟨ms, e2, hs⟩ := ps_seg _ _ _ _ _ _ e
          simp only [List.nil_append] at e2
          subst e2
          exact hs
      · simp at h

theorem seg_pos {b : Nat} {ms : List Nd} (h : Seg b ms) : 0 < ms.length := by
  induction h using seg_ind <;> simp <;> omega

/-- Where the nodes below a node lie. -/
theorem seg_range {b : Nat} {ms : List Nd} (h : Seg b ms) : ∀ i nd, ms[i]? = some nd → leafB nd.op = true ∨ (oneB nd.op = true ∧ b ≤ nd.l ∧ nd.l < b + i) ∨ (twoB nd.op = true ∧ b ≤ nd.l ∧ nd.l < b + i ∧ b ≤ nd.r ∧ nd.r < b + i) := by
  induction h using seg_ind with
  | leaf b op ho =>
    intro i nd hi
    cases i with
    | zero => simp at hi; subst hi; exact Or.inl ho
    | succ i => simp at hi
  | one b op ms ho hs ih =>
    intro i nd hi
    have hp := seg_pos hs
    by_cases e : i < ms.length
    · rw [List.getElem?_append_left e] at hi; exact ih i nd hi
    · rw [List.getElem?_append_right (by omega)] at hi
      have e2 : i = ms.length := by
        have := (List.getElem?_eq_some_iff.1 hi).1
        simp at this; omega
      subst e2
      simp at hi
      subst hi
      exact Or.inr (Or.inl ⟨ho, by simp only; omega, by simp only; omega⟩)
  | two b op ms ls ho h1 h2 ih1 ih2 =>
    intro i nd hi
    have p1 := seg_pos h1
    have p2 := seg_pos h2
    by_cases e : i < ms.length + ls.length
    · rw [List.getElem?_append_left (by rw [List.length_append]; exact e)] at hi
      by_cases e1 : i < ms.length
      · rw [List.getElem?_append_left e1] at hi; exact ih1 i nd hi
      · rw [List.getElem?_append_right (by omega)] at hi
        rcases ih2 _ nd hi with h | ⟨h, h3, h4⟩ | ⟨h, h3, h4, h5, h6⟩
        · exact Or.inl h
        · exact Or.inr (Or.inl ⟨h, by omega, by omega⟩)
        · exact Or.inr (Or.inr ⟨h, by omega, by omega, by omega, by omega⟩)
    · rw [List.getElem?_append_right (by rw [List.length_append]; omega)] at hi
      have e2 : i = ms.length + ls.length := by
        have := (List.getElem?_eq_some_iff.1 hi).1
        simp at this; omega
      subst e2
      simp at hi
      subst hi
      exact Or.inr (Or.inr ⟨ho, by simp only; omega, by simp only; omega, by simp only; omega, by simp only; omega⟩)

/-- A sign for each node: turned by each '!'. -/
def SignAt (σ : Nat → Bool) (j : Nat) (nd : Nd) : Prop := (oneB nd.op = true → σ nd.l = (if nd.op = 33 then !σ j else σ j)) ∧ (twoB nd.op = true → σ nd.l = σ j ∧ σ nd.r = σ j)
theorem signAt_congr {σ τ : Nat → Bool} {j : Nat} {nd : Nd} (h : SignAt σ j nd) (hj : τ j = σ j) (hl : oneB nd.op = true ∨ twoB nd.op = true → τ nd.l = σ nd.l) (hr : twoB nd.op = true → τ nd.r = σ nd.r) : SignAt τ j nd :=
  ⟨fun ho => by rw [hl (Or.inl ho), hj]; exact h.1 ho, fun ho => by rw [hl (Or.inr ho), hr ho, hj]; exact h.2 ho⟩
theorem leaf_sign {σ : Nat → Bool} {j : Nat} {nd : Nd} (h : leafB nd.op = true) : SignAt σ j nd := by
  have h1 : oneB nd.op = false := by
    cases e : oneB nd.op with
    | false => rfl
    | true => rw [leaf_not_one e] at h; cases h
  have h2 : twoB nd.op = false := by
    simp only [leafB, Bool.or_eq_true, beq_iff_eq] at h
    rcases h with (((h | h) | h) | h) | h <;> rw [h] <;> decide
  exact ⟨fun h => (by rw [h1] at h; cases h), fun h => (by rw [h2] at h; cases h)⟩
theorem two_not_one {b : Nat} (h : twoB b = true) : oneB b = false := by
  simp only [twoB, Bool.or_eq_true, beq_iff_eq] at h
  rcases h with ((h | h) | h) | h <;> rw [h] <;> decide
theorem seg_sign {b : Nat} {ms : List Nd} (h : Seg b ms) : ∀ s : Bool, ∃ σ : Nat → Bool, σ (b + ms.length - 1) = s ∧ ∀ i nd, ms[i]? = some nd → SignAt σ (b + i) nd := by
  induction h using seg_ind with
  | leaf b op ho =>
    intro s
    refine ⟨fun _ => s, rfl, fun i nd hi => ?_⟩
    cases i with
    | zero => simp at hi; subst hi; exact leaf_sign ho
    | succ i => simp at hi
  | one b op ms ho hs ih =>
    intro s
    have hp := seg_pos hs
    obtain ⟨σ, h1, h2⟩ := ih (if op = 33 then !s else s)
    refine ⟨fun j => if j = b + ms.length then s else σ j, by simp, fun i nd hi => ?_⟩
    by_cases e : i < ms.length
    · rw [List.getElem?_append_left e] at hi
      refine signAt_congr (h2 i nd hi) (by rw [if_neg (by omega)]) (fun hh => ?_) (fun hh => ?_)
      · rw [if_neg]
        rcases seg_range hs i nd hi with h | ⟨h, h3, h4⟩ | ⟨h, h3, h4, h5, h6⟩
        · have l1 : oneB nd.op = false := by
            cases e : oneB nd.op with
            | false => rfl
            | true => rw [leaf_not_one e] at h; cases h
          have l2 := (leaf_sign (σ := fun _ => true) (j := 0) h)
          rcases hh with hh | hh
          · rw [l1] at hh; cases hh
          · have : twoB nd.op = false := by
              simp only [leafB, Bool.or_eq_true, beq_iff_eq] at h
              rcases h with (((h | h) | h) | h) | h <;> rw [h] <;> decide
            rw [this] at hh; cases hh
        · omega
        · omega
      · rw [if_neg]
        rcases seg_range hs i nd hi with h | ⟨h, h3, h4⟩ | ⟨h, h3, h4, h5, h6⟩
        · have : twoB nd.op = false := by
            simp only [leafB, Bool.or_eq_true, beq_iff_eq] at h
            rcases h with (((h | h) | h) | h) | h <;> rw [h] <;> decide
          rw [this] at hh; cases hh
        · rw [one_not_two h] at hh; cases hh
        · omega
    · rw [List.getElem?_append_right (by omega)] at hi
      have e2 : i = ms.length := by
        have := (List.getElem?_eq_some_iff.1 hi).1
        simp at this; omega
      subst e2
      simp at hi
      subst hi
      refine ⟨fun _ => ?_, fun hh => (by rw [one_not_two ho] at hh; cases hh)⟩
      dsimp only
      rw [if_neg (by omega), if_pos rfl, h1]
  | two b op ms ls ho h1 h2 ih1 ih2 =>
    intro s
    have p1 := seg_pos h1
    have p2 := seg_pos h2
    obtain ⟨σ1, a1, a2⟩ := ih1 s
    obtain ⟨σ2, b1, b2⟩ := ih2 s
    have notwo : ∀ {nd : Nd}, leafB nd.op = true → twoB nd.op = false := fun {nd} h => by
      simp only [leafB, Bool.or_eq_true, beq_iff_eq] at h
      rcases h with (((h | h) | h) | h) | h <;> rw [h] <;> decide
    have noone : ∀ {nd : Nd}, leafB nd.op = true → oneB nd.op = false := fun {nd} h => by
      simp only [leafB, Bool.or_eq_true, beq_iff_eq] at h
      rcases h with (((h | h) | h) | h) | h <;> rw [h] <;> decide
    refine ⟨fun j => if j < b + ms.length then σ1 j else if j < b + ms.length + ls.length then σ2 j else s, ?_, fun i nd hi => ?_⟩
    · simp only [List.length_append, List.length_singleton]
      rw [if_neg (by omega), if_neg (by omega)]
    · by_cases e : i < ms.length + ls.length
      · rw [List.getElem?_append_left (by rw [List.length_append]; exact e)] at hi
        by_cases e1 : i < ms.length
        · rw [List.getElem?_append_left e1] at hi
          have r := seg_range h1 i nd hi
          refine signAt_congr (a2 i nd hi) (by rw [if_pos (by omega)]) (fun hh => ?_) (fun hh => ?_)
          · rcases r with h | ⟨h, h3, h4⟩ | ⟨h, h3, h4, h5, h6⟩
            · rcases hh with hh | hh
              · rw [noone h] at hh; cases hh
              · rw [notwo h] at hh; cases hh
            · rw [if_pos (by omega)]
            · rw [if_pos (by omega)]
          · rcases r with h | ⟨h, h3, h4⟩ | ⟨h, h3, h4, h5, h6⟩
            · rw [notwo h] at hh; cases hh
            · rw [one_not_two h] at hh; cases hh
            · rw [if_pos (by omega)]
        · rw [List.getElem?_append_right (by omega)] at hi
          have r := seg_range h2 _ nd hi
          have key := b2 _ nd hi
          rw [show b + ms.length + (i - ms.length) = b + i by omega] at key
          refine signAt_congr key (by rw [if_neg (by omega), if_pos (by omega)]) (fun hh => ?_) (fun hh => ?_)
          · rcases r with h | ⟨h, h3, h4⟩ | ⟨h, h3, h4, h5, h6⟩
            · rcases hh with hh | hh
              · rw [noone h] at hh; cases hh
              · rw [notwo h] at hh; cases hh
            · rw [if_neg (by omega), if_pos (by omega)]
            · rw [if_neg (by omega), if_pos (by omega)]
          · rcases r with h | ⟨h, h3, h4⟩ | ⟨h, h3, h4, h5, h6⟩
            · rw [notwo h] at hh; cases hh
            · rw [one_not_two h] at hh; cases hh
            · rw [if_neg (by omega), if_pos (by omega)]
      · rw [List.getElem?_append_right (by rw [List.length_append]; omega)] at hi
        have e2 : i = ms.length + ls.length := by
          have := (List.getElem?_eq_some_iff.1 hi).1
          simp at this; omega
        subst e2
        simp at hi
        subst hi
        refine ⟨fun hh => (by rw [two_not_one ho] at hh; cases hh), fun _ => ?_⟩
        dsimp only
        constructor
        · rw [if_pos (show b + ms.length - 1 < b + ms.length by omega), a1, if_neg (show ¬ b + (ms.length + ls.length) < b + ms.length by omega), if_neg (show ¬ b + (ms.length + ls.length) < b + ms.length + ls.length by omega)]
        · rw [if_neg (show ¬ b + ms.length + ls.length - 1 < b + ms.length by omega), if_pos (show b + ms.length + ls.length - 1 < b + ms.length + ls.length by omega), b1, if_neg (show ¬ b + (ms.length + ls.length) < b + ms.length by omega), if_neg (show ¬ b + (ms.length + ls.length) < b + ms.length + ls.length by omega)]

end Go.Proofs.Ytjagijohfkffiab
