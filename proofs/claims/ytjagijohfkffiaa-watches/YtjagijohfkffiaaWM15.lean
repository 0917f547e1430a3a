import Derived.Test.YtjagijohfkffiaaWM12
import Derived.Test.YtjagijohfkffiaaWM14

/- Plain mathematics: verdicts, by rows of sets. -/
namespace Go.Proofs.Ytjagijohfkffiaa

/-- The endless word begins with u. -/
def Begins (u : List Nat) (x : Nat → Nat) : Prop := ∀ i, i < u.length → x i = u.getD i 0
def Letters (x : Nat → Nat) : Prop := ∀ t, x t < 8

/-- Equal as far as there are nodes. -/
def EqOn (n : Nat) (S T : Nat → Bool) : Prop := ∀ k, k < n → S k = T k

theorem EqOn.refl (n : Nat) (S : Nat → Bool) : EqOn n S S := fun _ _ => rfl
theorem EqOn.symm {n : Nat} {S T : Nat → Bool} (h : EqOn n S T) : EqOn n T S := fun k hk => (h k hk).symm
theorem EqOn.trans {n : Nat} {S T U : Nat → Bool} (h : EqOn n S T) (k : EqOn n T U) : EqOn n S U := fun i hi => (h i hi).trans (k i hi)

theorem wf2_lt {ns : List Nd} (hw : Wf2 ns) {k : Nat} {nd : Nd} (hn : ns[k]? = some nd) : k < ns.length ∧ (nd.l < ns.length) ∧ (nd.r < ns.length) := by
  have hk := (List.getElem?_eq_some_iff.1 hn).1
  rcases hw k nd hn with ⟨_, h1, h2⟩ | ⟨_, h1, h2⟩ | ⟨_, h1, h2⟩ <;> omega

theorem step_congr {ns : List Nd} (hw : Wf2 ns) {x : Nat} {S S' T T' : Nat → Bool} (hS : EqOn ns.length S S') (hT : EqOn ns.length T T') (h : Step ns x S T) : Step ns x S' T' := by
  intro k nd hn
  obtain ⟨h1, h2, h3⟩ := wf2_lt hw hn
  rw [← hS k h1, ← hS nd.l h2, ← hS nd.r h3, ← hT k h1, ← hT nd.l h2]
  exact h k nd hn

/-- The set may begin an endless row that keeps every promise, behind these letters. -/
def chain (ns : List Nd) : List Nat → (Nat → Bool) → Prop
  | [], S => ∃ x S', Letters x ∧ ERow ns x S' ∧ EqOn ns.length (S' 0) S
  | a :: u, S => a < 8 ∧ ∃ T, Step ns a S T ∧ chain ns u T

def consW {α : Type} (a : α) (x : Nat → α) : Nat → α
  | 0 => a
  | t + 1 => x t

theorem erow_cons {ns : List Nd} (hw : Wf2 ns) {x : Nat → Nat} {S' : Nat → Nat → Bool} (h : ERow ns x S') {a : Nat} {S T : Nat → Bool} (hs : Step ns a S T) (hT : EqOn ns.length (S' 0) T) : ERow ns (consW a x) (consW S S') := by
  refine ⟨fun t => ?_, fun k nd hn t => ?_⟩
  · cases t with
    | zero => exact step_congr hw (EqOn.refl _ _) hT.symm hs
    | succ t => exact h.step t
  · obtain ⟨t', ht, hk⟩ := h.kept k nd hn t
    exact ⟨t' + 1, by omega, hk⟩
theorem erow_tail {ns : List Nd} {x : Nat → Nat} {S' : Nat → Nat → Bool} (h : ERow ns x S') : ERow ns (fun t => x (t + 1)) (fun t => S' (t + 1)) := by
  refine ⟨fun t => h.step (t + 1), fun k nd hn t => ?_⟩
  obtain ⟨t', ht, hk⟩ := h.kept k nd hn (t + 1)
  refine ⟨t' - 1, by omega, ?_⟩
  show keptN nd k (S' (t' - 1 + 1)) = true
  rw [show t' - 1 + 1 = t' by omega]; exact hk

theorem chain_iff {ns : List Nd} (hw : Wf2 ns) : ∀ (u : List Nat) (S : Nat → Bool), (chain ns u S ↔ ∃ x S', Letters x ∧ Begins u x ∧ ERow ns x S' ∧ EqOn ns.length (S' 0) S)
  | [], S => by
    constructor
    · rintro ⟨x, S', h1, h2, h3⟩; exact ⟨x, S', h1, fun i hi => by simp at hi, h2, h3⟩
    · rintro ⟨x, S', h1, _, h2, h3⟩; exact ⟨x, S', h1, h2, h3⟩
  | a :: u, S => by
    constructor
    · rintro ⟨ha, T, hs, hc⟩
      obtain ⟨x, S', h1, h2, h3, h4⟩ := (chain_iff hw u T).1 hc
      refine ⟨consW a x, consW S S', fun t => ?_, fun i hi => ?_, erow_cons hw h3 hs h4, EqOn.refl _ _⟩
      · cases t with
        | zero => exact ha
        | succ t => exact h1 t
      · cases i with
        | zero => simp [consW]
        | succ i =>
          have := h2 i (by simpa using hi)
          simpa [consW] using this
    · rintro ⟨x, S', h1, h2, h3, h4⟩
      have hx := h2 0 (by simp)
      simp at hx
      refine ⟨by rw [← hx]; exact h1 0, S' 1, ?_, ?_⟩
      · have := h3.step 0
        rw [hx] at this
        exact step_congr hw h4 (EqOn.refl _ _) this
      · refine (chain_iff hw u (S' 1)).2 ⟨fun t => x (t + 1), fun t => S' (t + 1), fun t => h1 (t + 1), fun i hi => ?_, erow_tail h3, EqOn.refl _ _⟩
        have := h2 (i + 1) (by simpa using hi)
        simpa using this

theorem chain_live {ns : List Nd} (hw : Wf2 ns) {u : List Nat} {S : Nat → Bool} (h : chain ns u S) : chain ns [] S := by
  obtain ⟨x, S', h1, _, h2, h3⟩ := (chain_iff hw u S).1 h
  exact ⟨x, S', h1, h2, h3⟩

theorem chain_congr {ns : List Nd} (hw : Wf2 ns) {u : List Nat} {S T : Nat → Bool} (e : EqOn ns.length S T) (h : chain ns u S) : chain ns u T := by
  rw [chain_iff hw] at h ⊢
  obtain ⟨x, S', h1, h2, h3, h4⟩ := h
  exact ⟨x, S', h1, h2, h3, h4.trans e⟩

/-- Some endless word that begins with u makes the formula b. -/
def May (ns : List Nd) (u : List Nat) (b : Bool) : Prop := ∃ x, Letters x ∧ Begins u x ∧ (sem (fun i => i + 1) x ns (ns.length - 1) 0 ↔ b = true)

theorem may_iff {ns : List Nd} (hg : Good ns) (u : List Nat) (b : Bool) : May ns u b ↔ ∃ S : Nat → Bool, S (ns.length - 1) = b ∧ chain ns u S := by
  have hp := hg.pos
  constructor
  · rintro ⟨x, h1, h2, h3⟩
    obtain ⟨S, hS, hr⟩ := erow_truth hg.wf x
    refine ⟨S 0, ?_, (chain_iff hg.wf u (S 0)).2 ⟨x, S, h1, h2, hr, EqOn.refl _ _⟩⟩
    rw [Bool.eq_iff_iff, hS, h3]
  · rintro ⟨S, hb, hc⟩
    obtain ⟨x, S', h1, h2, h3, h4⟩ := (chain_iff hg.wf u S).1 hc
    refine ⟨x, h1, h2, ?_⟩
    rw [← erow_sem hg.wf h3 _ (by omega), h4 _ (by omega), hb]

/-- The verdict, by what may be. -/
def Verdict (ns : List Nd) (u : List Nat) (v : Nat) : Prop := (v = 2 ∧ ¬ May ns u true) ∨ (v = 1 ∧ May ns u true ∧ ¬ May ns u false) ∨ (v = 0 ∧ May ns u true ∧ May ns u false)

theorem verdict_fun {ns : List Nd} {u : List Nat} {v v' : Nat} (h : Verdict ns u v) (h' : Verdict ns u v') : v = v' := by
  rcases h with ⟨rfl, a⟩ | ⟨rfl, a, b⟩ | ⟨rfl, a, b⟩ <;> rcases h' with ⟨rfl, c⟩ | ⟨rfl, c, d⟩ | ⟨rfl, c, d⟩ <;> first | rfl | exact absurd ‹May ns u true› ‹¬ May ns u true› | exact absurd ‹May ns u false› ‹¬ May ns u false›

end Go.Proofs.Ytjagijohfkffiaa

/- Plain mathematics: what the program's groups tell is the verdict. -/
namespace Go.Proofs.Ytjagijohfkffiaa
set_option linter.unusedVariables false

theorem law_congr {nd : Nd} {i x : Nat} {a b a' b' t n : Bool} (hw : (leafB nd.op = true ∧ nd.l = 0 ∧ nd.r = 0) ∨ (oneB nd.op = true ∧ nd.l < i ∧ nd.r = 0) ∨ (twoB nd.op = true ∧ nd.l < i ∧ nd.r < i)) (hl : nd.l < i → a = a') (hr : nd.r < i → b = b') : lawB nd.op x a b t n = lawB nd.op x a' b' t n := by
  rcases hw with ⟨h, _, _⟩ | ⟨h, h1, _⟩ | ⟨h, h1, h2⟩
  · simp [leafB] at h
    rcases h with (((h | h) | h) | h) | h <;> simp [lawB, h]
  · rw [hl h1]
    simp [oneB] at h
    rcases h with ((h | h) | h) | h <;> simp [lawB, h]
  · rw [hl h1, hr h2]

def cdTo (S : Nat → Bool) : Nat → Nat
  | 0 => 0
  | k + 1 => wth (cdTo S k) k (S k)
theorem cdTo_lt (S : Nat → Bool) : ∀ k, k ≤ 8 → cdTo S k < 256
  | 0, _ => by simp [cdTo]
  | k + 1, h => wth_lt (cdTo_lt S k (by omega)) (by omega)
theorem cdTo_bit (S : Nat → Bool) : ∀ k, k ≤ 8 → ∀ j, j < 8 → (cdTo S k).testBit j = (if j < k then S j else false)
  | 0, _, j, _ => by simp [cdTo]
  | k + 1, h, j, hj => by
    rw [cdTo, wth_bit (cdTo_lt S k (by omega)) (by omega) hj, cdTo_bit S k (by omega) j hj]
    by_cases e : j = k
    · rw [if_pos e, if_pos (by omega), e]
    · rw [if_neg e]
      by_cases h2 : j < k
      · rw [if_pos h2, if_pos (by omega)]
      · rw [if_neg h2, if_neg (by omega)]
theorem cdTo_congr {S T : Nat → Bool} : ∀ k, (∀ j, j < k → S j = T j) → cdTo S k = cdTo T k
  | 0, _ => rfl
  | k + 1, h => by rw [cdTo, cdTo, cdTo_congr k (fun j hj => h j (by omega)), h k (by omega)]

def tb (v : Nat) : Nat → Bool := fun k => v.testBit k

theorem befTo_cd {ns : List Nd} (hg : Good ns) {x N : Nat} {S T : Nat → Bool} (hs : Step ns x S T) (hN : EqOn ns.length (tb N) T) : ∀ k, k ≤ ns.length → befTo ns x N k = cdTo S k
  | 0, _ => rfl
  | k + 1, h => by
    have h8 := hg.le
    have hn := ndAt_gets (ns := ns) (k := k) (by omega)
    obtain ⟨h1, h2, h3⟩ := wf2_lt hg.wf hn
    rw [befTo, cdTo, befTo_cd hg hs hN k (by omega), hs k _ hn]
    congr 1
    have e1 : N.testBit k = T k := hN k (by omega)
    have e2 : N.testBit (ndAt ns k).l = T (ndAt ns k).l := hN _ h2
    rw [e1, e2]
    exact law_congr (hg.wf k _ hn) (fun hl => by rw [cdTo_bit S k (by omega) _ (by omega), if_pos hl]) (fun hr => by rw [cdTo_bit S k (by omega) _ (by omega), if_pos hr])
theorem bef_cd {ns : List Nd} (hg : Good ns) {x N : Nat} {S T : Nat → Bool} (hs : Step ns x S T) (hN : EqOn ns.length (tb N) T) : bef ns x N = cdTo S ns.length := befTo_cd hg hs hN _ (Nat.le_refl _)
theorem cd_eqOn {ns : List Nd} (hg : Good ns) (S : Nat → Bool) : EqOn ns.length (tb (cdTo S ns.length)) S := fun k hk => by
  have h8 := hg.le
  show (cdTo S ns.length).testBit k = S k
  rw [cdTo_bit S _ h8 k (by omega), if_pos hk]
/-- The laws leave no choice. -/
theorem bef_eqOn {ns : List Nd} (hg : Good ns) {x N : Nat} {S T : Nat → Bool} (hs : Step ns x S T) (hN : EqOn ns.length (tb N) T) : EqOn ns.length (tb (bef ns x N)) S := by
  rw [bef_cd hg hs hN]; exact cd_eqOn hg S

theorem befTo_stable (ns : List Nd) (x N : Nat) {j k : Nat} (hj : j < k) : ∀ d, k + d ≤ 8 → (befTo ns x N (k + d)).testBit j = (befTo ns x N k).testBit j
  | 0, _ => rfl
  | d + 1, h => by
    rw [show k + (d + 1) = (k + d) + 1 by omega, befTo, wth_bit (befTo_lt ns x N _ (by omega)) (by omega) (by omega), if_neg (by omega)]
    exact befTo_stable ns x N hj d (by omega)
theorem bef_step {ns : List Nd} (hg : Good ns) (x N : Nat) : Step ns x (tb (bef ns x N)) (tb N) := by
  intro k nd hn
  have h8 := hg.le
  obtain ⟨h1, h2, h3⟩ := wf2_lt hg.wf hn
  have hnd : ndAt ns k = nd := by have := ndAt_gets (ns := ns) h1; rw [hn] at this; exact (Option.some.inj this).symm
  have st : ∀ j i, j < i → i ≤ ns.length → (bef ns x N).testBit j = (befTo ns x N i).testBit j := fun j i hj hi => by
    have := befTo_stable ns x N hj (ns.length - i) (by omega)
    rw [show i + (ns.length - i) = ns.length by omega] at this
    exact this
  show (bef ns x N).testBit k = _
  rw [st k (k + 1) (by omega) (by omega), befTo, wth_bit (befTo_lt ns x N k (by omega)) (by omega) (by omega), if_pos rfl, hnd]
  exact law_congr (hg.wf k nd hn) (fun hl => (st _ _ hl (by omega)).symm) (fun hr => (st _ _ hr (by omega)).symm)

theorem ew_any {ns : List Nd} {y a : Nat} : Ew 1 ns (anyInto 8) y a ↔ a < 256 ∧ ∃ l, l < 8 ∧ y = bef ns l a := by
  unfold Ew
  constructor
  · rintro ⟨ha, st, hs, rfl⟩
    have h0 : a / 256 = 0 := by omega
    rw [h0] at hs
    simp [anyInto] at hs
    obtain ⟨l, hl, rfl⟩ := hs
    exact ⟨by omega, l, hl, by simp [show a % 256 = a by omega]⟩
  · rintro ⟨ha, l, hl, rfl⟩
    refine ⟨by omega, (0, l), ?_, by simp [show a % 256 = a by omega]⟩
    have h0 : a / 256 = 0 := by omega
    rw [h0]
    simp [anyInto, hl]

theorem calm_kept {nd : Nd} {k x : Nat} {S T : Nat → Bool} (hs : S k = lawB nd.op x (S nd.l) (S nd.r) (T k) (T nd.l)) (hw : waitsB nd.op = true) : keptN nd k S = (S k == S (endN nd)) := by
  simp [waitsB, lastsB] at hw
  rcases hw with (h | h) | h | h
  · simp only [lawB, keptN, endN, h] at *
    simp at *
    rw [hs]
    cases S nd.l <;> cases T k <;> rfl
  · simp only [lawB, keptN, endN, h] at *
    simp at *
    rw [hs]
    cases S nd.l <;> cases S nd.r <;> cases T k <;> rfl
  · simp only [lawB, keptN, endN, h] at *
    simp at *
    rw [hs]
    cases S nd.l <;> cases T k <;> rfl
  · simp only [lawB, keptN, endN, h] at *
    simp at *
    rw [hs]
    cases S nd.l <;> cases S nd.r <;> cases T k <;> rfl
theorem kept_else {nd : Nd} {k : Nat} {S : Nat → Bool} (hw : waitsB nd.op = false) : keptN nd k S = true := by
  simp [waitsB, lastsB] at hw
  simp [keptN, hw]

theorem mem_spreads {ns : List Nd} {c : Nat → Bool} {m : Nat} : c ∈ spreads (calmsTo ns m) ↔ ∃ k, k < m ∧ waitsB (ndAt ns k).op = true ∧ c = spread (calmB k (endN (ndAt ns k))) := by
  simp only [spreads, calmsTo, List.map_map, List.mem_map, List.mem_filter, List.mem_range, Function.comp]
  constructor
  · rintro ⟨k, ⟨h1, h2⟩, rfl⟩; exact ⟨k, h1, h2, rfl⟩
  · rintro ⟨k, h1, h2, rfl⟩; exact ⟨k, ⟨h1, h2⟩, rfl⟩
theorem meets_of_all {cs : List (Nat → Bool)} {q : Nat → Nat} (h : ∀ c ∈ cs, ∀ t, ∃ t', t ≤ t' ∧ c (q t') = true) : Meets (KL cs) cs.length q := fun k hk t => by
  obtain ⟨t', h1, h2⟩ := h cs[k] (List.getElem_mem hk) t
  exact ⟨t', h1, cs[k], List.getElem?_eq_getElem hk, h2⟩

abbrev Lives (ns : List Nd) (v : Nat) : Prop := Forever (Ew 1 ns (anyInto 8)) (spreads (calmsTo ns ns.length)) v

/-- What lasts is the truth of some endless word. -/
theorem live_chain' {ns : List Nd} (hg : Good ns) {v : Nat} (h : Lives ns v) : chain ns [] (tb v) := by
  have h8 := hg.le
  obtain ⟨q, rfl, hq, hm⟩ := h
  have hx : ∀ t, ∃ l, l < 8 ∧ q t = bef ns l (q (t + 1)) := fun t => (ew_any.1 (hq t)).2
  have h256 : ∀ t, q t < 256 := fun t => by
    obtain ⟨l, _, e⟩ := hx t
    rw [e]; exact bef_lt h8 _ _
  refine ⟨fun t => Classical.choose (hx t), fun t => tb (q t), fun t => (Classical.choose_spec (hx t)).1, ⟨fun t => ?_, fun k nd hn t => ?_⟩, EqOn.refl _ _⟩
  · have := bef_step hg (Classical.choose (hx t)) (q (t + 1))
    rw [← (Classical.choose_spec (hx t)).2] at this
    exact this
  · obtain ⟨h1, h2, h3⟩ := wf2_lt hg.wf hn
    have hnd : ndAt ns k = nd := by have := ndAt_gets (ns := ns) h1; rw [hn] at this; exact (Option.some.inj this).symm
    cases hw : waitsB nd.op with
    | false => exact ⟨t, Nat.le_refl _, kept_else hw⟩
    | true =>
      obtain ⟨t', h4, h5⟩ := meets_all hm _ (mem_spreads.2 ⟨k, h1, by rw [hnd]; exact hw, rfl⟩) t
      refine ⟨t', h4, ?_⟩
      obtain ⟨l, _, e⟩ := hx t'
      have hst := bef_step hg l (q (t' + 1)) k nd hn
      rw [← e] at hst
      rw [calm_kept hst hw]
      have : q t' % 256 = q t' := Nat.mod_eq_of_lt (h256 t')
      simp only [spread, this, calmB, hnd] at h5
      exact h5
theorem chain_live' {ns : List Nd} (hg : Good ns) {S : Nat → Bool} (h : chain ns [] S) : Lives ns (cdTo S ns.length) := by
  have h8 := hg.le
  obtain ⟨x, S', hl, hr, he⟩ := h
  have lt : ∀ t, cdTo (S' t) ns.length < 256 := fun t => cdTo_lt _ _ h8
  refine ⟨fun t => cdTo (S' t) ns.length, cdTo_congr _ he, fun t => ?_, meets_of_all fun c hc t => ?_⟩
  · exact ew_any.2 ⟨lt _, x t, hl t, (bef_cd hg (hr.step t) (cd_eqOn hg _)).symm⟩
  · obtain ⟨k, h1, h2, rfl⟩ := mem_spreads.1 hc
    have hn := ndAt_gets (ns := ns) h1
    obtain ⟨_, h3, h4⟩ := wf2_lt hg.wf hn
    obtain ⟨t', h5, h6⟩ := hr.kept k _ hn t
    refine ⟨t', h5, ?_⟩
    rw [calm_kept (hr.step t' k _ hn) h2] at h6
    have e1 := cd_eqOn hg (S' t') k h1
    have hen : endN (ndAt ns k) < ns.length := by unfold endN; split <;> omega
    have e2 := cd_eqOn hg (S' t') _ hen
    have e3 : cdTo (S' t') ns.length % 256 = cdTo (S' t') ns.length := Nat.mod_eq_of_lt (lt t')
    simp only [tb] at e1 e2
    simp only [spread, calmB, e3, e1, e2]
    exact h6

theorem lives_bef {ns : List Nd} {x N : Nat} (hx : x < 8) (h : Lives ns N) (hN : N < 256) : Lives ns (bef ns x N) := by
  obtain ⟨q, h0, hq, hm⟩ := h
  refine ⟨fun t => if t = 0 then bef ns x N else q (t - 1), rfl, fun t => ?_, fun k hk t => ?_⟩
  · cases t with
    | zero => simp; rw [h0]; exact ew_any.2 ⟨hN, x, hx, rfl⟩
    | succ t => simpa using hq t
  · obtain ⟨t', h1, h2⟩ := hm k hk t
    exact ⟨t' + 1, by omega, by simpa using h2⟩
theorem lives_lt {ns : List Nd} (h8 : ns.length ≤ 8) {v : Nat} (h : Lives ns v) : v < 256 := by
  obtain ⟨q, rfl, hq, _⟩ := h
  obtain ⟨_, l, _, e⟩ := ew_any.1 (hq 0)
  rw [e]; exact bef_lt h8 _ _

/-- The view at the start, from the one behind the word. -/
def back (ns : List Nd) : List Nat → Nat → Nat
  | [], N => N
  | a :: u, N => bef ns a (back ns u N)
theorem back_snoc (ns : List Nd) (u : List Nat) (x N : Nat) : back ns (u ++ [x]) N = back ns u (bef ns x N) := by
  induction u with
  | nil => rfl
  | cons a u ih => simp [back, ih]

theorem runG_iff {ns : List Nd} (hg : Good ns) {liv : Nat → Bool} (hl : LivP ns (calmsTo ns ns.length) liv) (u : List Nat) (hu : ∀ x ∈ u, x < 8) : ∀ N, (runG ns liv (begB ns liv) u N = true ↔ liv N = true ∧ (back ns u N).testBit (ns.length - 1) = true) := by
  have h8 := hg.le
  generalize hn : u.length = n
  induction n generalizing u with
  | zero =>
    obtain rfl := List.eq_nil_of_length_eq_zero hn
    intro N
    simp [runG, begB, back]
  | succ n ih =>
    intro N
    obtain ⟨u', x, rfl⟩ : ∃ u' x, u = u' ++ [x] := ⟨u.dropLast, u.getLast (by intro e; rw [e] at hn; simp at hn), (List.dropLast_concat_getLast _).symm⟩
    rw [runG_snoc, back_snoc]
    have hx := hu x (by simp)
    unfold stepG
    rw [Bool.and_eq_true, ih u' (fun y hy => hu y (by simp [hy])) (by simpa using hn)]
    constructor
    · rintro ⟨h1, _, h2⟩; exact ⟨h1, h2⟩
    · rintro ⟨h1, h2⟩
      have hN := (hl N).1 h1
      exact ⟨h1, (hl _).2 (lives_bef hx hN (lives_lt h8 hN)), h2⟩

theorem chain_back {ns : List Nd} (hg : Good ns) : ∀ (u : List Nat) (S : Nat → Bool), chain ns u S → ∃ N, Lives ns N ∧ EqOn ns.length (tb (back ns u N)) S
  | [], S, h => ⟨cdTo S ns.length, chain_live' hg h, cd_eqOn hg S⟩
  | a :: u, S, ⟨_, T, hs, hc⟩ => by
    obtain ⟨N, h1, h2⟩ := chain_back hg u T hc
    exact ⟨N, h1, bef_eqOn hg hs h2⟩
theorem back_chain {ns : List Nd} (hg : Good ns) : ∀ (u : List Nat) (hu : ∀ x ∈ u, x < 8) (N : Nat), Lives ns N → chain ns u (tb (back ns u N))
  | [], _, N, h => live_chain' hg h
  | a :: u, hu, N, h => ⟨hu a (by simp), tb (back ns u N), bef_step hg a _, back_chain hg u (fun x hx => hu x (by simp [hx])) N h⟩
theorem may_back {ns : List Nd} (hg : Good ns) {u : List Nat} (hu : ∀ x ∈ u, x < 8) (b : Bool) : May ns u b ↔ ∃ N, Lives ns N ∧ (back ns u N).testBit (ns.length - 1) = b := by
  have hp := hg.pos
  rw [may_iff hg]
  constructor
  · rintro ⟨S, h1, h2⟩
    obtain ⟨N, h3, h4⟩ := chain_back hg u S h2
    exact ⟨N, h3, by rw [← h1]; exact h4 _ (by omega)⟩
  · rintro ⟨N, h1, h2⟩
    exact ⟨_, h2, back_chain hg u hu N h1⟩

/-- What the groups tell is the verdict. -/
theorem verdG_verdict {ns : List Nd} (hg : Good ns) {liv : Nat → Bool} (hl : LivP ns (calmsTo ns ns.length) liv) {u : List Nat} (hu : ∀ x ∈ u, x < 8) : Verdict ns u (verdG liv (runG ns liv (begB ns liv) u)) := by
  have h8 := hg.le
  have hr := runG_iff hg hl u hu
  have mt := may_back hg hu true
  have mf := may_back hg hu false
  have ht : geq (runG ns liv (begB ns liv) u) (fun _ => false) = true ↔ ¬ May ns u true := by
    rw [geq_iff, mt]
    constructor
    · rintro h ⟨N, h1, h2⟩
      have := h N (lives_lt h8 h1)
      rw [(hr N).2 ⟨(hl N).2 h1, h2⟩] at this
      cases this
    · intro h N hN
      cases e : runG ns liv (begB ns liv) u N with
      | false => rfl
      | true =>
        obtain ⟨h1, h2⟩ := (hr N).1 e
        exact absurd ⟨N, (hl N).1 h1, h2⟩ h
  have hf : geq (runG ns liv (begB ns liv) u) liv = true ↔ ¬ May ns u false := by
    rw [geq_iff, mf]
    constructor
    · rintro h ⟨N, h1, h2⟩
      have h3 := h N (lives_lt h8 h1)
      rw [(hl N).2 h1] at h3
      rw [((hr N).1 h3).2] at h2
      cases h2
    · intro h N hN
      cases e : runG ns liv (begB ns liv) u N with
      | true => exact ((hr N).1 e).1.symm
      | false =>
        cases e2 : liv N with
        | false => rfl
        | true =>
          exfalso
          refine h ⟨N, (hl N).1 e2, ?_⟩
          cases e3 : (back ns u N).testBit (ns.length - 1) with
          | false => rfl
          | true => rw [(hr N).2 ⟨e2, e3⟩] at e; cases e
  have some_ : May ns u true ∨ May ns u false := by
    obtain ⟨S, hS, hR⟩ := erow_truth hg.wf (fun i => u.getD i 0)
    have hL : Letters (fun i => u.getD i 0) := fun t => by
      show u.getD t 0 < 8
      rw [List.getD]
      cases e : u[t]? with
      | none => simp
      | some y => exact hu y (List.mem_of_getElem? e)
    by_cases h3 : sem (fun i => i + 1) (fun i => u.getD i 0) ns (ns.length - 1) 0
    · exact Or.inl ⟨_, hL, fun i _ => rfl, by simpa using h3⟩
    · exact Or.inr ⟨_, hL, fun i _ => rfl, by simpa using h3⟩
  unfold verdG
  by_cases h1 : geq (runG ns liv (begB ns liv) u) liv = true
  · rw [if_pos h1]
    have := hf.1 h1
    exact Or.inr (Or.inl ⟨rfl, some_.resolve_right this, this⟩)
  · rw [if_neg h1]
    have hm : May ns u false := Classical.byContradiction fun h => h1 (hf.2 h)
    by_cases h2 : geq (runG ns liv (begB ns liv) u) (fun _ => false) = true
    · rw [if_pos h2]
      exact Or.inl ⟨rfl, ht.1 h2⟩
    · rw [if_neg h2]
      exact Or.inr (Or.inr ⟨rfl, Classical.byContradiction fun h => h2 (ht.2 h), hm⟩)

end Go.Proofs.Ytjagijohfkffiaa
