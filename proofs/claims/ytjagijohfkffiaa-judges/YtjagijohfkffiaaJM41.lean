import Derived.Test.YtjagijohfkffiaaJM09
import Derived.Test.YtjagijohfkffiaaJM31
import Derived.Test.YtjagijohfkffiaaJM40
import Derived.ProofKit
import Derived.OpenShut
import Derived.ShutString
import Derived.ChangeOld

/- Plain mathematics: what the program's groups tell is the verdict. -/
namespace Go.Proofs.Ytjagijohfkffiaa
set_option linter.unusedVariables false

theorem law_congr {nd : Nd} {i x : Nat} {a b a' b' t n : Bool} (hw : (leafB nd.op = true ∧ nd.l = 0 ∧ nd.r = 0) ∨ (oneB nd.op = true ∧ nd.l < i ∧ nd.r = 0) ∨ (twoB nd.op = true ∧ nd.l < i ∧ nd.r < i)) (hl : nd.l < i → a = a') (hr : nd.r < i → b = b') : lawB nd.op x a b t n = lawB nd.op x a' b' t n := by
  rcases hw with ⟨h, _, _⟩ | ⟨h, h1, _⟩ | ⟨h, h1, h2⟩
  · simp [leafB] at h
    rcases h with (((h | h) | h) | h) | h <;> simp [lawB, h]
  · rw [hl h1]
    simp [oneB] at h
    rcases h with ((h | h) | h) | h <;> simp [lawB, h]
  · rw [hl h1, hr h2]

def cdTo (S : Nat → Bool) : Nat → Nat
  | 0 => 0
  | k + 1 => wth (cdTo S k) k (S k)
theorem cdTo_lt (S : Nat → Bool) : ∀ k, k ≤ 8 → cdTo S k < 256
  | 0, _ => by simp [cdTo]
  | k + 1, h => wth_lt (cdTo_lt S k (by omega)) (by omega)
theorem cdTo_bit (S : Nat → Bool) : ∀ k, k ≤ 8 → ∀ j, j < 8 → (cdTo S k).testBit j = (if j < k then S j else false)
  | 0, _, j, _ => by simp [cdTo]
  | k + 1, h, j, hj => by
    rw [cdTo, wth_bit (cdTo_lt S k (by omega)) (by omega) hj, cdTo_bit S k (by omega) j hj]
    by_cases e : j = k
    · rw [if_pos e, if_pos (by omega), e]
    · rw [if_neg e]
      by_cases h2 : j < k
      · rw [if_pos h2, if_pos (by omega)]
      · rw [if_neg h2, if_neg (by omega)]
theorem cdTo_congr {S T : Nat → Bool} : ∀ k, (∀ j, j < k → S j = T j) → cdTo S k = cdTo T k
  | 0, _ => rfl
  | k + 1, h => by rw [cdTo, cdTo, cdTo_congr k (fun j hj => h j (by omega)), h k (by omega)]

def tb (v : Nat) : Nat → Bool := fun k => v.testBit k

theorem befTo_cd {ns : List Nd} (hg : Good ns) {x N : Nat} {S T : Nat → Bool} (hs : Step ns x S T) (hN : EqOn ns.length (tb N) T) : ∀ k, k ≤ ns.length → befTo ns x N k = cdTo S k
  | 0, _ => rfl
  | k + 1, h => by
    have h8 := hg.le
    have hn := ndAt_gets (ns := ns) (k := k) (by omega)
    obtain ⟨h1, h2, h3⟩ := wf2_lt hg.wf hn
    rw [befTo, cdTo, befTo_cd hg hs hN k (by omega), hs k _ hn]
    congr 1
    have e1 : N.testBit k = T k := hN k (by omega)
    have e2 : N.testBit (ndAt ns k).l = T (ndAt ns k).l := hN _ h2
    rw [e1, e2]
    exact law_congr (hg.wf k _ hn) (fun hl => by rw [cdTo_bit S k (by omega) _ (by omega), if_pos hl]) (fun hr => by rw [cdTo_bit S k (by omega) _ (by omega), if_pos hr])
theorem bef_cd {ns : List Nd} (hg : Good ns) {x N : Nat} {S T : Nat → Bool} (hs : Step ns x S T) (hN : EqOn ns.length (tb N) T) : bef ns x N = cdTo S ns.length := befTo_cd hg hs hN _ (Nat.le_refl _)
theorem cd_eqOn {ns : List Nd} (hg : Good ns) (S : Nat → Bool) : EqOn ns.length (tb (cdTo S ns.length)) S := fun k hk => by
  have h8 := hg.le
  show (cdTo S ns.length).testBit k = S k
  rw [cdTo_bit S _ h8 k (by omega), if_pos hk]
/-- The laws leave no choice. -/
theorem bef_eqOn {ns : List Nd} (hg : Good ns) {x N : Nat} {S T : Nat → Bool} (hs : Step ns x S T) (hN : EqOn ns.length (tb N) T) : EqOn ns.length (tb (bef ns x N)) S := by
  rw [bef_cd hg hs hN]; exact cd_eqOn hg S

theorem befTo_stable (ns : List Nd) (x N : Nat) {j k : Nat} (hj : j < k) : ∀ d, k + d ≤ 8 → (befTo ns x N (k + d)).testBit j = (befTo ns x N k).testBit j
  | 0, _ => rfl
  | d + 1, h => by
    rw [show k + (d + 1) = (k + d) + 1 by omega, befTo, wth_bit (befTo_lt ns x N _ (by omega)) (by omega) (by omega), if_neg (by omega)]
    exact befTo_stable ns x N hj d (by omega)
theorem bef_step {ns : List Nd} (hg : Good ns) (x N : Nat) : Step ns x (tb (bef ns x N)) (tb N) := by
  intro k nd hn
  have h8 := hg.le
  obtain ⟨h1, h2, h3⟩ := wf2_lt hg.wf hn
  have hnd : ndAt ns k = nd := by have := ndAt_gets (ns := ns) h1; rw [hn] at this; exact (Option.some.inj this).symm
  have st : ∀ j i, j < i → i ≤ ns.length → (bef ns x N).testBit j = (befTo ns x N i).testBit j := fun j i hj hi => by
    have := befTo_stable ns x N hj (ns.length - i) (by omega)
    rw [show i + (ns.length - i) = ns.length by omega] at this
    exact this
  show (bef ns x N).testBit k = _
  rw [st k (k + 1) (by omega) (by omega), befTo, wth_bit (befTo_lt ns x N k (by omega)) (by omega) (by omega), if_pos rfl, hnd]
  exact law_congr (hg.wf k nd hn) (fun hl => (st _ _ hl (by omega)).symm) (fun hr => (st _ _ hr (by omega)).symm)

theorem ew_any {ns : List Nd} {y a : Nat} : Ew 1 ns (anyInto 8) y a ↔ a < 256 ∧ ∃ l, l < 8 ∧ y = bef ns l a := by
  unfold Ew
  constructor
  · rintro ⟨ha, st, hs, rfl⟩
    have h0 : a / 256 = 0 := by omega
    rw [h0] at hs
    simp [anyInto] at hs
    obtain ⟨l, hl, rfl⟩ := hs
    exact ⟨by omega, l, hl, by simp [show a % 256 = a by omega]⟩
  · rintro ⟨ha, l, hl, rfl⟩
    refine ⟨by omega, (0, l), ?_, by simp [show a % 256 = a by omega]⟩
    have h0 : a / 256 = 0 := by omega
    rw [h0]
    simp [anyInto, hl]

theorem calm_kept {nd : Nd} {k x : Nat} {S T : Nat → Bool} (hs : S k = lawB nd.op x (S nd.l) (S nd.r) (T k) (T nd.l)) (hw : waitsB nd.op = true) : keptN nd k S = (S k == S (endN nd)) := by
  simp [waitsB, lastsB] at hw
  rcases hw with (h | h) | h | h
  · simp only [lawB, keptN, endN, h] at *
    simp at *
    rw [hs]
    cases S nd.l <;> cases T k <;> rfl
  · simp only [lawB, keptN, endN, h] at *
    simp at *
    rw [hs]
    cases S nd.l <;> cases S nd.r <;> cases T k <;> rfl
  · simp only [lawB, keptN, endN, h] at *
    simp at *
    rw [hs]
    cases S nd.l <;> cases T k <;> rfl
  · simp only [lawB, keptN, endN, h] at *
    simp at *
    rw [hs]
    cases S nd.l <;> cases S nd.r <;> cases T k <;> rfl
theorem kept_else {nd : Nd} {k : Nat} {S : Nat → Bool} (hw : waitsB nd.op = false) : keptN nd k S = true := by
  simp [waitsB, lastsB] at hw
  simp [keptN, hw]

theorem mem_spreads {ns : List Nd} {c : Nat → Bool} {m : Nat} : c ∈ spreads (calmsTo ns m) ↔ ∃ k, k < m ∧ waitsB (ndAt ns k).op = true ∧ c = spread (calmB k (endN (ndAt ns k))) := by
  simp only [spreads, calmsTo, List.map_map, List.mem_map, List.mem_filter, List.mem_range, Function.comp]
  constructor
  · rintro ⟨k, ⟨h1, h2⟩, rfl⟩; exact ⟨k, h1, h2, rfl⟩
  · rintro ⟨k, h1, h2, rfl⟩; exact ⟨k, ⟨h1, h2⟩, rfl⟩
theorem meets_of_all {cs : List (Nat → Bool)} {q : Nat → Nat} (h : ∀ c ∈ cs, ∀ t, ∃ t', t ≤ t' ∧ c (q t') = true) : Meets (KL cs) cs.length q := fun k hk t => by
  obtain ⟨t', h1, h2⟩ := h cs[k] (List.getElem_mem hk) t
  exact ⟨t', h1, cs[k], List.getElem?_eq_getElem hk, h2⟩

abbrev Lives (ns : List Nd) (v : Nat) : Prop := Forever (Ew 1 ns (anyInto 8)) (spreads (calmsTo ns ns.length)) v

/-- What lasts is the truth of some endless word. -/
theorem live_chain' {ns : List Nd} (hg : Good ns) {v : Nat} (h : Lives ns v) : chain ns [] (tb v) := by
  have h8 := hg.le
  obtain ⟨q, rfl, hq, hm⟩ := h
  have hx : ∀ t, ∃ l, l < 8 ∧ q t = bef ns l (q (t + 1)) := fun t => (ew_any.1 (hq t)).2
  have h256 : ∀ t, q t < 256 := fun t => by
    obtain ⟨l, _, e⟩ := hx t
    rw [e]; exact bef_lt h8 _ _
  refine ⟨fun t => Classical.choose (hx t), fun t => tb (q t), fun t => (Classical.choose_spec (hx t)).1, ⟨fun t => ?_, fun k nd hn t => ?_⟩, EqOn.refl _ _⟩
  · have := bef_step hg (Classical.choose (hx t)) (q (t + 1))
    rw [← (Classical.choose_spec (hx t)).2] at this
    exact this
  · obtain ⟨h1, h2, h3⟩ := wf2_lt hg.wf hn
    have hnd : ndAt ns k = nd := by have := ndAt_gets (ns := ns) h1; rw [hn] at this; exact (Option.some.inj this).symm
    cases hw : waitsB nd.op with
    | false => exact ⟨t, Nat.le_refl _, kept_else hw⟩
    | true =>
      obtain ⟨t', h4, h5⟩ := meets_all hm _ (mem_spreads.2 ⟨k, h1, by rw [hnd]; exact hw, rfl⟩) t
      refine ⟨t', h4, ?_⟩
      obtain ⟨l, _, e⟩ := hx t'
      have hst := bef_step hg l (q (t' + 1)) k nd hn
      rw [← e] at hst
      rw [calm_kept hst hw]
      have : q t' % 256 = q t' := Nat.mod_eq_of_lt (h256 t')
      simp only [spread, this, calmB, hnd] at h5
      exact h5
theorem chain_live' {ns : List Nd} (hg : Good ns) {S : Nat → Bool} (h : chain ns [] S) : Lives ns (cdTo S ns.length) := by
  have h8 := hg.le
  obtain ⟨x, S', hl, hr, he⟩ := h
  have lt : ∀ t, cdTo (S' t) ns.length < 256 := fun t => cdTo_lt _ _ h8
  refine ⟨fun t => cdTo (S' t) ns.length, cdTo_congr _ he, fun t => ?_, meets_of_all fun c hc t => ?_⟩
  · exact ew_any.2 ⟨lt _, x t, hl t, (bef_cd hg (hr.step t) (cd_eqOn hg _)).symm⟩
  · obtain ⟨k, h1, h2, rfl⟩ := mem_spreads.1 hc
    have hn := ndAt_gets (ns := ns) h1
    obtain ⟨_, h3, h4⟩ := wf2_lt hg.wf hn
    obtain ⟨t', h5, h6⟩ := hr.kept k _ hn t
    refine ⟨t', h5, ?_⟩
    rw [calm_kept (hr.step t' k _ hn) h2] at h6
    have e1 := cd_eqOn hg (S' t') k h1
    have hen : endN (ndAt ns k) < ns.length := by unfold endN; split <;> omega
    have e2 := cd_eqOn hg (S' t') _ hen
    have e3 : cdTo (S' t') ns.length % 256 = cdTo (S' t') ns.length := Nat.mod_eq_of_lt (lt t')
    simp only [tb] at e1 e2
    simp only [spread, calmB, e3, e1, e2]
    exact h6

theorem lives_bef {ns : List Nd} {x N : Nat} (hx : x < 8) (h : Lives ns N) (hN : N < 256) : Lives ns (bef ns x N) := by
  obtain ⟨q, h0, hq, hm⟩ := h
  refine ⟨fun t => if t = 0 then bef ns x N else q (t - 1), rfl, fun t => ?_, fun k hk t => ?_⟩
  · cases t with
    | zero => simp; rw [h0]; exact ew_any.2 ⟨hN, x, hx, rfl⟩
    | succ t => simpa using hq t
  · obtain ⟨t', h1, h2⟩ := hm k hk t
    exact ⟨t' + 1, by omega, by simpa using h2⟩
theorem lives_lt {ns : List Nd} (h8 : ns.length ≤ 8) {v : Nat} (h : Lives ns v) : v < 256 := by
  obtain ⟨q, rfl, hq, _⟩ := h
  obtain ⟨_, l, _, e⟩ := ew_any.1 (hq 0)
  rw [e]; exact bef_lt h8 _ _

/-- The view at the start, from the one behind the word. -/
def back (ns : List Nd) : List Nat → Nat → Nat
  | [], N => N
  | a :: u, N => bef ns a (back ns u N)
theorem back_snoc (ns : List Nd) (u : List Nat) (x N : Nat) : back ns (u ++ [x]) N = back ns u (bef ns x N) := by
  induction u with
  | nil => rfl
  | cons a u ih => simp [back, ih]

theorem runG_iff {ns : List Nd} (hg : Good ns) {liv : Nat → Bool} (hl : LivP ns (calmsTo ns ns.length) liv) (u : List Nat) (hu : ∀ x ∈ u, x < 8) : ∀ N, (runG ns liv (begB ns liv) u N = true ↔ liv N = true ∧ (back ns u N).testBit (ns.length - 1) = true) := by
  have h8 := hg.le
  generalize hn : u.length = n
  induction n generalizing u with
  | zero =>
    obtain rfl := List.eq_nil_of_length_eq_zero hn
    intro N
    simp [runG, begB, back]
  | succ n ih =>
    intro N
    obtain ⟨u', x, rfl⟩ : ∃ u' x, u = u' ++ [x] := ⟨u.dropLast, u.getLast (by intro e; rw [e] at hn; simp at hn), (List.dropLast_concat_getLast _).symm⟩
    rw [runG_snoc, back_snoc]
    have hx := hu x (by simp)
    unfold stepG
    rw [Bool.and_eq_true, ih u' (fun y hy => hu y (by simp [hy])) (by simpa using hn)]
    constructor
    · rintro ⟨h1, _, h2⟩; exact ⟨h1, h2⟩
    · rintro ⟨h1, h2⟩
      have hN := (hl N).1 h1
      exact ⟨h1, (hl _).2 (lives_bef hx hN (lives_lt h8 hN)), h2⟩

theorem chain_back {ns : List Nd} (hg : Good ns) : ∀ (u : List Nat) (S : Nat → Bool), chain ns u S → ∃ N, Lives ns N ∧ EqOn ns.length (tb (back ns u N)) S
  | [], S, h => ⟨cdTo S ns.length, chain_live' hg h, cd_eqOn hg S⟩
  | a :: u, S, ⟨_, T, hs, hc⟩ => by
    obtain ⟨N, h1, h2⟩ := chain_back hg u T hc
    exact ⟨N, h1, bef_eqOn hg hs h2⟩
theorem back_chain {ns : List Nd} (hg : Good ns) : ∀ (u : List Nat) (hu : ∀ x ∈ u, x < 8) (N : Nat), Lives ns N → chain ns u (tb (back ns u N))
  | [], _, N, h => live_chain' hg h
  | a :: u, hu, N, h => ⟨hu a (by simp), tb (back ns u N), bef_step hg a _, back_chain hg u (fun x hx => hu x (by simp [hx])) N h⟩
theorem may_back {ns : List Nd} (hg : Good ns) {u : List Nat} (hu : ∀ x ∈ u, x < 8) (b : Bool) : May ns u b ↔ ∃ N, Lives ns N ∧ (back ns u N).testBit (ns.length - 1) = b := by
  have hp := hg.pos
  rw [may_iff hg]
  constructor
  · rintro ⟨S, h1, h2⟩
    obtain ⟨N, h3, h4⟩ := chain_back hg u S h2
    exact ⟨N, h3, by rw [← h1]; exact h4 _ (by omega)⟩
  · rintro ⟨N, h1, h2⟩
    exact ⟨_, h2, back_chain hg u hu N h1⟩

/-- What the groups tell is the verdict. -/
theorem verdG_verdict {ns : List Nd} (hg : Good ns) {liv : Nat → Bool} (hl : LivP ns (calmsTo ns ns.length) liv) {u : List Nat} (hu : ∀ x ∈ u, x < 8) : Verdict ns u (verdG liv (runG ns liv (begB ns liv) u)) := by
  have h8 := hg.le
  have hr := runG_iff hg hl u hu
  have mt := may_back hg hu true
  have mf := may_back hg hu false
  have ht : geq (runG ns liv (begB ns liv) u) (fun _ => false) = true ↔ ¬ May ns u true := by
    rw [geq_iff, mt]
    constructor
    · rintro h ⟨N, h1, h2⟩
      have := h N (lives_lt h8 h1)
      rw [(hr N).2 ⟨(hl N).2 h1, h2⟩] at this
      cases this
    · intro h N hN
      cases e : runG ns liv (begB ns liv) u N with
      | false => rfl
      | true =>
        obtain ⟨h1, h2⟩ := (hr N).1 e
        exact absurd ⟨N, (hl N).1 h1, h2⟩ h
  have hf : geq (runG ns liv (begB ns liv) u) liv = true ↔ ¬ May ns u false := by
    rw [geq_iff, mf]
    constructor
    · rintro h ⟨N, h1, h2⟩
      have h3 := h N (lives_lt h8 h1)
      rw [(hl N).2 h1] at h3
      rw [((hr N).1 h3).2] at h2
      cases h2
    · intro h N hN
      cases e : runG ns liv (begB ns liv) u N with
      | true => exact ((hr N).1 e).1.symm
      | false =>
        cases e2 : liv N with
        | false => rfl
        | true =>
          exfalso
          refine h ⟨N, (hl N).1 e2, ?_⟩
          cases e3 : (back ns u N).testBit (ns.length - 1) with
          | false => rfl
          | true => rw [(hr N).2 ⟨e2, e3⟩] at e; cases e
  have some_ : May ns u true ∨ May ns u false := by
    obtain ⟨S, hS, hR⟩ := erow_truth hg.wf (fun i => u.getD i 0)
    have hL : Letters (fun i => u.getD i 0) := fun t => by
      show u.getD t 0 < 8
      rw [List.getD]
      cases e : u[t]? with
      | none => simp
      | some y => exact hu y (List.mem_of_getElem? e)
    by_cases h3 : sem (fun i => i + 1) (fun i => u.getD i 0) ns (ns.length - 1) 0
    · exact Or.inl ⟨_, hL, fun i _ => rfl, by simpa using h3⟩
    · exact Or.inr ⟨_, hL, fun i _ => rfl, by simpa using h3⟩
  unfold verdG
  by_cases h1 : geq (runG ns liv (begB ns liv) u) liv = true
  · rw [if_pos h1]
    have := hf.1 h1
    exact Or.inr (Or.inl ⟨rfl, some_.resolve_right this, this⟩)
  · rw [if_neg h1]
    have hm : May ns u false := Classical.byContradiction fun h => h1 (hf.2 h)
    by_cases h2 : geq (runG ns liv (begB ns liv) u) (fun _ => false) = true
    · rw [if_pos h2]
      exact Or.inl ⟨rfl, ht.1 h2⟩
    · rw [if_neg h2]
      exact Or.inr (Or.inr ⟨rfl, Classical.byContradiction fun h => h2 (ht.2 h), hm⟩)

end Go.Proofs.Ytjagijohfkffiaa

/- The walk of the program's Judge. -/
namespace Go.Proofs.Ytjagijohfkffiaa
open Go.RowKit
set_option linter.unusedVariables false

theorem ndM_of {w : World} {B gn m ncap : Nat} {ns : List Nd} (h : w.ownsRow B 123 3 (.slice (some ⟨gn, 0, none⟩) m ncap) m (flat ns)) (hl : ns.length = m) : NdM w gn ns :=
  ⟨(h.lt _ rfl).2, fun i hi => (h.cellAt (i * 3) (by omega)).trans (flat_get ns i (by omega)).1, fun i hi => (h.cellAt (i * 3 + 1) (by omega)).trans (flat_get ns i (by omega)).2.1, fun i hi => (h.cellAt (i * 3 + 2) (by omega)).trans (flat_get ns i (by omega)).2.2⟩

section
variable (s : ByteArray) (a1 : Option Addr) (l1 c1 : Nat) (z1 : List Int) (w : World)

set_option maxHeartbeats 400000 in
theorem judge_no (hm : s.size ≤ maxLen) (h : (parseOf s).1 ≠ 0) : Calls Try.prog 28 #[.string s, .slice a1 l1 c1] w (RJudged s z1 w) := by
  have E : Hid (judgeErr s z1 = (parseOf s).1) := hid (by unfold judgeErr; rw [if_neg h])
  have C := parse_any s w hm
  unfold Parsed at C
  unfold RJudged
  rw [E.out]
  generalize parseOf s = p at *
  have k : ((p.1 : Int) != 0) = true := by rw [bne_iff_ne]; omega
  go_enter Try.func28, Try.ntmps28
  go_wp2_with fail
  refine C.mono ?_
  rintro e w1 ⟨ao, cap, rfl, _, hb⟩
  go_wp2_with fail
  go_ret2
  exact ⟨0, rfl, fun h1 => absurd h1 h, fun _ => rfl, hb⟩

set_option maxHeartbeats 4000000 in
set_option maxRecDepth 100000 in
theorem judge_yes (hm : s.size ≤ maxLen) (h : (parseOf s).1 = 0) (h1 : Ints w a1 l1 c1 z1) : Calls Try.prog 28 #[.string s, .slice a1 l1 c1] w (RJudged s z1 w) := by
  have E : Hid (judgeErr s z1 = if 40 < z1.length then 5 else if allL z1 = true then 0 else 6) := hid (by unfold judgeErr; rw [if_pos h])
  have C := parse_any s w hm
  unfold Parsed at C
  have G := hid (parse_good h)
  have m1 := h1.hmax
  have m3 := h1.hcap
  have L1 := h1.hlen
  have R1 := fun W (b : Below w.heap.size w W) => allLetters_any a1 l1 c1 z1 W (h1.below b)
  unfold RJudged
  rw [E.out]
  generalize parseOf s = p at *
  obtain ⟨p1, ns⟩ := p
  dsimp only at *
  subst h
  rw [L1]
  by_cases q1 : 40 < l1
  · rw [if_pos q1]
    have k1 : (40 : Int) < (l1 : Int) := by omega
    go_enter Try.func28, Try.ntmps28
    go_wp2_with fail
    refine C.mono ?_
    rintro e w1 ⟨ao, cap, rfl, _, hb⟩
    go_wp2_with fail
    go_ret2
    exact ⟨0, rfl, fun h1 => (by cases h1), fun _ => rfl, hb⟩
  rw [if_neg q1]
  have k1 : ¬ (40 : Int) < (l1 : Int) := by omega
  cases hal : allL z1 with
  | false =>
    rw [hal] at R1
    rw [if_neg (by simp)]
    clear hal
    go_enter Try.func28, Try.ntmps28
    go_wp2_with fail
    refine C.mono ?_
    rintro e w1 ⟨ao, cap, rfl, _, hb⟩
    go_wp2_with fail
    refine (R1 _ hb).mono ?_
    rintro e w2 ⟨rfl, rfl⟩
    go_wp2_with fail
    go_ret2
    exact ⟨0, rfl, fun h1 => (by cases h1), fun _ => rfl, hb⟩
  | true =>
    rw [hal] at R1
    rw [if_pos rfl]
    have HAL := hid hal
    have H1 := hid h1
    clear hal h1
    have hpos := G.out.pos
    obtain ⟨m1', hlen⟩ : ∃ m1', ns.length = m1' + 1 := ⟨ns.length - 1, by omega⟩
    have HLN := hid hlen
    rw [hlen] at C
    clear hlen hpos
    obtain ⟨od, hod, hor⟩ := Try.outUnder
    have HOC := hid Try.outCells
    clear hod hor
    go_enter Try.func28, Try.ntmps28
    go_wp2_with fail
    refine C.mono ?_
    rintro e w1 ⟨ao, cap, rfl, own, hb⟩
    obtain ⟨gn, rfl, _, hgn, _⟩ := own_at own (by omega)
    have ND := hid (ndM_of own HLN.out)
    clear C own
    go_wp2_with fail
    refine (R1 _ hb).mono ?_
    rintro e w2 ⟨rfl, rfl⟩
    clear R1
    go_wp2_with fail
    refine (look_any gn m1' cap ns _ ND.out G.out HLN.out).mono ?_
    rintro e w3 ⟨sl, liv, rfl, hlv, _, hon, hb3⟩
    have HLV := hid hlv
    have HB3 := hid (hb.trans (hb3.mono hb.size))
    have hs3 : w.heap.size ≤ w3.heap.size := HB3.out.size
    clear hlv hb3 ND hb
    have hth : (w3.alloc (.cells Try.zeroCells83 83)).there w3.heap.size 0 2561 := by
      have := raw_new w3 (outC (fun _ => 0) (.slice none 0 0) (fun _ => false) (fun _ => false)) 2561 83
      rw [← HOC.out] at this
      exact this.there 0 2561 (by omega)
    have HTH := hid hth
    clear hth
    go_wp2_with (refine wpList_store_raw rfl 83 (.tmp 8) (.tmp 24) rfl w3.heap.size 2561 (outC (befF ns) sl liv (begB ns liv)) rfl rfl HTH.out Try.outSize (outC_one _ _ _ hon) ?_)
    intro w4 S4
    have OM := hid (outM_of S4.at_)
    have HB4 := hid (S4.bel _ _ hs3 (HB3.out.alloc hs3 (.cells Try.zeroCells83 83)))
    clear S4 HTH HB3
    go_wp2_with fail
    refine (ojudge_any w3.heap.size ns liv (begB ns liv) a1 l1 c1 z1 w4 G.out.le OM.out (H1.out.below HB4.out) HAL.out).mono ?_
    rintro e w5 ⟨rfl, hb5⟩
    have HB5 := hid (HB4.out.trans (hb5.mono HB4.out.size))
    have HV := hid (verdG_verdict G.out HLV.out (nat_lt HAL.out))
    clear hb5 HB4 OM
    go_wp2_with fail
    go_ret2
    exact ⟨_, rfl, fun _ => HV.out, fun h0 => absurd rfl h0, HB5.out⟩

theorem judge_any (hm : s.size ≤ maxLen) (h1 : Ints w a1 l1 c1 z1) : Calls Try.prog 28 #[.string s, .slice a1 l1 c1] w (RJudged s z1 w) := by
  by_cases h : (parseOf s).1 = 0
  · exact judge_yes s a1 l1 c1 z1 w hm h h1
  · exact judge_no s a1 l1 c1 z1 w hm h

end

end Go.Proofs.Ytjagijohfkffiaa

/- Judges: the walk and the row. -/
namespace Go.Proofs.Ytjagijohfkffiaa.judges
open Go.ChangeShapes Go.WideShapes Go.ChangeAt Go.RowKit
open Go.ChangeMaps (open_string shut_string)
set_option linter.unusedVariables false

theorem own : ownKnob Try.prog.godebug = none := by kernel_rfl
theorem laidOut : laidOutB Try.prog = true := by kernel_rfl

set_option maxHeartbeats 400000 in
theorem numm_any (n : Int) (w : World) : Calls Try.prog 17 #[.int .i64 n] w fun e w' => e = .returned (.int .i64 n) ∧ w' = w := by
  go_enter Try.func17, Try.ntmps17
  go_wp2
  go_ret
  exact ⟨rfl, rfl⟩

set_option maxHeartbeats 400000 in
theorem walk (s : ByteArray) (a1 : Option Addr) (l1 c1 : Nat) (z1 : List Int) (w : World) (hm : s.size ≤ maxLen) (h1 : Ints w a1 l1 c1 z1) :
    Calls Try.prog 7 #[.string s, .slice a1 l1 c1] w fun e w' => e = .returned (.bool true) ∧ Below w.heap.size w w' := by
  have C1 := judge_any s a1 l1 c1 z1 w hm h1
  have C2 := fun W (b : Below w.heap.size w W) => rjudge_any s a1 l1 c1 z1 W hm (h1.below b)
  unfold RJudged at C1 C2
  generalize judgeErr s z1 = er at *
  go_enter Try.func7, Try.ntmps7
  go_wp2_with fail
  refine C1.mono ?_
  rintro e w1 ⟨v1, rfl, p1, q1, hb1⟩
  go_wp2_with fail
  refine (C2 _ hb1).mono ?_
  rintro e w2 ⟨v2, rfl, p2, q2, hb2⟩
  obtain rfl : v1 = v2 := by
    by_cases h0 : er = 0
    · exact verdict_fun (p1 h0) (p2 h0)
    · rw [q1 h0, q2 h0]
  have B := hid (hb1.trans (hb2.mono hb1.size))
  clear C1 C2 hb1 hb2 p1 p2 q1 q2
  go_wp2
  go_ret
  exact ⟨rfl, B.out⟩

/-- A slice of ints among the arguments. -/
theorem ints_of {H : Type} {enc : TypeId × Value → H} {W : World} {a : Option Addr} {len cap : Nat} {d : DataW H} {p : List MemPlace} (h : DataW.Trod enc Try.prog W 0 (fun _ => true) true 27 (.slice a len cap) d p) : ∃ zs, Ints W a len cap zs := by
  obtain ⟨fuel, hf⟩ := h
  rcases open_ints Try.underlying27 Try.underlying3 (by kernel_rfl) hf with ⟨hcs, _⟩ | ⟨x, l, c, zs, hcs, _, hl, hm, hz, _, hcell, hwz⟩
  · simp [Value.cells] at hcs
    obtain ⟨rfl, rfl, rfl⟩ := hcs
    exact ⟨[], rfl, Nat.le_refl _, by omega, fun _ => ⟨rfl, rfl⟩, fun h => by omega⟩
  · simp [Value.cells] at hcs
    obtain ⟨rfl, rfl, rfl⟩ := hcs
    have hz2 : zs.length = cap := by simpa using hz
    unfold maxLen at hm
    refine ⟨zs.take len, by rw [List.length_take]; omega, hl, hm, fun h => by simp at h, fun h0 => ?_⟩
    obtain ⟨b, off, hx, hc⟩ := ints_at hcell (by omega)
    subst hx
    refine ⟨b, off, rfl, World.block_lt_of_cell? W ⟨b, off + 0, none⟩ (hc 0 (by omega)), fun i hi => ?_⟩
    rw [hc i (by omega)]
    simp [List.getD, List.getElem?_take_of_lt hi]

set_option maxRecDepth 100000 in
theorem lifted (os : Os) (started : os.Started) (H : Type) (enc : TypeId × Value → H) :
    ReturnsInHanded {} Try.checked os 7 .any (Rows.judgesSpec.pre6 enc Try.prog Try.f7 Rows.judgesRow.domain false) (Rows.judgesSpec.post enc Try.prog Try.f7 false true false false) := by
  refine returnsInHanded_of_change (C := Try.checked) own started (by kernel_rfl) Try.func7
    (ChangeSpec.witness6 (enc := enc) (C := Try.checked) false ⟨#[], #[.string ByteArray.empty, .slice none 0 0], []⟩ 8 (by kernel_rfl) (by kernel_rfl) (by kernel_rfl) (by kernel_rfl)) ?_
  intro W base args ds gs before hval0 hW hcnd _
  have hval : ∀ (j : Nat) t v, Try.f7.params[j]? = some t → args[j]? = some v → Value.okWide Try.prog W .any base t v := hval0
  have hW' := hW
  obtain ⟨p, q, hA0, hV, rfl, hfz, hnd⟩ := hW
  have hA : DataW.TrodAll enc Try.prog W 0 (fun _ => true) true Try.f7.params.toList args.toList ds p := hA0
  rw [Try.params7] at hA hval
  obtain ⟨v0, vs0, d0, ds0, p0, q0, hargs, rfl, rfl, h0, r0⟩ := trodAll_cons hA
  obtain ⟨v1, vs1, d1, ds1, p1, q1, rfl, rfl, rfl, h1, r1⟩ := trodAll_cons r0
  obtain ⟨rfl, rfl, rfl⟩ := trodAll_nil r1
  obtain rfl : args = #[v0, v1] := by cases args; simp_all
  obtain ⟨rfl, rfl⟩ := trodVars_none hV
  obtain ⟨a0, rfl, rfl, rfl, w0⟩ := open_string Try.underlying9 (hval 0 9 v0 rfl rfl) h0
  obtain ⟨a1, len1, cap1, rfl⟩ := okWide_slice Try.underlying27 (hval 1 27 v1 rfl rfl)
  have lt1 : ∀ x ∈ p1, x.block < W.heap.size := by obtain ⟨m, hm⟩ := h1; exact DataW.trod_lt m _ _ _ hm
  obtain ⟨z1, w1⟩ := ints_of h1
  clear hA0 hval0
  refine (walk a0 a1 len1 cap1 z1 W w0 w1).mono fun e W' ⟨he, bel⟩ => ?_
  subst he
  exact ⟨_, rfl, _, _, _, [], _, [], hW', trodAll_mk1 (shut_bool Try.underlying4 _), (trodAll_cons_mk (shut_string Try.underlying9 w0) (trodAll_cons_mk (Below.trod laidOut (by kernel_rfl) (of_decide_eq_true (by kernel_rfl)) h1 bel lt1) trodAll_mk0)), rfl, bel.frame _, fun h => by cases h⟩

theorem over : Rows.judgesRow.holds Try.pinned (OpenSpec.ofChange Rows.judgesSpec) :=
  OpenClaim.holds_of_wide 7 Try.f7 rfl rfl rfl rfl rfl rfl rfl ⟨rfl, rfl, rfl, rfl, rfl⟩ rfl rfl rfl rfl rfl (by kernel_rfl) Try.func7 (by kernel_rfl)
    (of_decide_eq_true (by kernel_rfl)) (by unfold Func.isWrapper; first | (rw [if_pos (by decide +kernel)]; kernel_rfl) | (rw [if_neg (by decide +kernel)]; exact ⟨rfl, rfl⟩))
    (fun os started H enc _ => lifted os started H enc)

theorem proved : Rows.JudgesSaid := over
end Go.Proofs.Ytjagijohfkffiaa.judges
namespace Go.Proofs.Ytjagijohfkffiaa
theorem judges_holds : Rows.JudgesSaid := judges.proved
end Go.Proofs.Ytjagijohfkffiaa
