import Derived.Test.YtjagijohfkffiaaWM01
import Derived.Test.YtjagijohfkffiaaWM02
import Derived.Test.YtjagijohfkffiaaWM14
import Derived.Test.YtjagijohfkffiaaWM15
import Derived.Test.YtjagijohfkffiaaWM19
import Derived.Deep.QuietTactic
import Derived.BigQuiet

/- Plain mathematics: the machine of a formula. -/
namespace Go.Proofs.Ytjagijohfkffiaa
set_option linter.unusedVariables false

theorem numbered_lt {n : Nat} {nx : Nat → Nat → Nat} (h : Numbered n nx) {i a : Nat} (hi : i < n) (ha : a < 8) : nx i a < n := by
  have h1 := met_mono nx (show 8 * i + a + 1 ≤ 8 * n by omega)
  simp only [met] at h1
  rw [h.2, show (8 * i + a) / 8 = i by omega, show (8 * i + a) % 8 = a by omega] at h1
  omega
theorem numbered_pos {n : Nat} {nx : Nat → Nat → Nat} (h : Numbered n nx) : 0 < n := by
  have := met_pos nx (8 * n)
  rw [h.2] at this
  exact this
theorem run_lt {n : Nat} {nx : Nat → Nat → Nat} (hc : ∀ i a, i < n → a < 8 → nx i a < n) : ∀ (w : List Nat) (i : Nat), i < n → LettersL w → runM nx i w < n
  | [], i, hi, _ => hi
  | a :: w, i, hi, hw => run_lt hc w (nx i a) (hc i a hi (hw a (List.mem_cons_self ..))) (fun x hx => hw x (List.mem_cons_of_mem _ hx))

/-- The machine of a formula: it tells the verdicts, has no state too many, and numbers them as they are met. -/
structure Mach (ns : List Nd) (n : Nat) (out : Nat → Nat) (nx : Nat → Nat → Nat) : Prop where
  num : Numbered n nx
  apart : Apart n out nx
  tells : ∀ w, LettersL w → Verdict ns w (out (runM nx 0 w))
theorem mach_fun {ns : List Nd} {n n' : Nat} {out out' : Nat → Nat} {nx nx' : Nat → Nat → Nat} (h : Mach ns n out nx) (k : Mach ns n' out' nx') : n = n' ∧ (∀ i, i < n → out i = out' i) ∧ ∀ i a, i < n → a < 8 → nx i a = nx' i a :=
  same_machine h.num k.num h.apart k.apart fun w hw => verdict_fun (h.tells w hw) (k.tells w hw)

/-- It has more states than there may be. -/
def Big (ns : List Nd) : Prop := ∀ n out nx, Mach ns n out nx → 8 < n
theorem big_mach {ns : List Nd} {n : Nat} {out : Nat → Nat} {nx : Nat → Nat → Nat} (h : Mach ns n out nx) (hn : 8 < n) : Big ns := fun n' out' nx' k => by
  have := (mach_fun h k).1
  omega

section
variable {ns : List Nd} {liv : Nat → Bool} {us : List (List Nat)} {xs : List Nat}

theorem expl_lt (hE : Expl ns liv (begB ns liv) us xs) (hx : xs.length = 8 * us.length) : ∀ i a, i < us.length → a < 8 → nxL xs i a < us.length := fun i a hi ha => by
  obtain ⟨_, u1, _, h1, _⟩ := hE.ok (8 * i + a) (by omega)
  exact (List.getElem?_eq_some_iff.1 h1).1

theorem base_verdict (hg : Good ns) (hl : LivP ns (calmsTo ns ns.length) liv) (hE : Expl ns liv (begB ns liv) us xs) (hx : xs.length = 8 * us.length) {w : List Nat} (hw : LettersL w) : Verdict ns w (outU ns liv (begB ns liv) us (runM (nxL xs) 0 w)) := by
  let x : Nat → Nat := fun i => w.getD i 0
  have hL : Letters x := fun t => by
    show w.getD t 0 < 8
    rw [List.getD]
    cases e : w[t]? with
    | none => simp
    | some y => exact hw y (List.mem_of_getElem? e)
  let sp : Nat → Nat := fun t => Nat.rec 0 (fun t s => nxL xs s (x t)) t
  have e : pre x w.length = w := by
    unfold pre
    apply List.ext_getElem
    · simp
    · intro i h1 h2
      simp [x, List.getD, List.getElem?_eq_getElem h2]
  have hsp : ∀ t, sp t = runM (nxL xs) 0 (pre x t) := fun t => by
    induction t with
    | zero => rfl
    | succ t ih =>
      rw [pre_succ, runM_app, ← ih]
      rfl
  have := spot_verdict hg hl hE hx hL (sp := sp) rfl (fun t => rfl) w.length
  rw [hsp, e] at this
  exact this

/-- The kinds of the states, when none is added: the machine of the formula. -/
theorem kinds_mach (hg : Good ns) (hl : LivP ns (calmsTo ns ns.length) liv) (hE : Expl ns liv (begB ns liv) us xs) (hx : xs.length = 8 * us.length) {kd out' : Nat → Nat} {nx' : Nat → Nat → Nat} (hf : Fo kd us.length)
    (hh : Hom us.length (outU ns liv (begB ns liv) us) (nxL xs) kd out' nx') (hk : ∀ i j, i < us.length → j < us.length → Like (outU ns liv (begB ns liv) us) (nxL xs) (outU ns liv (begB ns liv) us) (nxL xs) i j → kd i = kd j) : Mach ns (cntK kd us.length) out' nx' := by
  have hpos : 0 < us.length := (List.getElem?_eq_some_iff.1 hE.first).1
  have hc := expl_lt hE hx
  have k0 : kd 0 = 0 := by
    have := hf 0 hpos
    simp only [cntK] at this
    omega
  refine ⟨quot_numbered hpos (expl_numbered hE hx) hh hc hf, hom_apart hh hc hf hk, fun w hw => ?_⟩
  have h1 := hom_like hh hc hpos w hw
  rw [k0] at h1
  rw [← h1]
  exact base_verdict hg hl hE hx hw

/-- A word that leads to a state. -/
theorem expl_word (hE : Expl ns liv (begB ns liv) us xs) (hx : xs.length = 8 * us.length) : ∀ i, i < us.length → ∃ w, LettersL w ∧ runM (nxL xs) 0 w = i := by
  have hn := expl_numbered hE hx
  have key : ∀ p, p ≤ 8 * us.length → ∀ i, i < met (nxL xs) p → ∃ w, LettersL w ∧ runM (nxL xs) 0 w = i := by
    intro p
    induction p with
    | zero =>
      intro _ i hi
      simp only [met] at hi
      exact ⟨[], fun x hx => by simp at hx, by show 0 = i; omega⟩
    | succ p ih =>
      intro hp i hi
      by_cases c : i < met (nxL xs) p
      · exact ih (by omega) i c
      · simp only [met] at hi
        obtain ⟨h1, h2⟩ := hn.1 p (by omega)
        obtain ⟨w, h3, h4⟩ := ih (by omega) _ h1
        refine ⟨w ++ [p % 8], fun x hx => ?_, ?_⟩
        · rcases List.mem_append.1 hx with hx | hx
          · exact h3 x hx
          · simp at hx; omega
        · rw [runM_app, h4]
          show nxL xs (p / 8) (p % 8) = i
          omega
  intro i hi
  exact key (8 * us.length) (Nat.le_refl _) i (by rw [hn.2]; exact hi)

/-- More kinds than there may be: no machine is small enough. -/
theorem kinds_big (hg : Good ns) (hl : LivP ns (calmsTo ns ns.length) liv) (hE : Expl ns liv (begB ns liv) us xs) (hx : xs.length = 8 * us.length) {kd : Nat → Nat} (hf : Fo kd us.length)
    (hk : ∀ i j, i < us.length → j < us.length → Like (outU ns liv (begB ns liv) us) (nxL xs) (outU ns liv (begB ns liv) us) (nxL xs) i j → kd i = kd j) (h8 : 8 < cntK kd us.length) : Big ns := by
  intro n out nx hm
  have hc := expl_lt hE hx
  have hpos : 0 < us.length := (List.getElem?_eq_some_iff.1 hE.first).1
  have hn := numbered_pos hm.num
  have L0 : Like (outU ns liv (begB ns liv) us) (nxL xs) out nx 0 0 := fun w hw => verdict_fun (base_verdict hg hl hE hx hw) (hm.tells w hw)
  have ex : ∀ c, ∃ s r, c < cntK kd us.length → s < n ∧ r < us.length ∧ kd r = c ∧ Like (outU ns liv (begB ns liv) us) (nxL xs) out nx r s := fun c => by
    by_cases hc0 : c < cntK kd us.length
    · obtain ⟨r, h1, h2, _⟩ := rep_ex hf hc0
      obtain ⟨w, h3, h4⟩ := expl_word hE hx r h1
      refine ⟨runM nx 0 w, r, fun _ => ⟨run_lt (fun i a hi ha => numbered_lt hm.num hi ha) w 0 hn h3, h1, h2, fun v hv => ?_⟩⟩
      have := L0 (w ++ v) (fun x hx => by
        rcases List.mem_append.1 hx with hx | hx
        · exact h3 x hx
        · exact hv x hx)
      rw [runM_app, runM_app, h4] at this
      exact this
    · exact ⟨0, 0, fun h => absurd h hc0⟩
  let s : Nat → Nat := fun c => Classical.choose (ex c)
  have hs : ∀ c, ∃ r, c < cntK kd us.length → s c < n ∧ r < us.length ∧ kd r = c ∧ Like (outU ns liv (begB ns liv) us) (nxL xs) out nx r (s c) := fun c => Classical.choose_spec (ex c)
  have inj : ∀ c d, c < cntK kd us.length → d < cntK kd us.length → s c = s d → c = d := fun c d h1 h2 e => by
    obtain ⟨r, hr⟩ := hs c
    obtain ⟨q, hq⟩ := hs d
    obtain ⟨_, a1, a2, a3⟩ := hr h1
    obtain ⟨_, b1, b2, b3⟩ := hq h2
    rw [e] at a3
    rw [← a2, ← b2]
    exact hk r q a1 b1 (like_trans a3 (like_symm b3))
  have hnd : ((List.range (cntK kd us.length)).map s).Nodup := by
    rw [List.nodup_iff_pairwise_ne, List.pairwise_map]
    refine List.Pairwise.imp_of_mem ?_ (List.nodup_iff_pairwise_ne.1 List.nodup_range)
    intro a b ha hb hne e
    exact hne (inj a b (by simpa using ha) (by simpa using hb) e)
  have := nodup_le _ _ hnd (fun y hy => by
    obtain ⟨c, h1, rfl⟩ := List.mem_map.1 hy
    obtain ⟨r, hr⟩ := hs c
    exact (hr (by simpa using h1)).1)
  simp only [List.length_map, List.length_range] at this
  omega
end

/-! ### The reference's way: through what is met -/
def atM (ms : List Nat) (i : Nat) : Nat := ms.getD i 0
section
variable (out : Nat → Nat) (nx : Nat → Nat → Nat)

structure WEx (K : Nat) (ms xs : List Nat) : Prop where
  first : ms[0]? = some 0
  lt : ∀ m ∈ ms, m < K
  dist : ms.Pairwise fun a b => ¬ Like out nx out nx a b
  ok : ∀ p, p < xs.length → ∃ m0 m1, ms[p / 8]? = some m0 ∧ ms[xs.getD p 0]? = some m1 ∧ Like out nx out nx (nx m0 (p % 8)) m1
  num : ms.length = met (nxL xs) xs.length
  met_ : ∀ p, p < xs.length → p / 8 < met (nxL xs) p ∧ xs.getD p 0 ≤ met (nxL xs) p
end

section
variable {out : Nat → Nat} {nx : Nat → Nat → Nat} {K : Nat} {ms xs : List Nat}

theorem like_refl (i : Nat) : Like out nx out nx i i := fun w _ => rfl
theorem wex_start (hK : 0 < K) : WEx out nx K [0] [] := ⟨rfl, fun m hm => by simp at hm; omega, by simp, fun p hp => by simp at hp, rfl, fun p hp => by simp at hp⟩
theorem wex_old (h : WEx out nx K ms xs) {m0 m1 j : Nat} (h0 : ms[xs.length / 8]? = some m0) (h1 : ms[j]? = some m1) (hq : Like out nx out nx (nx m0 (xs.length % 8)) m1) : WEx out nx K ms (xs ++ [j]) := by
  have hj := (List.getElem?_eq_some_iff.1 h1).1
  have hi := (List.getElem?_eq_some_iff.1 h0).1
  have hn := h.num
  refine ⟨h.first, h.lt, h.dist, fun p hp => ?_, ?_, fun p hp => ?_⟩
  · rw [List.length_append, List.length_singleton] at hp
    by_cases e : p = xs.length
    · subst e; rw [getD_snoc_eq]; exact ⟨m0, m1, h0, h1, hq⟩
    · rw [getD_snoc_lt (by omega)]; exact h.ok p (by omega)
  · rw [List.length_append, List.length_singleton, met, met_snoc _ (Nat.le_refl _), nxL_at, getD_snoc_eq, ← h.num]
    omega
  · rw [List.length_append, List.length_singleton] at hp
    rw [met_snoc p (by omega)]
    by_cases e : p = xs.length
    · subst e; rw [getD_snoc_eq, ← h.num]; exact ⟨hi, by omega⟩
    · rw [getD_snoc_lt (by omega)]; exact h.met_ p (by omega)
theorem wex_new (h : WEx out nx K ms xs) {m0 : Nat} (h0 : ms[xs.length / 8]? = some m0) (hlt : nx m0 (xs.length % 8) < K) (hall : ∀ m ∈ ms, ¬ Like out nx out nx (nx m0 (xs.length % 8)) m) : WEx out nx K (ms ++ [nx m0 (xs.length % 8)]) (xs ++ [ms.length]) := by
  have hi := (List.getElem?_eq_some_iff.1 h0).1
  have hn := h.num
  have old : ∀ {i m : Nat}, ms[i]? = some m → (ms ++ [nx m0 (xs.length % 8)])[i]? = some m := fun {i u} hu => by
    rw [List.getElem?_append_left (List.getElem?_eq_some_iff.1 hu).1]; exact hu
  refine ⟨old h.first, fun m hm => ?_, ?_, fun p hp => ?_, ?_, fun p hp => ?_⟩
  · rcases List.mem_append.1 hm with hm | hm
    · exact h.lt m hm
    · simp at hm; omega
  · rw [List.pairwise_append]
    refine ⟨h.dist, by simp, fun a ha b hb => ?_⟩
    simp at hb
    subst hb
    exact fun hk => hall a ha (like_symm hk)
  · rw [List.length_append, List.length_singleton] at hp
    by_cases e : p = xs.length
    · subst e
      rw [getD_snoc_eq]
      exact ⟨m0, nx m0 (xs.length % 8), old h0, by simp, like_refl _⟩
    · rw [getD_snoc_lt (by omega)]
      obtain ⟨a, b, h1, h2, h3⟩ := h.ok p (by omega)
      exact ⟨a, b, old h1, old h2, h3⟩
  · rw [List.length_append, List.length_singleton, List.length_append, List.length_singleton, met, met_snoc _ (Nat.le_refl _), nxL_at, getD_snoc_eq, ← h.num]
    omega
  · rw [List.length_append, List.length_singleton] at hp
    rw [met_snoc p (by omega)]
    by_cases e : p = xs.length
    · subst e; rw [getD_snoc_eq, ← h.num]; exact ⟨hi, by omega⟩
    · rw [getD_snoc_lt (by omega)]; exact h.met_ p (by omega)

theorem wex_len (h : WEx out nx K ms xs) : ms.length ≤ K := nodup_le _ _ (by
  rw [List.nodup_iff_pairwise_ne]
  exact h.dist.imp fun hab e => hab (by subst e; exact like_refl _)) h.lt
theorem wex_numbered (h : WEx out nx K ms xs) (he : xs.length = 8 * ms.length) : Numbered ms.length (nxL xs) := by
  refine ⟨fun p hp => ?_, ?_⟩
  · rw [nxL_at]; exact h.met_ p (by omega)
  · rw [← he, ← h.num]

theorem wex_like (h : WEx out nx K ms xs) (he : xs.length = 8 * ms.length) : ∀ (w : List Nat) (m i : Nat), i < ms.length → LettersL w → Like out nx out nx m (atM ms i) → out (runM nx m w) = out (atM ms (runM (nxL xs) i w))
  | [], m, i, hi, _, hk => hk [] (fun x hx => by simp at hx)
  | a :: w, m, i, hi, hw, hk => by
    have ha := hw a (List.mem_cons_self ..)
    obtain ⟨m0, m1, h1, h2, h3⟩ := h.ok (8 * i + a) (by omega)
    rw [show (8 * i + a) / 8 = i by omega] at h1
    rw [show (8 * i + a) % 8 = a by omega] at h3
    have e0 : atM ms i = m0 := by simp [atM, List.getD, h1]
    have e1 : atM ms (nxL xs i a) = m1 := by show ms.getD (xs.getD (8 * i + a) 0) 0 = m1; simp only [List.getD] at h2 ⊢; rw [h2]; rfl
    rw [e0] at hk
    simp only [runM]
    exact wex_like h he w (nx m a) (nxL xs i a) (List.getElem?_eq_some_iff.1 h2).1 (fun x hx => hw x (List.mem_cons_of_mem _ hx)) (by rw [e1]; exact like_trans (like_next hk ha) h3)

theorem wex_apart (h : WEx out nx K ms xs) (he : xs.length = 8 * ms.length) : Apart ms.length (fun i => out (atM ms i)) (nxL xs) := by
  intro i j hi hj hk
  have hlike : Like out nx out nx (atM ms i) (atM ms j) := fun w hw => by
    rw [wex_like h he w _ i hi hw (like_refl _), wex_like h he w _ j hj hw (like_refl _)]
    exact hk w hw
  have hd := List.pairwise_iff_getElem.1 h.dist
  have ei : atM ms i = ms[i] := by simp [atM, List.getD, List.getElem?_eq_getElem hi]
  have ej : atM ms j = ms[j] := by simp [atM, List.getD, List.getElem?_eq_getElem hj]
  rw [ei, ej] at hlike
  rcases Nat.lt_trichotomy i j with c | c | c
  · exact absurd hlike (hd i j hi hj c)
  · exact c
  · exact absurd (like_symm hlike) (hd j i hj hi c)

theorem wex_mach {ns : List Nd} {liv : Nat → Bool} {us : List (List Nat)} {ys : List Nat} (hg : Good ns) (hl : LivP ns (calmsTo ns ns.length) liv) (hE : Expl ns liv (begB ns liv) us ys) (hy : ys.length = 8 * us.length)
    (h : WEx (outU ns liv (begB ns liv) us) (nxL ys) us.length ms xs) (he : xs.length = 8 * ms.length) : Mach ns ms.length (fun i => outU ns liv (begB ns liv) us (atM ms i)) (nxL xs) := by
  refine ⟨wex_numbered h he, wex_apart h he, fun w hw => ?_⟩
  have h0 : atM ms 0 = 0 := by simp [atM, List.getD, h.first]
  have := wex_like h he w 0 0 (List.getElem?_eq_some_iff.1 h.first).1 hw (by rw [h0]; exact like_refl _)
  show Verdict ns w (outU ns liv (begB ns liv) us (atM ms (runM (nxL xs) 0 w)))
  rw [← this]
  exact base_verdict hg hl hE hy hw
end

end Go.Proofs.Ytjagijohfkffiaa

/- Plain mathematics: sets of nodes as the reference looks at them, and its nets of sets. -/
namespace Go.Proofs.Ytjagijohfkffiaa

def fitN (nd : Nd) (k : Nat) (S : Nat → Bool) : Bool :=
  if nd.op = 48 then !S k else if nd.op = 49 then S k else if nd.op = 33 then S k != S nd.l else if nd.op = 38 then S k == (S nd.l && S nd.r) else if nd.op = 124 then S k == (S nd.l || S nd.r)
  else if nd.op = 70 then S k || !S nd.l else if nd.op = 71 then !S k || S nd.l else if nd.op = 85 then (S k || !S nd.r) && (!S k || S nd.l || S nd.r) else if nd.op = 82 then (!S k || S nd.r) && (S k || !S nd.l || !S nd.r) else true
def readN (nd : Nd) (k : Nat) (S : Nat → Bool) (x : Nat) : Bool := if nd.op = 112 ∨ nd.op = 113 ∨ nd.op = 114 then saysB x nd.op == S k else true
def folN (nd : Nd) (k : Nat) (S T : Nat → Bool) : Bool :=
  if nd.op = 88 then S k == T nd.l else if nd.op = 70 then S k == (S nd.l || T k) else if nd.op = 71 then S k == (S nd.l && T k) else if nd.op = 85 then S k == (S nd.r || (S nd.l && T k)) else if nd.op = 82 then S k == (S nd.r && (S nd.l || T k)) else true

def fitsP (ns : List Nd) (S : Nat → Bool) : Prop := ∀ k, k < ns.length → fitN (ndAt ns k) k S = true
def readP (ns : List Nd) (S : Nat → Bool) (x : Nat) : Prop := ∀ k, k < ns.length → readN (ndAt ns k) k S x = true
def folP (ns : List Nd) (S T : Nat → Bool) : Prop := ∀ k, k < ns.length → folN (ndAt ns k) k S T = true

theorem ndAt_some {ns : List Nd} {k : Nat} (h : k < ns.length) : ns[k]? = some (ndAt ns k) := by
  simp [ndAt, List.getD, List.getElem?_eq_getElem h]
theorem ndAt_of {ns : List Nd} {k : Nat} {nd : Nd} (h : ns[k]? = some nd) : k < ns.length ∧ ndAt ns k = nd := by
  obtain ⟨hk, e⟩ := List.getElem?_eq_some_iff.1 h
  exact ⟨hk, by simp [ndAt, List.getD, h]⟩

theorem law_three {nd : Nd} (hc : leafB nd.op = true ∨ oneB nd.op = true ∨ twoB nd.op = true) (k x : Nat) (S T : Nat → Bool) : S k = lawB nd.op x (S nd.l) (S nd.r) (T k) (T nd.l) ↔ fitN nd k S = true ∧ readN nd k S x = true ∧ folN nd k S T = true := by
  unfold fitN readN folN
  rcases hc with hc | hc | hc
  · rcases leaf_is hc with e | e | e | e | e
    · simp [e, lawB]
    · simp [e, lawB]
    · simp [e, lawB, saysB]; exact eq_comm
    · simp [e, lawB, saysB]; exact eq_comm
    · simp [e, lawB, saysB]; exact eq_comm
  · rcases one_is hc with e | e | e | e
    · simp [e, lawB]; cases S k <;> cases S nd.l <;> simp
    · simp [e, lawB]
    · simp [e, lawB]; cases S k <;> cases S nd.l <;> simp
    · simp [e, lawB]; cases S k <;> cases S nd.l <;> simp
  · rcases two_is hc with e | e | e | e
    · simp [e, lawB]
    · simp [e, lawB]
    · simp [e, lawB]; cases S k <;> cases S nd.l <;> cases S nd.r <;> simp
    · simp [e, lawB]; cases S k <;> cases S nd.l <;> cases S nd.r <;> simp

theorem step_iff {ns : List Nd} (hw : Wf2 ns) (x : Nat) (S T : Nat → Bool) : Step ns x S T ↔ fitsP ns S ∧ readP ns S x ∧ folP ns S T := by
  constructor
  · intro h
    have key := fun k (hk : k < ns.length) => (law_three (wf2_class hw (ndAt_some hk)).1 k x S T).1 (h k _ (ndAt_some hk))
    exact ⟨fun k hk => (key k hk).1, fun k hk => (key k hk).2.1, fun k hk => (key k hk).2.2⟩
  · rintro ⟨h1, h2, h3⟩ k nd hn
    obtain ⟨hk, e⟩ := ndAt_of hn
    subst e
    exact (law_three (wf2_class hw hn).1 k x S T).2 ⟨h1 k hk, h2 k hk, h3 k hk⟩

/-- The number whose bits are these. -/
def bitsN (S : Nat → Bool) : Nat → Nat
  | 0 => 0
  | j + 1 => (if S j then 2 ^ j else 0) + bitsN S j

theorem bitsN_lt (S : Nat → Bool) (n : Nat) : bitsN S n < 2 ^ n := by
  induction n with
  | zero => simp [bitsN]
  | succ n ih => simp only [bitsN, Nat.pow_succ]; split <;> omega
theorem bitsN_bit (S : Nat → Bool) (n k : Nat) (hk : k < n) : (bitsN S n).testBit k = S k := by
  induction n with
  | zero => omega
  | succ n ih =>
    simp only [bitsN]
    have hb := bitsN_lt S n
    by_cases e : k = n
    · subst e
      cases hS : S k with
      | true => rw [if_pos rfl, Nat.testBit_two_pow_add_eq, Nat.testBit_lt_two_pow hb]; rfl
      | false => rw [if_neg (by simp), Nat.zero_add, Nat.testBit_lt_two_pow hb]
    · cases hS : S n with
      | true => rw [if_pos rfl, Nat.testBit_two_pow_add_gt (by omega)]; exact ih (by omega)
      | false => rw [if_neg (by simp), Nat.zero_add]; exact ih (by omega)

/-- A family of sets: all that fit and that some letter reads, and no others. -/
structure AllSets (ns : List Nd) (N : Nat) (m : Nat → Nat → Bool) : Prop where
  fits : ∀ i, i < N → fitsP ns (m i)
  read : ∀ i, i < N → ∃ x, x < 8 ∧ readP ns (m i) x
  all : ∀ S x, x < 8 → fitsP ns S → readP ns S x → ∃ i, i < N ∧ EqOn ns.length S (m i)

theorem fits_congr {ns : List Nd} (hw : Wf2 ns) {S T : Nat → Bool} (h : EqOn ns.length S T) (hf : fitsP ns S) : fitsP ns T := fun k hk => by
  obtain ⟨h1, h2, h3⟩ := wf2_lt hw (ndAt_some hk)
  have := hf k hk
  unfold fitN at this ⊢
  rw [← h k h1, ← h _ h2, ← h _ h3]
  exact this
theorem read_congr {ns : List Nd} {S T : Nat → Bool} (h : EqOn ns.length S T) {x : Nat} (hf : readP ns S x) : readP ns T x := fun k hk => by
  have := hf k hk
  unfold readN at this ⊢
  rw [← h k hk]
  exact this
theorem fol_congr {ns : List Nd} (hw : Wf2 ns) {S T S' T' : Nat → Bool} (h : EqOn ns.length S S') (h' : EqOn ns.length T T') (hf : folP ns S T) : folP ns S' T' := fun k hk => by
  obtain ⟨h1, h2, h3⟩ := wf2_lt hw (ndAt_some hk)
  have := hf k hk
  unfold folN at this ⊢
  rw [← h k h1, ← h _ h2, ← h _ h3, ← h' k h1, ← h' _ h2]
  exact this
theorem kept_congr {ns : List Nd} (hw : Wf2 ns) {S T : Nat → Bool} (h : EqOn ns.length S T) {k : Nat} (hk : k < ns.length) : keptN (ndAt ns k) k S = keptN (ndAt ns k) k T := by
  obtain ⟨h1, h2, h3⟩ := wf2_lt hw (ndAt_some hk)
  unfold keptN
  rw [h k h1, h _ h2, h _ h3]

def edgeS (ns : List Nd) (N : Nat) (m : Nat → Nat → Bool) (i j : Nat) : Prop := i < N ∧ j < N ∧ folP ns (m i) (m j)
def markS (ns : List Nd) (m : Nat → Nat → Bool) (k i : Nat) : Prop := keptN (ndAt ns k) k (m i) = true

/-- A set may begin an endless row just if an endless path that keeps all goes from it. -/
theorem live_path {ns : List Nd} (hw : Wf2 ns) {N : Nat} {m : Nat → Nat → Bool} (hA : AllSets ns N m) {i : Nat} (hi : i < N) :
    chain ns [] (m i) ↔ ∃ q, q 0 = i ∧ Path (edgeS ns N m) q ∧ Meets (markS ns m) ns.length q := by
  constructor
  · rintro ⟨x, S, h1, h2, h3⟩
    have ex : ∀ t, ∃ j, j < N ∧ EqOn ns.length (S t) (m j) := fun t => by
      obtain ⟨f1, f2, _⟩ := (step_iff hw (x t) (S t) (S (t + 1))).1 (h2.step t)
      exact hA.all (S t) (x t) (h1 t) f1 f2
    let q : Nat → Nat := fun t => if t = 0 then i else Classical.choose (ex t)
    have hq : ∀ t, q t < N ∧ EqOn ns.length (S t) (m (q t)) := fun t => by
      by_cases e : t = 0
      · subst e; exact ⟨hi, h3⟩
      · have e2 : q t = Classical.choose (ex t) := if_neg e
        rw [e2]; exact Classical.choose_spec (ex t)
    refine ⟨q, if_pos rfl, fun t => ⟨(hq t).1, (hq (t + 1)).1, ?_⟩, fun k hk t => ?_⟩
    · obtain ⟨_, _, f3⟩ := (step_iff hw (x t) (S t) (S (t + 1))).1 (h2.step t)
      exact fol_congr hw (hq t).2 (hq (t + 1)).2 f3
    · obtain ⟨t', ht, h4⟩ := h2.kept k _ (ndAt_some hk) t
      exact ⟨t', ht, by unfold markS; rw [← kept_congr hw (hq t').2 hk]; exact h4⟩
  · rintro ⟨q, q0, hq, hm⟩
    have hN : ∀ t, q t < N := fun t => (hq t).1
    let x : Nat → Nat := fun t => Classical.choose (hA.read (q t) (hN t))
    have hx : ∀ t, x t < 8 ∧ readP ns (m (q t)) (x t) := fun t => Classical.choose_spec (hA.read (q t) (hN t))
    refine ⟨x, fun t => m (q t), fun t => (hx t).1, ⟨fun t => ?_, fun k nd hn t => ?_⟩, by show EqOn _ (m (q 0)) (m i); rw [q0]; exact EqOn.refl _ _⟩
    · exact (step_iff hw _ _ _).2 ⟨hA.fits _ (hN t), (hx t).2, (hq t).2.2⟩
    · obtain ⟨hk, e⟩ := ndAt_of hn
      obtain ⟨t', ht, h4⟩ := hm k hk t
      subst e
      exact ⟨t', ht, h4⟩

theorem live_good {ns : List Nd} (hw : Wf2 ns) {N : Nat} {m : Nat → Nat → Bool} (hA : AllSets ns N m) {i : Nat} (hi : i < N) :
    chain ns [] (m i) ↔ ∃ c, c < N ∧ reach (edgeS ns N m) i c ∧ GoodN (edgeS ns N m) (markS ns m) ns.length c := by
  rw [live_path hw hA hi]
  exact endless_iff (fun a b h => h.2.1) hi

/-- A family of the sets that may begin endless rows: all, and no others. -/
structure LiveSets (ns : List Nd) (M : Nat) (m : Nat → Nat → Bool) : Prop where
  live : ∀ i, i < M → chain ns [] (m i)
  all : ∀ S, chain ns [] S → ∃ i, i < M ∧ EqOn ns.length S (m i)

/-- Behind one of these and a letter. -/
def onP (ns : List Nd) (M : Nat) (m : Nat → Nat → Bool) (P : Nat → Prop) (a : Nat) (j : Nat) : Prop := j < M ∧ ∃ i, i < M ∧ P i ∧ readP ns (m i) a ∧ folP ns (m i) (m j)
def afterP (ns : List Nd) (M : Nat) (m : Nat → Nat → Bool) : List Nat → (Nat → Prop) → Nat → Prop
  | [], P => P
  | a :: u, P => afterP ns M m u (onP ns M m P a)

theorem chain_step {ns : List Nd} (hw : Wf2 ns) {S : Nat → Bool} (h : chain ns [] S) : fitsP ns S := by
  obtain ⟨x, S', _, h2, h3⟩ := h
  exact fits_congr hw h3 ((step_iff hw _ _ _).1 (h2.step 0)).1

theorem after_iff {ns : List Nd} (hw : Wf2 ns) {M : Nat} {m : Nat → Nat → Bool} (hL : LiveSets ns M m) : ∀ (u : List Nat) (P : Nat → Prop), (∀ x ∈ u, x < 8) → (∀ i, P i → i < M) → ((∃ j, afterP ns M m u P j) ↔ ∃ i, P i ∧ chain ns u (m i))
  | [], P, _, hP => ⟨fun ⟨j, h⟩ => ⟨j, h, hL.live j (hP j h)⟩, fun ⟨i, h, _⟩ => ⟨i, h⟩⟩
  | a :: u, P, hu, hP => by
    show (∃ j, afterP ns M m u (onP ns M m P a) j) ↔ _
    rw [after_iff hw hL u _ (fun x hx => hu x (List.mem_cons_of_mem _ hx)) (fun i h => h.1)]
    constructor
    · rintro ⟨j, ⟨hj, i, hi, hp, hr, hf⟩, hc⟩
      exact ⟨i, hp, hu a (List.mem_cons_self ..), m j, (step_iff hw _ _ _).2 ⟨chain_step hw (hL.live i hi), hr, hf⟩, hc⟩
    · rintro ⟨i, hp, _, T, hs, hc⟩
      obtain ⟨j, hj, e⟩ := hL.all T (chain_live hw hc)
      obtain ⟨_, f2, f3⟩ := (step_iff hw _ _ _).1 hs
      exact ⟨j, ⟨hj, i, hP i hp, hp, f2, fol_congr hw (EqOn.refl _ _) e f3⟩, chain_congr hw e hc⟩

/-- The verdict is told by which sets may stand behind the word. -/
theorem told_verdict {ns : List Nd} (hg : Good ns) {M : Nat} {m : Nat → Nat → Bool} (hL : LiveSets ns M m) (u : List Nat) (hu : ∀ x ∈ u, x < 8) (b : Bool) :
    (∃ j, afterP ns M m u (fun i => i < M ∧ m i (ns.length - 1) = b) j) ↔ May ns u b := by
  have hp := hg.pos
  rw [after_iff hg.wf hL u _ hu (fun i h => h.1), may_iff hg]
  constructor
  · rintro ⟨i, ⟨_, h⟩, hc⟩; exact ⟨m i, h, hc⟩
  · rintro ⟨S, h, hc⟩
    obtain ⟨i, hi, e⟩ := hL.all S (chain_live hg.wf hc)
    exact ⟨i, ⟨hi, by rw [← e _ (by omega)]; exact h⟩, chain_congr hg.wf e hc⟩

end Go.Proofs.Ytjagijohfkffiaa

/- The reference's formula in memory, as it is read. -/
namespace Go.Proofs.Ytjagijohfkffiaa
open Go.RowKit
set_option linter.unusedVariables false

def bAt (bs : List Nat) (k : Nat) : Nat := bs.getD k 0

structure FR (w : World) (F gp cap : Nat) (ns : List Nd) (bs : List Nat) : Prop where
  c0 : w.cell? ⟨F, 0, none⟩ = some (.slice (some ⟨gp, 0, none⟩) ns.length cap)
  hcap : ns.length ≤ cap
  lt0 : F < w.heap.size
  ltp : gp < w.heap.size
  ptr : ∀ k, k < ns.length → w.cell? ⟨gp, k, none⟩ = some (.pointer (some ⟨bAt bs k, 0, none⟩))
  op : ∀ k, k < ns.length → w.cell? ⟨bAt bs k, 0, none⟩ = some (.int .u8 (ndAt ns k).op)
  lp : ∀ k, k < ns.length → leafB (ndAt ns k).op = false → w.cell? ⟨bAt bs k, 1, none⟩ = some (.pointer (some ⟨bAt bs (ndAt ns k).l, 0, none⟩))
  rp : ∀ k, k < ns.length → twoB (ndAt ns k).op = true → w.cell? ⟨bAt bs k, 2, none⟩ = some (.pointer (some ⟨bAt bs (ndAt ns k).r, 0, none⟩))
  nn : ∀ k, k < ns.length → w.cell? ⟨bAt bs k, 3, none⟩ = some (.int .i64 k)
  ltb : ∀ k, k < ns.length → bAt bs k < w.heap.size

theorem FR.below {w w' : World} {F gp cap : Nat} {ns : List Nd} {bs : List Nat} (h : FR w F gp cap ns bs) (hb : Below w.heap.size w w') : FR w' F gp cap ns bs :=
  ⟨(hb.cell (p := ⟨F, 0, none⟩) h.lt0).trans h.c0, h.hcap, Nat.lt_of_lt_of_le h.lt0 hb.size, Nat.lt_of_lt_of_le h.ltp hb.size, fun k hk => (hb.cell (p := ⟨gp, k, none⟩) h.ltp).trans (h.ptr k hk),
    fun k hk => (hb.cell (p := ⟨bAt bs k, 0, none⟩) (h.ltb k hk)).trans (h.op k hk), fun k hk e => (hb.cell (p := ⟨bAt bs k, 1, none⟩) (h.ltb k hk)).trans (h.lp k hk e), fun k hk e => (hb.cell (p := ⟨bAt bs k, 2, none⟩) (h.ltb k hk)).trans (h.rp k hk e),
    fun k hk => (hb.cell (p := ⟨bAt bs k, 3, none⟩) (h.ltb k hk)).trans (h.nn k hk), fun k hk => Nat.lt_of_lt_of_le (h.ltb k hk) hb.size⟩

theorem fr_of {w : World} {F : Nat} {ns : List Nd} {bs : List Nat} (h : Fm w F ns bs) (hp : 0 < ns.length) : ∃ gp cap, FR w F gp cap ns bs := by
  obtain ⟨ao, cap, hc, own⟩ := h.c0
  obtain ⟨gp, rfl, _, hg, hcap⟩ := own_at own hp
  have part : ∀ k, k < ns.length → w.heap[bAt bs k]? = some (partObj bs k (ndAt ns k)) := fun k hk => by
    obtain ⟨b, hb, _, hh⟩ := h.parts k _ (ndAt_some hk)
    have : bAt bs k = b := by simp [bAt, List.getD, hb]
    rw [this]; exact hh
  refine ⟨gp, cap, hc, hcap, h.ltF, hg, fun k hk => ?_, fun k hk => ?_, fun k hk e => ?_, fun k hk e => ?_, fun k hk => ?_, fun k hk => heap_lt (part k hk)⟩
  · have hk2 : k < bs.length := by rw [h.len]; exact hk
    rw [own.cellAt k (by omega)]
    simp [ptrTo1, bAt, List.getD, List.getElem?_eq_getElem hk2]
  · rw [cell_of_row w _ _ _ _ _ (part k hk)]; rfl
  · rw [cell_of_row w _ _ _ _ _ (part k hk)]; simp [lptr, e, bAt]
  · rw [cell_of_row w _ _ _ _ _ (part k hk)]; simp [rptr, e, bAt]
  · rw [cell_of_row w _ _ _ _ _ (part k hk)]; rfl

theorem Rb.drewN {w : World} {g n : Nat} {f : Nat → Bool} (h : Rb w g n f) (m : Nat) : Rb (w.drewN m) g n f := ⟨h.lt, h.cell⟩
theorem FR.drewN {w : World} {F gp cap : Nat} {ns : List Nd} {bs : List Nat} (h : FR w F gp cap ns bs) (m : Nat) : FR (w.drewN m) F gp cap ns bs :=
  ⟨h.c0, h.hcap, h.lt0, h.ltp, h.ptr, h.op, h.lp, h.rp, h.nn, h.ltb⟩

/-- What can be asked of all nodes at once. -/
def allN (ns : List Nd) (p : Nd → Nat → Bool) : Bool := (List.range ns.length).all fun k => p (ndAt ns k) k
theorem allN_iff {ns : List Nd} {p : Nd → Nat → Bool} : allN ns p = true ↔ ∀ k, k < ns.length → p (ndAt ns k) k = true := by simp [allN, List.all_eq_true]
theorem allN_no {ns : List Nd} {p : Nd → Nat → Bool} {k : Nat} (hk : k < ns.length) (h : p (ndAt ns k) k = false) : allN ns p = false := by
  cases e : allN ns p with
  | false => rfl
  | true => rw [allN_iff] at e; rw [e k hk] at h; cases h

def fitsB (ns : List Nd) (S : Nat → Bool) : Bool := allN ns fun nd k => fitN nd k S
def readB' (ns : List Nd) (S : Nat → Bool) (x : Nat) : Bool := allN ns fun nd k => readN nd k S x
def folB (ns : List Nd) (S T : Nat → Bool) : Bool := allN ns fun nd k => folN nd k S T
theorem fitsB_iff {ns : List Nd} {S : Nat → Bool} : fitsB ns S = true ↔ fitsP ns S := allN_iff
theorem readB_iff {ns : List Nd} {S : Nat → Bool} {x : Nat} : readB' ns S x = true ↔ readP ns S x := allN_iff
theorem folB_iff {ns : List Nd} {S T : Nat → Bool} : folB ns S T = true ↔ folP ns S T := allN_iff

end Go.Proofs.Ytjagijohfkffiaa

/- A great loop, cut into declarations: its body, its frame. -/
namespace Go.Proofs.Ytjagijohfkffiaa
open Go.RowKit
set_option linter.unusedVariables false

def firstLoop : Code → Option Code
  | .loop c => some c
  | .seq a b => match firstLoop a with
    | some c => some c
    | none => firstLoop b
  | .block _ c => firstLoop c
  | .scope c => firstLoop c
  | .cond _ a b => match firstLoop a with
    | some c => some c
    | none => firstLoop b
  | _ => none

def bodyOf (f : Func) : Code := (f.body.bind firstLoop).getD .skip

theorem arr_range {a : Array Value} {n : Nat} (h : a.size = n) : a = ((List.range n).map (fun i => a.getD i undef)).toArray := by
  apply Array.ext
  · simp [h]
  · intro i h1 h2
    simp [h1]

/-- Between the rounds: the slots s0, s1 stay, the slot c counts. -/
def GI (size : Nat) (fixed : List (Nat × Value)) (c n : Nat) (P : Nat → Prop) (w : World) (a : Act) (w' : World) : Prop :=
  a.defers = [] ∧ a.tmps.size = size ∧ (∀ x ∈ fixed, a.tmps.getD x.1 undef = x.2) ∧ ∃ j, j ≤ n ∧ a.tmps.getD c undef = .int .i64 (j : Nat) ∧ P j ∧ ∃ m, w' = w.drewN m
def GM (c n : Nat) (a : Act) (_ : World) : Nat := n - (intOf (a.tmps.getD c undef)).toNat

end Go.Proofs.Ytjagijohfkffiaa
