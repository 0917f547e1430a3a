import Derived.RowKit

/- Plain mathematics: machines that tell the same, have no state too many and number their states as they are met are one. -/
namespace Go.Proofs.Ytjagijohfkffiaa

def runM (nx : Nat → Nat → Nat) : Nat → List Nat → Nat
  | i, [] => i
  | i, a :: u => runM nx (nx i a) u

theorem runM_app (nx : Nat → Nat → Nat) (i : Nat) (u v : List Nat) : runM nx i (u ++ v) = runM nx (runM nx i u) v := by
  induction u generalizing i with
  | nil => rfl
  | cons a u ih => exact ih _

def LettersL (u : List Nat) : Prop := ∀ x ∈ u, x < 8

/-- How many states have been met behind p looks. -/
def met (nx : Nat → Nat → Nat) : Nat → Nat
  | 0 => 1
  | p + 1 => max (met nx p) (nx (p / 8) (p % 8) + 1)

/-- The states are numbered as they are met, and all are met. -/
def Numbered (n : Nat) (nx : Nat → Nat → Nat) : Prop := (∀ p, p < 8 * n → p / 8 < met nx p ∧ nx (p / 8) (p % 8) ≤ met nx p) ∧ met nx (8 * n) = n

/-- No word tells i and j apart, i in one machine, j in another. -/
def Like (out : Nat → Nat) (nx : Nat → Nat → Nat) (out' : Nat → Nat) (nx' : Nat → Nat → Nat) (i j : Nat) : Prop := ∀ w, LettersL w → out (runM nx i w) = out' (runM nx' j w)

theorem like_next {out out' : Nat → Nat} {nx nx' : Nat → Nat → Nat} {i j a : Nat} (h : Like out nx out' nx' i j) (ha : a < 8) : Like out nx out' nx' (nx i a) (nx' j a) := fun w hw => h (a :: w) (fun x hx => by
  rcases List.mem_cons.1 hx with rfl | hx
  · exact ha
  · exact hw x hx)
theorem like_symm {out out' : Nat → Nat} {nx nx' : Nat → Nat → Nat} {i j : Nat} (h : Like out nx out' nx' i j) : Like out' nx' out nx j i := fun w hw => (h w hw).symm
theorem like_trans {o1 o2 o3 : Nat → Nat} {n1 n2 n3 : Nat → Nat → Nat} {i j k : Nat} (h : Like o1 n1 o2 n2 i j) (h' : Like o2 n2 o3 n3 j k) : Like o1 n1 o3 n3 i k := fun w hw => (h w hw).trans (h' w hw)

/-- Some word tells each two states apart. -/
def Apart (n : Nat) (out : Nat → Nat) (nx : Nat → Nat → Nat) : Prop := ∀ i j, i < n → j < n → Like out nx out nx i j → i = j

theorem met_mono (nx : Nat → Nat → Nat) {p q : Nat} (h : p ≤ q) : met nx p ≤ met nx q := by
  obtain ⟨d, rfl⟩ : ∃ d, q = p + d := ⟨q - p, by omega⟩
  clear h
  induction d with
  | zero => exact Nat.le_refl _
  | succ d ih => rw [← Nat.add_assoc]; simp only [met]; omega
theorem met_pos (nx : Nat → Nat → Nat) (p : Nat) : 0 < met nx p := by
  have := met_mono nx (Nat.zero_le p)
  simp only [met] at this
  omega

theorem same_looks {n n' : Nat} {out out' : Nat → Nat} {nx nx' : Nat → Nat → Nat} (h : Numbered n nx) (h' : Numbered n' nx') (ha : Apart n out nx) (ha' : Apart n' out' nx') (h0 : Like out nx out' nx' 0 0) :
    ∀ p, p ≤ 8 * n → p ≤ 8 * n' → met nx p = met nx' p ∧ (∀ k, k < met nx p → Like out nx out' nx' k k) ∧ ∀ q, q < p → nx (q / 8) (q % 8) = nx' (q / 8) (q % 8) := by
  intro p
  induction p with
  | zero =>
    intro _ _
    refine ⟨rfl, fun k hk => ?_, fun q hq => by omega⟩
    simp only [met] at hk
    have : k = 0 := by omega
    subst this
    exact h0
  | succ p ih =>
    intro hp hp'
    obtain ⟨e1, e2, e3⟩ := ih (by omega) (by omega)
    obtain ⟨a1, a2⟩ := h.1 p (by omega)
    obtain ⟨b1, b2⟩ := h'.1 p (by omega)
    have m1 := met_mono nx (show p ≤ 8 * n by omega)
    have m2 := met_mono nx' (show p ≤ 8 * n' by omega)
    have m3 := met_mono nx (show p + 1 ≤ 8 * n by omega)
    have m4 := met_mono nx' (show p + 1 ≤ 8 * n' by omega)
    rw [h.2] at m1 m3
    rw [h'.2] at m2 m4
    have hl := like_next (e2 (p / 8) a1) (Nat.mod_lt p (by omega : 0 < 8))
    simp only [met] at m3 m4
    generalize ht : nx (p / 8) (p % 8) = t at *
    generalize ht' : nx' (p / 8) (p % 8) = t' at *
    have key : t = t' := by
      by_cases c1 : t < met nx p
      · exact ha' t t' (by omega) (by omega) (like_trans (like_symm (e2 t c1)) hl)
      · by_cases c2 : t' < met nx' p
        · have l2 := e2 t' (by omega)
          exact ha t t' (by omega) (by omega) (like_trans hl (like_symm l2))
        · omega
    refine ⟨?_, ?_, ?_⟩
    · simp only [met, ht, ht']
      rw [e1, key]
    · intro k hk
      simp only [met, ht] at hk
      by_cases c : k < met nx p
      · exact e2 k c
      · have : k = t := by omega
        subst this
        rw [← key] at hl
        exact hl
    · intro q hq
      by_cases c : q = p
      · subst c; rw [ht, ht', key]
      · exact e3 q (by omega)

/-- The machine is one. -/
theorem same_machine {n n' : Nat} {out out' : Nat → Nat} {nx nx' : Nat → Nat → Nat} (h : Numbered n nx) (h' : Numbered n' nx') (ha : Apart n out nx) (ha' : Apart n' out' nx') (h0 : Like out nx out' nx' 0 0) :
    n = n' ∧ (∀ i, i < n → out i = out' i) ∧ ∀ i a, i < n → a < 8 → nx i a = nx' i a := by
  have key := same_looks h h' ha ha' h0
  have hn : n = n' := by
    rcases Nat.lt_trichotomy n n' with c | c | c
    · obtain ⟨e1, _, _⟩ := key (8 * n) (Nat.le_refl _) (by omega)
      have := (h'.1 (8 * n) (by omega)).1
      rw [h.2] at e1
      rw [← e1] at this
      omega
    · exact c
    · obtain ⟨e1, _, _⟩ := key (8 * n') (by omega) (Nat.le_refl _)
      have := (h.1 (8 * n') (by omega)).1
      rw [h'.2] at e1
      rw [e1] at this
      omega
  subst hn
  obtain ⟨e1, e2, e3⟩ := key (8 * n) (Nat.le_refl _) (Nat.le_refl _)
  rw [h.2] at e2
  refine ⟨rfl, fun i hi => e2 i hi [] (fun x hx => by simp at hx), fun i a hi ha => ?_⟩
  have := e3 (8 * i + a) (by omega)
  rw [show (8 * i + a) / 8 = i by omega, show (8 * i + a) % 8 = a by omega] at this
  exact this

end Go.Proofs.Ytjagijohfkffiaa

/- Plain mathematics: the states of a machine sorted into kinds, numbered where the first of a kind stands. -/
namespace Go.Proofs.Ytjagijohfkffiaa
set_option linter.unusedVariables false

/-- How many kinds the first m states have. -/
def cntK (kd : Nat → Nat) : Nat → Nat
  | 0 => 0
  | m + 1 => max (cntK kd m) (kd m + 1)
/-- Each new kind gets the next number. -/
def Fo (kd : Nat → Nat) (K : Nat) : Prop := ∀ i, i < K → kd i ≤ cntK kd i

theorem cnt_mono (kd : Nat → Nat) {m m' : Nat} (h : m ≤ m') : cntK kd m ≤ cntK kd m' := by
  obtain ⟨d, rfl⟩ : ∃ d, m' = m + d := ⟨m' - m, by omega⟩
  clear h
  induction d with
  | zero => exact Nat.le_refl _
  | succ d ih => rw [← Nat.add_assoc]; simp only [cntK]; omega
theorem cnt_lt (kd : Nat → Nat) {j m : Nat} (h : j < m) : kd j < cntK kd m := by
  have := cnt_mono kd (show j + 1 ≤ m by omega)
  simp only [cntK] at this
  omega
theorem cnt_ex {kd : Nat → Nat} {K : Nat} (h : Fo kd K) : ∀ m, m ≤ K → ∀ c, c < cntK kd m → ∃ j, j < m ∧ kd j = c
  | 0, _, c, hc => by simp [cntK] at hc
  | m + 1, hm, c, hc => by
    by_cases e : c < cntK kd m
    · obtain ⟨j, h1, h2⟩ := cnt_ex h m (by omega) c e
      exact ⟨j, by omega, h2⟩
    · have := h m (by omega)
      simp only [cntK] at hc
      exact ⟨m, by omega, by omega⟩
theorem cnt_le {kd : Nat → Nat} {K : Nat} (h : Fo kd K) : ∀ m, m ≤ K → cntK kd m ≤ m
  | 0, _ => Nat.le_refl _
  | m + 1, hm => by
    have h1 := cnt_le h m (by omega)
    have h2 := h m (by omega)
    simp only [cntK]; omega

theorem fine_step {kd kd' : Nat → Nat} {K : Nat} (h : Fo kd K) (h' : Fo kd' K) (hr : ∀ i j, i < K → j < K → kd' i = kd' j → kd i = kd j) {m : Nat} (hm : m < K) : cntK kd (m + 1) + cntK kd' m ≤ cntK kd' (m + 1) + cntK kd m := by
  have a := h m hm
  have b := h' m hm
  simp only [cntK]
  by_cases e : kd m < cntK kd m
  · omega
  · by_cases e' : kd' m < cntK kd' m
    · obtain ⟨j, h1, h2⟩ := cnt_ex h' m (by omega) _ e'
      have := hr j m (by omega) hm h2
      have := cnt_lt kd h1
      omega
    · omega
theorem fine_le {kd kd' : Nat → Nat} {K : Nat} (h : Fo kd K) (h' : Fo kd' K) (hr : ∀ i j, i < K → j < K → kd' i = kd' j → kd i = kd j) (m : Nat) : ∀ d, m + d ≤ K → cntK kd (m + d) + cntK kd' m ≤ cntK kd' (m + d) + cntK kd m
  | 0, _ => by simp; omega
  | d + 1, hd => by
    have h1 := fine_le h h' hr m d (by omega)
    have h2 := fine_step h h' hr (m := m + d) (by omega)
    rw [show m + d + 1 = m + (d + 1) by omega] at h2
    omega
theorem fine_cnt {kd kd' : Nat → Nat} {K : Nat} (h : Fo kd K) (h' : Fo kd' K) (hr : ∀ i j, i < K → j < K → kd' i = kd' j → kd i = kd j) : cntK kd K ≤ cntK kd' K := by
  have := fine_le h h' hr 0 K (by omega)
  simp only [cntK, Nat.zero_add] at this
  omega
/-- No kind more: the kinds are the same. -/
theorem fine_same {kd kd' : Nat → Nat} {K : Nat} (h : Fo kd K) (h' : Fo kd' K) (hr : ∀ i j, i < K → j < K → kd' i = kd' j → kd i = kd j) (he : cntK kd' K = cntK kd K) : ∀ i, i < K → kd' i = kd i := by
  have eq : ∀ m, m ≤ K → cntK kd' m = cntK kd m := fun m hm => by
    have h1 := fine_le h h' hr 0 m (by omega)
    have h2 := fine_le h h' hr m (K - m) (by omega)
    rw [show m + (K - m) = K by omega] at h2
    simp only [cntK, Nat.zero_add] at h1
    omega
  intro i
  induction i using Nat.strongRecOn with
  | _ i ih =>
    intro hi
    have e0 := eq i (by omega)
    have e1 := eq (i + 1) (by omega)
    have a := h i hi
    have b := h' i hi
    simp only [cntK] at e1
    by_cases c : kd' i < cntK kd' i
    · obtain ⟨j, h1, h2⟩ := cnt_ex h' i (by omega) _ c
      have h3 := hr j i (by omega) hi h2
      have h4 := ih j h1 (by omega)
      omega
    · omega

section
variable {K : Nat} {out out' : Nat → Nat} {nx nx' : Nat → Nat → Nat} {kd : Nat → Nat}

/-- The machine of the kinds. -/
structure Hom (K : Nat) (out : Nat → Nat) (nx : Nat → Nat → Nat) (kd : Nat → Nat) (out' : Nat → Nat) (nx' : Nat → Nat → Nat) : Prop where
  out : ∀ i, i < K → out' (kd i) = out i
  nx : ∀ i a, i < K → a < 8 → nx' (kd i) a = kd (nx i a)

theorem hom_run (h : Hom K out nx kd out' nx') (hc : ∀ i a, i < K → a < 8 → nx i a < K) : ∀ (w : List Nat) (i : Nat), i < K → LettersL w → runM nx i w < K ∧ runM nx' (kd i) w = kd (runM nx i w)
  | [], i, hi, _ => ⟨hi, rfl⟩
  | a :: w, i, hi, hw => by
    have ha := hw a (List.mem_cons_self ..)
    have := hom_run h hc w (nx i a) (hc i a hi ha) (fun x hx => hw x (List.mem_cons_of_mem _ hx))
    simp only [runM]
    rw [h.nx i a hi ha]
    exact this
theorem hom_like (h : Hom K out nx kd out' nx') (hc : ∀ i a, i < K → a < 8 → nx i a < K) {i : Nat} (hi : i < K) : Like out nx out' nx' i (kd i) := fun w hw => by
  obtain ⟨h1, h2⟩ := hom_run h hc w i hi hw
  rw [h2, h.out _ h1]
theorem hom_apart (h : Hom K out nx kd out' nx') (hc : ∀ i a, i < K → a < 8 → nx i a < K) (hf : Fo kd K) (hl : ∀ i j, i < K → j < K → Like out nx out nx i j → kd i = kd j) : Apart (cntK kd K) out' nx' := by
  intro c d hc' hd' hcd
  obtain ⟨i, hi, rfl⟩ := cnt_ex hf K (Nat.le_refl _) c hc'
  obtain ⟨j, hj, rfl⟩ := cnt_ex hf K (Nat.le_refl _) d hd'
  exact hl i j hi hj (like_trans (hom_like h hc hi) (like_trans hcd (like_symm (hom_like h hc hj))))

/-- A look from one that is not the first of its kind shows no new kind. -/
theorem met_old (hn : Numbered K nx) (h : Hom K out nx kd out' nx') (hc : ∀ i a, i < K → a < 8 → nx i a < K) {r i a : Nat} (hr : r < i) (hi : i < K) (ha : a < 8) (hk : kd r = kd i) : cntK kd (met nx (8 * i + a + 1)) = cntK kd (met nx (8 * i + a)) := by
  have h1 : nx r a < met nx (8 * i + a) := by
    have := met_mono nx (show 8 * r + a + 1 ≤ 8 * i + a by omega)
    simp only [met] at this
    rw [show (8 * r + a) / 8 = r by omega, show (8 * r + a) % 8 = a by omega] at this
    omega
  have h2 : kd (nx i a) = kd (nx r a) := by rw [← h.nx i a hi ha, ← h.nx r a (by omega) ha, hk]
  have h3 := cnt_lt kd h1
  obtain ⟨h4, h5⟩ := hn.1 (8 * i + a) (by omega)
  have e1 : (8 * i + a) / 8 = i := by omega
  have e2 : (8 * i + a) % 8 = a := by omega
  rw [e1, e2] at h5
  simp only [met, e1, e2]
  by_cases c : nx i a < met nx (8 * i + a)
  · rw [Nat.max_eq_left (by omega)]
  · have e3 : nx i a = met nx (8 * i + a) := by omega
    rw [Nat.max_eq_right (by omega), e3]
    have h6 : kd (met nx (8 * i + a)) = kd (nx r a) := by rw [← e3]; exact h2
    simp only [cntK]
    omega

theorem met_olds (hn : Numbered K nx) (h : Hom K out nx kd out' nx') (hc : ∀ i a, i < K → a < 8 → nx i a < K) {i : Nat} : ∀ d, i + d ≤ K → (∀ j, i ≤ j → j < i + d → ∃ r, r < j ∧ kd r = kd j) → cntK kd (met nx (8 * (i + d))) = cntK kd (met nx (8 * i))
  | 0, _, _ => rfl
  | d + 1, hd, hj => by
    rw [← met_olds hn h hc d (by omega) (fun j h1 h2 => hj j h1 (by omega))]
    obtain ⟨r, h1, h2⟩ := hj (i + d) (by omega) (by omega)
    have key : ∀ a, a ≤ 8 → cntK kd (met nx (8 * (i + d) + a)) = cntK kd (met nx (8 * (i + d))) := by
      intro a
      induction a with
      | zero => intro _; rfl
      | succ a ih =>
        intro ha
        rw [← ih (by omega), ← met_old hn h hc h1 (by omega) (show a < 8 by omega) h2]
        rfl
    have := key 8 (Nat.le_refl _)
    rwa [show 8 * (i + d) + 8 = 8 * (i + (d + 1)) by omega] at this

/-- The first of each kind. -/
theorem rep_ex (hf : Fo kd K) {c : Nat} (hc : c < cntK kd K) : ∃ r, r < K ∧ kd r = c ∧ cntK kd r = c := by
  have : ∀ m, m ≤ K → c < cntK kd m → ∃ r, r < m ∧ kd r = c ∧ cntK kd r = c := by
    intro m
    induction m with
    | zero => intro _ h; simp [cntK] at h
    | succ m ih =>
      intro hm h
      by_cases e : c < cntK kd m
      · obtain ⟨r, h1, h2⟩ := ih (by omega) e
        exact ⟨r, by omega, h2⟩
      · have := hf m (by omega)
        simp only [cntK] at h
        exact ⟨m, by omega, by omega, by omega⟩
  exact this K (Nat.le_refl _) hc

theorem quot_met (hn : Numbered K nx) (h : Hom K out nx kd out' nx') (hc : ∀ i a, i < K → a < 8 → nx i a < K) (hf : Fo kd K) : ∀ c, c < cntK kd K → ∀ r, r < K → kd r = c → cntK kd r = c → ∀ a, a ≤ 8 → met nx' (8 * c + a) = cntK kd (met nx (8 * r + a)) := by
  intro c
  induction c with
  | zero =>
    intro hc0 r hr h1 h2 a
    have r0 : r = 0 := by
      rcases Nat.eq_zero_or_pos r with h | h
      · exact h
      · have := cnt_lt kd h
        omega
    subst r0
    induction a with
    | zero =>
      intro _
      show 1 = cntK kd (met nx 0)
      simp only [met, cntK]
      omega
    | succ a ih =>
      intro ha
      have ih := ih (by omega)
      have e1 : (8 * 0 + a) / 8 = 0 := by omega
      have e2 : (8 * 0 + a) % 8 = a := by omega
      have hh := h.nx 0 a hr (by omega)
      rw [h1] at hh
      obtain ⟨h4, h5⟩ := hn.1 (8 * 0 + a) (by omega)
      rw [e1, e2] at h5
      show max (met nx' (8 * 0 + a)) (nx' ((8 * 0 + a) / 8) ((8 * 0 + a) % 8) + 1) = cntK kd (max (met nx (8 * 0 + a)) (nx ((8 * 0 + a) / 8) ((8 * 0 + a) % 8) + 1))
      rw [e1, e2, ih, hh]
      by_cases cc : nx 0 a < met nx (8 * 0 + a)
      · have := cnt_lt kd cc
        rw [Nat.max_eq_left (by omega), Nat.max_eq_left (by omega)]
      · have e3 : nx 0 a = met nx (8 * 0 + a) := by omega
        rw [Nat.max_eq_right (show met nx (8 * 0 + a) ≤ nx 0 a + 1 by omega), e3]
        rfl
  | succ c ihc =>
    intro hc1 r hr h1 h2 a
    induction a with
    | zero =>
      intro _
      obtain ⟨r', hr', k1, k2⟩ := rep_ex hf (show c < cntK kd K by omega)
      have hlt : r' < r := by
        rcases Nat.lt_or_ge r' r with h | h
        · exact h
        · have h3 := cnt_mono kd h
          omega
      have e := ihc (by omega) r' hr' k1 k2 8 (Nat.le_refl _)
      rw [show 8 * (c + 1) + 0 = 8 * c + 8 by omega, e, show 8 * r' + 8 = 8 * (r' + 1) by omega]
      have := met_olds hn h hc (i := r' + 1) (r - (r' + 1)) (by omega) (fun j h3 h4 => by
        have h5 := cnt_mono kd (show j + 1 ≤ r by omega)
        have h6 := cnt_lt kd (show j < j + 1 by omega)
        exact cnt_ex hf j (by omega) _ (by
          have := cnt_lt kd (show r' < j by omega)
          omega))
      rw [show r' + 1 + (r - (r' + 1)) = r by omega] at this
      rw [← this]
      rfl
    | succ a ih =>
      intro ha
      have ih := ih (by omega)
      have e1 : (8 * r + a) / 8 = r := by omega
      have e2 : (8 * r + a) % 8 = a := by omega
      have e3 : (8 * (c + 1) + a) / 8 = c + 1 := by omega
      have e4 : (8 * (c + 1) + a) % 8 = a := by omega
      have hh := h.nx r a hr (by omega)
      rw [h1] at hh
      obtain ⟨h4, h5⟩ := hn.1 (8 * r + a) (by omega)
      rw [e1, e2] at h5
      show max (met nx' (8 * (c + 1) + a)) (nx' ((8 * (c + 1) + a) / 8) ((8 * (c + 1) + a) % 8) + 1) = cntK kd (max (met nx (8 * r + a)) (nx ((8 * r + a) / 8) ((8 * r + a) % 8) + 1))
      rw [e1, e2, e3, e4, ih, hh]
      by_cases cc : nx r a < met nx (8 * r + a)
      · have := cnt_lt kd cc
        rw [Nat.max_eq_left (by omega), Nat.max_eq_left (by omega)]
      · have e5 : nx r a = met nx (8 * r + a) := by omega
        rw [Nat.max_eq_right (show met nx (8 * r + a) ≤ nx r a + 1 by omega), e5]
        rfl

/-- The kinds are numbered as they are met. -/
theorem quot_numbered (hK : 0 < K) (hn : Numbered K nx) (h : Hom K out nx kd out' nx') (hc : ∀ i a, i < K → a < 8 → nx i a < K) (hf : Fo kd K) : Numbered (cntK kd K) nx' := by
  refine ⟨fun p hp => ?_, ?_⟩
  · obtain ⟨r, hr, h1, h2⟩ := rep_ex hf (show p / 8 < cntK kd K by omega)
    have e := quot_met hn h hc hf (p / 8) (by omega) r hr h1 h2 (p % 8) (by omega)
    rw [show 8 * (p / 8) + p % 8 = p by omega] at e
    have e1 : (8 * r + p % 8) / 8 = r := by omega
    have e2 : (8 * r + p % 8) % 8 = p % 8 := by omega
    obtain ⟨h4, h5⟩ := hn.1 (8 * r + p % 8) (by omega)
    rw [e1] at h4
    rw [e1, e2] at h5
    have h6 := cnt_lt kd h4
    have h7 := h.nx r (p % 8) hr (by omega)
    rw [h1] at h7 h6
    rw [e, h7]
    refine ⟨h6, ?_⟩
    by_cases cc : nx r (p % 8) < met nx (8 * r + p % 8)
    · exact Nat.le_of_lt (cnt_lt kd cc)
    · have e5 : nx r (p % 8) = met nx (8 * r + p % 8) := by omega
      rw [← e5]
      exact hf _ (hc r _ hr (by omega))
  · have hpos : 0 < cntK kd K := Nat.lt_of_le_of_lt (Nat.zero_le _) (cnt_lt kd hK)
    obtain ⟨c, ec⟩ : ∃ c, cntK kd K = c + 1 := ⟨cntK kd K - 1, by omega⟩
    obtain ⟨r, hr, h1, h2⟩ := rep_ex hf (show c < cntK kd K by omega)
    have e := quot_met hn h hc hf c (by omega) r hr h1 h2 8 (Nat.le_refl _)
    have := met_olds hn h hc (i := r + 1) (K - (r + 1)) (by omega) (fun j h3 h4 => by
      have h6 := cnt_lt kd (show j < K by omega)
      exact cnt_ex hf j (by omega) _ (by
        have := cnt_lt kd (show r < j by omega)
        omega))
    rw [show r + 1 + (K - (r + 1)) = K by omega, hn.2] at this
    rw [ec, show 8 * (c + 1) = 8 * c + 8 by omega, e, show 8 * r + 8 = 8 * (r + 1) by omega, ← this, ec]
end

/-! ### Rounds -/
/-- One letter more tells apart. -/
def Rfn (K : Nat) (out : Nat → Nat) (nx : Nat → Nat → Nat) (kd kd' : Nat → Nat) : Prop := ∀ i j, i < K → j < K → (kd' i = kd' j ↔ out i = out j ∧ ∀ a, a < 8 → kd (nx i a) = kd (nx j a))

theorem rfn_fine {K : Nat} {out : Nat → Nat} {nx : Nat → Nat → Nat} {kd kd' kd'' : Nat → Nat} (hc : ∀ i a, i < K → a < 8 → nx i a < K) (h : Rfn K out nx kd kd') (h' : Rfn K out nx kd' kd'') (hf : ∀ i j, i < K → j < K → kd' i = kd' j → kd i = kd j) : ∀ i j, i < K → j < K → kd'' i = kd'' j → kd' i = kd' j := fun i j hi hj e => by
  obtain ⟨h1, h2⟩ := (h' i j hi hj).1 e
  exact (h i j hi hj).2 ⟨h1, fun a ha => hf _ _ (hc i a hi ha) (hc j a hj ha) (h2 a ha)⟩
theorem rfn_like {K : Nat} {out : Nat → Nat} {nx : Nat → Nat → Nat} {kd kd' : Nat → Nat} (hc : ∀ i a, i < K → a < 8 → nx i a < K) (h : Rfn K out nx kd kd') (hl : ∀ i j, i < K → j < K → Like out nx out nx i j → kd i = kd j) : ∀ i j, i < K → j < K → Like out nx out nx i j → kd' i = kd' j := fun i j hi hj hk =>
  (h i j hi hj).2 ⟨hk [] (fun x hx => by simp at hx), fun a ha => hl _ _ (hc i a hi ha) (hc j a hj ha) (like_next hk ha)⟩

end Go.Proofs.Ytjagijohfkffiaa

/- Plain mathematics: formulas as lists of nodes, as both readers list them. Nothing of the dump. -/
namespace Go.Proofs.Ytjagijohfkffiaa

/-- One sign of a formula; l, r: the numbers of the nodes below it. -/
structure Nd where
  op : Nat
  l : Nat
  r : Nat

/-- The byte at a place; 0 behind the end. -/
def bt (s : ByteArray) (i : Nat) : Nat := if h : i < s.size then (s[i]'h).toNat else 0

theorem bt_in {s : ByteArray} {i : Nat} (h : i < s.size) : bt s i = (s[i]'h).toNat := by simp [bt, h]
theorem bt_out {s : ByteArray} {i : Nat} (h : ¬ i < s.size) : bt s i = 0 := by simp [bt, h]
theorem bt_lt {s : ByteArray} {i : Nat} (h : bt s i ≠ 0) : i < s.size := by
  by_cases k : i < s.size
  · exact k
  · exact absurd (bt_out k) h
theorem bt_256 (s : ByteArray) (i : Nat) : bt s i < 256 := by
  by_cases k : i < s.size
  · rw [bt_in k]; exact UInt8.toNat_lt _
  · rw [bt_out k]; omega

def leafB (b : Nat) : Bool := b == 48 || b == 49 || b == 112 || b == 113 || b == 114
def oneB (b : Nat) : Bool := b == 33 || b == 88 || b == 70 || b == 71
def twoB (b : Nat) : Bool := b == 38 || b == 124 || b == 85 || b == 82

/-- Both readers: from place a, with ns already listed; fuel k. -/
def ps : Nat → ByteArray → Nat → List Nd → Option (Nat × List Nd)
  | 0, _, _, _ => none
  | k + 1, s, a, ns =>
    if leafB (bt s a) then some (a + 1, ns ++ [⟨bt s a, 0, 0⟩])
    else if oneB (bt s a) then
      match ps k s (a + 1) ns with
      | none => none
      | some (a1, n1) => some (a1, n1 ++ [⟨bt s a, n1.length - 1, 0⟩])
    else if bt s a = 40 then
      match ps k s (a + 1) ns with
      | none => none
      | some (a1, n1) =>
        if twoB (bt s a1) then
          match ps k s (a1 + 1) n1 with
          | none => none
          | some (a2, n2) => if bt s a2 = 41 then some (a2 + 1, n2 ++ [⟨bt s a1, n1.length - 1, n2.length - 1⟩]) else none
        else none
    else none

/-- What stands behind an opening bracket, the bracket taken. -/
def ps2 (k : Nat) (s : ByteArray) (a : Nat) (ns : List Nd) : Option (Nat × List Nd) :=
  match ps k s a ns with
  | none => none
  | some (a1, n1) =>
    if twoB (bt s a1) then
      match ps k s (a1 + 1) n1 with
      | none => none
      | some (a2, n2) => if bt s a2 = 41 then some (a2 + 1, n2 ++ [⟨bt s a1, n1.length - 1, n2.length - 1⟩]) else none
    else none

/-- What stands behind a sign for one formula, the sign taken. -/
def ps1 (op : Nat) (k : Nat) (s : ByteArray) (a : Nat) (ns : List Nd) : Option (Nat × List Nd) :=
  match ps k s a ns with
  | none => none
  | some (a1, n1) => some (a1, n1 ++ [⟨op, n1.length - 1, 0⟩])

theorem ps_leaf {k : Nat} {s : ByteArray} {a : Nat} {ns : List Nd} (h : leafB (bt s a) = true) : ps (k + 1) s a ns = some (a + 1, ns ++ [⟨bt s a, 0, 0⟩]) := by
  simp [ps, h]
theorem leaf_not_one {b : Nat} (h : oneB b = true) : leafB b = false := by
  simp only [oneB, Bool.or_eq_true, beq_iff_eq] at h
  rcases h with ((h | h) | h) | h <;> subst h <;> decide
theorem ps_one {k : Nat} {s : ByteArray} {a : Nat} {ns : List Nd} (h : oneB (bt s a) = true) : ps (k + 1) s a ns = ps1 (bt s a) k s (a + 1) ns := by
  simp [ps, h, leaf_not_one h, ps1]
theorem ps_two {k : Nat} {s : ByteArray} {a : Nat} {ns : List Nd} (h : bt s a = 40) : ps (k + 1) s a ns = ps2 k s (a + 1) ns := by
  simp [ps, h, ps2, leafB, oneB]
theorem ps_no {k : Nat} {s : ByteArray} {a : Nat} {ns : List Nd} (h1 : leafB (bt s a) = false) (h2 : oneB (bt s a) = false) (h3 : ¬ bt s a = 40) : ps (k + 1) s a ns = none := by
  simp [ps, h1, h2, h3]

theorem leaf_ne {b : Nat} (h : leafB b = true) : b ≠ 0 := by intro e; subst e; revert h; decide
theorem one_ne {b : Nat} (h : oneB b = true) : b ≠ 0 := by intro e; subst e; revert h; decide
theorem two_ne {b : Nat} (h : twoB b = true) : b ≠ 0 := by intro e; subst e; revert h; decide

/-- Where it ends, and how much longer the list is: no more than a node a byte. -/
theorem ps_grows : ∀ (k : Nat) (s : ByteArray) (a : Nat) (ns : List Nd) (a' : Nat) (ns' : List Nd), ps k s a ns = some (a', ns') →
    a < a' ∧ a' ≤ s.size ∧ ns'.length + a ≤ ns.length + a' ∧ ns.length < ns'.length
  | 0, _, _, _, _, _, h => by simp [ps] at h
  | k + 1, s, a, ns, a', ns', h => by
    by_cases b1 : leafB (bt s a) = true
    · rw [ps_leaf b1] at h
      simp only [Option.some.injEq, Prod.mk.injEq] at h
      obtain ⟨rfl, rfl⟩ := h
      have := bt_lt (leaf_ne b1)
      simp; omega
    · rw [Bool.not_eq_true] at b1
      by_cases b2 : oneB (bt s a) = true
      · rw [ps_one b2] at h
        unfold ps1 at h
        cases e : ps k s (a + 1) ns with
        | none => rw [e] at h; simp at h
        | some x =>
          obtain ⟨a1, n1⟩ := x
          rw [e] at h
          simp only [Option.some.injEq, Prod.mk.injEq] at h
          obtain ⟨rfl, rfl⟩ := h
          have := ps_grows k s _ _ _ _ e
          simp; omega
      · rw [Bool.not_eq_true] at b2
        by_cases b3 : bt s a = 40
        · rw [ps_two b3] at h
          unfold ps2 at h
          cases e : ps k s (a + 1) ns with
          | none => rw [e] at h; simp at h
          | some x =>
            obtain ⟨a1, n1⟩ := x
            rw [e] at h
            simp only at h
            by_cases b4 : twoB (bt s a1) = true
            · rw [if_pos b4] at h
              cases e2 : ps k s (a1 + 1) n1 with
              | none => rw [e2] at h; simp at h
              | some x =>
                obtain ⟨a2, n2⟩ := x
                rw [e2] at h
                simp only at h
                by_cases b5 : bt s a2 = 41
                · rw [if_pos b5] at h
                  simp only [Option.some.injEq, Prod.mk.injEq] at h
                  obtain ⟨rfl, rfl⟩ := h
                  have g1 := ps_grows k s _ _ _ _ e
                  have g2 := ps_grows k s _ _ _ _ e2
                  have := bt_lt (s := s) (i := a2) (by omega)
                  simp; omega
                · rw [if_neg b5] at h; simp at h
            · rw [if_neg b4] at h; simp at h
        · rw [ps_no b1 b2 b3] at h; simp at h

/-- The nodes below a node stand ahead of it. -/
def Wf (ns : List Nd) : Prop := ∀ (i : Nat) (n : Nd), ns[i]? = some n → (leafB n.op = false → n.l < i) ∧ (twoB n.op = true → n.r < i)

theorem Wf.snoc {ns : List Nd} (h : Wf ns) (n : Nd) (h1 : leafB n.op = false → n.l < ns.length) (h2 : twoB n.op = true → n.r < ns.length) : Wf (ns ++ [n]) := by
  intro i m hm
  by_cases hi : i < ns.length
  · rw [List.getElem?_append_left hi] at hm
    exact h i m hm
  · rw [List.getElem?_append_right (by omega)] at hm
    have : i = ns.length := by
      have := (List.getElem?_eq_some_iff.1 hm).1
      simp at this; omega
    subst this
    simp at hm
    subst hm
    exact ⟨h1, h2⟩

theorem wf_nil : Wf [] := by intro i n h; simp at h

theorem one_not_two {b : Nat} (h : oneB b = true) : twoB b = false := by
  simp only [oneB, Bool.or_eq_true, beq_iff_eq] at h
  rcases h with ((h | h) | h) | h <;> subst h <;> decide
theorem leaf_not_two {b : Nat} (h : leafB b = true) : twoB b = false := by
  simp only [leafB, Bool.or_eq_true, beq_iff_eq] at h
  rcases h with (((h | h) | h) | h) | h <;> subst h <;> decide
theorem two_not_leaf {b : Nat} (h : twoB b = true) : leafB b = false := by
  simp only [twoB, Bool.or_eq_true, beq_iff_eq] at h
  rcases h with ((h | h) | h) | h <;> subst h <;> decide
theorem leaf_is {b : Nat} (h : leafB b = true) : b = 48 ∨ b = 49 ∨ b = 112 ∨ b = 113 ∨ b = 114 := by
  simpa [leafB, or_assoc] using h
theorem one_is {b : Nat} (h : oneB b = true) : b = 33 ∨ b = 88 ∨ b = 70 ∨ b = 71 := by
  simpa [oneB, or_assoc] using h
theorem two_is {b : Nat} (h : twoB b = true) : b = 38 ∨ b = 124 ∨ b = 85 ∨ b = 82 := by
  simpa [twoB, or_assoc] using h

/-- The cells of a node, of a list of nodes. -/
def flat (ns : List Nd) : List Value := ns.flatMap fun n => [.int .u8 n.op, .int .i64 n.l, .int .i64 n.r]
theorem flat_snoc (ns : List Nd) (n : Nd) : flat (ns ++ [n]) = flat ns ++ [.int .u8 n.op, .int .i64 n.l, .int .i64 n.r] := by simp [flat]
/-- How many of the first k bytes are no brackets. -/
def cntTo (s : ByteArray) : Nat → Nat
  | 0 => 0
  | k + 1 => cntTo s k + if bt s k = 40 ∨ bt s k = 41 then 0 else 1

theorem cntTo_le (s : ByteArray) (k : Nat) : cntTo s k ≤ k := by
  induction k with
  | zero => exact Nat.le_refl _
  | succ k ih => unfold cntTo; split <;> omega
theorem cnt_in {s : ByteArray} {k : Nat} (h : bt s k ≠ 40) (h2 : bt s k ≠ 41) : cntTo s (k + 1) = cntTo s k + 1 := by
  simp only [cntTo]; rw [if_neg (by omega)]
theorem cnt_out {s : ByteArray} {k : Nat} (h : bt s k = 40 ∨ bt s k = 41) : cntTo s (k + 1) = cntTo s k := by
  simp only [cntTo]; rw [if_pos h]; rfl

theorem ps_cnt : ∀ (k : Nat) (s : ByteArray) (a : Nat) (ns : List Nd) (a' : Nat) (ns' : List Nd), ps k s a ns = some (a', ns') → ns'.length + cntTo s a = ns.length + cntTo s a'
  | 0, _, _, _, _, _, h => by simp [ps] at h
  | k + 1, s, a, ns, a', ns', h => by
    by_cases b1 : leafB (bt s a) = true
    · rw [ps_leaf b1] at h
      simp only [Option.some.injEq, Prod.mk.injEq] at h
      obtain ⟨rfl, rfl⟩ := h
      have := leaf_is b1
      rw [cnt_in (by omega) (by omega)]
      simp; omega
    · rw [Bool.not_eq_true] at b1
      by_cases b2 : oneB (bt s a) = true
      · rw [ps_one b2] at h
        unfold ps1 at h
        cases e : ps k s (a + 1) ns with
        | none => rw [e] at h; simp at h
        | some x =>
          obtain ⟨a1, n1⟩ := x
          rw [e] at h
          simp only [Option.some.injEq, Prod.mk.injEq] at h
          obtain ⟨rfl, rfl⟩ := h
          have g := ps_cnt k s _ _ _ _ e
          have := one_is b2
          rw [cnt_in (by omega) (by omega)] at g
          simp; omega
      · rw [Bool.not_eq_true] at b2
        by_cases b3 : bt s a = 40
        · rw [ps_two b3] at h
          unfold ps2 at h
          cases e : ps k s (a + 1) ns with
          | none => rw [e] at h; simp at h
          | some x =>
            obtain ⟨a1, n1⟩ := x
            rw [e] at h
            simp only at h
            by_cases b4 : twoB (bt s a1) = true
            · rw [if_pos b4] at h
              cases e2 : ps k s (a1 + 1) n1 with
              | none => rw [e2] at h; simp at h
              | some x =>
                obtain ⟨a2, n2⟩ := x
                rw [e2] at h
                simp only at h
                by_cases b5 : bt s a2 = 41
                · rw [if_pos b5] at h
                  simp only [Option.some.injEq, Prod.mk.injEq] at h
                  obtain ⟨rfl, rfl⟩ := h
                  have g1 := ps_cnt k s _ _ _ _ e
                  have g2 := ps_cnt k s _ _ _ _ e2
                  have := two_is b4
                  rw [cnt_out (Or.inl b3)] at g1
                  rw [cnt_in (by omega) (by omega)] at g2
                  rw [cnt_out (Or.inr b5)]
                  simp; omega
                · rw [if_neg b5] at h; simp at h
            · rw [if_neg b4] at h; simp at h
        · rw [ps_no b1 b2 b3] at h; simp at h

/-- A formula's text: the error (0: none) and the nodes. -/
def parseOf (s : ByteArray) : Nat × List Nd :=
  if 24 < s.size then (1, []) else
  match ps 25 s 0 [] with
  | none => (2, [])
  | some (a, ns) => if a = s.size then (if 8 < ns.length then (3, []) else (0, ns)) else (2, [])

end Go.Proofs.Ytjagijohfkffiaa
