import Derived.Test.YtjagijohfkffiaaCM28
import Derived.Test.YtjagijohfkffiaaCM33

/- Plain mathematics: the states of a machine sorted into kinds, numbered where the first of a kind stands. -/
namespace Go.Proofs.Ytjagijohfkffiaa
set_option linter.unusedVariables false

/-- How many kinds the first m states have. -/
def cntK (kd : Nat → Nat) : Nat → Nat
  | 0 => 0
  | m + 1 => max (cntK kd m) (kd m + 1)
/-- Each new kind gets the next number. -/
def Fo (kd : Nat → Nat) (K : Nat) : Prop := ∀ i, i < K → kd i ≤ cntK kd i

theorem cnt_mono (kd : Nat → Nat) {m m' : Nat} (h : m ≤ m') : cntK kd m ≤ cntK kd m' := by
  obtain ⟨d, rfl⟩ : ∃ d, m' = m + d := ⟨m' - m, by omega⟩
  clear h
  induction d with
  | zero => exact Nat.le_refl _
  | succ d ih => rw [← Nat.add_assoc]; simp only [cntK]; omega
theorem cnt_lt (kd : Nat → Nat) {j m : Nat} (h : j < m) : kd j < cntK kd m := by
  have := cnt_mono kd (show j + 1 ≤ m by omega)
  simp only [cntK] at this
  omega
theorem cnt_ex {kd : Nat → Nat} {K : Nat} (h : Fo kd K) : ∀ m, m ≤ K → ∀ c, c < cntK kd m → ∃ j, j < m ∧ kd j = c
  | 0, _, c, hc => by simp [cntK] at hc
  | m + 1, hm, c, hc => by
    by_cases e : c < cntK kd m
    · obtain ⟨j, h1, h2⟩ := cnt_ex h m (by omega) c e
      exact ⟨j, by omega, h2⟩
    · have := h m (by omega)
      simp only [cntK] at hc
      exact ⟨m, by omega, by omega⟩
theorem cnt_le {kd : Nat → Nat} {K : Nat} (h : Fo kd K) : ∀ m, m ≤ K → cntK kd m ≤ m
  | 0, _ => Nat.le_refl _
  | m + 1, hm => by
    have h1 := cnt_le h m (by omega)
    have h2 := h m (by omega)
    simp only [cntK]; omega

theorem fine_step {kd kd' : Nat → Nat} {K : Nat} (h : Fo kd K) (h' : Fo kd' K) (hr : ∀ i j, i < K → j < K → kd' i = kd' j → kd i = kd j) {m : Nat} (hm : m < K) : cntK kd (m + 1) + cntK kd' m ≤ cntK kd' (m + 1) + cntK kd m := by
  have a := h m hm
  have b := h' m hm
  simp only [cntK]
  by_cases e : kd m < cntK kd m
  · omega
  · by_cases e' : kd' m < cntK kd' m
    · obtain ⟨j, h1, h2⟩ := cnt_ex h' m (by omega) _ e'
      have := hr j m (by omega) hm h2
      have := cnt_lt kd h1
      omega
    · omega
theorem fine_le {kd kd' : Nat → Nat} {K : Nat} (h : Fo kd K) (h' : Fo kd' K) (hr : ∀ i j, i < K → j < K → kd' i = kd' j → kd i = kd j) (m : Nat) : ∀ d, m + d ≤ K → cntK kd (m + d) + cntK kd' m ≤ cntK kd' (m + d) + cntK kd m
  | 0, _ => by simp; omega
  | d + 1, hd => by
    have h1 := fine_le h h' hr m d (by omega)
    have h2 := fine_step h h' hr (m := m + d) (by omega)
    rw [show m + d + 1 = m + (d + 1) by omega] at h2
    omega
theorem fine_cnt {kd kd' : Nat → Nat} {K : Nat} (h : Fo kd K) (h' : Fo kd' K) (hr : ∀ i j, i < K → j < K → kd' i = kd' j → kd i = kd j) : cntK kd K ≤ cntK kd' K := by
  have := fine_le h h' hr 0 K (by omega)
  simp only [cntK, Nat.zero_add] at this
  omega
/-- No kind more: the kinds are the same. -/
theorem fine_same {kd kd' : Nat → Nat} {K : Nat} (h : Fo kd K) (h' : Fo kd' K) (hr : ∀ i j, i < K → j < K → kd' i = kd' j → kd i = kd j) (he : cntK kd' K = cntK kd K) : ∀ i, i < K → kd' i = kd i := by
  have eq : ∀ m, m ≤ K → cntK kd' m = cntK kd m := fun m hm => by
    have h1 := fine_le h h' hr 0 m (by omega)
    have h2 := fine_le h h' hr m (K - m) (by omega)
    rw [show m + (K - m) = K by omega] at h2
    simp only [cntK, Nat.zero_add] at h1
    omega
  intro i
  induction i using Nat.strongRecOn with
  | _ i ih =>
    intro hi
    have e0 := eq i (by omega)
    have e1 := eq (i + 1) (by omega)
    have a := h i hi
    have b := h' i hi
    simp only [cntK] at e1
    by_cases c : kd' i < cntK kd' i
    · obtain ⟨j, h1, h2⟩ := cnt_ex h' i (by omega) _ c
      have h3 := hr j i (by omega) hi h2
      have h4 := ih j h1 (by omega)
      omega
    · omega

section
variable {K : Nat} {out out' : Nat → Nat} {nx nx' : Nat → Nat → Nat} {kd : Nat → Nat}

/-- The machine of the kinds. -/
structure Hom (K : Nat) (out : Nat → Nat) (nx : Nat → Nat → Nat) (kd : Nat → Nat) (out' : Nat → Nat) (nx' : Nat → Nat → Nat) : Prop where
  out : ∀ i, i < K → out' (kd i) = out i
  nx : ∀ i a, i < K → a < 8 → nx' (kd i) a = kd (nx i a)

theorem hom_run (h : Hom K out nx kd out' nx') (hc : ∀ i a, i < K → a < 8 → nx i a < K) : ∀ (w : List Nat) (i : Nat), i < K → LettersL w → runM nx i w < K ∧ runM nx' (kd i) w = kd (runM nx i w)
  | [], i, hi, _ => ⟨hi, rfl⟩
  | a :: w, i, hi, hw => by
    have ha := hw a (List.mem_cons_self ..)
    have := hom_run h hc w (nx i a) (hc i a hi ha) (fun x hx => hw x (List.mem_cons_of_mem _ hx))
    simp only [runM]
    rw [h.nx i a hi ha]
    exact this
theorem hom_like (h : Hom K out nx kd out' nx') (hc : ∀ i a, i < K → a < 8 → nx i a < K) {i : Nat} (hi : i < K) : Like out nx out' nx' i (kd i) := fun w hw => by
  obtain ⟨h1, h2⟩ := hom_run h hc w i hi hw
  rw [h2, h.out _ h1]
theorem hom_apart (h : Hom K out nx kd out' nx') (hc : ∀ i a, i < K → a < 8 → nx i a < K) (hf : Fo kd K) (hl : ∀ i j, i < K → j < K → Like out nx out nx i j → kd i = kd j) : Apart (cntK kd K) out' nx' := by
  intro c d hc' hd' hcd
  obtain ⟨i, hi, rfl⟩ := cnt_ex hf K (Nat.le_refl _) c hc'
  obtain ⟨j, hj, rfl⟩ := cnt_ex hf K (Nat.le_refl _) d hd'
  exact hl i j hi hj (like_trans (hom_like h hc hi) (like_trans hcd (like_symm (hom_like h hc hj))))

/-- A look from one that is not the first of its kind shows no new kind. -/
theorem met_old (hn : Numbered K nx) (h : Hom K out nx kd out' nx') (hc : ∀ i a, i < K → a < 8 → nx i a < K) {r i a : Nat} (hr : r < i) (hi : i < K) (ha : a < 8) (hk : kd r = kd i) : cntK kd (met nx (8 * i + a + 1)) = cntK kd (met nx (8 * i + a)) := by
  have h1 : nx r a < met nx (8 * i + a) := by
    have := met_mono nx (show 8 * r + a + 1 ≤ 8 * i + a by omega)
    simp only [met] at this
    rw [show (8 * r + a) / 8 = r by omega, show (8 * r + a) % 8 = a by omega] at this
    omega
  have h2 : kd (nx i a) = kd (nx r a) := by rw [← h.nx i a hi ha, ← h.nx r a (by omega) ha, hk]
  have h3 := cnt_lt kd h1
  obtain ⟨h4, h5⟩ := hn.1 (8 * i + a) (by omega)
  have e1 : (8 * i + a) / 8 = i := by omega
  have e2 : (8 * i + a) % 8 = a := by omega
  rw [e1, e2] at h5
  simp only [met, e1, e2]
  by_cases c : nx i a < met nx (8 * i + a)
  · rw [Nat.max_eq_left (by omega)]
  · have e3 : nx i a = met nx (8 * i + a) := by omega
    rw [Nat.max_eq_right (by omega), e3]
    have h6 : kd (met nx (8 * i + a)) = kd (nx r a) := by rw [← e3]; exact h2
    simp only [cntK]
    omega

theorem met_olds (hn : Numbered K nx) (h : Hom K out nx kd out' nx') (hc : ∀ i a, i < K → a < 8 → nx i a < K) {i : Nat} : ∀ d, i + d ≤ K → (∀ j, i ≤ j → j < i + d → ∃ r, r < j ∧ kd r = kd j) → cntK kd (met nx (8 * (i + d))) = cntK kd (met nx (8 * i))
  | 0, _, _ => rfl
  | d + 1, hd, hj => by
    rw [← met_olds hn h hc d (by omega) (fun j h1 h2 => hj j h1 (by omega))]
    obtain ⟨r, h1, h2⟩ := hj (i + d) (by omega) (by omega)
    have key : ∀ a, a ≤ 8 → cntK kd (met nx (8 * (i + d) + a)) = cntK kd (met nx (8 * (i + d))) := by
      intro a
      induction a with
      | zero => intro _; rfl
      | succ a ih =>
        intro ha
        rw [← ih (by omega), ← met_old hn h hc h1 (by omega) (show a < 8 by omega) h2]
        rfl
    have := key 8 (Nat.le_refl _)
    rwa [show 8 * (i + d) + 8 = 8 * (i + (d + 1)) by omega] at this

/-- The first of each kind. -/
theorem rep_ex (hf : Fo kd K) {c : Nat} (hc : c < cntK kd K) : ∃ r, r < K ∧ kd r = c ∧ cntK kd r = c := by
  have : ∀ m, m ≤ K → c < cntK kd m → ∃ r, r < m ∧ kd r = c ∧ cntK kd r = c := by
    intro m
    induction m with
    | zero => intro _ h; simp [cntK] at h
    | succ m ih =>
      intro hm h
      by_cases e : c < cntK kd m
      · obtain ⟨r, h1, h2⟩ := ih (by omega) e
        exact ⟨r, by omega, h2⟩
      · have := hf m (by omega)
        simp only [cntK] at h
        exact ⟨m, by omega, by omega, by omega⟩
  exact this K (Nat.le_refl _) hc

theorem rep_old (hf : Fo kd K) {r c i : Nat} (hi : i < K) (h1 : cntK kd r = c) (h2 : kd r = c) (hri : r < i) (hni : cntK kd i ≤ c + 1 ∧ kd i ≠ c + 1) : ∃ j, j < i ∧ kd j = kd i := by
  have := hf i hi
  exact cnt_ex hf i (by omega) _ (by
    have := cnt_lt kd hri
    omega)

theorem quot_met (hn : Numbered K nx) (h : Hom K out nx kd out' nx') (hc : ∀ i a, i < K → a < 8 → nx i a < K) (hf : Fo kd K) : ∀ c, c < cntK kd K → ∀ r, r < K → kd r = c → cntK kd r = c → ∀ a, a ≤ 8 → met nx' (8 * c + a) = cntK kd (met nx (8 * r + a)) := by
  intro c
  induction c with
  | zero =>
    intro hc0 r hr h1 h2 a
    have r0 : r = 0 := by
      rcases Nat.eq_zero_or_pos r with h | h
      · exact h
      · have := cnt_lt kd h
        omega
    subst r0
    induction a with
    | zero =>
      intro _
      show 1 = cntK kd (met nx 0)
      simp only [met, cntK]
      omega
    | succ a ih =>
      intro ha
      have ih := ih (by omega)
      have e1 : (8 * 0 + a) / 8 = 0 := by omega
      have e2 : (8 * 0 + a) % 8 = a := by omega
      have hh := h.nx 0 a hr (by omega)
      rw [h1] at hh
      obtain ⟨h4, h5⟩ := hn.1 (8 * 0 + a) (by omega)
      rw [e1, e2] at h5
      show max (met nx' (8 * 0 + a)) (nx' ((8 * 0 + a) / 8) ((8 * 0 + a) % 8) + 1) = cntK kd (max (met nx (8 * 0 + a)) (nx ((8 * 0 + a) / 8) ((8 * 0 + a) % 8) + 1))
      rw [e1, e2, ih, hh]
      by_cases cc : nx 0 a < met nx (8 * 0 + a)
      · have := cnt_lt kd cc
        rw [Nat.max_eq_left (by omega), Nat.max_eq_left (by omega)]
      · have e3 : nx 0 a = met nx (8 * 0 + a) := by omega
        rw [Nat.max_eq_right (show met nx (8 * 0 + a) ≤ nx 0 a + 1 by omega), e3]
        rfl
  | succ c ihc =>
    intro hc1 r hr h1 h2 a
    induction a with
    | zero =>
      intro _
      obtain ⟨r', hr', k1, k2⟩ := rep_ex hf (show c < cntK kd K by omega)
      have hlt : r' < r := by
        rcases Nat.lt_or_ge r' r with h | h
        · exact h
        · have h3 := cnt_mono kd h
          omega
      have e := ihc (by omega) r' hr' k1 k2 8 (Nat.le_refl _)
      rw [show 8 * (c + 1) + 0 = 8 * c + 8 by omega, e, show 8 * r' + 8 = 8 * (r' + 1) by omega]
      have := met_olds hn h hc (i := r' + 1) (r - (r' + 1)) (by omega) (fun j h3 h4 => by
        have h5 := cnt_mono kd (show j + 1 ≤ r by omega)
        have h6 := cnt_lt kd (show j < j + 1 by omega)
        exact cnt_ex hf j (by omega) _ (by
          have := cnt_lt kd (show r' < j by omega)
          omega))
      rw [show r' + 1 + (r - (r' + 1)) = r by omega] at this
      rw [← this]
      rfl
    | succ a ih =>
      intro ha
      have ih := ih (by omega)
      have e1 : (8 * r + a) / 8 = r := by omega
      have e2 : (8 * r + a) % 8 = a := by omega
      have e3 : (8 * (c + 1) + a) / 8 = c + 1 := by omega
      have e4 : (8 * (c + 1) + a) % 8 = a := by omega
      have hh := h.nx r a hr (by omega)
      rw [h1] at hh
      obtain ⟨h4, h5⟩ := hn.1 (8 * r + a) (by omega)
      rw [e1, e2] at h5
      show max (met nx' (8 * (c + 1) + a)) (nx' ((8 * (c + 1) + a) / 8) ((8 * (c + 1) + a) % 8) + 1) = cntK kd (max (met nx (8 * r + a)) (nx ((8 * r + a) / 8) ((8 * r + a) % 8) + 1))
      rw [e1, e2, e3, e4, ih, hh]
      by_cases cc : nx r a < met nx (8 * r + a)
      · have := cnt_lt kd cc
        rw [Nat.max_eq_left (by omega), Nat.max_eq_left (by omega)]
      · have e5 : nx r a = met nx (8 * r + a) := by omega
        rw [Nat.max_eq_right (show met nx (8 * r + a) ≤ nx r a + 1 by omega), e5]
        rfl

/-- The kinds are numbered as they are met. -/
theorem quot_numbered (hK : 0 < K) (hn : Numbered K nx) (h : Hom K out nx kd out' nx') (hc : ∀ i a, i < K → a < 8 → nx i a < K) (hf : Fo kd K) : Numbered (cntK kd K) nx' := by
  refine ⟨fun p hp => ?_, ?_⟩
  · obtain ⟨r, hr, h1, h2⟩ := rep_ex hf (show p / 8 < cntK kd K by omega)
    have e := quot_met hn h hc hf (p / 8) (by omega) r hr h1 h2 (p % 8) (by omega)
    rw [show 8 * (p / 8) + p % 8 = p by omega] at e
    have e1 : (8 * r + p % 8) / 8 = r := by omega
    have e2 : (8 * r + p % 8) % 8 = p % 8 := by omega
    obtain ⟨h4, h5⟩ := hn.1 (8 * r + p % 8) (by omega)
    rw [e1] at h4
    rw [e1, e2] at h5
    have h6 := cnt_lt kd h4
    have h7 := h.nx r (p % 8) hr (by omega)
    rw [h1] at h7 h6
    rw [e, h7]
    refine ⟨h6, ?_⟩
    by_cases cc : nx r (p % 8) < met nx (8 * r + p % 8)
    · exact Nat.le_of_lt (cnt_lt kd cc)
    · have e5 : nx r (p % 8) = met nx (8 * r + p % 8) := by omega
      rw [← e5]
      exact hf _ (hc r _ hr (by omega))
  · have hpos : 0 < cntK kd K := Nat.lt_of_le_of_lt (Nat.zero_le _) (cnt_lt kd hK)
    obtain ⟨c, ec⟩ : ∃ c, cntK kd K = c + 1 := ⟨cntK kd K - 1, by omega⟩
    obtain ⟨r, hr, h1, h2⟩ := rep_ex hf (show c < cntK kd K by omega)
    have e := quot_met hn h hc hf c (by omega) r hr h1 h2 8 (Nat.le_refl _)
    have := met_olds hn h hc (i := r + 1) (K - (r + 1)) (by omega) (fun j h3 h4 => by
      have h6 := cnt_lt kd (show j < K by omega)
      exact cnt_ex hf j (by omega) _ (by
        have := cnt_lt kd (show r < j by omega)
        omega))
    rw [show r + 1 + (K - (r + 1)) = K by omega, hn.2] at this
    rw [ec, show 8 * (c + 1) = 8 * c + 8 by omega, e, show 8 * r + 8 = 8 * (r + 1) by omega, ← this, ec]
end

/-! ### Rounds -/
/-- One letter more tells apart. -/
def Rfn (K : Nat) (out : Nat → Nat) (nx : Nat → Nat → Nat) (kd kd' : Nat → Nat) : Prop := ∀ i j, i < K → j < K → (kd' i = kd' j ↔ out i = out j ∧ ∀ a, a < 8 → kd (nx i a) = kd (nx j a))

theorem rfn_fine {K : Nat} {out : Nat → Nat} {nx : Nat → Nat → Nat} {kd kd' kd'' : Nat → Nat} (hc : ∀ i a, i < K → a < 8 → nx i a < K) (h : Rfn K out nx kd kd') (h' : Rfn K out nx kd' kd'') (hf : ∀ i j, i < K → j < K → kd' i = kd' j → kd i = kd j) : ∀ i j, i < K → j < K → kd'' i = kd'' j → kd' i = kd' j := fun i j hi hj e => by
  obtain ⟨h1, h2⟩ := (h' i j hi hj).1 e
  exact (h i j hi hj).2 ⟨h1, fun a ha => hf _ _ (hc i a hi ha) (hc j a hj ha) (h2 a ha)⟩
theorem rfn_like {K : Nat} {out : Nat → Nat} {nx : Nat → Nat → Nat} {kd kd' : Nat → Nat} (hc : ∀ i a, i < K → a < 8 → nx i a < K) (h : Rfn K out nx kd kd') (hl : ∀ i j, i < K → j < K → Like out nx out nx i j → kd i = kd j) : ∀ i j, i < K → j < K → Like out nx out nx i j → kd' i = kd' j := fun i j hi hj hk =>
  (h i j hi hj).2 ⟨hk [] (fun x hx => by simp at hx), fun a ha => hl _ _ (hc i a hi ha) (hc j a hj ha) (like_next hk ha)⟩

end Go.Proofs.Ytjagijohfkffiaa

/- Plain mathematics: the machine of a formula. -/
namespace Go.Proofs.Ytjagijohfkffiaa
set_option linter.unusedVariables false

theorem numbered_lt {n : Nat} {nx : Nat → Nat → Nat} (h : Numbered n nx) {i a : Nat} (hi : i < n) (ha : a < 8) : nx i a < n := by
  have h1 := met_mono nx (show 8 * i + a + 1 ≤ 8 * n by omega)
  simp only [met] at h1
  rw [h.2, show (8 * i + a) / 8 = i by omega, show (8 * i + a) % 8 = a by omega] at h1
  omega
theorem numbered_pos {n : Nat} {nx : Nat → Nat → Nat} (h : Numbered n nx) : 0 < n := by
  have := met_pos nx (8 * n)
  rw [h.2] at this
  exact this
theorem run_lt {n : Nat} {nx : Nat → Nat → Nat} (hc : ∀ i a, i < n → a < 8 → nx i a < n) : ∀ (w : List Nat) (i : Nat), i < n → LettersL w → runM nx i w < n
  | [], i, hi, _ => hi
  | a :: w, i, hi, hw => run_lt hc w (nx i a) (hc i a hi (hw a (List.mem_cons_self ..))) (fun x hx => hw x (List.mem_cons_of_mem _ hx))

/-- The machine of a formula: it tells the verdicts, has no state too many, and numbers them as they are met. -/
structure Mach (ns : List Nd) (n : Nat) (out : Nat → Nat) (nx : Nat → Nat → Nat) : Prop where
  num : Numbered n nx
  apart : Apart n out nx
  tells : ∀ w, LettersL w → Verdict ns w (out (runM nx 0 w))
theorem mach_fun {ns : List Nd} {n n' : Nat} {out out' : Nat → Nat} {nx nx' : Nat → Nat → Nat} (h : Mach ns n out nx) (k : Mach ns n' out' nx') : n = n' ∧ (∀ i, i < n → out i = out' i) ∧ ∀ i a, i < n → a < 8 → nx i a = nx' i a :=
  same_machine h.num k.num h.apart k.apart fun w hw => verdict_fun (h.tells w hw) (k.tells w hw)

/-- It has more states than there may be. -/
def Big (ns : List Nd) : Prop := ∀ n out nx, Mach ns n out nx → 8 < n
theorem big_mach {ns : List Nd} {n : Nat} {out : Nat → Nat} {nx : Nat → Nat → Nat} (h : Mach ns n out nx) (hn : 8 < n) : Big ns := fun n' out' nx' k => by
  have := (mach_fun h k).1
  omega

section
variable {ns : List Nd} {liv : Nat → Bool} {us : List (List Nat)} {xs : List Nat}

theorem expl_lt (hE : Expl ns liv (begB ns liv) us xs) (hx : xs.length = 8 * us.length) : ∀ i a, i < us.length → a < 8 → nxL xs i a < us.length := fun i a hi ha => by
  obtain ⟨_, u1, _, h1, _⟩ := hE.ok (8 * i + a) (by omega)
  exact (List.getElem?_eq_some_iff.1 h1).1

theorem base_verdict (hg : Good ns) (hl : LivP ns (calmsTo ns ns.length) liv) (hE : Expl ns liv (begB ns liv) us xs) (hx : xs.length = 8 * us.length) {w : List Nat} (hw : LettersL w) : Verdict ns w (outU ns liv (begB ns liv) us (runM (nxL xs) 0 w)) := by
  let x : Nat → Nat := fun i => w.getD i 0
  have hL : Letters x := fun t => by
    show w.getD t 0 < 8
    rw [List.getD]
    cases e : w[t]? with
    | none => simp
    | some y => exact hw y (List.mem_of_getElem? e)
  let sp : Nat → Nat := fun t => Nat.rec 0 (fun t s => nxL xs s (x t)) t
  have e : pre x w.length = w := by
    unfold pre
    apply List.ext_getElem
    · simp
    · intro i h1 h2
      simp [x, List.getD, List.getElem?_eq_getElem h2]
  have hsp : ∀ t, sp t = runM (nxL xs) 0 (pre x t) := fun t => by
    induction t with
    | zero => rfl
    | succ t ih =>
      rw [pre_succ, runM_app, ← ih]
      rfl
  have := spot_verdict hg hl hE hx hL (sp := sp) rfl (fun t => rfl) w.length
  rw [hsp, e] at this
  exact this

/-- The kinds of the states, when none is added: the machine of the formula. -/
theorem kinds_mach (hg : Good ns) (hl : LivP ns (calmsTo ns ns.length) liv) (hE : Expl ns liv (begB ns liv) us xs) (hx : xs.length = 8 * us.length) {kd out' : Nat → Nat} {nx' : Nat → Nat → Nat} (hf : Fo kd us.length)
    (hh : Hom us.length (outU ns liv (begB ns liv) us) (nxL xs) kd out' nx') (hk : ∀ i j, i < us.length → j < us.length → Like (outU ns liv (begB ns liv) us) (nxL xs) (outU ns liv (begB ns liv) us) (nxL xs) i j → kd i = kd j) : Mach ns (cntK kd us.length) out' nx' := by
  have hpos : 0 < us.length := (List.getElem?_eq_some_iff.1 hE.first).1
  have hc := expl_lt hE hx
  have k0 : kd 0 = 0 := by
    have := hf 0 hpos
    simp only [cntK] at this
    omega
  refine ⟨quot_numbered hpos (expl_numbered hE hx) hh hc hf, hom_apart hh hc hf hk, fun w hw => ?_⟩
  have h1 := hom_like hh hc hpos w hw
  rw [k0] at h1
  rw [← h1]
  exact base_verdict hg hl hE hx hw

/-- A word that leads to a state. -/
theorem expl_word (hE : Expl ns liv (begB ns liv) us xs) (hx : xs.length = 8 * us.length) : ∀ i, i < us.length → ∃ w, LettersL w ∧ runM (nxL xs) 0 w = i := by
  have hn := expl_numbered hE hx
  have key : ∀ p, p ≤ 8 * us.length → ∀ i, i < met (nxL xs) p → ∃ w, LettersL w ∧ runM (nxL xs) 0 w = i := by
    intro p
    induction p with
    | zero =>
      intro _ i hi
      simp only [met] at hi
      exact ⟨[], fun x hx => by simp at hx, by show 0 = i; omega⟩
    | succ p ih =>
      intro hp i hi
      by_cases c : i < met (nxL xs) p
      · exact ih (by omega) i c
      · simp only [met] at hi
        obtain ⟨h1, h2⟩ := hn.1 p (by omega)
        obtain ⟨w, h3, h4⟩ := ih (by omega) _ h1
        refine ⟨w ++ [p % 8], fun x hx => ?_, ?_⟩
        · rcases List.mem_append.1 hx with hx | hx
          · exact h3 x hx
          · simp at hx; omega
        · rw [runM_app, h4]
          show nxL xs (p / 8) (p % 8) = i
          omega
  intro i hi
  exact key (8 * us.length) (Nat.le_refl _) i (by rw [hn.2]; exact hi)

/-- More kinds than there may be: no machine is small enough. -/
theorem kinds_big (hg : Good ns) (hl : LivP ns (calmsTo ns ns.length) liv) (hE : Expl ns liv (begB ns liv) us xs) (hx : xs.length = 8 * us.length) {kd : Nat → Nat} (hf : Fo kd us.length)
    (hk : ∀ i j, i < us.length → j < us.length → Like (outU ns liv (begB ns liv) us) (nxL xs) (outU ns liv (begB ns liv) us) (nxL xs) i j → kd i = kd j) (h8 : 8 < cntK kd us.length) : Big ns := by
  intro n out nx hm
  have hc := expl_lt hE hx
  have hpos : 0 < us.length := (List.getElem?_eq_some_iff.1 hE.first).1
  have hn := numbered_pos hm.num
  have L0 : Like (outU ns liv (begB ns liv) us) (nxL xs) out nx 0 0 := fun w hw => verdict_fun (base_verdict hg hl hE hx hw) (hm.tells w hw)
  have ex : ∀ c, ∃ s r, c < cntK kd us.length → s < n ∧ r < us.length ∧ kd r = c ∧ Like (outU ns liv (begB ns liv) us) (nxL xs) out nx r s := fun c => by
    by_cases hc0 : c < cntK kd us.length
    · obtain ⟨r, h1, h2, _⟩ := rep_ex hf hc0
      obtain ⟨w, h3, h4⟩ := expl_word hE hx r h1
      refine ⟨runM nx 0 w, r, fun _ => ⟨run_lt (fun i a hi ha => numbered_lt hm.num hi ha) w 0 hn h3, h1, h2, fun v hv => ?_⟩⟩
      have := L0 (w ++ v) (fun x hx => by
        rcases List.mem_append.1 hx with hx | hx
        · exact h3 x hx
        · exact hv x hx)
      rw [runM_app, runM_app, h4] at this
      exact this
    · exact ⟨0, 0, fun h => absurd h hc0⟩
  let s : Nat → Nat := fun c => Classical.choose (ex c)
  have hs : ∀ c, ∃ r, c < cntK kd us.length → s c < n ∧ r < us.length ∧ kd r = c ∧ Like (outU ns liv (begB ns liv) us) (nxL xs) out nx r (s c) := fun c => Classical.choose_spec (ex c)
  have inj : ∀ c d, c < cntK kd us.length → d < cntK kd us.length → s c = s d → c = d := fun c d h1 h2 e => by
    obtain ⟨r, hr⟩ := hs c
    obtain ⟨q, hq⟩ := hs d
    obtain ⟨_, a1, a2, a3⟩ := hr h1
    obtain ⟨_, b1, b2, b3⟩ := hq h2
    rw [e] at a3
    rw [← a2, ← b2]
    exact hk r q a1 b1 (like_trans a3 (like_symm b3))
  have hnd : ((List.range (cntK kd us.length)).map s).Nodup := by
    rw [List.nodup_iff_pairwise_ne, List.pairwise_map]
    refine List.Pairwise.imp_of_mem ?_ (List.nodup_iff_pairwise_ne.1 List.nodup_range)
    intro a b ha hb hne e
    exact hne (inj a b (by simpa using ha) (by simpa using hb) e)
  have := nodup_le _ _ hnd (fun y hy => by
    obtain ⟨c, h1, rfl⟩ := List.mem_map.1 hy
    obtain ⟨r, hr⟩ := hs c
    exact (hr (by simpa using h1)).1)
  simp only [List.length_map, List.length_range] at this
  omega
end

/-! ### The reference's way: through what is met -/
def atM (ms : List Nat) (i : Nat) : Nat := ms.getD i 0
section
variable (out : Nat → Nat) (nx : Nat → Nat → Nat)

structure WEx (K : Nat) (ms xs : List Nat) : Prop where
  first : ms[0]? = some 0
  lt : ∀ m ∈ ms, m < K
  dist : ms.Pairwise fun a b => ¬ Like out nx out nx a b
  ok : ∀ p, p < xs.length → ∃ m0 m1, ms[p / 8]? = some m0 ∧ ms[xs.getD p 0]? = some m1 ∧ Like out nx out nx (nx m0 (p % 8)) m1
  num : ms.length = met (nxL xs) xs.length
  met_ : ∀ p, p < xs.length → p / 8 < met (nxL xs) p ∧ xs.getD p 0 ≤ met (nxL xs) p
end

section
variable {out : Nat → Nat} {nx : Nat → Nat → Nat} {K : Nat} {ms xs : List Nat}

theorem like_refl (i : Nat) : Like out nx out nx i i := fun w _ => rfl
theorem wex_start (hK : 0 < K) : WEx out nx K [0] [] := ⟨rfl, fun m hm => by simp at hm; omega, by simp, fun p hp => by simp at hp, rfl, fun p hp => by simp at hp⟩
theorem wex_old (h : WEx out nx K ms xs) {m0 m1 j : Nat} (h0 : ms[xs.length / 8]? = some m0) (h1 : ms[j]? = some m1) (hq : Like out nx out nx (nx m0 (xs.length % 8)) m1) : WEx out nx K ms (xs ++ [j]) := by
  have hj := (List.getElem?_eq_some_iff.1 h1).1
  have hi := (List.getElem?_eq_some_iff.1 h0).1
  have hn := h.num
  refine ⟨h.first, h.lt, h.dist, fun p hp => ?_, ?_, fun p hp => ?_⟩
  · rw [List.length_append, List.length_singleton] at hp
    by_cases e : p = xs.length
    · subst e; rw [getD_snoc_eq]; exact ⟨m0, m1, h0, h1, hq⟩
    · rw [getD_snoc_lt (by omega)]; exact h.ok p (by omega)
  · rw [List.length_append, List.length_singleton, met, met_snoc _ (Nat.le_refl _), nxL_at, getD_snoc_eq, ← h.num]
    omega
  · rw [List.length_append, List.length_singleton] at hp
    rw [met_snoc p (by omega)]
    by_cases e : p = xs.length
    · subst e; rw [getD_snoc_eq, ← h.num]; exact ⟨hi, by omega⟩
    · rw [getD_snoc_lt (by omega)]; exact h.met_ p (by omega)
theorem wex_new (h : WEx out nx K ms xs) {m0 : Nat} (h0 : ms[xs.length / 8]? = some m0) (hlt : nx m0 (xs.length % 8) < K) (hall : ∀ m ∈ ms, ¬ Like out nx out nx (nx m0 (xs.length % 8)) m) : WEx out nx K (ms ++ [nx m0 (xs.length % 8)]) (xs ++ [ms.length]) := by
  have hi := (List.getElem?_eq_some_iff.1 h0).1
  have hn := h.num
  have old : ∀ {i m : Nat}, ms[i]? = some m → (ms ++ [nx m0 (xs.length % 8)])[i]? = some m := fun {i u} hu => by
    rw [List.getElem?_append_left (List.getElem?_eq_some_iff.1 hu).1]; exact hu
  refine ⟨old h.first, fun m hm => ?_, ?_, fun p hp => ?_, ?_, fun p hp => ?_⟩
  · rcases List.mem_append.1 hm with hm | hm
    · exact h.lt m hm
    · simp at hm; omega
  · rw [List.pairwise_append]
    refine ⟨h.dist, by simp, fun a ha b hb => ?_⟩
    simp at hb
    subst hb
    exact fun hk => hall a ha (like_symm hk)
  · rw [List.length_append, List.length_singleton] at hp
    by_cases e : p = xs.length
    · subst e
      rw [getD_snoc_eq]
      exact ⟨m0, nx m0 (xs.length % 8), old h0, by simp, like_refl _⟩
    · rw [getD_snoc_lt (by omega)]
      obtain ⟨a, b, h1, h2, h3⟩ := h.ok p (by omega)
      exact ⟨a, b, old h1, old h2, h3⟩
  · rw [List.length_append, List.length_singleton, List.length_append, List.length_singleton, met, met_snoc _ (Nat.le_refl _), nxL_at, getD_snoc_eq, ← h.num]
    omega
  · rw [List.length_append, List.length_singleton] at hp
    rw [met_snoc p (by omega)]
    by_cases e : p = xs.length
    · subst e; rw [getD_snoc_eq, ← h.num]; exact ⟨hi, by omega⟩
    · rw [getD_snoc_lt (by omega)]; exact h.met_ p (by omega)

theorem wex_len (h : WEx out nx K ms xs) : ms.length ≤ K := nodup_le _ _ (by
  rw [List.nodup_iff_pairwise_ne]
  exact h.dist.imp fun hab e => hab (by subst e; exact like_refl _)) h.lt
theorem wex_numbered (h : WEx out nx K ms xs) (he : xs.length = 8 * ms.length) : Numbered ms.length (nxL xs) := by
  refine ⟨fun p hp => ?_, ?_⟩
  · rw [nxL_at]; exact h.met_ p (by omega)
  · rw [← he, ← h.num]

theorem wex_like (h : WEx out nx K ms xs) (he : xs.length = 8 * ms.length) : ∀ (w : List Nat) (m i : Nat), i < ms.length → LettersL w → Like out nx out nx m (atM ms i) → out (runM nx m w) = out (atM ms (runM (nxL xs) i w))
  | [], m, i, hi, _, hk => hk [] (fun x hx => by simp at hx)
  | a :: w, m, i, hi, hw, hk => by
    have ha := hw a (List.mem_cons_self ..)
    obtain ⟨m0, m1, h1, h2, h3⟩ := h.ok (8 * i + a) (by omega)
    rw [show (8 * i + a) / 8 = i by omega] at h1
    rw [show (8 * i + a) % 8 = a by omega] at h3
    have e0 : atM ms i = m0 := by simp [atM, List.getD, h1]
    have e1 : atM ms (nxL xs i a) = m1 := by show ms.getD (xs.getD (8 * i + a) 0) 0 = m1; simp only [List.getD] at h2 ⊢; rw [h2]; rfl
    rw [e0] at hk
    simp only [runM]
    exact wex_like h he w (nx m a) (nxL xs i a) (List.getElem?_eq_some_iff.1 h2).1 (fun x hx => hw x (List.mem_cons_of_mem _ hx)) (by rw [e1]; exact like_trans (like_next hk ha) h3)

theorem wex_apart (h : WEx out nx K ms xs) (he : xs.length = 8 * ms.length) : Apart ms.length (fun i => out (atM ms i)) (nxL xs) := by
  intro i j hi hj hk
  have hlike : Like out nx out nx (atM ms i) (atM ms j) := fun w hw => by
    rw [wex_like h he w _ i hi hw (like_refl _), wex_like h he w _ j hj hw (like_refl _)]
    exact hk w hw
  have hd := List.pairwise_iff_getElem.1 h.dist
  have ei : atM ms i = ms[i] := by simp [atM, List.getD, List.getElem?_eq_getElem hi]
  have ej : atM ms j = ms[j] := by simp [atM, List.getD, List.getElem?_eq_getElem hj]
  rw [ei, ej] at hlike
  rcases Nat.lt_trichotomy i j with c | c | c
  · exact absurd hlike (hd i j hi hj c)
  · exact c
  · exact absurd (like_symm hlike) (hd j i hj hi c)

theorem wex_mach {ns : List Nd} {liv : Nat → Bool} {us : List (List Nat)} {ys : List Nat} (hg : Good ns) (hl : LivP ns (calmsTo ns ns.length) liv) (hE : Expl ns liv (begB ns liv) us ys) (hy : ys.length = 8 * us.length)
    (h : WEx (outU ns liv (begB ns liv) us) (nxL ys) us.length ms xs) (he : xs.length = 8 * ms.length) : Mach ns ms.length (fun i => outU ns liv (begB ns liv) us (atM ms i)) (nxL xs) := by
  refine ⟨wex_numbered h he, wex_apart h he, fun w hw => ?_⟩
  have h0 : atM ms 0 = 0 := by simp [atM, List.getD, h.first]
  have := wex_like h he w 0 0 (List.getElem?_eq_some_iff.1 h.first).1 hw (by rw [h0]; exact like_refl _)
  show Verdict ns w (outU ns liv (begB ns liv) us (atM ms (runM (nxL xs) 0 w)))
  rw [← this]
  exact base_verdict hg hl hE hy hw
end

end Go.Proofs.Ytjagijohfkffiaa
