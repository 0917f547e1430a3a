import Derived.Test.YtjagijohfkffiaaLM17
import Derived.Test.YtjagijohfkffiaaLM18

/- Plain mathematics: the states of a machine sorted into kinds, numbered where the first of a kind stands. -/
namespace Go.Proofs.Ytjagijohfkffiaa
set_option linter.unusedVariables false

/-- How many kinds the first m states have. -/
def cntK (kd : Nat → Nat) : Nat → Nat
  | 0 => 0
  | m + 1 => max (cntK kd m) (kd m + 1)
/-- Each new kind gets the next number. -/
def Fo (kd : Nat → Nat) (K : Nat) : Prop := ∀ i, i < K → kd i ≤ cntK kd i

theorem cnt_mono (kd : Nat → Nat) {m m' : Nat} (h : m ≤ m') : cntK kd m ≤ cntK kd m' := by
  obtain ⟨d, rfl⟩ : ∃ d, m' = m + d := ⟨m' - m, by omega⟩
  clear h
  induction d with
  | zero => exact Nat.le_refl _
  | succ d ih => rw [← Nat.add_assoc]; simp only [cntK]; omega
theorem cnt_lt (kd : Nat → Nat) {j m : Nat} (h : j < m) : kd j < cntK kd m := by
  have := cnt_mono kd (show j + 1 ≤ m by omega)
  simp only [cntK] at this
  omega
theorem cnt_ex {kd : Nat → Nat} {K : Nat} (h : Fo kd K) : ∀ m, m ≤ K → ∀ c, c < cntK kd m → ∃ j, j < m ∧ kd j = c
  | 0, _, c, hc => by simp [cntK] at hc
  | m + 1, hm, c, hc => by
    by_cases e : c < cntK kd m
    · obtain ⟨j, h1, h2⟩ := cnt_ex h m (by omega) c e
      exact ⟨j, by omega, h2⟩
    · have := h m (by omega)
      simp only [cntK] at hc
      exact ⟨m, by omega, by omega⟩
theorem cnt_le {kd : Nat → Nat} {K : Nat} (h : Fo kd K) : ∀ m, m ≤ K → cntK kd m ≤ m
  | 0, _ => Nat.le_refl _
  | m + 1, hm => by
    have h1 := cnt_le h m (by omega)
    have h2 := h m (by omega)
    simp only [cntK]; omega

theorem fine_step {kd kd' : Nat → Nat} {K : Nat} (h : Fo kd K) (h' : Fo kd' K) (hr : ∀ i j, i < K → j < K → kd' i = kd' j → kd i = kd j) {m : Nat} (hm : m < K) : cntK kd (m + 1) + cntK kd' m ≤ cntK kd' (m + 1) + cntK kd m := by
  have a := h m hm
  have b := h' m hm
  simp only [cntK]
  by_cases e : kd m < cntK kd m
  · omega
  · by_cases e' : kd' m < cntK kd' m
    · obtain ⟨j, h1, h2⟩ := cnt_ex h' m (by omega) _ e'
      have := hr j m (by omega) hm h2
      have := cnt_lt kd h1
      omega
    · omega
theorem fine_le {kd kd' : Nat → Nat} {K : Nat} (h : Fo kd K) (h' : Fo kd' K) (hr : ∀ i j, i < K → j < K → kd' i = kd' j → kd i = kd j) (m : Nat) : ∀ d, m + d ≤ K → cntK kd (m + d) + cntK kd' m ≤ cntK kd' (m + d) + cntK kd m
  | 0, _ => by simp; omega
  | d + 1, hd => by
    have h1 := fine_le h h' hr m d (by omega)
    have h2 := fine_step h h' hr (m := m + d) (by omega)
    rw [show m + d + 1 = m + (d + 1) by omega] at h2
    omega
theorem fine_cnt {kd kd' : Nat → Nat} {K : Nat} (h : Fo kd K) (h' : Fo kd' K) (hr : ∀ i j, i < K → j < K → kd' i = kd' j → kd i = kd j) : cntK kd K ≤ cntK kd' K := by
  have := fine_le h h' hr 0 K (by omega)
  simp only [cntK, Nat.zero_add] at this
  omega
/-- No kind more: the kinds are the same. -/
theorem fine_same {kd kd' : Nat → Nat} {K : Nat} (h : Fo kd K) (h' : Fo kd' K) (hr : ∀ i j, i < K → j < K → kd' i = kd' j → kd i = kd j) (he : cntK kd' K = cntK kd K) : ∀ i, i < K → kd' i = kd i := by
  have eq : ∀ m, m ≤ K → cntK kd' m = cntK kd m := fun m hm => by
    have h1 := fine_le h h' hr 0 m (by omega)
    have h2 := fine_le h h' hr m (K - m) (by omega)
    rw [show m + (K - m) = K by omega] at h2
    simp only [cntK, Nat.zero_add] at h1
    omega
  intro i
  induction i using Nat.strongRecOn with
  | _ i ih =>
    intro hi
    have e0 := eq i (by omega)
    have e1 := eq (i + 1) (by omega)
    have a := h i hi
    have b := h' i hi
    simp only [cntK] at e1
    by_cases c : kd' i < cntK kd' i
    · obtain ⟨j, h1, h2⟩ := cnt_ex h' i (by omega) _ c
      have h3 := hr j i (by omega) hi h2
      have h4 := ih j h1 (by omega)
      omega
    · omega

section
variable {K : Nat} {out out' : Nat → Nat} {nx nx' : Nat → Nat → Nat} {kd : Nat → Nat}

/-- The machine of the kinds. -/
structure Hom (K : Nat) (out : Nat → Nat) (nx : Nat → Nat → Nat) (kd : Nat → Nat) (out' : Nat → Nat) (nx' : Nat → Nat → Nat) : Prop where
  out : ∀ i, i < K → out' (kd i) = out i
  nx : ∀ i a, i < K → a < 8 → nx' (kd i) a = kd (nx i a)

theorem hom_run (h : Hom K out nx kd out' nx') (hc : ∀ i a, i < K → a < 8 → nx i a < K) : ∀ (w : List Nat) (i : Nat), i < K → LettersL w → runM nx i w < K ∧ runM nx' (kd i) w = kd (runM nx i w)
  | [], i, hi, _ => ⟨hi, rfl⟩
  | a :: w, i, hi, hw => by
    have ha := hw a (List.mem_cons_self ..)
    have := hom_run h hc w (nx i a) (hc i a hi ha) (fun x hx => hw x (List.mem_cons_of_mem _ hx))
    simp only [runM]
    rw [h.nx i a hi ha]
    exact this
theorem hom_like (h : Hom K out nx kd out' nx') (hc : ∀ i a, i < K → a < 8 → nx i a < K) {i : Nat} (hi : i < K) : Like out nx out' nx' i (kd i) := fun w hw => by
  obtain ⟨h1, h2⟩ := hom_run h hc w i hi hw
  rw [h2, h.out _ h1]
theorem hom_apart (h : Hom K out nx kd out' nx') (hc : ∀ i a, i < K → a < 8 → nx i a < K) (hf : Fo kd K) (hl : ∀ i j, i < K → j < K → Like out nx out nx i j → kd i = kd j) : Apart (cntK kd K) out' nx' := by
  intro c d hc' hd' hcd
  obtain ⟨i, hi, rfl⟩ := cnt_ex hf K (Nat.le_refl _) c hc'
  obtain ⟨j, hj, rfl⟩ := cnt_ex hf K (Nat.le_refl _) d hd'
  exact hl i j hi hj (like_trans (hom_like h hc hi) (like_trans hcd (like_symm (hom_like h hc hj))))

/-- A look from one that is not the first of its kind shows no new kind. -/
theorem met_old (hn : Numbered K nx) (h : Hom K out nx kd out' nx') (hc : ∀ i a, i < K → a < 8 → nx i a < K) {r i a : Nat} (hr : r < i) (hi : i < K) (ha : a < 8) (hk : kd r = kd i) : cntK kd (met nx (8 * i + a + 1)) = cntK kd (met nx (8 * i + a)) := by
  have h1 : nx r a < met nx (8 * i + a) := by
    have := met_mono nx (show 8 * r + a + 1 ≤ 8 * i + a by omega)
    simp only [met] at this
    rw [show (8 * r + a) / 8 = r by omega, show (8 * r + a) % 8 = a by omega] at this
    omega
  have h2 : kd (nx i a) = kd (nx r a) := by rw [← h.nx i a hi ha, ← h.nx r a (by omega) ha, hk]
  have h3 := cnt_lt kd h1
  obtain ⟨h4, h5⟩ := hn.1 (8 * i + a) (by omega)
  have e1 : (8 * i + a) / 8 = i := by omega
  have e2 : (8 * i + a) % 8 = a := by omega
  rw [e1, e2] at h5
  simp only [met, e1, e2]
  by_cases c : nx i a < met nx (8 * i + a)
  · rw [Nat.max_eq_left (by omega)]
  · have e3 : nx i a = met nx (8 * i + a) := by omega
    rw [Nat.max_eq_right (by omega), e3]
    have h6 : kd (met nx (8 * i + a)) = kd (nx r a) := by rw [← e3]; exact h2
    simp only [cntK]
    omega

theorem met_olds (hn : Numbered K nx) (h : Hom K out nx kd out' nx') (hc : ∀ i a, i < K → a < 8 → nx i a < K) {i : Nat} : ∀ d, i + d ≤ K → (∀ j, i ≤ j → j < i + d → ∃ r, r < j ∧ kd r = kd j) → cntK kd (met nx (8 * (i + d))) = cntK kd (met nx (8 * i))
  | 0, _, _ => rfl
  | d + 1, hd, hj => by
    rw [← met_olds hn h hc d (by omega) (fun j h1 h2 => hj j h1 (by omega))]
    obtain ⟨r, h1, h2⟩ := hj (i + d) (by omega) (by omega)
    have key : ∀ a, a ≤ 8 → cntK kd (met nx (8 * (i + d) + a)) = cntK kd (met nx (8 * (i + d))) := by
      intro a
      induction a with
      | zero => intro _; rfl
      | succ a ih =>
        intro ha
        rw [← ih (by omega), ← met_old hn h hc h1 (by omega) (show a < 8 by omega) h2]
        rfl
    have := key 8 (Nat.le_refl _)
    rwa [show 8 * (i + d) + 8 = 8 * (i + (d + 1)) by omega] at this

/-- The first of each kind. -/
theorem rep_ex (hf : Fo kd K) {c : Nat} (hc : c < cntK kd K) : ∃ r, r < K ∧ kd r = c ∧ cntK kd r = c := by
  have : ∀ m, m ≤ K → c < cntK kd m → ∃ r, r < m ∧ kd r = c ∧ cntK kd r = c := by
    intro m
    induction m with
    | zero => intro _ h; simp [cntK] at h
    | succ m ih =>
      intro hm h
      by_cases e : c < cntK kd m
      · obtain ⟨r, h1, h2⟩ := ih (by omega) e
        exact ⟨r, by omega, h2⟩
      · have := hf m (by omega)
        simp only [cntK] at h
        exact ⟨m, by omega, by omega, by omega⟩
  exact this K (Nat.le_refl _) hc

theorem quot_met (hn : Numbered K nx) (h : Hom K out nx kd out' nx') (hc : ∀ i a, i < K → a < 8 → nx i a < K) (hf : Fo kd K) : ∀ c, c < cntK kd K → ∀ r, r < K → kd r = c → cntK kd r = c → ∀ a, a ≤ 8 → met nx' (8 * c + a) = cntK kd (met nx (8 * r + a)) := by
  intro c
  induction c with
  | zero =>
    intro hc0 r hr h1 h2 a
    have r0 : r = 0 := by
      rcases Nat.eq_zero_or_pos r with h | h
      · exact h
      · have := cnt_lt kd h
        omega
    subst r0
    induction a with
    | zero =>
      intro _
      show 1 = cntK kd (met nx 0)
      simp only [met, cntK]
      omega
    | succ a ih =>
      intro ha
      have ih := ih (by omega)
      have e1 : (8 * 0 + a) / 8 = 0 := by omega
      have e2 : (8 * 0 + a) % 8 = a := by omega
      have hh := h.nx 0 a hr (by omega)
      rw [h1] at hh
      obtain ⟨h4, h5⟩ := hn.1 (8 * 0 + a) (by omega)
      rw [e1, e2] at h5
      show max (met nx' (8 * 0 + a)) (nx' ((8 * 0 + a) / 8) ((8 * 0 + a) % 8) + 1) = cntK kd (max (met nx (8 * 0 + a)) (nx ((8 * 0 + a) / 8) ((8 * 0 + a) % 8) + 1))
      rw [e1, e2, ih, hh]
      by_cases cc : nx 0 a < met nx (8 * 0 + a)
      · have := cnt_lt kd cc
        rw [Nat.max_eq_left (by omega), Nat.max_eq_left (by omega)]
      · have e3 : nx 0 a = met nx (8 * 0 + a) := by omega
        rw [Nat.max_eq_right (show met nx (8 * 0 + a) ≤ nx 0 a + 1 by omega), e3]
        rfl
  | succ c ihc =>
    intro hc1 r hr h1 h2 a
    induction a with
    | zero =>
      intro _
      obtain ⟨r', hr', k1, k2⟩ := rep_ex hf (show c < cntK kd K by omega)
      have hlt : r' < r := by
        rcases Nat.lt_or_ge r' r with h | h
        · exact h
        · have h3 := cnt_mono kd h
          omega
      have e := ihc (by omega) r' hr' k1 k2 8 (Nat.le_refl _)
      rw [show 8 * (c + 1) + 0 = 8 * c + 8 by omega, e, show 8 * r' + 8 = 8 * (r' + 1) by omega]
      have := met_olds hn h hc (i := r' + 1) (r - (r' + 1)) (by omega) (fun j h3 h4 => by
        have h5 := cnt_mono kd (show j + 1 ≤ r by omega)
        have h6 := cnt_lt kd (show j < j + 1 by omega)
        exact cnt_ex hf j (by omega) _ (by
          have := cnt_lt kd (show r' < j by omega)
          omega))
      rw [show r' + 1 + (r - (r' + 1)) = r by omega] at this
      rw [← this]
      rfl
    | succ a ih =>
      intro ha
      have ih := ih (by omega)
      have e1 : (8 * r + a) / 8 = r := by omega
      have e2 : (8 * r + a) % 8 = a := by omega
      have e3 : (8 * (c + 1) + a) / 8 = c + 1 := by omega
      have e4 : (8 * (c + 1) + a) % 8 = a := by omega
      have hh := h.nx r a hr (by omega)
      rw [h1] at hh
      obtain ⟨h4, h5⟩ := hn.1 (8 * r + a) (by omega)
      rw [e1, e2] at h5
      show max (met nx' (8 * (c + 1) + a)) (nx' ((8 * (c + 1) + a) / 8) ((8 * (c + 1) + a) % 8) + 1) = cntK kd (max (met nx (8 * r + a)) (nx ((8 * r + a) / 8) ((8 * r + a) % 8) + 1))
      rw [e1, e2, e3, e4, ih, hh]
      by_cases cc : nx r a < met nx (8 * r + a)
      · have := cnt_lt kd cc
        rw [Nat.max_eq_left (by omega), Nat.max_eq_left (by omega)]
      · have e5 : nx r a = met nx (8 * r + a) := by omega
        rw [Nat.max_eq_right (show met nx (8 * r + a) ≤ nx r a + 1 by omega), e5]
        rfl

/-- The kinds are numbered as they are met. -/
theorem quot_numbered (hK : 0 < K) (hn : Numbered K nx) (h : Hom K out nx kd out' nx') (hc : ∀ i a, i < K → a < 8 → nx i a < K) (hf : Fo kd K) : Numbered (cntK kd K) nx' := by
  refine ⟨fun p hp => ?_, ?_⟩
  · obtain ⟨r, hr, h1, h2⟩ := rep_ex hf (show p / 8 < cntK kd K by omega)
    have e := quot_met hn h hc hf (p / 8) (by omega) r hr h1 h2 (p % 8) (by omega)
    rw [show 8 * (p / 8) + p % 8 = p by omega] at e
    have e1 : (8 * r + p % 8) / 8 = r := by omega
    have e2 : (8 * r + p % 8) % 8 = p % 8 := by omega
    obtain ⟨h4, h5⟩ := hn.1 (8 * r + p % 8) (by omega)
    rw [e1] at h4
    rw [e1, e2] at h5
    have h6 := cnt_lt kd h4
    have h7 := h.nx r (p % 8) hr (by omega)
    rw [h1] at h7 h6
    rw [e, h7]
    refine ⟨h6, ?_⟩
    by_cases cc : nx r (p % 8) < met nx (8 * r + p % 8)
    · exact Nat.le_of_lt (cnt_lt kd cc)
    · have e5 : nx r (p % 8) = met nx (8 * r + p % 8) := by omega
      rw [← e5]
      exact hf _ (hc r _ hr (by omega))
  · have hpos : 0 < cntK kd K := Nat.lt_of_le_of_lt (Nat.zero_le _) (cnt_lt kd hK)
    obtain ⟨c, ec⟩ : ∃ c, cntK kd K = c + 1 := ⟨cntK kd K - 1, by omega⟩
    obtain ⟨r, hr, h1, h2⟩ := rep_ex hf (show c < cntK kd K by omega)
    have e := quot_met hn h hc hf c (by omega) r hr h1 h2 8 (Nat.le_refl _)
    have := met_olds hn h hc (i := r + 1) (K - (r + 1)) (by omega) (fun j h3 h4 => by
      have h6 := cnt_lt kd (show j < K by omega)
      exact cnt_ex hf j (by omega) _ (by
        have := cnt_lt kd (show r < j by omega)
        omega))
    rw [show r + 1 + (K - (r + 1)) = K by omega, hn.2] at this
    rw [ec, show 8 * (c + 1) = 8 * c + 8 by omega, e, show 8 * r + 8 = 8 * (r + 1) by omega, ← this, ec]
end

/-! ### Rounds -/
/-- One letter more tells apart. -/
def Rfn (K : Nat) (out : Nat → Nat) (nx : Nat → Nat → Nat) (kd kd' : Nat → Nat) : Prop := ∀ i j, i < K → j < K → (kd' i = kd' j ↔ out i = out j ∧ ∀ a, a < 8 → kd (nx i a) = kd (nx j a))

theorem rfn_fine {K : Nat} {out : Nat → Nat} {nx : Nat → Nat → Nat} {kd kd' kd'' : Nat → Nat} (hc : ∀ i a, i < K → a < 8 → nx i a < K) (h : Rfn K out nx kd kd') (h' : Rfn K out nx kd' kd'') (hf : ∀ i j, i < K → j < K → kd' i = kd' j → kd i = kd j) : ∀ i j, i < K → j < K → kd'' i = kd'' j → kd' i = kd' j := fun i j hi hj e => by
  obtain ⟨h1, h2⟩ := (h' i j hi hj).1 e
  exact (h i j hi hj).2 ⟨h1, fun a ha => hf _ _ (hc i a hi ha) (hc j a hj ha) (h2 a ha)⟩
theorem rfn_like {K : Nat} {out : Nat → Nat} {nx : Nat → Nat → Nat} {kd kd' : Nat → Nat} (hc : ∀ i a, i < K → a < 8 → nx i a < K) (h : Rfn K out nx kd kd') (hl : ∀ i j, i < K → j < K → Like out nx out nx i j → kd i = kd j) : ∀ i j, i < K → j < K → Like out nx out nx i j → kd' i = kd' j := fun i j hi hj hk =>
  (h i j hi hj).2 ⟨hk [] (fun x hx => by simp at hx), fun a ha => hl _ _ (hc i a hi ha) (hc j a hj ha) (like_next hk ha)⟩

end Go.Proofs.Ytjagijohfkffiaa

/- The walks of tells, without. -/
namespace Go.Proofs.Ytjagijohfkffiaa
open Go.RowKit
set_option linter.unusedVariables false

/-- States that are read. -/
structure StR (w : World) (g n : Nat) (out : Nat → Nat) (nx : Nat → Nat → Nat) : Prop where
  lt : g < w.heap.size
  c0 : ∀ i, i < n → w.cell? ⟨g, i * 9, none⟩ = some (.int .i64 (out i : Nat))
  c : ∀ i m, i < n → m < 8 → w.cell? ⟨g, i * 9 + 1 + m, none⟩ = some (.int .i64 (nx i m : Nat))
theorem StR.below {B : Nat} {w w' : World} {g n : Nat} {out : Nat → Nat} {nx : Nat → Nat → Nat} (h : StR w g n out nx) (hb : Below B w w') (hB : g < B) : StR w' g n out nx :=
  ⟨Nat.lt_of_lt_of_le h.lt hb.size, fun i hi => (hb.cell (p := ⟨g, i * 9, none⟩) hB).trans (h.c0 i hi), fun i m hi hm => (hb.cell (p := ⟨g, i * 9 + 1 + m, none⟩) hB).trans (h.c i m hi hm)⟩

end Go.Proofs.Ytjagijohfkffiaa

/- The walk of without. -/
namespace Go.Proofs.Ytjagijohfkffiaa
open Go.RowKit
set_option linter.unusedVariables false

end Go.Proofs.Ytjagijohfkffiaa

/- The walks of evades, and the Outlook's Class. -/
namespace Go.Proofs.Ytjagijohfkffiaa
open Go.RowKit
set_option linter.unusedVariables false

end Go.Proofs.Ytjagijohfkffiaa

/- The walk of the Outlook's Class. -/
namespace Go.Proofs.Ytjagijohfkffiaa
open Go.RowKit
set_option linter.unusedVariables false

def outU (ns : List Nd) (liv beg : Nat → Bool) (us : List (List Nat)) : Nat → Nat := fun i => verdG liv (runG ns liv beg (us.getD i []))

end Go.Proofs.Ytjagijohfkffiaa
