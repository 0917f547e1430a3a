import Derived.Test.YtjagijohfkffiabKINM19
import Derived.Test.YtjagijohfkffiabKINM20

/- Plain mathematics: the states of a machine sorted into kinds, numbered where the first of a kind stands. -/
namespace Go.Proofs.Ytjagijohfkffiab
set_option linter.unusedVariables false

/-- How many kinds the first m states have. -/
def cntK (kd : Nat → Nat) : Nat → Nat
  | 0 => 0
  | m + 1 => max (cntK kd m) (kd m + 1)
/-- Each new kind gets the next number. -/
def Fo (kd : Nat → Nat) (K : Nat) : Prop := ∀ i, i < K → kd i ≤ cntK kd i

theorem cnt_mono (kd : Nat → Nat) {m m' : Nat} (h : m ≤ m') : cntK kd m ≤ cntK kd m' := by
  obtain ⟨d, rfl⟩ : ∃ d, m' = m + d := ⟨m' - m, by omega⟩
  clear h
  induction d with
  | zero => exact Nat.le_refl _
  | succ d ih => rw [← Nat.add_assoc]; simp only [cntK]; omega
theorem cnt_lt (kd : Nat → Nat) {j m : Nat} (h : j < m) : kd j < cntK kd m := by
  have := cnt_mono kd (show j + 1 ≤ m by omega)
  simp only [cntK] at this
  omega
theorem cnt_ex {kd : Nat → Nat} {K : Nat} (h : Fo kd K) : ∀ m, m ≤ K → ∀ c, c < cntK kd m → ∃ j, j < m ∧ kd j = c
  | 0, _, c, hc => by simp [cntK] at hc
  | m + 1, hm, c, hc => by
    by_cases e : c < cntK kd m
    · obtain ⟨j, h1, h2⟩ := cnt_ex h m (by omega) c e
      exact ⟨j, by omega, h2⟩
    · have := h m (by omega)
      simp only [cntK] at hc
      exact ⟨m, by omega, by omega⟩
theorem cnt_le {kd : Nat → Nat} {K : Nat} (h : Fo kd K) : ∀ m, m ≤ K → cntK kd m ≤ m
  | 0, _ => Nat.le_refl _
  | m + 1, hm => by
    have h1 := cnt_le h m (by omega)
    have h2 := h m (by omega)
    simp only [cntK]; omega

theorem fine_step {kd kd' : Nat → Nat} {K : Nat} (h : Fo kd K) (h' : Fo kd' K) (hr : ∀ i j, i < K → j < K → kd' i = kd' j → kd i = kd j) {m : Nat} (hm : m < K) : cntK kd (m + 1) + cntK kd' m ≤ cntK kd' (m + 1) + cntK kd m := by
  have a := h m hm
  have b := h' m hm
  simp only [cntK]
  by_cases e : kd m < cntK kd m
  · omega
  · by_cases e' : kd' m < cntK kd' m
    · obtain ⟨j, h1, h2⟩ := cnt_ex h' m (by omega) _ e'
      have := hr j m (by omega) hm h2
      have := cnt_lt kd h1
      omega
    · omega
theorem fine_le {kd kd' : Nat → Nat} {K : Nat} (h : Fo kd K) (h' : Fo kd' K) (hr : ∀ i j, i < K → j < K → kd' i = kd' j → kd i = kd j) (m : Nat) : ∀ d, m + d ≤ K → cntK kd (m + d) + cntK kd' m ≤ cntK kd' (m + d) + cntK kd m
  | 0, _ => by simp; omega
  | d + 1, hd => by
    have h1 := fine_le h h' hr m d (by omega)
    have h2 := fine_step h h' hr (m := m + d) (by omega)
    rw [show m + d + 1 = m + (d + 1) by omega] at h2
    omega
theorem fine_cnt {kd kd' : Nat → Nat} {K : Nat} (h : Fo kd K) (h' : Fo kd' K) (hr : ∀ i j, i < K → j < K → kd' i = kd' j → kd i = kd j) : cntK kd K ≤ cntK kd' K := by
  have := fine_le h h' hr 0 K (by omega)
  simp only [cntK, Nat.zero_add] at this
  omega
/-- No kind more: the kinds are the same. -/
theorem fine_same {kd kd' : Nat → Nat} {K : Nat} (h : Fo kd K) (h' : Fo kd' K) (hr : ∀ i j, i < K → j < K → kd' i = kd' j → kd i = kd j) (he : cntK kd' K = cntK kd K) : ∀ i, i < K → kd' i = kd i := by
  have eq : ∀ m, m ≤ K → cntK kd' m = cntK kd m := fun m hm => by
    have h1 := fine_le h h' hr 0 m (by omega)
    have h2 := fine_le h h' hr m (K - m) (by omega)
    rw [show m + (K - m) = K by omega] at h2
    simp only [cntK, Nat.zero_add] at h1
    omega
  intro i
  induction i using Nat.strongRecOn with
  | _ i ih =>
    intro hi
    have e0 := eq i (by omega)
    have e1 := eq (i + 1) (by omega)
    have a := h i hi
    have b := h' i hi
    simp only [cntK] at e1
    by_cases c : kd' i < cntK kd' i
    · obtain ⟨j, h1, h2⟩ := cnt_ex h' i (by omega) _ c
      have h3 := hr j i (by omega) hi h2
      have h4 := ih j h1 (by omega)
      omega
    · omega

section
variable {K : Nat} {out out' : Nat → Nat} {nx nx' : Nat → Nat → Nat} {kd : Nat → Nat}

/-- The machine of the kinds. -/
structure Hom (K : Nat) (out : Nat → Nat) (nx : Nat → Nat → Nat) (kd : Nat → Nat) (out' : Nat → Nat) (nx' : Nat → Nat → Nat) : Prop where
  out : ∀ i, i < K → out' (kd i) = out i
  nx : ∀ i a, i < K → a < 8 → nx' (kd i) a = kd (nx i a)

theorem hom_run (h : Hom K out nx kd out' nx') (hc : ∀ i a, i < K → a < 8 → nx i a < K) : ∀ (w : List Nat) (i : Nat), i < K → LettersL w → runM nx i w < K ∧ runM nx' (kd i) w = kd (runM nx i w)
  | [], i, hi, _ => ⟨hi, rfl⟩
  | a :: w, i, hi, hw => by
    have ha := hw a (List.mem_cons_self ..)
    have := hom_run h hc w (nx i a) (hc i a hi ha) (fun x hx => hw x (List.mem_cons_of_mem _ hx))
    simp only [runM]
    rw [h.nx i a hi ha]
    exact this
theorem hom_like (h : Hom K out nx kd out' nx') (hc : ∀ i a, i < K → a < 8 → nx i a < K) {i : Nat} (hi : i < K) : Like out nx out' nx' i (kd i) := fun w hw => by
  obtain ⟨h1, h2⟩ := hom_run h hc w i hi hw
  rw [h2, h.out _ h1]
theorem hom_apart (h : Hom K out nx kd out' nx') (hc : ∀ i a, i < K → a < 8 → nx i a < K) (hf : Fo kd K) (hl : ∀ i j, i < K → j < K → Like out nx out nx i j → kd i = kd j) : Apart (cntK kd K) out' nx' := by
  intro c d hc' hd' hcd
  obtain ⟨i, hi, rfl⟩ := cnt_ex hf K (Nat.le_refl _) c hc'
  obtain ⟨j, hj, rfl⟩ := cnt_ex hf K (Nat.le_refl _) d hd'
  exact hl i j hi hj (like_trans (hom_like h hc hi) (like_trans hcd (like_symm (hom_like h hc hj))))

/-- A look from one that is not the first of its kind shows no new kind. -/
theorem met_old (hn : Numbered K nx) (h : Hom K out nx kd out' nx') (hc : ∀ i a, i < K → a < 8 → nx i a < K) {r i a : Nat} (hr : r < i) (hi : i < K) (ha : a < 8) (hk : kd r = kd i) : cntK kd (met nx (8 * i + a + 1)) = cntK kd (met nx (8 * i + a)) := by
  have h1 : nx r a < met nx (8 * i + a) := by
    have := met_mono nx (show 8 * r + a + 1 ≤ 8 * i + a by omega)
    simp only [met] at this
    rw [show (8 * r + a) / 8 = r by omega, show (8 * r + a) % 8 = a by omega] at this
    omega
  have h2 : kd (nx i a) = kd (nx r a) := by rw [← h.nx i a hi ha, ← h.nx r a (by omega) ha, hk]
  have h3 := cnt_lt kd h1
  obtain ⟨h4, h5⟩ := hn.1 (8 * i + a) (by omega)
  have e1 : (8 * i + a) / 8 = i := by omega
  have e2 : (8 * i + a) % 8 = a := by omega
  rw [e1, e2] at h5
  simp only [met, e1, e2]
  by_cases c : nx i a < met nx (8 * i + a)
  · rw [Nat.max_eq_left (by omega)]
  · have e3 : nx i a = met nx (8 * i + a) := by omega
    rw [Nat.max_eq_right (by omega), e3]
    have h6 : kd (met nx (8 * i + a)) = kd (nx r a) := by rw [← e3]; exact h2
    simp only [cntK]
    omega

theorem met_olds (hn : Numbered K nx) (h : Hom K out nx kd out' nx') (hc : ∀ i a, i < K → a < 8 → nx i a < K) {i : Nat} : ∀ d, i + d ≤ K → (∀ j, i ≤ j → j < i + d → ∃ r, r < j ∧ kd r = kd j) → cntK kd (met nx (8 * (i + d))) = cntK kd (met nx (8 * i))
  | 0, _, _ => rfl
  | d + 1, hd, hj => by
    rw [← met_olds hn h hc d (by omega) (fun j h1 h2 => hj j h1 (by omega))]
    obtain ⟨r, h1, h2⟩ := hj (i + d) (by omega) (by omega)
    have key : ∀ a, a ≤ 8 → cntK kd (met nx (8 * (i + d) + a)) = cntK kd (met nx (8 * (i + d))) := by
      intro a
      induction a with
      | zero => intro _; rfl
      | succ a ih =>
        intro ha
        rw [← ih (by omega), ← met_old hn h hc h1 (by omega) (show a < 8 by omega) h2]
        rfl
    have := key 8 (Nat.le_refl _)
    rwa [show 8 * (i + d) + 8 = 8 * (i + (d + 1)) by omega] at this

/-- The first of each kind. -/
theorem rep_ex (hf : Fo kd K) {c : Nat} (hc : c < cntK kd K) : ∃ r, r < K ∧ kd r = c ∧ cntK kd r = c := by
  have : ∀ m, m ≤ K → c < cntK kd m → ∃ r, r < m ∧ kd r = c ∧ cntK kd r = c := by
    intro m
    induction m with
    | zero => intro _ h; simp [cntK] at h
    | succ m ih =>
      intro hm h
      by_cases e : c < cntK kd m
      · obtain ⟨r, h1, h2⟩ := ih (by omega) e
        exact ⟨r, by omega, h2⟩
      · have := hf m (by omega)
        simp only [cntK] at h
        exact ⟨m, by omega, by omega, by omega⟩
  exact this K (Nat.le_refl _) hc

theorem quot_met (hn : Numbered K nx) (h : Hom K out nx kd out' nx') (hc : ∀ i a, i < K → a < 8 → nx i a < K) (hf : Fo kd K) : ∀ c, c < cntK kd K → ∀ r, r < K → kd r = c → cntK kd r = c → ∀ a, a ≤ 8 → met nx' (8 * c + a) = cntK kd (met nx (8 * r + a)) := by
  intro c
  induction c with
  | zero =>
    intro hc0 r hr h1 h2 a
    have r0 : r = 0 := by
      rcases Nat.eq_zero_or_pos r with h | h
      · exact h
      · have := cnt_lt kd h
        omega
    subst r0
    induction a with
    | zero =>
      intro _
      show 1 = cntK kd (met nx 0)
      simp only [met, cntK]
      omega
    | succ a ih =>
      intro ha
      have ih := ih (by omega)
      have e1 : (8 * 0 + a) / 8 = 0 := by omega
      have e2 : (8 * 0 + a) % 8 = a := by omega
      have hh := h.nx 0 a hr (by omega)
      rw [h1] at hh
      obtain ⟨h4, h5⟩ := hn.1 (8 * 0 + a) (by omega)
      rw [e1, e2] at h5
      show max (met nx' (8 * 0 + a)) (nx' ((8 * 0 + a) / 8) ((8 * 0 + a) % 8) + 1) = cntK kd (max (met nx (8 * 0 + a)) (nx ((8 * 0 + a) / 8) ((8 * 0 + a) % 8) + 1))
      rw [e1, e2, ih, hh]
      by_cases cc : nx 0 a < met nx (8 * 0 + a)
      · have := cnt_lt kd cc
        rw [Nat.max_eq_left (by omega), Nat.max_eq_left (by omega)]
      · have e3 : nx 0 a = met nx (8 * 0 + a) := by omega
        rw [Nat.max_eq_right (show met nx (8 * 0 + a) ≤ nx 0 a + 1 by omega), e3]
        rfl
  | succ c ihc =>
    intro hc1 r hr h1 h2 a
    induction a with
    | zero =>
      intro _
      obtain ⟨r', hr', k1, k2⟩ := rep_ex hf (show c < cntK kd K by omega)
      have hlt : r' < r := by
        rcases Nat.lt_or_ge r' r with h | h
        · exact h
        · have h3 := cnt_mono kd h
          omega
      have e := ihc (by omega) r' hr' k1 k2 8 (Nat.le_refl _)
      rw [show 8 * (c + 1) + 0 = 8 * c + 8 by omega, e, show 8 * r' + 8 = 8 * (r' + 1) by omega]
      have := met_olds hn h hc (i := r' + 1) (r - (r' + 1)) (by omega) (fun j h3 h4 => by
        have h5 := cnt_mono kd (show j + 1 ≤ r by omega)
        have h6 := cnt_lt kd (show j < j + 1 by omega)
        exact cnt_ex hf j (by omega) _ (by
          have := cnt_lt kd (show r' < j by omega)
          omega))
      rw [show r' + 1 + (r - (r' + 1)) = r by omega] at this
      rw [← this]
      rfl
    | succ a ih =>
      intro ha
      have ih := ih (by omega)
      have e1 : (8 * r + a) / 8 = r := by omega
      have e2 : (8 * r + a) % 8 = a := by omega
      have e3 : (8 * (c + 1) + a) / 8 = c + 1 := by omega
      have e4 : (8 * (c + 1) + a) % 8 = a := by omega
      have hh := h.nx r a hr (by omega)
      rw [h1] at hh
      obtain ⟨h4, h5⟩ := hn.1 (8 * r + a) (by omega)
      rw [e1, e2] at h5
      show max (met nx' (8 * (c + 1) + a)) (nx' ((8 * (c + 1) + a) / 8) ((8 * (c + 1) + a) % 8) + 1) = cntK kd (max (met nx (8 * r + a)) (nx ((8 * r + a) / 8) ((8 * r + a) % 8) + 1))
      rw [e1, e2, e3, e4, ih, hh]
      by_cases cc : nx r a < met nx (8 * r + a)
      · have := cnt_lt kd cc
        rw [Nat.max_eq_left (by omega), Nat.max_eq_left (by omega)]
      · have e5 : nx r a = met nx (8 * r + a) := by omega
        rw [Nat.max_eq_right (show met nx (8 * r + a) ≤ nx r a + 1 by omega), e5]
        rfl

/-- The kinds are numbered as they are met. -/
theorem quot_numbered (hK : 0 < K) (hn : Numbered K nx) (h : Hom K out nx kd out' nx') (hc : ∀ i a, i < K → a < 8 → nx i a < K) (hf : Fo kd K) : Numbered (cntK kd K) nx' := by
  refine ⟨fun p hp => ?_, ?_⟩
  · obtain ⟨r, hr, h1, h2⟩ := rep_ex hf (show p / 8 < cntK kd K by omega)
    have e := quot_met hn h hc hf (p / 8) (by omega) r hr h1 h2 (p % 8) (by omega)
    rw [show 8 * (p / 8) + p % 8 = p by omega] at e
    have e1 : (8 * r + p % 8) / 8 = r := by omega
    have e2 : (8 * r + p % 8) % 8 = p % 8 := by omega
    obtain ⟨h4, h5⟩ := hn.1 (8 * r + p % 8) (by omega)
    rw [e1] at h4
    rw [e1, e2] at h5
    have h6 := cnt_lt kd h4
    have h7 := h.nx r (p % 8) hr (by omega)
    rw [h1] at h7 h6
    rw [e, h7]
    refine ⟨h6, ?_⟩
    by_cases cc : nx r (p % 8) < met nx (8 * r + p % 8)
    · exact Nat.le_of_lt (cnt_lt kd cc)
    · have e5 : nx r (p % 8) = met nx (8 * r + p % 8) := by omega
      rw [← e5]
      exact hf _ (hc r _ hr (by omega))
  · have hpos : 0 < cntK kd K := Nat.lt_of_le_of_lt (Nat.zero_le _) (cnt_lt kd hK)
    obtain ⟨c, ec⟩ : ∃ c, cntK kd K = c + 1 := ⟨cntK kd K - 1, by omega⟩
    obtain ⟨r, hr, h1, h2⟩ := rep_ex hf (show c < cntK kd K by omega)
    have e := quot_met hn h hc hf c (by omega) r hr h1 h2 8 (Nat.le_refl _)
    have := met_olds hn h hc (i := r + 1) (K - (r + 1)) (by omega) (fun j h3 h4 => by
      have h6 := cnt_lt kd (show j < K by omega)
      exact cnt_ex hf j (by omega) _ (by
        have := cnt_lt kd (show r < j by omega)
        omega))
    rw [show r + 1 + (K - (r + 1)) = K by omega, hn.2] at this
    rw [ec, show 8 * (c + 1) = 8 * c + 8 by omega, e, show 8 * r + 8 = 8 * (r + 1) by omega, ← this, ec]
end

/-! ### Rounds -/
/-- One letter more tells apart. -/
def Rfn (K : Nat) (out : Nat → Nat) (nx : Nat → Nat → Nat) (kd kd' : Nat → Nat) : Prop := ∀ i j, i < K → j < K → (kd' i = kd' j ↔ out i = out j ∧ ∀ a, a < 8 → kd (nx i a) = kd (nx j a))

theorem rfn_fine {K : Nat} {out : Nat → Nat} {nx : Nat → Nat → Nat} {kd kd' kd'' : Nat → Nat} (hc : ∀ i a, i < K → a < 8 → nx i a < K) (h : Rfn K out nx kd kd') (h' : Rfn K out nx kd' kd'') (hf : ∀ i j, i < K → j < K → kd' i = kd' j → kd i = kd j) : ∀ i j, i < K → j < K → kd'' i = kd'' j → kd' i = kd' j := fun i j hi hj e => by
  obtain ⟨h1, h2⟩ := (h' i j hi hj).1 e
  exact (h i j hi hj).2 ⟨h1, fun a ha => hf _ _ (hc i a hi ha) (hc j a hj ha) (h2 a ha)⟩
theorem rfn_like {K : Nat} {out : Nat → Nat} {nx : Nat → Nat → Nat} {kd kd' : Nat → Nat} (hc : ∀ i a, i < K → a < 8 → nx i a < K) (h : Rfn K out nx kd kd') (hl : ∀ i j, i < K → j < K → Like out nx out nx i j → kd i = kd j) : ∀ i j, i < K → j < K → Like out nx out nx i j → kd' i = kd' j := fun i j hi hj hk =>
  (h i j hi hj).2 ⟨hk [] (fun x hx => by simp at hx), fun a ha => hl _ _ (hc i a hi ha) (hc j a hj ha) (like_next hk ha)⟩

end Go.Proofs.Ytjagijohfkffiab

/- The walks of tells, without. -/
namespace Go.Proofs.Ytjagijohfkffiab
open Go.RowKit
set_option linter.unusedVariables false

/-- States that are read. -/
structure StR (w : World) (g n : Nat) (out : Nat → Nat) (nx : Nat → Nat → Nat) : Prop where
  lt : g < w.heap.size
  c0 : ∀ i, i < n → w.cell? ⟨g, i * 9, none⟩ = some (.int .i64 (out i : Nat))
  c : ∀ i m, i < n → m < 8 → w.cell? ⟨g, i * 9 + 1 + m, none⟩ = some (.int .i64 (nx i m : Nat))
theorem StR.below {B : Nat} {w w' : World} {g n : Nat} {out : Nat → Nat} {nx : Nat → Nat → Nat} (h : StR w g n out nx) (hb : Below B w w') (hB : g < B) : StR w' g n out nx :=
  ⟨Nat.lt_of_lt_of_le h.lt hb.size, fun i hi => (hb.cell (p := ⟨g, i * 9, none⟩) hB).trans (h.c0 i hi), fun i m hi hm => (hb.cell (p := ⟨g, i * 9 + 1 + m, none⟩) hB).trans (h.c i m hi hm)⟩

set_option maxHeartbeats 4000000 in
set_option maxRecDepth 100000 in
theorem tells_any (g n cap vd : Nat) (out : Nat → Nat) (nx : Nat → Nat → Nat) (w : World) (hn : n ≤ 8589934592) (h : StR w g n out nx) :
    Calls Try.prog 73 #[.slice (some ⟨g, 0, none⟩) n cap, .int .i64 (vd : Nat)] w fun e w' => ∃ b : Bool, e = .returned (.bool b) ∧ (b = true ↔ ∃ i, i < n ∧ out i = vd) ∧ Below w.heap.size w w' := by
  have HR := hid h
  have hg := h.lt
  clear h
  go_enter Try.func73, Try.ntmps73
  go_wp2_with fail
  go_loopw [9] (fun i wq => ∃ k : Nat, k ≤ n ∧ i = .int .i64 k ∧ Hid (∀ i, i < k → out i ≠ vd) ∧ Hid (Below w.heap.size w wq)) (fun i _ => n - (intOf i).toNat)
  case atStart => exact ⟨0, Nat.zero_le _, rfl, hid (fun i hi => by omega), hid (Below.refl _ _)⟩
  case round =>
    obtain ⟨k, hk, rfl, HA, HB⟩ := hrel
    rename World => W0
    by_cases hlk : k < n
    · have r := HR.out.below HB.out hg
      have q0 := r.c0 k hlk
      have q1 : W0.cell? ⟨g, k * 9 + 1, none⟩ = some (.int .i64 (nx k 0 : Nat)) := r.c k 0 hlk (by omega)
      have q2 : W0.cell? ⟨g, k * 9 + 2, none⟩ = some (.int .i64 (nx k 1 : Nat)) := r.c k 1 hlk (by omega)
      have q3 : W0.cell? ⟨g, k * 9 + 3, none⟩ = some (.int .i64 (nx k 2 : Nat)) := r.c k 2 hlk (by omega)
      have q4 : W0.cell? ⟨g, k * 9 + 4, none⟩ = some (.int .i64 (nx k 3 : Nat)) := r.c k 3 hlk (by omega)
      have q5 : W0.cell? ⟨g, k * 9 + 5, none⟩ = some (.int .i64 (nx k 4 : Nat)) := r.c k 4 hlk (by omega)
      have q6 : W0.cell? ⟨g, k * 9 + 6, none⟩ = some (.int .i64 (nx k 5 : Nat)) := r.c k 5 hlk (by omega)
      have q7 : W0.cell? ⟨g, k * 9 + 7, none⟩ = some (.int .i64 (nx k 6 : Nat)) := r.c k 6 hlk (by omega)
      have q8 : W0.cell? ⟨g, k * 9 + 8, none⟩ = some (.int .i64 (nx k 7 : Nat)) := r.c k 7 hlk (by omega)
      have hs := HB.out.size
      clear r
      by_cases he : out k = vd
      · have ke : ((out k : Int) == (vd : Int)) = true := by rw [beq_iff_eq]; omega
        have HE := hid he
        clear he
        go_wp2_with fail
        go_ret
        exact ⟨true, rfl, ⟨fun _ => ⟨k, hlk, HE.out⟩, fun _ => rfl⟩, HB.out.alloc hs _⟩
      · have ke : ((out k : Int) == (vd : Int)) = false := beq_eq_false_iff_ne.2 (by omega)
        have HE := hid he
        clear he
        go_wp2_with fail
        go_roundw
        case rel =>
          refine ⟨k + 1, by omega, by go_num, hid (fun i hi => ?_), hid (HB.out.alloc hs _)⟩
          by_cases e : i = k
          · subst e; exact HE.out
          · exact HA.out i (by omega)
        case measure => simp [intOf]; omega
    · obtain rfl : k = n := by omega
      go_wp2_with fail
      go_ret
      exact ⟨false, rfl, ⟨fun h => (by cases h), fun ⟨i, hi, h⟩ => absurd h (HA.out i hi)⟩, HB.out⟩

/-- The ways that were laid, as far as i and letter l. -/
structure WoP (out : Nat → Nat) (nx : Nat → Nat → Nat) (vd i l : Nat) (tl : Nat → List (Nat × Nat)) : Prop where
  mem : ∀ t st, st ∈ tl t ↔ (8 * st.1 + st.2 < 8 * i + l ∧ st.2 < 8) ∧ nx st.1 st.2 = t ∧ out t ≠ vd
  len : ∀ t, (tl t).length ≤ 8 * i + l
theorem wo_start (out : Nat → Nat) (nx : Nat → Nat → Nat) (vd : Nat) : WoP out nx vd 0 0 (fun _ => []) := ⟨fun t st => by simp, fun t => by simp⟩
theorem wo_next {out : Nat → Nat} {nx : Nat → Nat → Nat} {vd i : Nat} {tl : Nat → List (Nat × Nat)} (h : WoP out nx vd i 8 tl) : WoP out nx vd (i + 1) 0 tl :=
  ⟨fun t st => by rw [h.mem]; constructor <;> rintro ⟨⟨a, b⟩, c⟩ <;> exact ⟨⟨by omega, b⟩, c⟩, fun t => by have := h.len t; omega⟩
theorem wo_skip {out : Nat → Nat} {nx : Nat → Nat → Nat} {vd i l : Nat} {tl : Nat → List (Nat × Nat)} (h : WoP out nx vd i l tl) (hl : l < 8) (hs : out (nx i l) = vd) : WoP out nx vd i (l + 1) tl := by
  refine ⟨fun t st => ?_, fun t => by have := h.len t; omega⟩
  rw [h.mem]
  constructor
  · rintro ⟨⟨a, b⟩, c⟩; exact ⟨⟨by omega, b⟩, c⟩
  · rintro ⟨⟨a, b⟩, c, d⟩
    refine ⟨⟨?_, b⟩, c, d⟩
    by_cases e : 8 * st.1 + st.2 = 8 * i + l
    · have e1 : st.1 = i := by omega
      have e2 : st.2 = l := by omega
      rw [e1, e2] at c
      rw [← c] at d
      exact absurd hs d
    · omega
theorem wo_add {out : Nat → Nat} {nx : Nat → Nat → Nat} {vd i l : Nat} {tl : Nat → List (Nat × Nat)} (h : WoP out nx vd i l tl) (hl : l < 8) (hs : out (nx i l) ≠ vd) : WoP out nx vd i (l + 1) (updW tl (nx i l) (tl (nx i l) ++ [(i, l)])) := by
  refine ⟨fun t st => ?_, fun t => ?_⟩
  · unfold updW
    by_cases e : t = nx i l
    · rw [if_pos e, List.mem_append, h.mem]
      constructor
      · rintro (⟨⟨a, b⟩, c, d⟩ | h2)
        · exact ⟨⟨by omega, b⟩, by rw [e]; exact c, by rw [e]; exact d⟩
        · simp at h2
          subst h2
          exact ⟨⟨by simp only; omega, hl⟩, e.symm, by rw [e]; exact hs⟩
      · rintro ⟨⟨a, b⟩, c, d⟩
        by_cases e2 : 8 * st.1 + st.2 = 8 * i + l
        · right
          have e3 : st = (i, l) := Prod.ext (by simp only; omega) (by simp only; omega)
          simp [e3]
        · left
          exact ⟨⟨by omega, b⟩, by rw [← e]; exact c, by rw [← e]; exact d⟩
    · rw [if_neg e, h.mem]
      constructor
      · rintro ⟨⟨a, b⟩, c⟩; exact ⟨⟨by omega, b⟩, c⟩
      · rintro ⟨⟨a, b⟩, c, d⟩
        refine ⟨⟨?_, b⟩, c, d⟩
        by_cases e2 : 8 * st.1 + st.2 = 8 * i + l
        · have e3 : st.1 = i := by omega
          have e4 : st.2 = l := by omega
          rw [e3, e4] at c
          exact absurd c.symm e
        · omega
  · unfold updW
    have := h.len t
    by_cases e : t = nx i l
    · rw [if_pos e, List.length_append, List.length_singleton, ← e]; omega
    · rw [if_neg e]; omega

end Go.Proofs.Ytjagijohfkffiab

/- The walk of without. -/
namespace Go.Proofs.Ytjagijohfkffiab
open Go.RowKit
set_option linter.unusedVariables false

theorem WyM.setLow {w : World} {T g2 n : Nat} {V : Nat → Value} {tl : Nat → List (Nat × Nat)} (h : WyM w T g2 n V tl) {b : Nat} (hb : b < g2) (o : Nat) (u : Value) : WyM (w.setCell ⟨b, o, none⟩ u) T g2 n V tl :=
  ⟨h.lt, by rw [World.cell?_setCell_other _ ⟨b, o, none⟩ ⟨T, 0, none⟩ _ (fun q => by have := congrArg Addr.block q; have h2 := h.lt; simp at this; omega)]; exact h.cell, own_set_other h.out hb o u, fun j hj => own_set_other (h.row j hj) (by have := h.lt; omega) o u, h.sep⟩

theorem Try.intSize1 : (Try.prog.info? 3).map (·.size) = some 1 := by kernel_rfl
theorem run_index_8 (f : Nat → Nat) {l : Nat} (hl : l < 8) (W : World) : (Instr.index 135 (.agg #[.int .i64 (f 0 : Nat), .int .i64 (f 1 : Nat), .int .i64 (f 2 : Nat), .int .i64 (f 3 : Nat), .int .i64 (f 4 : Nat), .int .i64 (f 5 : Nat), .int .i64 (f 6 : Nat), .int .i64 (f 7 : Nat)]) (.int .i64 (l : Nat))).run Try.prog W = .ok (.int .i64 (f l : Nat)) W := by
  refine run_index_one W Try.underlying135 (fun w => run_isAgg_int Try.underlying3 w) Try.intSize1 hl ?_
  have : l = 0 ∨ l = 1 ∨ l = 2 ∨ l = 3 ∨ l = 4 ∨ l = 5 ∨ l = 6 ∨ l = 7 := by omega
  rcases this with rfl | rfl | rfl | rfl | rfl | rfl | rfl | rfl <;> rfl

set_option maxHeartbeats 8000000 in
set_option maxRecDepth 100000 in
theorem without_any (g n cap vd : Nat) (out : Nat → Nat) (nx : Nat → Nat → Nat) (w : World) (h0 : 0 < n) (hn : n ≤ 8589934592) (h : StR w g n out nx) (hnx : ∀ i l, i < n → l < 8 → nx i l < n) :
    Calls Try.prog 109 #[.slice (some ⟨g, 0, none⟩) n cap, .int .i64 (vd : Nat)] w fun e w' => ∃ g2 tl, e = .returned (.agg #[.slice (some ⟨g2, 0, none⟩) n n]) ∧ WaysM w' g2 n tl ∧ WoP out nx vd n 0 tl ∧ Below w.heap.size w w' := by
  have HR := hid h
  have hg := h.lt
  have HNX := hid hnx
  clear h hnx
  obtain ⟨i0, hi, hz0, hz1, hz2⟩ := info_parts Try.infoSteps
  go_enter Try.func109, Try.ntmps109
  go_wp2_with (at_make; go_must (refine wpList_make_full _ rfl (.tmp 11) (.tmp 11) 153 rfl (w.heap.size + 1) 210 i0 (.slice none 0 0) 1 Try.underlying153 hi hz0 hz1 .i64 .i64 n n n rfl rfl rfl rfl ?m2 ?m3 (by simp) ?_))
  case m2 => rw [hz2]; omega
  case m3 => unfold maxLen; omega
  intro w1 own1 grow1
  have eo : (madeCells #[Value.slice none 0 0] n).toList = (List.range n).map (fun _ => Value.slice none 0 0) := by
    rw [toList_madeCells_one]
    exact (List.eq_replicate_iff.2 ⟨by simp, fun b hb => by obtain ⟨_, _, rfl⟩ := List.mem_map.1 hb; rfl⟩).symm
  have o1 : w1.ownsRow (w.heap.size + 1) 210 1 (.slice (some ⟨w.heap.size + 1, 0, none⟩) n n) n ((List.range n).map (fun _ => Value.slice none 0 0)) := by
    rw [← eo]
    exact own1
  have hlt : w.heap.size + 1 < w1.heap.size := (o1.lt _ rfl).2
  have b0 := ((Below.refl (w.heap.size + 1) (w.alloc (.cells #[.slice none 0 0] 155))).grown grow1 (by simp) (fun k h => by cases h))
  have R0 : w1.cell? ⟨w.heap.size, 0, none⟩ = some (.slice none 0 0) := (b0.cell (p := ⟨w.heap.size, 0, none⟩) (by show w.heap.size < w.heap.size + 1; omega)).trans (by simp)
  have R1 : w1.frozen? ⟨w.heap.size, 0, none⟩ = false := (b0.frozen (p := ⟨w.heap.size, 0, none⟩) (by show w.heap.size < w.heap.size + 1; omega)).trans (by simp)
  have HB1 : Hid (Below w.heap.size w w1) := hid (((Below.refl w.heap.size w).alloc (Nat.le_refl _) (.cells #[.slice none 0 0] 155)).trans (b0.mono (by omega)))
  have M1 : Hid (WyM (w1.alloc (.cells #[.slice (some ⟨w.heap.size + 1, 0, none⟩) n n] 155)) w1.heap.size (w.heap.size + 1) n (fun _ => .slice none 0 0) (fun _ => [])) := hid ⟨hlt, by simp, o1.alloc _, fun j hj => World.ownsRow_nil _ _ _ _, fun i j hi hj h => Or.inl rfl⟩
  have HR1 : Hid ((w1.alloc (.cells #[.slice (some ⟨w.heap.size + 1, 0, none⟩) n n] 155)).cell? ⟨w.heap.size, 0, none⟩ = some (.slice none 0 0) ∧ (w1.alloc (.cells #[.slice (some ⟨w.heap.size + 1, 0, none⟩) n n] 155)).frozen? ⟨w.heap.size, 0, none⟩ = false) := hid ⟨by rw [World.cell?_alloc_lt _ _ _ (by show w.heap.size < w1.heap.size; omega)]; exact R0, by rw [World.frozen?_alloc_past _ _ _ (by show w.heap.size < w1.heap.size; omega)]; exact R1⟩
  have HB2 := hid (HB1.out.alloc (by omega) (.cells #[.slice (some ⟨w.heap.size + 1, 0, none⟩) n n] 155))
  clear own1 grow1 eo o1 b0 R0 R1 HB1
  go_wp2_with fail
  generalize w1.heap.size = T at *
  go_loopw [16] (fun i wq => ∃ (k : Nat) (V : Nat → Value) (tl : Nat → List (Nat × Nat)), k ≤ n ∧ i = .int .i64 k ∧ Hid (WoP out nx vd k 0 tl) ∧ Hid (WyM wq T (w.heap.size + 1) n V tl) ∧ Hid (wq.cell? ⟨w.heap.size, 0, none⟩ = some (.slice none 0 0) ∧ wq.frozen? ⟨w.heap.size, 0, none⟩ = false) ∧ Hid (Below w.heap.size w wq)) (fun i _ => n - (intOf i).toNat)
  case atStart => exact ⟨0, _, _, by omega, rfl, hid (wo_start out nx vd), M1, HR1, HB2⟩
  case round =>
    obtain ⟨k, V, tl, hk, rfl, HW, HM, HRR, HB⟩ := hrel
    rename World => W0
    have hTW := HM.out.Tlt
    by_cases hlk : k < n
    · have r := HR.out.below HB.out hg
      have q0 := r.c0 k hlk
      have q1 : W0.cell? ⟨g, k * 9 + 1, none⟩ = some (.int .i64 (nx k 0 : Nat)) := r.c k 0 hlk (by omega)
      have q2 : W0.cell? ⟨g, k * 9 + 2, none⟩ = some (.int .i64 (nx k 1 : Nat)) := r.c k 1 hlk (by omega)
      have q3 : W0.cell? ⟨g, k * 9 + 3, none⟩ = some (.int .i64 (nx k 2 : Nat)) := r.c k 2 hlk (by omega)
      have q4 : W0.cell? ⟨g, k * 9 + 4, none⟩ = some (.int .i64 (nx k 3 : Nat)) := r.c k 3 hlk (by omega)
      have q5 : W0.cell? ⟨g, k * 9 + 5, none⟩ = some (.int .i64 (nx k 4 : Nat)) := r.c k 4 hlk (by omega)
      have q6 : W0.cell? ⟨g, k * 9 + 6, none⟩ = some (.int .i64 (nx k 5 : Nat)) := r.c k 5 hlk (by omega)
      have q7 : W0.cell? ⟨g, k * 9 + 7, none⟩ = some (.int .i64 (nx k 6 : Nat)) := r.c k 6 hlk (by omega)
      have q8 : W0.cell? ⟨g, k * 9 + 8, none⟩ = some (.int .i64 (nx k 7 : Nat)) := r.c k 7 hlk (by omega)
      have hs := HB.out.size
      clear r
      have bal := hid ((Below.refl W0.heap.size W0).alloc (Nat.le_refl _) (.cells #[.int .i64 (out k : Nat), .int .i64 (nx k 0 : Nat), .int .i64 (nx k 1 : Nat), .int .i64 (nx k 2 : Nat), .int .i64 (nx k 3 : Nat), .int .i64 (nx k 4 : Nat), .int .i64 (nx k 5 : Nat), .int .i64 (nx k 6 : Nat), .int .i64 (nx k 7 : Nat)] 137))
      have HM2 := hid (HM.out.keeps bal.out)
      have HR2 := hid (And.intro ((bal.out.cell (p := ⟨w.heap.size, 0, none⟩) (by show w.heap.size < W0.heap.size; omega)).trans HRR.out.1) ((bal.out.frozen (p := ⟨w.heap.size, 0, none⟩) (by show w.heap.size < W0.heap.size; omega)).trans HRR.out.2))
      have HB3 := hid (HB.out.trans (bal.out.mono hs))
      clear bal HM HRR
      go_wp2_with fail
      clear q0 q1 q2 q3 q4 q5 q6 q7 q8
      go_loopw [23] (fun i wq => ∃ (l : Nat) (V : Nat → Value) (tl : Nat → List (Nat × Nat)), l ≤ 8 ∧ i = .int .i64 l ∧ Hid (WoP out nx vd k l tl) ∧ Hid (WyM wq T (w.heap.size + 1) n V tl) ∧ Hid (wq.cell? ⟨w.heap.size, 0, none⟩ = some (.slice none 0 0) ∧ wq.frozen? ⟨w.heap.size, 0, none⟩ = false) ∧ Hid (Below w.heap.size w wq)) (fun i _ => 8 - (intOf i).toNat)
      case atStart => exact ⟨0, V, tl, by omega, rfl, HW, HM2, HR2, HB3⟩
      case round =>
        obtain ⟨l, V, tl, hl, rfl, HW, HM, HRR, HB⟩ := hrel
        rename World => W3
        by_cases hll : l < 8
        · have ix := fun W => run_index_8 (nx k) hll W
          have hto := HNX.out k l hlk hll
          have co := (HR.out.below HB.out hg).c0 (nx k l) hto
          have HLEN := hid (HW.out.len (nx k l))
          have dk : decide (n ≤ nx k l) = false := by simp; omega
          by_cases he : out (nx k l) = vd
          · have HSK := hid (wo_skip HW.out hll he)
            have ke : ((out (nx k l) : Int) != (vd : Int)) = false := by rw [he]; simp
            clear he
            generalize out (nx k l) = ov at *
            generalize nx k l = to at *
            go_wp2_with fail
            go_roundw
            case rel => exact ⟨l + 1, V, tl, by omega, by go_num, HSK, HM, HRR, HB⟩
            case measure => simp [intOf]; omega
          · have HAD := hid (wo_add HW.out hll he)
            have ke : ((out (nx k l) : Int) != (vd : Int)) = true := by rw [bne_iff_ne]; omega
            have AW := hid (wadd_any T (w.heap.size + 1) n k l (nx k l) V tl W3 HM.out (by omega) hlk hll hto (by have := HLEN.out; omega))
            clear he
            generalize out (nx k l) = ov at *
            generalize nx k l = to at *
            go_wp2_with fail
            refine AW.out.mono ?_
            rintro e w5 ⟨rfl, ⟨V5, hm5⟩, hb5⟩
            have HM5 := hid hm5
            have HR5 := hid (And.intro ((hb5.cell (p := ⟨w.heap.size, 0, none⟩) (by show w.heap.size < w.heap.size + 1; omega)).trans HRR.out.1) ((hb5.frozen (p := ⟨w.heap.size, 0, none⟩) (by show w.heap.size < w.heap.size + 1; omega)).trans HRR.out.2))
            have HB5 := hid (HB.out.trans (hb5.mono (by omega)))
            clear hm5 hb5 AW HM HRR HB
            go_wp2_with fail
            go_roundw
            case rel => exact ⟨l + 1, V5, _, by omega, by go_num, HAD, HM5, HR5, HB5⟩
            case measure => simp [intOf]; omega
        · obtain rfl : l = 8 := by omega
          have HNXT := hid (wo_next HW.out)
          go_wp2_with fail
          go_roundw
          case rel => exact ⟨k + 1, V, tl, by omega, by go_num, HNXT, HM, HRR, HB⟩
          case measure => simp [intOf]; omega
    · obtain rfl : k = n := by omega
      have c1 := HM.out.cell
      have r0 := HRR.out.1
      have r1 := HRR.out.2
      have HWW := hid (HM.out.setLow (b := w.heap.size) (by omega) 0 (.slice (some ⟨w.heap.size + 1, 0, none⟩) k k)).ways
      have HB4 := hid (HB.out.setCell (p := ⟨w.heap.size, 0, none⟩) (Nat.le_refl _) (.slice (some ⟨w.heap.size + 1, 0, none⟩) k k))
      have HCC : Hid ((W0.setCell ⟨w.heap.size, 0, none⟩ (.slice (some ⟨w.heap.size + 1, 0, none⟩) k k)).cell? ⟨w.heap.size, 0, none⟩ = some (.slice (some ⟨w.heap.size + 1, 0, none⟩) k k)) := hid (World.cell?_setCell_same _ _ _ r0)
      go_wp2_with fail
      refine ret_ways Try.results109 ?_ ?_ HCC.out ?_
      · rfl
      · rfl
      · exact ⟨_, tl, rfl, HWW.out, HW.out, HB4.out⟩

end Go.Proofs.Ytjagijohfkffiab
