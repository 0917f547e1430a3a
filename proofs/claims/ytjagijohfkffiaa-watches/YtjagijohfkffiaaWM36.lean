import Derived.Test.YtjagijohfkffiaaWM20
import Derived.Test.YtjagijohfkffiaaWM35
import Derived.BigQuiet
import Derived.Deep.RegionHeld3

/- Plain mathematics and memory: which states some word tells apart; the walk of like. -/
namespace Go.Proofs.Ytjagijohfkffiaa
open Go.RowKit
set_option linter.unusedVariables false

/-- A table of bools, its rows of the call's own, each apart from the others. -/
structure TbM (w : World) (B : Nat) (v : Value) (n K : Nat) (tb : Nat → Nat) (t : Nat → Nat → Bool) : Prop where
  out : w.ownsRow B 36 1 v n ((List.range n).map fun i => .slice (some ⟨tb i, 0, none⟩) K K)
  row : ∀ i, i < n → w.ownsRow B 4 1 (.slice (some ⟨tb i, 0, none⟩) K K) K (outTo (t i) K K)
  sep : ∀ i j, i < j → j < n → tb i ≠ tb j
theorem TbM.keeps {w w' : World} {B n K : Nat} {v : Value} {tb : Nat → Nat} {t : Nat → Nat → Bool} (h : TbM w B v n K tb t) (hb : Below w.heap.size w w') : TbM w' B v n K tb t := ⟨own_keeps h.out hb, fun i hi => own_keeps (h.row i hi) hb, h.sep⟩
theorem TbM.ne {w : World} {B n K : Nat} {v : Value} {tb : Nat → Nat} {t : Nat → Nat → Bool} (h : TbM w B v n K tb t) {i j : Nat} (hi : i < n) (hj : j < n) (hne : i ≠ j) : tb i ≠ tb j := by
  rcases Nat.lt_or_gt_of_ne hne with c | c
  · exact h.sep i j c hj
  · exact fun e => h.sep j i c hi e.symm
theorem TbM.at_ {w : World} {B n K : Nat} {v : Value} {tb : Nat → Nat} {t : Nat → Nat → Bool} (h : TbM w B v n K tb t) (hn : 0 < n) : ∃ g cap, v = .slice (some ⟨g, 0, none⟩) n cap ∧ n ≤ cap ∧ g < w.heap.size ∧ B ≤ g ∧ (∀ i, i < n → w.cell? ⟨g, i, none⟩ = some (.slice (some ⟨tb i, 0, none⟩) K K)) ∧ (∀ i k, i < n → k < K → w.cell? ⟨tb i, k, none⟩ = some (.bool (t i k)) ∧ w.frozen? ⟨tb i, k, none⟩ = false ∧ tb i < w.heap.size) := by
  obtain ⟨g, cap, rfl, hB, hlt, hc⟩ := row_own h.out hn
  refine ⟨g, cap, rfl, hc, hlt, hB, fun i hi => ?_, fun i k hi hk => ⟨?_, (h.row i hi).frozenAt k, ((h.row i hi).lt _ rfl).2⟩⟩
  · rw [h.out.cellAt i (by omega)]
    simp [List.getElem?_map, List.getElem?_range hi]
  · rw [(h.row i hi).cellAt k (by omega)]
    exact outTo_get _ _ _ hk
def updT (t : Nat → Nat → Bool) (i k : Nat) : Nat → Nat → Bool := fun a b => if a = i ∧ b = k then true else t a b
theorem TbM.set {w : World} {B n K : Nat} {v : Value} {tb : Nat → Nat} {t : Nat → Nat → Bool} (h : TbM w B v n K tb t) {i k : Nat} (hi : i < n) (hk : k < K) : TbM (w.setCell ⟨tb i, k, none⟩ (.bool true)) B v n K tb (updT t i k) := by
  have hn : 0 < n := by omega
  refine ⟨own_setx' h.out ⟨tb i, k, none⟩ _ ?_, fun j hj => ?_, h.sep⟩
  · have := own_ne' h.out (h.row i hi) (by decide)
    rcases this with h1 | h1
    · rw [h1]; simp
    · exact h1
  · by_cases c : j = i
    · subst c
      have h1 := (h.row j hj).stored k (.bool true)
      rw [outTo_upd] at h1
      have e : outTo (upd (t j) k true) K K = outTo (updT t j k j) K K := outTo_congr fun q hq => by
        unfold upd updT
        by_cases e2 : q = k <;> simp [e2]
      rw [e] at h1
      exact h1.1
    · have e : outTo (updT t i k j) K K = outTo (t j) K K := outTo_congr fun q hq => by unfold updT; simp [c]
      rw [e]
      exact own_setx' (h.row j hj) ⟨tb i, k, none⟩ _ (fun e2 => h.ne hj hi c (Option.some.inj e2))

section
variable (out : Nat → Nat) (nx : Nat → Nat → Nat) (K : Nat)
/-- What has been told apart is; what is told at once has been. -/
structure ApI (t : Nat → Nat → Bool) : Prop where
  sound : ∀ i k, i < K → k < K → t i k = true → ¬ Like out nx out nx i k
  base : ∀ i k, i < K → k < K → out i ≠ out k → t i k = true
def ClT (t : Nat → Nat → Bool) (i k a : Nat) : Prop := a < 8 → t (nx i a) (nx k a) = true → t i k = true
end
section
variable {out : Nat → Nat} {nx : Nat → Nat → Nat} {K : Nat} {t : Nat → Nat → Bool}
theorem ap_start : ApI out nx K (fun i k => out i != out k) := ⟨fun i k _ _ h hl => by
  have := hl [] (fun x hx => by simp at hx)
  simp only [runM] at this
  rw [this] at h
  simp at h, fun i k _ _ h => by simpa using h⟩
theorem ap_add (h : ApI out nx K t) {i k a : Nat} (hc : ∀ i a, i < K → a < 8 → nx i a < K) (hi : i < K) (hk : k < K) (ha : a < 8) (ht : t (nx i a) (nx k a) = true) : ApI out nx K (updT t i k) := by
  refine ⟨fun i' k' hi' hk' h1 hl => ?_, fun i' k' hi' hk' h1 => ?_⟩
  · unfold updT at h1
    by_cases c : i' = i ∧ k' = k
    · obtain ⟨rfl, rfl⟩ := c
      exact h.sound _ _ (hc _ a hi ha) (hc _ a hk ha) ht (like_next hl ha)
    · rw [if_neg c] at h1
      exact h.sound i' k' hi' hk' h1 hl
  · unfold updT
    split
    · rfl
    · exact h.base i' k' hi' hk' h1
theorem ap_done (h : ApI out nx K t) (hc : ∀ i a, i < K → a < 8 → nx i a < K) (hcl : ∀ i k a, i < K → k < K → ClT nx t i k a) {i k : Nat} (hi : i < K) (hk : k < K) : t i k = true ↔ ¬ Like out nx out nx i k := by
  refine ⟨h.sound i k hi hk, fun hn => ?_⟩
  cases e : t i k with
  | true => rfl
  | false =>
    exfalso
    have key : ∀ (w : List Nat) (i k : Nat), i < K → k < K → t i k = false → LettersL w → out (runM nx i w) = out (runM nx k w) := by
      intro w
      induction w with
      | nil =>
        intro i k hi hk e _
        apply Classical.byContradiction
        intro hne
        rw [h.base i k hi hk hne] at e
        cases e
      | cons a w ih =>
        intro i k hi hk e hw
        have ha := hw a (List.mem_cons_self ..)
        refine ih (nx i a) (nx k a) (hc i a hi ha) (hc k a hk ha) ?_ (fun x hx => hw x (List.mem_cons_of_mem _ hx))
        cases e2 : t (nx i a) (nx k a) with
        | false => rfl
        | true =>
          rw [hcl i k a hi hk ha e2] at e
          cases e
    exact hn (fun w hw => key w i k hi hk e hw)
end

/-! ### How many are told apart -/
def cnt1 (f : Nat → Bool) : Nat → Nat
  | 0 => 0
  | n + 1 => cnt1 f n + (if f n = true then 1 else 0)
def cnt2 (t : Nat → Nat → Bool) (K : Nat) : Nat → Nat
  | 0 => 0
  | n + 1 => cnt2 t K n + cnt1 (t n) K
theorem cnt1_le (f : Nat → Bool) : ∀ n, cnt1 f n ≤ n
  | 0 => Nat.le_refl _
  | n + 1 => by rw [cnt1]; have := cnt1_le f n; split <;> omega
theorem cnt2_le (t : Nat → Nat → Bool) (K : Nat) : ∀ n, cnt2 t K n ≤ n * K
  | 0 => by simp [cnt2]
  | n + 1 => by rw [cnt2, Nat.succ_mul]; have := cnt2_le t K n; have := cnt1_le (t n) K; omega
theorem cnt1_congr {f g : Nat → Bool} : ∀ n, (∀ i, i < n → f i = g i) → cnt1 f n = cnt1 g n
  | 0, _ => rfl
  | n + 1, h => by rw [cnt1, cnt1, cnt1_congr n (fun i hi => h i (by omega)), h n (by omega)]
theorem cnt1_upd {f g : Nat → Bool} {k : Nat} (hf : f k = false) (hg : g k = true) (he : ∀ j, j ≠ k → g j = f j) : ∀ n, k < n → cnt1 g n = cnt1 f n + 1
  | 0, h => by omega
  | n + 1, h => by
    by_cases e : k = n
    · subst e
      rw [cnt1, cnt1, cnt1_congr k (fun i hi => he i (by omega)), if_pos hg, if_neg (by simp [hf])]
    · rw [cnt1, cnt1, cnt1_upd hf hg he n (by omega), he n (fun h => e h.symm)]; omega
theorem cnt2_congr {t u : Nat → Nat → Bool} {K : Nat} : ∀ n, (∀ i, i < n → ∀ k, k < K → t i k = u i k) → cnt2 t K n = cnt2 u K n
  | 0, _ => rfl
  | n + 1, h => by rw [cnt2, cnt2, cnt2_congr n (fun i hi => h i (by omega)), cnt1_congr K (h n (by omega))]
theorem cnt2_upd {t : Nat → Nat → Bool} {i k K : Nat} (ht : t i k = false) (hk : k < K) : ∀ n, i < n → cnt2 (updT t i k) K n = cnt2 t K n + 1
  | 0, h => by omega
  | n + 1, h => by
    by_cases e : i = n
    · subst e
      rw [cnt2, cnt2, cnt2_congr i (fun a ha b _ => by unfold updT; rw [if_neg (by omega)]), cnt1_upd (f := t i) (g := updT t i k i) ht (by simp [updT]) (fun j hj => by simp [updT, hj]) K hk]
      omega
    · rw [cnt2, cnt2, cnt2_upd ht hk n (by omega), cnt1_congr (f := updT t i k n) (g := t n) K (fun b _ => by unfold updT; rw [if_neg (by omega)])]
      omega
/-- The same, read out of memory. -/
def tru1 (w : World) (g : Nat) : Nat → Nat
  | 0 => 0
  | n + 1 => tru1 w g n + (match w.cell? ⟨g, n, none⟩ with | some (.bool true) => 1 | _ => 0)
def tru2 (w : World) (tb : Nat → Nat) (K : Nat) : Nat → Nat
  | 0 => 0
  | n + 1 => tru2 w tb K n + tru1 w (tb n) K
theorem tru1_eq {w : World} {g : Nat} {f : Nat → Bool} : ∀ n, (∀ k, k < n → w.cell? ⟨g, k, none⟩ = some (.bool (f k))) → tru1 w g n = cnt1 f n
  | 0, _ => rfl
  | n + 1, h => by
    rw [tru1, cnt1, tru1_eq n (fun k hk => h k (by omega)), h n (by omega)]
    cases f n <;> simp
theorem tru2_eq {w : World} {B n K : Nat} {v : Value} {tb : Nat → Nat} {t : Nat → Nat → Bool} (h : TbM w B v n K tb t) : ∀ m, m ≤ n → tru2 w tb K m = cnt2 t K m
  | 0, _ => rfl
  | m + 1, hm => by
    rw [tru2, cnt2, tru2_eq h m (by omega), tru1_eq (f := t m) K (fun k hk => by
      rw [(h.row m (by omega)).cellAt k (by omega)]
      exact outTo_get _ _ _ hk)]

/-- The first of these that is like i. -/
def LikeAt (t : Nat → Nat → Bool) (l : List Nat) (i : Nat) (e : Ending) : Prop :=
  (∃ j m, e = .returned (.int .i64 (j : Nat)) ∧ l[j]? = some m ∧ t i m = false) ∨ (e = .returned (.int .i64 (-1)) ∧ ∀ m ∈ l, t i m = true)

set_option maxHeartbeats 4000000 in
set_option maxRecDepth 100000 in
theorem like_any (B K i : Nat) (v vl : Value) (tb : Nat → Nat) (t : Nat → Nat → Bool) (l : List Nat) (w : World) (h : TbM w B v K K tb t) (hi : i < K) (hK : K ≤ 796594185) (hl : NR w vl l) (hll : l.length ≤ 796594185) (hlt : ∀ m ∈ l, m < K) :
    Calls Try.prog 66 #[v, vl, .int .i64 (i : Nat)] w fun e w' => LikeAt t l i e ∧ ∃ m, w' = w.drewN m := by
  obtain ⟨g, cap, rfl, hcap, hg, _, hrow, hcell⟩ := h.at_ (by omega)
  obtain ⟨aol, capl, rfl, hcl, hlr⟩ := hl
  have HR := hid hrow
  have HC := hid hcell
  have HLR := hid hlr
  have HLT := hid hlt
  clear hrow hcell hlr hlt h
  generalize hnE : l.length = n at *
  have HNE := hid hnE
  clear hnE
  go_enter Try.func66, Try.ntmps66
  go_wp2_with fail
  go_loopw [7] (fun x wq => ∃ k : Nat, k ≤ n ∧ x = .int .i64 k ∧ Hid (∀ j m, j < k → l[j]? = some m → t i m = true) ∧ Hid (∃ m, wq = w.drewN m)) (fun x _ => n - (intOf x).toNat)
  case atStart => exact ⟨0, Nat.zero_le _, rfl, hid (fun j m h => by omega), hid ⟨0, rfl⟩⟩
  case round =>
    obtain ⟨k, hk, rfl, HA, HM⟩ := hrel
    rename World => W0
    have HB : Hid (Below w.heap.size w W0) := hid (by
      obtain ⟨m, rfl⟩ := HM.out
      exact below_drewN (Below.refl _ _) m)
    have HQ : Hid (∀ n, ∃ m, W0.drewN n = w.drewN m) := hid (fun n => by
      obtain ⟨m, rfl⟩ := HM.out
      exact ⟨m + n, by rw [World.drewN_drewN]⟩)
    by_cases hlk : k < n
    · obtain ⟨gl, e, hgl, hlc⟩ := HLR.out (by omega)
      subst e
      obtain ⟨m, hm⟩ : ∃ m, l[k]? = some m := ⟨l[k]'(by rw [HNE.out]; exact hlk), List.getElem?_eq_getElem (by rw [HNE.out]; exact hlk)⟩
      have hmK := HLT.out m (List.mem_of_getElem? hm)
      have hat : atN l k = m := by simp [atN, List.getD, hm]
      have c1 : W0.cell? ⟨gl, k, none⟩ = some (.int .i64 (m : Nat)) := (HB.out.cell (p := ⟨gl, k, none⟩) hgl).trans (by have h9 := hlc k hlk; rw [hat] at h9; exact h9)
      have c2 := (HB.out.cell (p := ⟨g, i, none⟩) hg).trans (HR.out i hi)
      obtain ⟨d1, _, d3⟩ := HC.out i m hi hmK
      have c3 := (HB.out.cell (p := ⟨tb i, m, none⟩) d3).trans d1
      have HMM := hid hm
      clear hlc hm hat d1
      cases hv : t i m with
      | true =>
        rw [hv] at c3
        have HA2 : Hid (∀ j m, j < k + 1 → l[j]? = some m → t i m = true) := hid (fun j m' hj hm' => by
          by_cases c : j = k
          · subst c; rw [HMM.out] at hm'; cases hm'; exact hv
          · exact HA.out j m' (by omega) hm')
        clear hv
        go_wp2_with fail
        go_quiet (fail)
        go_wp2_with fail
        go_roundw
        case rel => exact ⟨k + 1, by omega, by go_num, HA2, hid (HQ.out _)⟩
        case measure => simp [intOf]; omega
      | false =>
        rw [hv] at c3
        have HV := hid hv
        clear hv
        go_wp2_with fail
        go_quiet (fail)
        go_wp2_with fail
        go_ret
        exact ⟨Or.inl ⟨k, m, rfl, HMM.out, HV.out⟩, HQ.out _⟩
    · obtain rfl : k = n := by omega
      go_wp2_with fail
      go_ret
      exact ⟨Or.inr ⟨rfl, fun m hm => by
        obtain ⟨j, hj, e⟩ := List.getElem_of_mem hm
        exact HA.out j m (by rw [← HNE.out]; exact hj) (by rw [List.getElem?_eq_getElem hj, e])⟩, HM.out⟩

end Go.Proofs.Ytjagijohfkffiaa

/- The walk of the reference's apart. -/
namespace Go.Proofs.Ytjagijohfkffiaa
open Go.RowKit
set_option linter.unusedVariables false

/-- One row more. -/
theorem tbm_push {w w1 : World} {B n K : Nat} {v v' : Value} {tb : Nat → Nat} {t : Nat → Nat → Bool} {g : Nat} (h : TbM w B v n K tb t) (hx : w.ownsRow B 4 1 (.slice (some ⟨g, 0, none⟩) K K) K (outTo (t n) K K)) (hne : ∀ i, i < n → tb i ≠ g) (hg : w.grownBy w1 v.ownBlock)
    (hown : w1.ownsRow B 36 1 v' (n + 1) (((List.range n).map fun i => .slice (some ⟨tb i, 0, none⟩) K K) ++ [.slice (some ⟨g, 0, none⟩) K K])) : TbM w1 B v' (n + 1) K (fun i => if i = n then g else tb i) t := by
  refine ⟨?_, fun i hi => ?_, fun i j hij hj => ?_⟩
  · rw [List.range_succ, List.map_append]
    rw [show (List.range n).map (fun i => Value.slice (some ⟨if i = n then g else tb i, 0, none⟩) K K) = (List.range n).map (fun i => Value.slice (some ⟨tb i, 0, none⟩) K K) from List.map_congr_left (fun i hi => by rw [List.mem_range] at hi; rw [if_neg (by omega)])]
    simpa using hown
  · by_cases e : i = n
    · subst e; simp only [if_true]; exact hx.kept hg (own_ne' hx h.out (by decide))
    · simp only [if_neg e]; exact (h.row i (by omega)).kept hg (own_ne' (h.row i (by omega)) h.out (by decide))
  · by_cases e : j = n
    · subst e
      simp only [if_true, if_neg (show i ≠ j by omega)]
      exact hne i hij
    · simp only [if_neg e, if_neg (show i ≠ n by omega)]
      exact h.sep i j hij (by omega)

/-- One sweep over the table, as far as the pair (a, b) and the letter c. -/
structure ApR (nx : Nat → Nat → Nat) (K : Nat) (t0 t : Nat → Nat → Bool) (mv : Bool) (a b c : Nat) : Prop where
  no : mv = false → t = t0 ∧ ∀ a' b' c', b' < K → (a' < a ∨ (a' = a ∧ b' < b) ∨ (a' = a ∧ b' = b ∧ c' < c)) → ClT nx t0 a' b' c'
  yes : mv = true → cnt2 t0 K K < cnt2 t K K
theorem apr_start (nx : Nat → Nat → Nat) (K : Nat) (t0 : Nat → Nat → Bool) : ApR nx K t0 t0 false 0 0 0 := ⟨fun _ => ⟨rfl, fun a' b' c' _ h => by omega⟩, fun h => by cases h⟩
theorem apr_letter {nx : Nat → Nat → Nat} {K : Nat} {t0 t : Nat → Nat → Bool} {mv : Bool} {a b c : Nat} (h : ApR nx K t0 t mv a b c) (hn : t (nx a c) (nx b c) = false) : ApR nx K t0 t mv a b (c + 1) :=
  ⟨fun e => ⟨(h.no e).1, fun a' b' c' hb hl => by
    by_cases q : a' = a ∧ b' = b ∧ c' = c
    · obtain ⟨rfl, rfl, rfl⟩ := q
      rw [(h.no e).1] at hn
      intro _ ht
      rw [hn] at ht
      cases ht
    · exact (h.no e).2 a' b' c' hb (by omega)⟩, h.yes⟩
theorem apr_pair {nx : Nat → Nat → Nat} {K : Nat} {t0 t : Nat → Nat → Bool} {mv : Bool} {a b c : Nat} (h : ApR nx K t0 t mv a b c) (hx : c = 8 ∨ t a b = true) : ApR nx K t0 t mv a (b + 1) 0 :=
  ⟨fun e => ⟨(h.no e).1, fun a' b' c' hb hl => by
    by_cases q : a' = a ∧ b' = b
    · obtain ⟨rfl, rfl⟩ := q
      rcases hx with hx | hx
      · intro hc ht
        exact (h.no e).2 a' b' c' hb (by omega) hc ht
      · rw [(h.no e).1] at hx
        exact fun _ _ => hx
    · exact (h.no e).2 a' b' c' hb (by omega)⟩, h.yes⟩
theorem apr_row {nx : Nat → Nat → Nat} {K : Nat} {t0 t : Nat → Nat → Bool} {mv : Bool} {a : Nat} (h : ApR nx K t0 t mv a K 0) : ApR nx K t0 t mv (a + 1) 0 0 :=
  ⟨fun e => ⟨(h.no e).1, fun a' b' c' hb hl => (h.no e).2 a' b' c' hb (by omega)⟩, h.yes⟩
theorem apr_set {nx : Nat → Nat → Nat} {K : Nat} {t0 t : Nat → Nat → Bool} {mv : Bool} {a b c : Nat} (h : ApR nx K t0 t mv a b c) (ha : a < K) (hb : b < K) (ht : t a b = false) : ApR nx K t0 (updT t a b) true a b (c + 1) :=
  ⟨fun e => (by cases e), fun _ => by
    rw [cnt2_upd ht hb K ha]
    cases mv with
    | true => have := h.yes rfl; omega
    | false => rw [(h.no rfl).1]; omega⟩
theorem apr_end {nx : Nat → Nat → Nat} {K : Nat} {t0 t : Nat → Nat → Bool} {mv : Bool} (h : ApR nx K t0 t mv K 0 0) (e : mv = false) : ∀ a b c, a < K → b < K → ClT nx t a b c := fun a b c ha hb => by
  rw [(h.no e).1]
  exact (h.no e).2 a b c hb (Or.inl ha)

def Aparted (K : Nat) (out : Nat → Nat) (nx : Nat → Nat → Nat) (w : World) (e : Ending) (w' : World) : Prop :=
  ∃ v tb t, e = .returned v ∧ TbM w' w.heap.size v K K tb t ∧ (∀ i k, i < K → k < K → (t i k = true ↔ ¬ Like out nx out nx i k)) ∧ Below w.heap.size w w'

set_option maxHeartbeats 8000000 in
set_option maxRecDepth 100000 in
theorem apart_any (P K : Nat) (out : Nat → Nat) (xs : List Nat) (w : World) (hf : FullR w P K out (nxR xs)) (hK0 : 0 < K) (hK : K ≤ 796594185) (hc : ∀ i a, i < K → a < 8 → nxL xs i a < K) :
    Calls Try.prog 65 #[.pointer (some ⟨P, 0, none⟩)] w (Aparted K out (nxL xs) w) := by
  obtain ⟨aoF, capF, f0⟩ := hf.c0
  obtain ⟨vO, f1, aoO, capO, rfl, hocap, horow⟩ := hf.c1
  obtain ⟨vX, f2, aoX, capX, rfl, hxcap, hxrow⟩ := hf.c2
  have hP := hf.lt
  have hol : ((List.range K).map out).length = K := by simp
  rw [hol] at f1 hocap horow
  obtain ⟨gO, rfl, hgO, hoc⟩ := horow hK0
  obtain ⟨gX, rfl, hgX, hxc⟩ := hxrow hK0
  have HOC : Hid (∀ x, x < K → w.cell? ⟨gO, x, none⟩ = some (.int .i64 (out x : Nat))) := hid (fun x hx => by
    have h9 := hoc x hx
    rw [show atN ((List.range K).map out) x = out x by simp [atN, List.getD, hx]] at h9
    exact h9)
  have HXC : Hid (∀ x, x < K → ∃ gR capR, w.cell? ⟨gX, x, none⟩ = some (.slice (some ⟨gR, 0, none⟩) 8 capR) ∧ gR < w.heap.size ∧ ∀ a, a < 8 → w.cell? ⟨gR, a, none⟩ = some (.int .i64 (nxL xs x a : Nat))) := hid (fun x hx => by
    obtain ⟨r, hr, aoR, capR, rfl, hcR, hrr⟩ := hxc x hx
    rw [nxR_len] at hr hcR hrr
    obtain ⟨gR, rfl, hgR, hv⟩ := hrr (by omega)
    exact ⟨gR, capR, hr, hgR, fun a ha => by have h9 := hv a ha; rw [nxR_at xs ha] at h9; exact h9⟩)
  have HCL := hid hc
  obtain ⟨i0, hi, hz0, hz1, hz2⟩ := info_parts Try.infoBool
  obtain ⟨i1, hi1, hz01, hz11, hz21⟩ := info_parts Try.infoBoolL
  clear hf horow hxrow hoc hxc hc
  generalize nxL xs = nx at *
  go_enter Try.func65, Try.ntmps65
  go_wp2_with fail
  go_loopw [4, 5] (fun v x wq => ∃ (i : Nat) (tb : Nat → Nat), i ≤ K ∧ x = .int .i64 i ∧ Hid (TbM wq w.heap.size v i K tb (fun i k => out i != out k)) ∧ Hid (Below w.heap.size w wq)) (fun _ x _ => K - (intOf x).toNat)
  case atStart => exact ⟨0, fun _ => 0, Nat.zero_le _, rfl, hid ⟨World.ownsRow_nil _ _ _ _, fun i h => by omega, fun i j _ h => by omega⟩, hid (Below.refl _ _)⟩
  case round =>
    obtain ⟨i, tb, hik, rfl, HT, HB⟩ := hrel
    rename World => W0
    by_cases hli : i < K
    · have HTL := hid (fun j (hj : j < i) => ((HT.out.row j hj).lt _ rfl).2)
      have hsW := HB.out.size
      go_wp2_with (at_make; go_must (refine wpList_make_full _ rfl (.tmp 22) (.tmp 22) 36 rfl W0.heap.size 4 i0 (.bool false) 1 Try.underlying36 hi hz0 hz1 .i64 .i64 K K K rfl rfl rfl rfl (by rw [hz2]; omega) (by unfold maxLen; omega) (Nat.le_refl _) ?_))
      intro w1 own1 grow1
      have eo : (madeCells #[Value.bool false] K).toList = List.replicate K (.bool false) := toList_madeCells_one _ _
      rw [eo, ← outTo_zero (fun k => out i != out k)] at own1
      have bw1 : Below W0.heap.size W0 w1 := (Below.refl _ _).grown grow1 (Nat.le_refl _) (fun k h => by cases h)
      have T1 := hid (HT.out.keeps bw1)
      have O1 := hid own1
      have B1 := hid bw1
      have HB1 := hid (HB.out.trans (bw1.mono hsW))
      clear own1 grow1 eo bw1
      go_wp2_with fail
      go_loopw [7] (fun x wq => ∃ k : Nat, k ≤ K ∧ x = .int .i64 k ∧ Hid (wq.ownsRow W0.heap.size 4 1 (.slice (some ⟨W0.heap.size, 0, none⟩) K K) K (outTo (fun k => out i != out k) K k)) ∧ Hid (Below W0.heap.size W0 wq)) (fun x _ => K - (intOf x).toNat)
      case atStart => exact ⟨0, Nat.zero_le _, rfl, O1, B1⟩
      case round =>
        obtain ⟨k, hk, rfl, HO, HBI⟩ := hrel
        rename World => W1
        clear T1 O1 B1 HB1
        by_cases hlk : k < K
        · have BW := hid (HB.out.trans (HBI.out.mono hsW))
          have p1 := (BW.out.cell (p := ⟨P, 1, none⟩) hP).trans f1
          have oi := (BW.out.cell (p := ⟨gO, i, none⟩) hgO).trans (HOC.out i hli)
          have okk := (BW.out.cell (p := ⟨gO, k, none⟩) hgO).trans (HOC.out k hlk)
          have own := HO.out
          have q0 := own.frozenAt k
          have q1 : (W1.cell? ⟨W0.heap.size, k, none⟩).isSome = true := by
            rw [own.cellAt k (by omega)]
            simp [outTo, hlk]
          obtain ⟨qv, q2⟩ := Option.isSome_iff_exists.1 q1
          have hO := own.stored k (.bool (out i != out k))
          rw [outTo_set (fun k => out i != out k)] at hO
          have HO2 := hid hO.1
          have HB2 := hid (HBI.out.setCell (p := ⟨W0.heap.size, k, none⟩) (Nat.le_refl _) (.bool (out i != out k)))
          have hbe : ((out i : Int) != (out k : Int)) = (out i != out k) := by
            rw [Bool.eq_iff_iff, bne_iff_ne, bne_iff_ne]
            omega
          clear hO q1 own HO
          generalize (out i != out k) = bv at *
          have KS : ∀ (x o : Nat) {v : Value}, x < w.heap.size → W1.cell? ⟨x, o, none⟩ = some v → (W1.setCell ⟨W0.heap.size, k, none⟩ (.bool bv)).drew.cell? ⟨x, o, none⟩ = some v := fun x o v hx hv => by
            show (W1.setCell ⟨W0.heap.size, k, none⟩ (.bool bv)).cell? ⟨x, o, none⟩ = some v
            rw [World.cell?_setCell_other _ _ _ _ (fun e => by have := congrArg Addr.block e; simp at this; omega)]
            exact hv
          have z1 : (0 : Int) ≤ (k : Int) := Int.natCast_nonneg _
          have z2 : (k : Int) < (K : Int) := by omega
          have z3 : (0 : Int) ≤ (i : Int) := Int.natCast_nonneg _
          have z4 : (i : Int) < (K : Int) := by omega
          go_wp2_with fail
          go_region_held3 (fun w' => w'.cell? ⟨P, 1, none⟩ = some (.slice (some ⟨gO, 0, none⟩) K capO) ∧ w'.cell? ⟨gO, i, none⟩ = some (.int .i64 (out i : Nat)) ∧ w'.cell? ⟨gO, k, none⟩ = some (.int .i64 (out k : Nat)))
            (first
              | go_keep
              | exact ⟨KS _ _ hP p1, KS _ _ hgO oi, KS _ _ hgO okk⟩)
            (fail)
          go_wp2_with fail
          go_roundw
          case rel => exact ⟨k + 1, by omega, by go_num, hid (own_keeps HO2.out (below_drewN (Below.refl _ _) 1)), hid (below_drewN HB2.out 1)⟩
          case measure => simp [intOf]; omega
        · obtain rfl : k = K := by omega
          have TW := hid (HT.out.keeps HBI.out)
          have OR := hid (own_mono HO.out hsW)
          have BW := hid (HB.out.trans (HBI.out.mono hsW))
          have hs1 := HBI.out.size
          obtain ⟨aoT, cpT, rfl⟩ := own_slice TW.out.out
          have HTB := hid (fun q h => (TW.out.out.lt q h).1)
          have b6 := (Below.refl W1.heap.size W1).alloc (Nat.le_refl _) (.cells #[.slice (some ⟨W0.heap.size, 0, none⟩) k k] 36)
          go_wp2_with (at_builtin; go_must (refine wpList_append_lies _ rfl (.tmp 47) (.tmp 49) 98 rfl w.heap.size 36 i1 (.slice none 0 0) 1 24 Try.underlying98 hi1 hz01 hz11 hz21 rfl (by decide) _ i _ rfl (TW.out.out.alloc _) ⟨W1.heap.size, 0, none⟩ 1 1 [.slice (some ⟨W0.heap.size, 0, none⟩) k k] rfl rfl (cells_put W1 [.slice (some ⟨W0.heap.size, 0, none⟩) k k] _) (by intro y hy; simp at hy; rcases hy with rfl; rfl) (by decide) (by unfold maxLen; omega) (by omega) (by simp; omega) (W1.heap.size + 1) (by simp) ?_))
          intro gg cc w7 hown hgrow hat hlt7
          have D1 := hid (tbm_push (TW.out.keeps b6) (own_keeps OR.out b6) (fun j hj => by have := HTL.out j hj; omega) hgrow hown)
          have D2 := hid ((BW.out.alloc BW.out.size (.cells #[.slice (some ⟨W0.heap.size, 0, none⟩) k k] 36)).grown hgrow (by have := BW.out.size; simp; omega) (fun q h => HTB.out q h))
          clear hown hgrow hat b6 TW OR BW
          go_wp2_with fail
          go_roundw
          case rel => exact ⟨i + 1, _, by omega, by go_num, D1, D2⟩
          case measure => simp [intOf]; omega
    · obtain rfl : i = K := by omega
      have AP0 : Hid (ApI out nx i (fun i k => out i != out k)) := hid ap_start
      generalize hTE : (fun i k => out i != out k) = t0 at *
      clear hTE
      obtain ⟨aoT, cpT, rfl⟩ := own_slice HT.out.out
      go_wp2_with fail
      go_loopw [8] (fun m wq => ∃ (mv : Bool) (t : Nat → Nat → Bool), m = .bool mv ∧ Hid (TbM wq w.heap.size (.slice aoT i cpT) i i tb t) ∧ Hid (ApI out nx i t) ∧ Hid (mv = false → ∀ a b c, a < i → b < i → ClT nx t a b c) ∧ Hid (Below w.heap.size w wq)) (fun m wq => 2 * (i * i - tru2 wq tb i i) + moreOf m)
      case atStart => exact ⟨true, t0, rfl, HT, AP0, hid (fun h => by cases h), HB⟩
      case round =>
        obtain ⟨mv, t, rfl, HT, HA, HCM, HB⟩ := hrel
        rename World => W0
        cases mv with
        | false =>
          have FIN := hid (fun a b (ha : a < i) (hb : b < i) => ap_done HA.out HCL.out (HCM.out rfl) ha hb)
          go_wp2_with fail
          go_ret
          exact ⟨_, tb, t, rfl, HT.out, FIN.out, HB.out⟩
        | true =>
          have HLA := hid (tru2_eq HT.out i (Nat.le_refl _))
          obtain ⟨g, cap9, e9, hcap9, hg9, hB9, _, _⟩ := HT.out.at_ hK0
          cases e9
          go_wp2_with fail
          go_loopw [8, 9] (fun m x wq => ∃ (a : Nat) (mv : Bool) (t' : Nat → Nat → Bool), a ≤ i ∧ x = .int .i64 a ∧ m = .bool mv ∧ Hid (TbM wq w.heap.size (.slice (some ⟨g, 0, none⟩) i cpT) i i tb t') ∧ Hid (ApI out nx i t') ∧ Hid (ApR nx i t t' mv a 0 0) ∧ Hid (Below w.heap.size w wq)) (fun _ x _ => i - (intOf x).toNat)
          case atStart => exact ⟨0, false, t, Nat.zero_le _, rfl, rfl, HT, HA, hid (apr_start nx i t), HB⟩
          case round =>
            obtain ⟨a, mv, t', ha, rfl, rfl, HT, HA, HR, HB⟩ := hrel
            rename World => W1
            by_cases hla : a < i
            · go_wp2_with fail
              go_loopw [8, 10] (fun m x wq => ∃ (b : Nat) (mv : Bool) (t' : Nat → Nat → Bool), b ≤ i ∧ x = .int .i64 b ∧ m = .bool mv ∧ Hid (TbM wq w.heap.size (.slice (some ⟨g, 0, none⟩) i cpT) i i tb t') ∧ Hid (ApI out nx i t') ∧ Hid (ApR nx i t t' mv a b 0) ∧ Hid (Below w.heap.size w wq)) (fun _ x _ => i - (intOf x).toNat)
              case atStart => exact ⟨0, mv, t', Nat.zero_le _, rfl, rfl, HT, HA, HR, HB⟩
              case round =>
                obtain ⟨b, mv, t', hb, rfl, rfl, HT, HA, HR, HB⟩ := hrel
                rename World => W2
                by_cases hlb : b < i
                · go_wp2_with fail
                  go_loopw [8, 11] (fun m x wq => ∃ (c : Nat) (mv : Bool) (t' : Nat → Nat → Bool), c ≤ 8 ∧ x = .int .i64 c ∧ m = .bool mv ∧ Hid (TbM wq w.heap.size (.slice (some ⟨g, 0, none⟩) i cpT) i i tb t') ∧ Hid (ApI out nx i t') ∧ Hid (ApR nx i t t' mv a b c) ∧ Hid (Below w.heap.size w wq)) (fun _ x _ => 8 - (intOf x).toNat)
                  case atStart => exact ⟨0, mv, t', by omega, rfl, rfl, HT, HA, HR, HB⟩
                  case round =>
                    obtain ⟨c, mv, t', hc, rfl, rfl, HT, HA, HR, HB⟩ := hrel
                    rename World => W3
                    obtain ⟨g2, cap2, e2, hcap2, hg2, hB2, hrow, hcell⟩ := HT.out.at_ hK0
                    cases e2
                    have r1 := hrow a hla
                    obtain ⟨k1, k2, k3⟩ := hcell a b hla hlb
                    by_cases hlc : c < 8
                    · cases hv : t' a b with
                      | true =>
                        rw [hv] at k1
                        have HR2 := hid (apr_pair HR.out (Or.inr hv))
                        clear hv hrow hcell
                        go_wp2_with fail
                        go_roundw
                        case rel => exact ⟨b + 1, mv, t', by omega, by go_num, rfl, HT, HA, HR2, HB⟩
                        case measure => simp [intOf]; omega
                      | false =>
                        obtain ⟨gR1, cR1, x1, hgR1, x2⟩ := HXC.out a hla
                        obtain ⟨gR2, cR2, y1, hgR2, y2⟩ := HXC.out b hlb
                        have f2' := (HB.out.cell (p := ⟨P, 2, none⟩) hP).trans f2
                        have x1' := (HB.out.cell (p := ⟨gX, a, none⟩) hgX).trans x1
                        have x2' := (HB.out.cell (p := ⟨gR1, c, none⟩) hgR1).trans (x2 c hlc)
                        have y1' := (HB.out.cell (p := ⟨gX, b, none⟩) hgX).trans y1
                        have y2' := (HB.out.cell (p := ⟨gR2, c, none⟩) hgR2).trans (y2 c hlc)
                        have hxK := HCL.out a c hla hlc
                        have hyK := HCL.out b c hlb hlc
                        have r2 := hrow (nx a c) hxK
                        have m1 := (hcell (nx a c) (nx b c) hxK hyK).1
                        have HRN := hid (fun h => apr_letter HR.out (c := c) h)
                        have HRS := hid (apr_set HR.out hla hlb hv)
                        have HAS := hid (fun h => ap_add HA.out HCL.out hla hlb hlc h)
                        have HTS := hid (HT.out.set hla hlb)
                        rw [hv] at k1
                        clear x1 x2 y1 y2 hrow hcell hv
                        generalize nx a c = x at *
                        generalize nx b c = y at *
                        have kk1 : ∀ m, (W3.drewN m).cell? ⟨tb a, b, none⟩ = some (.bool false) := fun m => k1
                        have kk2 : ∀ m, (W3.drewN m).frozen? ⟨tb a, b, none⟩ = false := fun m => k2
                        have kr1 : ∀ m, (W3.drewN m).cell? ⟨g, a, none⟩ = some (.slice (some ⟨tb a, 0, none⟩) i i) := fun m => r1
                        cases hm : t' x y with
                        | false =>
                          rw [hm] at m1
                          have HR2 := hid (HRN.out hm)
                          clear hm HRS HAS HTS
                          go_wp2_with fail
                          go_quiet (fail)
                          go_wp2_with fail
                          go_roundw
                          case rel =>
                            have bq := below_drewN (Below.refl W3.heap.size W3) nq
                            exact ⟨c + 1, mv, t', by omega, by go_num, rfl, hid (HT.out.keeps bq), HA, HR2, hid (below_drewN HB.out nq)⟩
                          case measure => simp [intOf]; omega
                        | true =>
                          rw [hm] at m1
                          have HA2 := hid (HAS.out hm)
                          clear hm HRN HAS
                          go_wp2_with fail
                          go_quiet (fail)
                          have j1 := kk1 nq
                          have j2 := kk2 nq
                          have j3 := kr1 nq
                          go_wp2_with fail
                          go_roundw
                          case rel =>
                            have bq := below_drewN (Below.refl W3.heap.size W3) nq
                            exact ⟨c + 1, true, updT t' a b, by omega, by go_num, rfl, hid ((HT.out.keeps bq).set hla hlb), HA2, HRS, hid ((below_drewN HB.out nq).setCell (p := ⟨tb a, b, none⟩) ((HT.out.row a hla).lt _ rfl).1 _)⟩
                          case measure => simp [intOf]; omega
                    · obtain rfl : c = 8 := by omega
                      have HR2 := hid (apr_pair HR.out (Or.inl rfl))
                      clear hrow hcell
                      go_wp2_with fail
                      go_roundw
                      case rel => exact ⟨b + 1, mv, t', by omega, by go_num, rfl, HT, HA, HR2, HB⟩
                      case measure => simp [intOf]; omega
                · obtain rfl : b = i := by omega
                  have HR2 := hid (apr_row HR.out)
                  go_wp2_with fail
                  go_roundw
                  case rel => exact ⟨a + 1, mv, t', by omega, by go_num, rfl, HT, HA, HR2, HB⟩
                  case measure => simp [intOf]; omega
            · obtain rfl : a = i := by omega
              have HCM2 := hid (apr_end HR.out)
              have HTE := hid (tru2_eq HT.out a (Nat.le_refl _))
              have h1 := cnt2_le t' a a
              have h2 := cnt2_le t a a
              have HNY := hid HR.out
              go_wp2_with fail
              go_roundw
              case rel => exact ⟨mv, t', rfl, HT, HA, HCM2, HB⟩
              case measure =>
                rw [HTE.out, HLA.out]
                cases mv with
                | false =>
                  rw [(HNY.out.no rfl).1]
                  simp [moreOf]
                | true =>
                  have := HNY.out.yes rfl
                  simp only [moreOf]
                  omega

end Go.Proofs.Ytjagijohfkffiaa
