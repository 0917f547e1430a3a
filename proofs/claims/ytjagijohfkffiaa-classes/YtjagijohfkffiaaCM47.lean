import Derived.Test.YtjagijohfkffiaaCM46

/- Plain mathematics: the net of slips. -/
namespace Go.Proofs.Ytjagijohfkffiaa
open Go.RowKit
set_option linter.unusedVariables false

section
variable (ns : List Nd) (vs : List Nat) (out : Nat → Nat) (nx : Nat → Nat → Nat) (vd : Nat)

/-- Where one goes from state k and set i with letter a. -/
def slA (k i a : Nat) : List Nat := if out k ≠ vd ∧ readB' ns (mOf vs i) a = true ∧ out (nx k a) ≠ vd then (toS ns vs i).map (fun j => nx k a * vs.length + j) else []
def slTo (k i A : Nat) : List Nat := (List.range A).flatMap (slA ns vs out nx vd k i)
def slF (q : Nat) : List Nat := slTo ns vs out nx vd (q / vs.length) (q % vs.length) 8
def kpF (p q : Nat) : Bool := kpS ns vs p (q % vs.length)

theorem slTo_succ (k i A : Nat) : slTo ns vs out nx vd k i (A + 1) = slTo ns vs out nx vd k i A ++ slA ns vs out nx vd k i A := by simp [slTo, List.range_succ]
theorem slF_at {k i : Nat} (hi : i < vs.length) : slF ns vs out nx vd (k * vs.length + i) = slTo ns vs out nx vd k i 8 := by unfold slF; rw [pm_div hi, pm_mod hi]
theorem slA_no {k i a : Nat} (h : ¬ (out k ≠ vd ∧ readB' ns (mOf vs i) a = true ∧ out (nx k a) ≠ vd)) : slA ns vs out nx vd k i a = [] := if_neg h
theorem slA_yes {k i a : Nat} (h : out k ≠ vd ∧ readB' ns (mOf vs i) a = true ∧ out (nx k a) ≠ vd) : slA ns vs out nx vd k i a = (toS ns vs i).map (fun j => nx k a * vs.length + j) := if_pos h
theorem slTo_none {k i : Nat} (h : out k = vd) : ∀ A, slTo ns vs out nx vd k i A = []
  | 0 => rfl
  | A + 1 => by rw [slTo_succ, slTo_none h A, slA_no ns vs out nx vd (fun c => c.1 h)]; rfl
theorem slA_len (k i a : Nat) : (slA ns vs out nx vd k i a).length ≤ vs.length := by
  unfold slA
  split
  · rw [List.length_map]; exact toS_len ns vs i
  · simp
theorem slTo_len (k i : Nat) : ∀ A, (slTo ns vs out nx vd k i A).length ≤ A * vs.length
  | 0 => by simp [slTo]
  | A + 1 => by
    rw [slTo_succ, List.length_append, Nat.succ_mul]
    have h1 := slTo_len k i A
    have h2 := slA_len ns vs out nx vd k i A
    omega
theorem nodup_count {l : List Nat} (h : l.Nodup) (b : Nat) : l.count b ≤ 1 := by
  induction l with
  | nil => simp
  | cons a l ih =>
    rw [List.nodup_cons] at h
    rw [List.count_cons]
    by_cases e : a = b
    · subst e
      rw [List.count_eq_zero.2 h.1]
      simp
    · have := ih h.2
      simp [e]
      exact this
theorem toS_nodup (i : Nat) : (toS ns vs i).Nodup := by
  unfold toS toK
  exact List.nodup_range.filter _
theorem slA_count (k i a b : Nat) : (slA ns vs out nx vd k i a).count b ≤ 1 := by
  unfold slA
  split
  · refine nodup_count ?_ b
    rw [List.nodup_iff_pairwise_ne, List.pairwise_map]
    exact (List.nodup_iff_pairwise_ne.1 (toS_nodup ns vs i)).imp fun hne e => hne (by omega)
  · simp
theorem slTo_count (k i b : Nat) : ∀ A, (slTo ns vs out nx vd k i A).count b ≤ A
  | 0 => by simp [slTo]
  | A + 1 => by
    rw [slTo_succ, List.count_append]
    have h1 := slTo_count k i b A
    have h2 := slA_count ns vs out nx vd k i A b
    omega
theorem slTo_mem (k i b : Nat) : ∀ A, b ∈ slTo ns vs out nx vd k i A ↔ ∃ a, a < A ∧ b ∈ slA ns vs out nx vd k i a := fun A => by
  unfold slTo
  rw [List.mem_flatMap]
  simp

theorem slips_prod {K : Nat} (hc : ∀ i a, i < K → a < 8 → nx i a < K) : ProdN ns vs K (slMv out nx vd) (slF ns vs out nx vd) (kpF ns vs) := by
  refine ⟨fun k i hk hi b => ?_, fun p k i hp hk hi => ?_⟩
  · rw [slF_at ns vs out nx vd hi, slTo_mem]
    constructor
    · rintro ⟨a, ha, hb⟩
      by_cases c : out k ≠ vd ∧ readB' ns (mOf vs i) a = true ∧ out (nx k a) ≠ vd
      · rw [slA_yes ns vs out nx vd c] at hb
        obtain ⟨j, hj, rfl⟩ := List.mem_map.1 hb
        exact ⟨a, nx k a, j, ha, hc k a hk ha, ⟨c.1, rfl, c.2.2⟩, readB_iff.1 c.2.1, hj, rfl⟩
      · rw [slA_no ns vs out nx vd c] at hb
        simp at hb
    · rintro ⟨a, k', j, ha, hk', ⟨h1, rfl, h2⟩, hr, hj, rfl⟩
      refine ⟨a, ha, ?_⟩
      rw [slA_yes ns vs out nx vd ⟨h1, readB_iff.2 hr, h2⟩]
      exact List.mem_map.2 ⟨j, hj, rfl⟩
  · unfold kpF
    rw [pm_mod hi]
end

theorem live_pos {ns : List Nd} (hg : Good ns) {M : Nat} {m : Nat → Nat → Bool} (hL : LiveSets ns M m) : 0 < M := by
  obtain ⟨S, _, hR⟩ := erow_truth hg.wf (fun _ => 0)
  obtain ⟨i, hi, _⟩ := hL.all (S 0) ⟨fun _ => 0, S, fun _ => by show 0 < 8; omega, hR, EqOn.refl _ _⟩
  omega

theorem outTo_grow (f : Nat → Bool) (n : Nat) : outTo f (n + 1) (n + 1) = outTo f n n ++ [.bool (f n)] := by
  unfold outTo
  rw [List.range_succ, List.map_append]
  congr 1
  · refine List.map_congr_left fun i hi => ?_
    have : i < n := by simpa using hi
    simp [this, show i < n + 1 by omega]
  · simp
theorem outTo_length (f : Nat → Bool) (n k : Nat) : (outTo f n k).length = n := by simp [outTo]

theorem rws_brc {w : World} {B K N : Nat} {v : Value} {V : Nat → Value} {kp : Nat → Nat → Bool} (hN : 0 < N) (h : Rws w B 36 4 v K V (fun q => outTo (kp q) N N)) : BRc w v K N kp := by
  rcases h.out.2 with ⟨rfl, h0⟩ | ⟨g, cap, cur, rfl, hb, hh, hc, hm, _⟩
  · exact ⟨none, 0, by rw [h0], by omega, fun h => by omega⟩
  · refine ⟨_, cap, rfl, hc, fun _ => ⟨g, rfl, heap_lt hh, fun i hi => ?_⟩⟩
    have hr := h.row i hi
    rw [outTo_length] at hr
    obtain ⟨b, c, e, _, hlt, hle⟩ := row_own hr hN
    refine ⟨b, c, ?_, hle, hlt, fun q hq => ?_⟩
    · rw [h.out.cellAt i (by omega)]
      simp [List.getElem?_map, List.getElem?_range hi, e]
    · rw [e] at hr
      rw [hr.cellAt q (by omega)]
      exact outTo_get _ _ _ hq

end Go.Proofs.Ytjagijohfkffiaa
