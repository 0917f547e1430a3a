import Derived.Test.YtjagijohfkffiabCHEM18
import Derived.Test.YtjagijohfkffiabCHEM20
import Derived.Test.YtjagijohfkffiabCHEM25
import Derived.Test.YtjagijohfkffiabCHEM38
import Derived.Test.YtjagijohfkffiabCHEM40
import Derived.Test.YtjagijohfkffiabCHEM41
import Derived.Test.YtjagijohfkffiabCHEM43
import Derived.BigQuiet

/- Plain mathematics: the reference's states are the program's; nets whose places are a spot and a set. -/
namespace Go.Proofs.Ytjagijohfkffiab
set_option linter.unusedVariables false

/-! ### Places: a spot and a set -/
theorem pm_lt {K M k i : Nat} (hk : k < K) (hi : i < M) : k * M + i < K * M := by
  have h1 : (k + 1) * M ≤ K * M := Nat.mul_le_mul_right _ hk
  rw [Nat.succ_mul] at h1
  omega
theorem pm_mod {M k i : Nat} (hi : i < M) : (k * M + i) % M = i := by rw [Nat.mul_add_mod']; exact Nat.mod_eq_of_lt hi
theorem pm_div {M k i : Nat} (hi : i < M) : (k * M + i) / M = k := by
  rw [Nat.add_comm, Nat.add_mul_div_right _ _ (by omega), Nat.div_eq_of_lt hi, Nat.zero_add]
theorem pm_parts {K M x : Nat} (hx : x < K * M) : ∃ k i, k < K ∧ i < M ∧ x = k * M + i := by
  have h0 : 0 < M := by
    rcases Nat.eq_zero_or_pos M with rfl | h
    · simp at hx
    · exact h
  refine ⟨x / M, x % M, Nat.div_lt_of_lt_mul (by rw [Nat.mul_comm]; exact hx), Nat.mod_lt _ h0, ?_⟩
  rw [Nat.mul_comm]; exact (Nat.div_add_mod x M).symm

/-- One goes along these spots with these letters. -/
def MvP (K : Nat) (Mv : Nat → Nat → Nat → Prop) (x sp : Nat → Nat) : Prop := ∀ t, sp t < K ∧ Mv (sp t) (x t) (sp (t + 1))

structure ProdN (ns : List Nd) (vs : List Nat) (K : Nat) (Mv : Nat → Nat → Nat → Prop) (to : Nat → List Nat) (kp : Nat → Nat → Bool) : Prop where
  mem : ∀ k i, k < K → i < vs.length → ∀ b, b ∈ to (k * vs.length + i) ↔ ∃ a k' j, a < 8 ∧ k' < K ∧ Mv k a k' ∧ readP ns (mOf vs i) a ∧ j ∈ toS ns vs i ∧ b = k' * vs.length + j
  kept : ∀ p k i, p < ns.length → k < K → i < vs.length → kp p (k * vs.length + i) = kpS ns vs p i

theorem mem_toS {ns : List Nd} {vs : List Nat} {i j : Nat} : j ∈ toS ns vs i ↔ j < vs.length ∧ folP ns (mOf vs i) (mOf vs j) := by
  unfold toS toK
  rw [List.mem_filter, List.mem_range, folB_iff]

theorem prod_lt {ns : List Nd} {vs : List Nat} {K : Nat} {Mv : Nat → Nat → Nat → Prop} {to : Nat → List Nat} {kp : Nat → Nat → Bool} (h : ProdN ns vs K Mv to kp) {a b : Nat} (ha : a < K * vs.length) (hb : b ∈ to a) : b < K * vs.length := by
  obtain ⟨k, i, hk, hi, rfl⟩ := pm_parts ha
  obtain ⟨_, k', j, _, h1, _, _, h2, rfl⟩ := (h.mem k i hk hi b).1 hb
  exact pm_lt h1 (mem_toS.1 h2).1

theorem erow_from {ns : List Nd} {x : Nat → Nat} {S : Nat → Nat → Bool} (hL : Letters x) (h : ERow ns x S) (t : Nat) : chain ns [] (S t) := by
  refine ⟨fun i => x (t + i), fun i => S (t + i), fun i => hL _, ⟨fun i => h.step (t + i), fun k nd hn i => ?_⟩, EqOn.refl _ _⟩
  obtain ⟨t', h1, h2⟩ := h.kept k nd hn (t + i)
  exact ⟨t' - t, by omega, by show keptN nd k (S (t + (t' - t))) = true; rw [show t + (t' - t) = t' by omega]; exact h2⟩

theorem prod_good {ns : List Nd} (hg : Good ns) {vs : List Nat} (hL : LiveSets ns vs.length (mOf vs)) {K : Nat} {Mv : Nat → Nat → Nat → Prop} {to : Nat → List Nat} {kp : Nat → Nat → Bool} (h : ProdN ns vs K Mv to kp) {k i : Nat} (hk : k < K) (hi : i < vs.length) :
    (∃ c, c < K * vs.length ∧ reach (Ed (K * vs.length) to) (k * vs.length + i) c ∧ GN (K * vs.length) to ns.length kp c) ↔ ∃ x sp S, Letters x ∧ sp 0 = k ∧ MvP K Mv x sp ∧ ERow ns x S ∧ EqOn ns.length (S 0) (mOf vs i) := by
  have hw := hg.wf
  have ei := endless_iff (E := Ed (K * vs.length) to) (K := fun p i => kp p i = true) (m := ns.length) (n := K * vs.length) (a := k * vs.length + i) (fun a b hab => prod_lt h hab.1 hab.2) (pm_lt hk hi)
  unfold GN
  rw [← ei]
  constructor
  · rintro ⟨q, q0, hq, hm⟩
    have pt : ∀ t, ∃ k' i', k' < K ∧ i' < vs.length ∧ q t = k' * vs.length + i' := fun t => pm_parts (hq t).1
    let sp : Nat → Nat := fun t => q t / vs.length
    let si : Nat → Nat := fun t => q t % vs.length
    have hs : ∀ t, sp t < K ∧ si t < vs.length ∧ q t = sp t * vs.length + si t := fun t => by
      obtain ⟨k', i', h1, h2, e⟩ := pt t
      have e1 : sp t = k' := by show q t / vs.length = k'; rw [e, pm_div h2]
      have e2 : si t = i' := by show q t % vs.length = i'; rw [e, pm_mod h2]
      rw [e1, e2]
      exact ⟨h1, h2, e⟩
    have mv : ∀ t, ∃ a, a < 8 ∧ Mv (sp t) a (sp (t + 1)) ∧ readP ns (mOf vs (si t)) a ∧ folP ns (mOf vs (si t)) (mOf vs (si (t + 1))) := fun t => by
      obtain ⟨h1, h2, e⟩ := hs t
      obtain ⟨h3, h4, e'⟩ := hs (t + 1)
      have hb := (hq t).2
      rw [e] at hb
      obtain ⟨a, k', j, ha, hk', hm', hr, hj, eb⟩ := (h.mem _ _ h1 h2 _).1 hb
      obtain ⟨hj1, hj2⟩ := mem_toS.1 hj
      have e1 : sp (t + 1) = k' := by show q (t + 1) / vs.length = k'; rw [eb, pm_div hj1]
      have e2 : si (t + 1) = j := by show q (t + 1) % vs.length = j; rw [eb, pm_mod hj1]
      rw [e1, e2]
      exact ⟨a, ha, hm', hr, hj2⟩
    let x : Nat → Nat := fun t => Classical.choose (mv t)
    have hx : ∀ t, x t < 8 ∧ Mv (sp t) (x t) (sp (t + 1)) ∧ readP ns (mOf vs (si t)) (x t) ∧ folP ns (mOf vs (si t)) (mOf vs (si (t + 1))) := fun t => Classical.choose_spec (mv t)
    refine ⟨x, sp, fun t => mOf vs (si t), fun t => (hx t).1, by show q 0 / vs.length = k; rw [q0, pm_div hi], fun t => ⟨(hs t).1, (hx t).2.1⟩, ⟨fun t => ?_, fun p nd hn t => ?_⟩, by
      show EqOn _ (mOf vs (q 0 % vs.length)) _
      rw [q0, pm_mod hi]
      exact EqOn.refl _ _⟩
    · exact (step_iff hw _ _ _).2 ⟨chain_step hw (hL.live _ (hs t).2.1), (hx t).2.2.1, (hx t).2.2.2⟩
    · obtain ⟨hp, e⟩ := ndAt_of hn
      subst e
      obtain ⟨t', h1, h2⟩ := hm p hp t
      refine ⟨t', h1, ?_⟩
      obtain ⟨h3, h4, e⟩ := hs t'
      rw [e, h.kept p _ _ hp h3 h4] at h2
      exact h2
  · rintro ⟨x, sp, S, hx, s0, hm, hR, he⟩
    have ex : ∀ t, ∃ j, j < vs.length ∧ EqOn ns.length (S t) (mOf vs j) := fun t => hL.all _ (erow_from hx hR t)
    let si : Nat → Nat := fun t => if t = 0 then i else Classical.choose (ex t)
    have hs : ∀ t, si t < vs.length ∧ EqOn ns.length (S t) (mOf vs (si t)) := fun t => by
      by_cases e : t = 0
      · subst e; exact ⟨hi, he⟩
      · have e2 : si t = Classical.choose (ex t) := if_neg e
        rw [e2]; exact Classical.choose_spec (ex t)
    refine ⟨fun t => sp t * vs.length + si t, by show sp 0 * vs.length + i = _; rw [s0], fun t => ⟨pm_lt (hm t).1 (hs t).1, ?_⟩, fun p hp t => ?_⟩
    · obtain ⟨_, f2, f3⟩ := (step_iff hw (x t) (S t) (S (t + 1))).1 (hR.step t)
      exact (h.mem _ _ (hm t).1 (hs t).1 _).2 ⟨x t, sp (t + 1), si (t + 1), hx t, (hm (t + 1)).1, (hm t).2, read_congr (hs t).2 f2, mem_toS.2 ⟨(hs (t + 1)).1, fol_congr hw (hs t).2 (hs (t + 1)).2 f3⟩, rfl⟩
    · obtain ⟨t', h1, h2⟩ := hR.kept p _ (ndAt_some hp) t
      refine ⟨t', h1, ?_⟩
      show kp p (sp t' * vs.length + si t') = true
      rw [h.kept p _ _ hp (hm t').1 (hs t').1]
      unfold kpS
      rw [← kept_congr hw (hs t').2 hp]
      exact h2

/-- Some set with this for the whole begins such a row: just if some endless word goes so, of which it is so. -/
theorem prod_whole {ns : List Nd} (hg : Good ns) {vs : List Nat} (hL : LiveSets ns vs.length (mOf vs)) {K : Nat} {Mv : Nat → Nat → Nat → Prop} {to : Nat → List Nat} {kp : Nat → Nat → Bool} (h : ProdN ns vs K Mv to kp) {good : Nat → Bool} (hgd : ∀ x, good x = true ↔ ∃ c, c < K * vs.length ∧ reach (Ed (K * vs.length) to) x c ∧ GN (K * vs.length) to ns.length kp c) {k : Nat} (hk : k < K) (hd : Bool) :
    (∃ i, i < vs.length ∧ mOf vs i (ns.length - 1) = hd ∧ good (k * vs.length + i) = true) ↔ ∃ x sp, Letters x ∧ sp 0 = k ∧ MvP K Mv x sp ∧ (sem (fun i => i + 1) x ns (ns.length - 1) 0 ↔ hd = true) := by
  have hp := hg.pos
  constructor
  · rintro ⟨i, hi, hb, hgo⟩
    obtain ⟨x, sp, S, h1, h2, h3, h4, h5⟩ := (prod_good hg hL h hk hi).1 ((hgd _).1 hgo)
    refine ⟨x, sp, h1, h2, h3, ?_⟩
    rw [← erow_sem hg.wf h4 _ (by omega), h5 _ (by omega), hb]
  · rintro ⟨x, sp, h1, h2, h3, h4⟩
    obtain ⟨S, hS, hR⟩ := erow_truth hg.wf x
    obtain ⟨i, hi, he⟩ := hL.all _ (erow_from h1 hR 0)
    refine ⟨i, hi, ?_, (hgd _).2 ((prod_good hg hL h hk hi).2 ⟨x, sp, S, h1, h2, h3, hR, he⟩)⟩
    rw [← he _ (by omega), Bool.eq_iff_iff, hS]
    exact h4

/-! ### What slips -/
end Go.Proofs.Ytjagijohfkffiab

/- The walk of the reference's full. -/
namespace Go.Proofs.Ytjagijohfkffiab
open Go.RowKit
set_option linter.unusedVariables false

/-- What full hands back, as far as it is read again. -/
structure FullR (w : World) (P K : Nat) (out : Nat → Nat) (nx : Nat → List Nat) : Prop where
  lt : P < w.heap.size
  c0 : ∃ ao cap, w.cell? ⟨P, 0, none⟩ = some (.slice ao K cap)
  c1 : ∃ v, w.cell? ⟨P, 1, none⟩ = some v ∧ NR w v ((List.range K).map out)
  c2 : ∃ v, w.cell? ⟨P, 2, none⟩ = some v ∧ NRs w v K nx
theorem FullR.below {w w' : World} {P K : Nat} {out : Nat → Nat} {nx : Nat → List Nat} (h : FullR w P K out nx) (hb : Below w.heap.size w w') : FullR w' P K out nx := by
  obtain ⟨ao, cap, h0⟩ := h.c0
  obtain ⟨v1, a1, b1⟩ := h.c1
  obtain ⟨v2, a2, b2⟩ := h.c2
  exact ⟨Nat.lt_of_lt_of_le h.lt hb.size, ⟨ao, cap, (hb.cell (p := ⟨P, 0, none⟩) h.lt).trans h0⟩, ⟨v1, (hb.cell (p := ⟨P, 1, none⟩) h.lt).trans a1, b1.below hb⟩, ⟨v2, (hb.cell (p := ⟨P, 2, none⟩) h.lt).trans a2, b2.below hb⟩⟩

/-- A grown row changes no row of another kind. -/
theorem FuM.grown {w w' : World} {B T M : Nat} {vS vO vN : Value} {rs : List (Nat × Nat)} {fs : List ((Nat → Bool) × (Nat → Bool))} {outs : List Nat} (h : FuM w B T M vS vO vN rs fs outs) {B2 e2 s2 n2 : Nat} {v2 : Value} {ys : List Value} (h2 : w.ownsRow B2 e2 s2 v2 n2 ys) (hg : w.grownBy w' v2.ownBlock) (hT : v2.ownBlock ≠ some T) (h1 : 245 ≠ e2) (h3 : 4 ≠ e2) (h4 : vO.ownBlock = none ∨ vO.ownBlock ≠ v2.ownBlock) : FuM w' B T M vS vO vN rs fs outs := by
  have hb := hg.block T h.t.lt (fun e => hT e.symm)
  have hc : ∀ o, w'.cell? ⟨T, o, none⟩ = w.cell? ⟨T, o, none⟩ := fun o => World.cell?_of_block (a := ⟨T, o, none⟩) hb
  have hf : ∀ o, w'.frozen? ⟨T, o, none⟩ = w.frozen? ⟨T, o, none⟩ := fun o => World.frozen?_of_block (a := ⟨T, o, none⟩) hb
  exact ⟨⟨(hc 0).trans h.t.c0, (hc 1).trans h.t.c1, (hc 2).trans h.t.c2, fun o ho => (hf o).trans (h.t.fz o ho)⟩, h.tB, h.len, h.olen, h.st.kept hg (own_ne' h.st h2 h1), h.ou.kept hg h4, fun i p q a b => ⟨(h.row i p q a b).1.kept hg (own_ne' (h.row i p q a b).1 h2 h3), (h.row i p q a b).2.kept hg (own_ne' (h.row i p q a b).2 h2 h3)⟩⟩
theorem FuM.set2 {w : World} {B T M : Nat} {vS vO vN : Value} {rs : List (Nat × Nat)} {fs : List ((Nat → Bool) × (Nat → Bool))} {outs : List Nat} (h : FuM w B T M vS vO vN rs fs outs) (v : Value) : FuM (w.setCell ⟨T, 2, none⟩ v) B T M vS vO v rs fs outs :=
  ⟨h.t.set2 v, h.tB, h.len, h.olen, own_set_other h.st h.tB 2 v, own_set_other h.ou h.tB 2 v, fun i p q a b => ⟨own_set_other (h.row i p q a b).1 h.tB 2 v, own_set_other (h.row i p q a b).2 h.tB 2 v⟩⟩
theorem Rws.keptI {w w' : World} {B e e' j : Nat} {v : Value} {V : Nat → Value} {xs : Nat → List Value} {r : Option Nat} (h : Rws w B e e' v j V xs) (hg : w.grownBy w' r) (h1 : v.ownBlock = none ∨ v.ownBlock ≠ r) (h3 : ∀ i, i < j → (V i).ownBlock = none ∨ (V i).ownBlock ≠ r) : Rws w' B e e' v j V xs :=
  ⟨h.out.kept hg h1, fun i hi => (h.row i hi).kept hg (h3 i hi)⟩

end Go.Proofs.Ytjagijohfkffiab

/- Plain mathematics: the net of slips. -/
namespace Go.Proofs.Ytjagijohfkffiab
open Go.RowKit
set_option linter.unusedVariables false

section
variable (ns : List Nd) (vs : List Nat) (out : Nat → Nat) (nx : Nat → Nat → Nat) (vd : Nat)

def kpF (p q : Nat) : Bool := kpS ns vs p (q % vs.length)

theorem nodup_count {l : List Nat} (h : l.Nodup) (b : Nat) : l.count b ≤ 1 := by
  induction l with
  | nil => simp
  | cons a l ih =>
    rw [List.nodup_cons] at h
    rw [List.count_cons]
    by_cases e : a = b
    · subst e
      rw [List.count_eq_zero.2 h.1]
      simp
    · have := ih h.2
      simp [e]
      exact this
theorem toS_nodup (i : Nat) : (toS ns vs i).Nodup := by
  unfold toS toK
  exact List.nodup_range.filter _
end

theorem live_pos {ns : List Nd} (hg : Good ns) {M : Nat} {m : Nat → Nat → Bool} (hL : LiveSets ns M m) : 0 < M := by
  obtain ⟨S, _, hR⟩ := erow_truth hg.wf (fun _ => 0)
  obtain ⟨i, hi, _⟩ := hL.all (S 0) ⟨fun _ => 0, S, fun _ => by show 0 < 8; omega, hR, EqOn.refl _ _⟩
  omega

theorem outTo_grow (f : Nat → Bool) (n : Nat) : outTo f (n + 1) (n + 1) = outTo f n n ++ [.bool (f n)] := by
  unfold outTo
  rw [List.range_succ, List.map_append]
  congr 1
  · refine List.map_congr_left fun i hi => ?_
    have : i < n := by simpa using hi
    simp [this, show i < n + 1 by omega]
  · simp
theorem outTo_length (f : Nat → Bool) (n k : Nat) : (outTo f n k).length = n := by simp [outTo]

theorem rws_brc {w : World} {B K N : Nat} {v : Value} {V : Nat → Value} {kp : Nat → Nat → Bool} (hN : 0 < N) (h : Rws w B 104 4 v K V (fun q => outTo (kp q) N N)) : BRc w v K N kp := by
  rcases h.out.2 with ⟨rfl, h0⟩ | ⟨g, cap, cur, rfl, hb, hh, hc, hm, _⟩
  · exact ⟨none, 0, by rw [h0], by omega, fun h => by omega⟩
  · refine ⟨_, cap, rfl, hc, fun _ => ⟨g, rfl, heap_lt hh, fun i hi => ?_⟩⟩
    have hr := h.row i hi
    rw [outTo_length] at hr
    obtain ⟨b, c, e, _, hlt, hle⟩ := row_own hr hN
    refine ⟨b, c, ?_, hle, hlt, fun q hq => ?_⟩
    · rw [h.out.cellAt i (by omega)]
      simp [List.getElem?_map, List.getElem?_range hi, e]
    · rw [e] at hr
      rw [hr.cellAt q (by omega)]
      exact outTo_get _ _ _ hq

end Go.Proofs.Ytjagijohfkffiab

/- Plain mathematics: the net of the reference's Check. -/
namespace Go.Proofs.Ytjagijohfkffiab
open Go.RowKit
set_option linter.unusedVariables false

section
variable (ns : List Nd) (vs : List Nat) (lt : Nat → Nat) (ed : Nat → Nat → Bool)

/-- Where one goes from node k and set i to node y. -/
def ckA (k i y : Nat) : List Nat := if readB' ns (mOf vs i) (lt k) = true ∧ ed k y = true then (toS ns vs i).map (fun j => y * vs.length + j) else []
def ckTo (k i Y : Nat) : List Nat := (List.range Y).flatMap (ckA ns vs lt ed k i)
def ckF (n q : Nat) : List Nat := ckTo ns vs lt ed (q / vs.length) (q % vs.length) n
def ckMv (k a k' : Nat) : Prop := a = lt k ∧ ed k k' = true

theorem ckTo_succ (k i Y : Nat) : ckTo ns vs lt ed k i (Y + 1) = ckTo ns vs lt ed k i Y ++ ckA ns vs lt ed k i Y := by simp [ckTo, List.range_succ]
theorem ckF_at {k i : Nat} (n : Nat) (hi : i < vs.length) : ckF ns vs lt ed n (k * vs.length + i) = ckTo ns vs lt ed k i n := by unfold ckF; rw [pm_div hi, pm_mod hi]
theorem ckA_no {k i y : Nat} (h : ¬ (readB' ns (mOf vs i) (lt k) = true ∧ ed k y = true)) : ckA ns vs lt ed k i y = [] := if_neg h
theorem ckA_yes {k i y : Nat} (h : readB' ns (mOf vs i) (lt k) = true ∧ ed k y = true) : ckA ns vs lt ed k i y = (toS ns vs i).map (fun j => y * vs.length + j) := if_pos h
theorem ckTo_none {k i : Nat} (h : readB' ns (mOf vs i) (lt k) = false) : ∀ Y, ckTo ns vs lt ed k i Y = []
  | 0 => rfl
  | Y + 1 => by rw [ckTo_succ, ckTo_none h Y, ckA_no ns vs lt ed (fun c => by rw [h] at c; exact absurd c.1 (by simp))]; rfl
theorem ckA_len (k i y : Nat) : (ckA ns vs lt ed k i y).length ≤ vs.length := by
  unfold ckA
  split
  · rw [List.length_map]; exact toS_len ns vs i
  · simp
theorem ckTo_len (k i : Nat) : ∀ Y, (ckTo ns vs lt ed k i Y).length ≤ Y * vs.length
  | 0 => by simp [ckTo]
  | Y + 1 => by
    rw [ckTo_succ, List.length_append, Nat.succ_mul]
    have h1 := ckTo_len k i Y
    have h2 := ckA_len ns vs lt ed k i Y
    omega
theorem ckA_count (k i y b : Nat) : (ckA ns vs lt ed k i y).count b ≤ 1 := by
  unfold ckA
  split
  · refine nodup_count ?_ b
    rw [List.nodup_iff_pairwise_ne, List.pairwise_map]
    exact (List.nodup_iff_pairwise_ne.1 (toS_nodup ns vs i)).imp fun hne e => hne (by omega)
  · simp
theorem ckTo_count (k i b : Nat) : ∀ Y, (ckTo ns vs lt ed k i Y).count b ≤ Y
  | 0 => by simp [ckTo]
  | Y + 1 => by
    rw [ckTo_succ, List.count_append]
    have h1 := ckTo_count k i b Y
    have h2 := ckA_count ns vs lt ed k i Y b
    omega
theorem ckTo_mem (k i b : Nat) : ∀ Y, b ∈ ckTo ns vs lt ed k i Y ↔ ∃ y, y < Y ∧ b ∈ ckA ns vs lt ed k i y := fun Y => by
  unfold ckTo
  rw [List.mem_flatMap]
  simp

theorem ck_prod {n : Nat} (hlt : ∀ i, i < n → lt i < 8) : ProdN ns vs n (ckMv lt ed) (ckF ns vs lt ed n) (kpF ns vs) := by
  refine ⟨fun k i hk hi b => ?_, fun p k i hp hk hi => ?_⟩
  · rw [ckF_at ns vs lt ed n hi, ckTo_mem]
    constructor
    · rintro ⟨y, hy, hb⟩
      by_cases c : readB' ns (mOf vs i) (lt k) = true ∧ ed k y = true
      · rw [ckA_yes ns vs lt ed c] at hb
        obtain ⟨j, hj, rfl⟩ := List.mem_map.1 hb
        exact ⟨lt k, y, j, hlt k hk, hy, ⟨rfl, c.2⟩, readB_iff.1 c.1, hj, rfl⟩
      · rw [ckA_no ns vs lt ed c] at hb
        simp at hb
    · rintro ⟨a, k', j, ha, hk', ⟨rfl, h2⟩, hr, hj, rfl⟩
      refine ⟨k', hk', ?_⟩
      rw [ckA_yes ns vs lt ed ⟨readB_iff.2 hr, h2⟩]
      exact List.mem_map.2 ⟨j, hj, rfl⟩
  · unfold kpF
    rw [pm_mod hi]

/-- A word along a path, and its path. -/
theorem ck_paths {n : Nat} (hlt : ∀ i, i < n → lt i < 8) {st : Nat → Bool} (hd : Bool) :
    (∃ k, k < n ∧ st k = true ∧ ∃ x sp, Letters x ∧ sp 0 = k ∧ MvP n (ckMv lt ed) x sp ∧ (sem (fun i => i + 1) x ns (ns.length - 1) 0 ↔ hd = true)) ↔ ∃ q, GPath n ed st q ∧ (sem (fun i => i + 1) (fun t => lt (q t)) ns (ns.length - 1) 0 ↔ hd = true) := by
  constructor
  · rintro ⟨k, hk, hs, x, sp, hL, h0, hm, hsem⟩
    have hx : x = fun t => lt (sp t) := by funext t; exact (hm t).2.1
    refine ⟨sp, ⟨by rw [h0]; exact hs, fun t => ⟨(hm t).1, (hm t).2.2⟩⟩, ?_⟩
    rw [← hx]; exact hsem
  · rintro ⟨q, ⟨hs, hq⟩, hsem⟩
    exact ⟨q 0, (hq 0).1, hs, fun t => lt (q t), q, fun t => hlt _ (hq t).1, rfl, fun t => ⟨(hq t).1, rfl, (hq t).2⟩, hsem⟩
end

/-- It does not hold in the graph just if some start has a set from which an endless row goes. -/
theorem ck_holds {ns : List Nd} (hg : Good ns) {vs : List Nat} (hL : LiveSets ns vs.length (mOf vs)) {n : Nat} {lt : Nat → Nat} {ed : Nat → Nat → Bool} {st : Nat → Bool} (hlt : ∀ i, i < n → lt i < 8) {good : Nat → Bool} (hgd : ∀ x, good x = true ↔ ∃ c, c < n * vs.length ∧ reach (Ed (n * vs.length) (ckF ns vs lt ed n)) x c ∧ GN (n * vs.length) (ckF ns vs lt ed n) ns.length (kpF ns vs) c) :
    (∃ k, k < n ∧ st k = true ∧ ∃ i, i < vs.length ∧ mOf vs i (ns.length - 1) = false ∧ good (k * vs.length + i) = true) ↔ ¬ HoldsIn ns n lt ed st := by
  have hp := ck_prod ns vs lt ed hlt
  have h1 : (∃ k, k < n ∧ st k = true ∧ ∃ i, i < vs.length ∧ mOf vs i (ns.length - 1) = false ∧ good (k * vs.length + i) = true) ↔ ∃ k, k < n ∧ st k = true ∧ ∃ x sp, Letters x ∧ sp 0 = k ∧ MvP n (ckMv lt ed) x sp ∧ (sem (fun i => i + 1) x ns (ns.length - 1) 0 ↔ false = true) := by
    constructor
    · rintro ⟨k, hk, hs, h⟩
      exact ⟨k, hk, hs, (prod_whole hg hL hp hgd hk false).1 h⟩
    · rintro ⟨k, hk, hs, h⟩
      exact ⟨k, hk, hs, (prod_whole hg hL hp hgd hk false).2 h⟩
  rw [h1, ck_paths ns lt ed hlt false]
  constructor
  · rintro ⟨q, hq, hsem⟩ hH
    exact absurd (hsem.1 (hH q hq)) (by simp)
  · intro h
    have : ∃ q, GPath n ed st q ∧ ¬ sem (fun i => i + 1) (fun t => lt (q t)) ns (ns.length - 1) 0 := Classical.byContradiction fun c => h fun q hq => Classical.byContradiction fun c2 => c ⟨q, hq, c2⟩
    obtain ⟨q, hq, hns⟩ := this
    exact ⟨q, hq, fun h => absurd h hns, fun h => by cases h⟩

end Go.Proofs.Ytjagijohfkffiab

/- The walk of the reference's slips. -/
namespace Go.Proofs.Ytjagijohfkffiab
open Go.RowKit
set_option linter.unusedVariables false

/-- A list of numbers of a call's own. -/
def IRow (w : World) (B : Nat) (v : Value) (L : List Nat) : Prop := w.ownsRow B 3 1 v L.length (nInts L)

end Go.Proofs.Ytjagijohfkffiab

/- Plain mathematics: the states of a machine sorted into kinds, numbered where the first of a kind stands. -/
namespace Go.Proofs.Ytjagijohfkffiab
set_option linter.unusedVariables false

section
variable {K : Nat} {out out' : Nat → Nat} {nx nx' : Nat → Nat → Nat} {kd : Nat → Nat}

end

/-! ### Rounds -/
end Go.Proofs.Ytjagijohfkffiab

/- Plain mathematics: the machine of a formula. -/
namespace Go.Proofs.Ytjagijohfkffiab
set_option linter.unusedVariables false

section
variable {ns : List Nd} {liv : Nat → Bool} {us : List (List Nat)} {xs : List Nat}

end

/-! ### The reference's way: through what is met -/
section
variable (out : Nat → Nat) (nx : Nat → Nat → Nat)

end

section
variable {out : Nat → Nat} {nx : Nat → Nat → Nat} {K : Nat} {ms xs : List Nat}

end

end Go.Proofs.Ytjagijohfkffiab

/- What the reference's slips tells; the walk of its Class. -/
namespace Go.Proofs.Ytjagijohfkffiab
open Go.RowKit
set_option linter.unusedVariables false

section
variable (s : ByteArray) (w : World)

end

end Go.Proofs.Ytjagijohfkffiab
