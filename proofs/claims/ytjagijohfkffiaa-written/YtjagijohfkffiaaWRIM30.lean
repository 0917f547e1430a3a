import Derived.Test.YtjagijohfkffiaaWRIM29
import Derived.ProofKit
import Derived.OpenShut
import Derived.ShutString
import Derived.ChangeOld
import Derived.Deep.Matrix
import Derived.ChangeSame

/- Written: the row. -/
namespace Go.Proofs.Ytjagijohfkffiaa.written
open Go.ChangeShapes Go.WideShapes Go.ChangeAt Go.RowKit Go.Deep
open Go.ChangeMaps (open_string shut_string)
set_option linter.unusedVariables false

theorem own : ownKnob Try.prog.godebug = none := by kernel_rfl
theorem laidOut : laidOutB Try.prog = true := by kernel_rfl

/-- A slice of ints among the arguments. -/
theorem ints_of {H : Type} {enc : TypeId × Value → H} {W : World} {v : Value} {x : DataW H × List MemPlace} {fuel : Nat} (hf : DataW.trod enc Try.prog W 0 (fun _ => true) true fuel 27 [v] = some x) : ∃ a len cap zs, v = .slice a len cap ∧ Ints W a len cap zs := by
  rcases open_ints Try.underlying27 Try.underlying3 (by kernel_rfl) hf with ⟨hcs, _⟩ | ⟨x, len, cap, zs, hcs, _, hl, hm, hz, _, hcell, hwz⟩
  · simp at hcs
    subst hcs
    exact ⟨none, 0, 0, [], rfl, rfl, Nat.le_refl _, by omega, fun _ => ⟨rfl, rfl⟩, fun h => by omega⟩
  · simp at hcs
    subst hcs
    have hz2 : zs.length = cap := by simpa using hz
    unfold maxLen at hm
    refine ⟨some x, len, cap, zs.take len, rfl, by rw [List.length_take]; omega, hl, hm, fun h => by simp at h, fun h0 => ?_⟩
    obtain ⟨b, off, hx, hc⟩ := ints_at hcell (by omega)
    subst hx
    refine ⟨b, off, rfl, World.block_lt_of_cell? W ⟨b, off + 0, none⟩ (hc 0 (by omega)), fun i hi => ?_⟩
    rw [hc i (by omega)]
    simp [List.getD, List.getElem?_take_of_lt hi]

/-- A slice of slices of ints among the arguments. -/
theorem lists_of {H : Type} {enc : TypeId × Value → H} {W : World} {v : Value} {x : DataW H × List MemPlace} {fuel : Nat} (hf : DataW.trod enc Try.prog W 0 (fun _ => true) true fuel 44 [v] = some x) : ∃ a len cap zss, v = .slice a len cap ∧ Lists W a len cap zss := by
  rcases open_int_rows Try.underlying44 Try.underlying27 Try.underlying3 (by kernel_rfl) (by kernel_rfl) hf with ⟨hcs, _⟩ | ⟨x, len, cap, A, L, C, Z, hcs, _, hl, hm, _, hr⟩
  · simp at hcs
    subst hcs
    exact ⟨none, 0, 0, [], rfl, rfl, Nat.le_refl _, by omega, fun _ => ⟨rfl, rfl⟩, fun h => by omega⟩
  · simp at hcs
    subst hcs
    unfold maxLen at hm
    refine ⟨some x, len, cap, (List.range len).map fun r => (Z r).take (L r), rfl, by simp, hl, hm, fun h => by simp at h, fun h0 => ?_⟩
    obtain ⟨b, off, spot⟩ := x
    have hspot : spot = none := by simpa [Addr.add] using World.cell?_spot (hr 0 (by omega)).1
    subst hspot
    have hc : ∀ r, r < cap → W.cell? ⟨b, off + r, none⟩ = some (.slice (A r) (L r) (C r)) := fun r h => by
      have := (hr r h).1
      rwa [Go.WideShapes.add_plain] at this
    refine ⟨b, off, rfl, World.block_lt_of_cell? W ⟨b, off + 0, none⟩ (hc 0 (by omega)), fun i hi => ⟨A i, L i, C i, hc i (by omega), ?_⟩⟩
    have hg : ((List.range len).map fun r => (Z r).take (L r)).getD i [] = (Z i).take (L i) := by simp [List.getD, List.getElem?_map, List.getElem?_range hi]
    rw [hg]
    obtain ⟨_, q1, q2, q3, _, q4, q5⟩ := hr i (by omega)
    unfold maxLen at q2
    refine ⟨by rw [List.length_take]; omega, q1, q2, fun h => ⟨by have := q4 h; omega, q4 h⟩, fun h0 => ?_⟩
    cases ha : A i with
    | none => have := q4 ha; omega
    | some a' =>
      have q6 := (q5 a' ha).2
      obtain ⟨b', off', sp⟩ := a'
      have hsp : sp = none := by simpa [Addr.add] using World.cell?_spot (q6 0 (by omega))
      subst hsp
      have q7 : ∀ j, j < C i → W.cell? ⟨b', off' + j, none⟩ = some (.int .i64 ((Z i).getD j 0)) := fun j hj => by rw [← Go.WideShapes.add_plain]; exact q6 j hj
      refine ⟨b', off', rfl, World.block_lt_of_cell? W ⟨b', off' + 0, none⟩ (q7 0 (by omega)), fun j hj => ?_⟩
      rw [q7 j (by omega)]
      simp [List.getD, List.getElem?_take_of_lt hj]

theorem two_of {α : Type} {cs : Array α} (h : cs.size = 2) : ∃ c0 c1, cs = #[c0, c1] := ⟨cs[0], cs[1], by
  apply Array.ext
  · simp [h]
  · intro i h1 h2
    have : i = 0 ∨ i = 1 := by omega
    rcases this with rfl | rfl <;> rfl⟩

/-- A machine among the arguments. -/
theorem cells2 : Try.prog.cellsOf 46 = 2 := by kernel_rfl
set_option maxRecDepth 100000 in
theorem machine_of {H : Type} {enc : TypeId × Value → H} {W : World} {base : Nat} {v : Value} {d : DataW H} {p : List MemPlace} (hv : Value.okWide Try.prog W .any base 46 v) (h : DataW.Trod enc Try.prog W 0 (fun _ => true) true 46 v d p) :
    ∃ a1 l1 c1 a2 l2 c2 os ls, v = .agg #[.slice a1 l1 c1, .slice a2 l2 c2] ∧ Ints W a1 l1 c1 os ∧ Lists W a2 l2 c2 ls := by
  obtain ⟨cs, rfl, hsz⟩ := okWide_struct Try.underlying46 hv
  obtain ⟨c0, c1, rfl⟩ := two_of (hsz.trans cells2)
  obtain ⟨fuel, hf⟩ := h
  obtain ⟨y0, y1, n, hx, _, t0, t1⟩ := trod_struct2 Try.underlying46 hf
  have k0 : Try.prog.cellsOf 27 = 1 := by kernel_rfl
  have k1 : Try.prog.cellsOf 44 = 1 := by kernel_rfl
  obtain ⟨a1, l1, cc1, os, rfl, hi⟩ := ints_of (v := c0) (by simpa [Value.cells, k0] using t0)
  obtain ⟨a2, l2, cc2, ls, rfl, hl⟩ := lists_of (v := c1) (by simpa [Value.cells, k1] using t1)
  exact ⟨a1, l1, cc1, a2, l2, cc2, os, ls, rfl, hi, hl⟩

theorem ints_fits {H : Type} {enc : TypeId × Value → H} {W : World} {a : Option Addr} {len cap : Nat} {d : DataW H} {p : List MemPlace} (h : DataW.Trod enc Try.prog W 0 (fun _ => true) true 27 (.slice a len cap) d p) : ∃ zs, Ints W a len cap zs ∧ Fits zs := by
  obtain ⟨fuel, hf⟩ := h
  rcases open_ints Try.underlying27 Try.underlying3 (by kernel_rfl) hf with ⟨hcs, _⟩ | ⟨x, l, c, zs, hcs, _, hl, hm, hz, _, hcell, hwz⟩
  · simp [Value.cells] at hcs
    obtain ⟨rfl, rfl, rfl⟩ := hcs
    exact ⟨[], ⟨rfl, Nat.le_refl _, by omega, fun _ => ⟨rfl, rfl⟩, fun h => by omega⟩, fun z hz => by simp at hz⟩
  · simp [Value.cells] at hcs
    obtain ⟨rfl, rfl, rfl⟩ := hcs
    have hz2 : zs.length = cap := by simpa using hz
    unfold maxLen at hm
    refine ⟨zs.take len, ⟨by rw [List.length_take]; omega, hl, hm, fun h => by simp at h, fun h0 => ?_⟩, fun z hz => ?_⟩
    · obtain ⟨b, off, hx, hc⟩ := ints_at hcell (by omega)
      subst hx
      refine ⟨b, off, rfl, World.block_lt_of_cell? W ⟨b, off + 0, none⟩ (hc 0 (by omega)), fun i hi => ?_⟩
      rw [hc i (by omega)]
      simp [List.getD, List.getElem?_take_of_lt hi]
    · have := bounds_i64 (hwz z (List.mem_of_mem_take hz))
      omega

set_option maxRecDepth 100000 in
theorem lifted (os : Os) (started : os.Started) (H : Type) (enc : TypeId × Value → H) :
    ReturnsInHanded {} Try.checked os 13 .any (Rows.writtenSpec.pre6 enc Try.prog Try.f13 Rows.writtenRow.domain false) (Rows.writtenSpec.post enc Try.prog Try.f13 false true false false) := by
  refine returnsInHanded_of_change (C := Try.checked) own started (by kernel_rfl) Try.func13
    (ChangeSpec.witness6 (enc := enc) (C := Try.checked) false ⟨#[], #[.agg #[.slice none 0 0, .slice none 0 0], .string ByteArray.empty, .slice none 0 0], []⟩ 8 (by kernel_rfl) (by kernel_rfl) (by kernel_rfl) (by kernel_rfl)) ?_
  intro W base args ds gs before hval0 hW hcnd _
  have hval : ∀ (j : Nat) t v, Try.f13.params[j]? = some t → args[j]? = some v → Value.okWide Try.prog W .any base t v := hval0
  have hW' := hW
  obtain ⟨p, q, hA0, hV, rfl, hfz, hnd⟩ := hW
  have hA : DataW.TrodAll enc Try.prog W 0 (fun _ => true) true Try.f13.params.toList args.toList ds p := hA0
  rw [Try.params13] at hA hval
  obtain ⟨v0, vs0, d0, ds0, p0, q0, hargs, rfl, rfl, h0, r0⟩ := trodAll_cons hA
  obtain ⟨v1, vs1, d1, ds1, p1, q1, rfl, rfl, rfl, h1, r1⟩ := trodAll_cons r0
  obtain ⟨v2, vs2, d2, ds2, p2, q2, rfl, rfl, rfl, h2, r2⟩ := trodAll_cons r1
  obtain ⟨rfl, rfl, rfl⟩ := trodAll_nil r2
  obtain rfl : args = #[v0, v1, v2] := by cases args; simp_all
  obtain ⟨rfl, rfl⟩ := trodVars_none hV
  have lt0 : ∀ x ∈ p0, x.block < W.heap.size := by obtain ⟨m, hm⟩ := h0; exact DataW.trod_lt m _ _ _ hm
  obtain ⟨a1, l1, c1, a2, l2, c2, zs, zss, rfl, w1, w2⟩ := machine_of (hval 0 46 v0 rfl rfl) h0
  obtain ⟨s0, rfl, rfl, rfl, w0⟩ := open_string Try.underlying9 (hval 1 9 v1 rfl rfl) h1
  obtain ⟨a3, len3, cap3, rfl⟩ := okWide_slice Try.underlying27 (hval 2 27 v2 rfl rfl)
  have lt2 : ∀ x ∈ p2, x.block < W.heap.size := by obtain ⟨m, hm⟩ := h2; exact DataW.trod_lt m _ _ _ hm
  obtain ⟨z3, w3, f3⟩ := ints_fits h2
  clear hA0 hval0
  refine (written_walk a1 a2 a3 l1 c1 l2 c2 len3 cap3 zs zss s0 z3 W w1 w2 w0 w3 f3).mono fun e W' ⟨he, bel⟩ => ?_
  subst he
  exact ⟨_, rfl, _, _, _, [], _, [], hW', trodAll_mk1 (shut_bool Try.underlying4 _), (trodAll_cons_mk (Below.trod laidOut (by kernel_rfl) (of_decide_eq_true (by kernel_rfl)) h0 bel lt0) (trodAll_cons_mk (shut_string Try.underlying9 w0) (trodAll_cons_mk (Below.trod laidOut (by kernel_rfl) (of_decide_eq_true (by kernel_rfl)) h2 bel lt2) trodAll_mk0))), rfl, bel.frame _, fun h => by cases h⟩

theorem over : Rows.writtenRow.holds Try.pinned (OpenSpec.ofChange Rows.writtenSpec) :=
  OpenClaim.holds_of_wide 13 Try.f13 rfl rfl rfl rfl rfl rfl rfl ⟨rfl, rfl, rfl, rfl, rfl⟩ rfl rfl rfl rfl rfl (by kernel_rfl) Try.func13 (by kernel_rfl)
    (of_decide_eq_true (by kernel_rfl)) (by unfold Func.isWrapper; first | (rw [if_pos (by decide +kernel)]; kernel_rfl) | (rw [if_neg (by decide +kernel)]; exact ⟨rfl, rfl⟩))
    (fun os started H enc _ => lifted os started H enc)

theorem proved : Rows.WrittenSaid := over
end Go.Proofs.Ytjagijohfkffiaa.written
namespace Go.Proofs.Ytjagijohfkffiaa
theorem written_holds : Rows.WrittenSaid := written.proved
end Go.Proofs.Ytjagijohfkffiaa
