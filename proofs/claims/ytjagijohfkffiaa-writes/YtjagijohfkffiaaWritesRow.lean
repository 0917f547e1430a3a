/- Writes: the walk and the row. -/
import Derived.Test.YtjagijohfkffiaaRefWrite2
import Derived.ProofKit
import Derived.OpenShut
import Derived.ShutString
import Derived.ChangeOld
import Derived.Deep.Matrix
import Derived.ChangeSame
namespace Go.Proofs.Ytjagijohfkffiaa.writes
open Go.ChangeShapes Go.WideShapes Go.ChangeAt Go.RowKit Go.Deep
open Go.ChangeMaps (open_string shut_string)
set_option linter.unusedVariables false

theorem own : ownKnob Try.prog.godebug = none := by kernel_rfl
theorem laidOut : laidOutB Try.prog = true := by kernel_rfl

set_option maxHeartbeats 400000 in
theorem numm_any (n : Int) (w : World) : Calls Try.prog 17 #[.int .i64 n] w fun e w' => e = .returned (.int .i64 n) ∧ w' = w := by
  go_enter Try.func17, Try.ntmps17
  go_wp2
  go_ret
  exact ⟨rfl, rfl⟩

set_option maxHeartbeats 400000 in
theorem walk (a1 a2 : Option Addr) (l1 c1 l2 c2 : Nat) (os : List Int) (ls : List (List Int)) (w : World) (h1 : Ints w a1 l1 c1 os) (h2 : Lists w a2 l2 c2 ls) :
    Calls Try.prog 9 #[.agg #[.slice a1 l1 c1, .slice a2 l2 c2]] w fun e w' => e = .returned (.bool true) ∧ Below w.heap.size w w' := by
  have C1 := fun W (b : Below w.heap.size w W) => write_any a1 a2 l1 c1 l2 c2 os ls W (h1.below b) (h2.below b)
  have C2 := fun W (b : Below w.heap.size w W) => rwrite_any a1 a2 l1 c1 l2 c2 os ls W (h1.below b) (h2.below b)
  generalize writeStr os ls = v at *
  generalize writeErr os ls = er at *
  go_enter Try.func9, Try.ntmps9
  go_wp2_with fail
  refine (C1 _ ((Below.refl _ _).alloc (Nat.le_refl _) _)).mono ?_
  rintro e w1 ⟨rfl, hb1⟩
  have p0 := (hb1.cell (p := ⟨w.heap.size, 0, none⟩) (by simp)).trans (World.cell?_alloc_new w _ _ 0)
  have p1 := (hb1.cell (p := ⟨w.heap.size, 1, none⟩) (by simp)).trans (World.cell?_alloc_new w _ _ 1)
  simp at p0 p1
  have bw1 := ((Below.refl w.heap.size w).alloc (Nat.le_refl _) _).trans (hb1.mono (by simp))
  have B1 := hid bw1
  clear hb1 C1 bw1
  go_wp2_with fail
  refine (C2 _ B1.out).mono ?_
  rintro e w2 ⟨rfl, hb2⟩
  have B := hid (B1.out.trans (hb2.mono B1.out.size))
  clear C2 hb2 p0 p1
  go_wp2
  all_goals go_ret
  all_goals exact ⟨rfl, B.out⟩

/-- A slice of ints among the arguments. -/
theorem ints_of {H : Type} {enc : TypeId × Value → H} {W : World} {v : Value} {x : DataW H × List MemPlace} {fuel : Nat} (hf : DataW.trod enc Try.prog W 0 (fun _ => true) true fuel 27 [v] = some x) : ∃ a len cap zs, v = .slice a len cap ∧ Ints W a len cap zs := by
  rcases open_ints Try.underlying27 Try.underlying3 (by kernel_rfl) hf with ⟨hcs, _⟩ | ⟨x, len, cap, zs, hcs, _, hl, hm, hz, _, hcell, hwz⟩
  · simp at hcs
    subst hcs
    exact ⟨none, 0, 0, [], rfl, rfl, Nat.le_refl _, by omega, fun _ => ⟨rfl, rfl⟩, fun h => by omega⟩
  · simp at hcs
    subst hcs
    have hz2 : zs.length = cap := by simpa using hz
    unfold maxLen at hm
    refine ⟨some x, len, cap, zs.take len, rfl, by rw [List.length_take]; omega, hl, hm, fun h => by simp at h, fun h0 => ?_⟩
    obtain ⟨b, off, hx, hc⟩ := ints_at hcell (by omega)
    subst hx
    refine ⟨b, off, rfl, World.block_lt_of_cell? W ⟨b, off + 0, none⟩ (hc 0 (by omega)), fun i hi => ?_⟩
    rw [hc i (by omega)]
    simp [List.getD, List.getElem?_take_of_lt hi]

/-- A slice of slices of ints among the arguments. -/
theorem lists_of {H : Type} {enc : TypeId × Value → H} {W : World} {v : Value} {x : DataW H × List MemPlace} {fuel : Nat} (hf : DataW.trod enc Try.prog W 0 (fun _ => true) true fuel 44 [v] = some x) : ∃ a len cap zss, v = .slice a len cap ∧ Lists W a len cap zss := by
  rcases open_int_rows Try.underlying44 Try.underlying27 Try.underlying3 (by kernel_rfl) (by kernel_rfl) hf with ⟨hcs, _⟩ | ⟨x, len, cap, A, L, C, Z, hcs, _, hl, hm, _, hr⟩
  · simp at hcs
    subst hcs
    exact ⟨none, 0, 0, [], rfl, rfl, Nat.le_refl _, by omega, fun _ => ⟨rfl, rfl⟩, fun h => by omega⟩
  · simp at hcs
    subst hcs
    unfold maxLen at hm
    refine ⟨some x, len, cap, (List.range len).map fun r => (Z r).take (L r), rfl, by simp, hl, hm, fun h => by simp at h, fun h0 => ?_⟩
    obtain ⟨b, off, spot⟩ := x
    have hspot : spot = none := by simpa [Addr.add] using World.cell?_spot (hr 0 (by omega)).1
    subst hspot
    have hc : ∀ r, r < cap → W.cell? ⟨b, off + r, none⟩ = some (.slice (A r) (L r) (C r)) := fun r h => by
      have := (hr r h).1
      rwa [Go.WideShapes.add_plain] at this
    refine ⟨b, off, rfl, World.block_lt_of_cell? W ⟨b, off + 0, none⟩ (hc 0 (by omega)), fun i hi => ⟨A i, L i, C i, hc i (by omega), ?_⟩⟩
    have hg : ((List.range len).map fun r => (Z r).take (L r)).getD i [] = (Z i).take (L i) := by simp [List.getD, List.getElem?_map, List.getElem?_range hi]
    rw [hg]
    obtain ⟨_, q1, q2, q3, _, q4, q5⟩ := hr i (by omega)
    unfold maxLen at q2
    refine ⟨by rw [List.length_take]; omega, q1, q2, fun h => ⟨by have := q4 h; omega, q4 h⟩, fun h0 => ?_⟩
    cases ha : A i with
    | none => have := q4 ha; omega
    | some a' =>
      have q6 := (q5 a' ha).2
      obtain ⟨b', off', sp⟩ := a'
      have hsp : sp = none := by simpa [Addr.add] using World.cell?_spot (q6 0 (by omega))
      subst hsp
      have q7 : ∀ j, j < C i → W.cell? ⟨b', off' + j, none⟩ = some (.int .i64 ((Z i).getD j 0)) := fun j hj => by rw [← Go.WideShapes.add_plain]; exact q6 j hj
      refine ⟨b', off', rfl, World.block_lt_of_cell? W ⟨b', off' + 0, none⟩ (q7 0 (by omega)), fun j hj => ?_⟩
      rw [q7 j (by omega)]
      simp [List.getD, List.getElem?_take_of_lt hj]

theorem two_of {α : Type} {cs : Array α} (h : cs.size = 2) : ∃ c0 c1, cs = #[c0, c1] := ⟨cs[0], cs[1], by
  apply Array.ext
  · simp [h]
  · intro i h1 h2
    have : i = 0 ∨ i = 1 := by omega
    rcases this with rfl | rfl <;> rfl⟩

/-- A machine among the arguments. -/
theorem cells2 : Try.prog.cellsOf 46 = 2 := by kernel_rfl
set_option maxRecDepth 100000 in
theorem machine_of {H : Type} {enc : TypeId × Value → H} {W : World} {base : Nat} {v : Value} {d : DataW H} {p : List MemPlace} (hv : Value.okWide Try.prog W .any base 46 v) (h : DataW.Trod enc Try.prog W 0 (fun _ => true) true 46 v d p) :
    ∃ a1 l1 c1 a2 l2 c2 os ls, v = .agg #[.slice a1 l1 c1, .slice a2 l2 c2] ∧ Ints W a1 l1 c1 os ∧ Lists W a2 l2 c2 ls := by
  obtain ⟨cs, rfl, hsz⟩ := okWide_struct Try.underlying46 hv
  obtain ⟨c0, c1, rfl⟩ := two_of (hsz.trans cells2)
  obtain ⟨fuel, hf⟩ := h
  obtain ⟨y0, y1, n, hx, _, t0, t1⟩ := trod_struct2 Try.underlying46 hf
  have k0 : Try.prog.cellsOf 27 = 1 := by kernel_rfl
  have k1 : Try.prog.cellsOf 44 = 1 := by kernel_rfl
  obtain ⟨a1, l1, cc1, os, rfl, hi⟩ := ints_of (v := c0) (by simpa [Value.cells, k0] using t0)
  obtain ⟨a2, l2, cc2, ls, rfl, hl⟩ := lists_of (v := c1) (by simpa [Value.cells, k1] using t1)
  exact ⟨a1, l1, cc1, a2, l2, cc2, os, ls, rfl, hi, hl⟩

set_option maxRecDepth 100000 in
theorem lifted (os : Os) (started : os.Started) (H : Type) (enc : TypeId × Value → H) :
    ReturnsInHanded {} Try.checked os 9 .any (Rows.writesSpec.pre6 enc Try.prog Try.f9 Rows.writesRow.domain false) (Rows.writesSpec.post enc Try.prog Try.f9 false true false false) := by
  refine returnsInHanded_of_change (C := Try.checked) own started (by kernel_rfl) Try.func9
    (ChangeSpec.witness6 (enc := enc) (C := Try.checked) false ⟨#[], #[.agg #[.slice none 0 0, .slice none 0 0]], []⟩ 8 (by kernel_rfl) (by kernel_rfl) (by kernel_rfl) (by kernel_rfl)) ?_
  intro W base args ds gs before hval0 hW hcnd _
  have hval : ∀ (j : Nat) t v, Try.f9.params[j]? = some t → args[j]? = some v → Value.okWide Try.prog W .any base t v := hval0
  have hW' := hW
  obtain ⟨p, q, hA0, hV, rfl, hfz, hnd⟩ := hW
  have hA : DataW.TrodAll enc Try.prog W 0 (fun _ => true) true Try.f9.params.toList args.toList ds p := hA0
  rw [Try.params9] at hA hval
  obtain ⟨v0, vs0, d0, ds0, p0, q0, hargs, rfl, rfl, h0, r0⟩ := trodAll_cons hA
  obtain ⟨rfl, rfl, rfl⟩ := trodAll_nil r0
  obtain rfl : args = #[v0] := by cases args; simp_all
  obtain ⟨rfl, rfl⟩ := trodVars_none hV
  have lt0 : ∀ x ∈ p0, x.block < W.heap.size := by obtain ⟨m, hm⟩ := h0; exact DataW.trod_lt m _ _ _ hm
  obtain ⟨a1, l1, c1, a2, l2, c2, zs, zss, rfl, w1, w2⟩ := machine_of (hval 0 46 v0 rfl rfl) h0
  clear hA0 hval0
  refine (walk a1 a2 l1 c1 l2 c2 zs zss W w1 w2).mono fun e W' ⟨he, bel⟩ => ?_
  subst he
  exact ⟨_, rfl, _, _, _, [], _, [], hW', trodAll_mk1 (shut_bool Try.underlying4 _), (trodAll_cons_mk (Below.trod laidOut (by kernel_rfl) (of_decide_eq_true (by kernel_rfl)) h0 bel lt0) trodAll_mk0), rfl, bel.frame _, fun h => by cases h⟩

theorem over : Rows.writesRow.holds Try.pinned (OpenSpec.ofChange Rows.writesSpec) :=
  OpenClaim.holds_of_wide 9 Try.f9 rfl rfl rfl rfl rfl rfl rfl ⟨rfl, rfl, rfl, rfl, rfl⟩ rfl rfl rfl rfl rfl (by kernel_rfl) Try.func9 (by kernel_rfl)
    (of_decide_eq_true (by kernel_rfl)) (by unfold Func.isWrapper; first | (rw [if_pos (by decide +kernel)]; kernel_rfl) | (rw [if_neg (by decide +kernel)]; exact ⟨rfl, rfl⟩))
    (fun os started H enc _ => lifted os started H enc)

theorem proved : Rows.WritesSaid := over
end Go.Proofs.Ytjagijohfkffiaa.writes
namespace Go.Proofs.Ytjagijohfkffiaa
theorem writes_holds : Rows.WritesSaid := writes.proved
end Go.Proofs.Ytjagijohfkffiaa
