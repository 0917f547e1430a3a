/- Reads: the walk and the row (within the bulk). -/
import Derived.Test.YtjagijohfkffiaaRefRun
import Derived.ProofKit
import Derived.OpenShut
import Derived.ShutString
import Derived.ChangeOld
import Derived.JoinedCond
namespace Go.Proofs.Ytjagijohfkffiaa.reads
open Go.ChangeShapes Go.WideShapes Go.ChangeAt Go.RowKit
open Go.ChangeMaps (open_string shut_string)
set_option linter.unusedVariables false

theorem own : ownKnob Try.prog.godebug = none := by kernel_rfl
theorem laidOut : laidOutB Try.prog = true := by kernel_rfl

set_option maxHeartbeats 400000 in
theorem numm_any (n : Int) (w : World) : Calls Try.prog 17 #[.int .i64 n] w fun e w' => e = .returned (.int .i64 n) ∧ w' = w := by
  go_enter Try.func17, Try.ntmps17
  go_wp2
  go_ret
  exact ⟨rfl, rfl⟩

/-- What Read hands out, as it is read. -/
theorem read_forms {s : ByteArray} {w : World} {e : Ending} {w' : World} (h : ReadDone s w e w') : ∃ a1 l1 c1 a2 l2 c2 os ls, e = .returned (.tuple #[.agg #[.slice a1 l1 c1, .slice a2 l2 c2], .int .i64 (readErr s)]) ∧ Below w.heap.size w w' ∧
    Ints w' a1 l1 c1 os ∧ Lists w' a2 l2 c2 ls ∧ l1 = (if readB s = true then bt s 0 else 0) ∧ l2 = (if readB s = true then bt s 0 else 0) ∧ os = (if readB s = true then outsTo (statesOf s (bt s 0)) (bt s 0) else []) ∧ ls = (if readB s = true then nextTo (statesOf s (bt s 0)) (bt s 0) else []) := by
  obtain ⟨hb, v1, v2, he, ⟨hr, rfl, rfl⟩ | ⟨hr, V, L⟩⟩ := h
  · refine ⟨none, 0, 0, none, 0, 0, [], [], he, hb, ⟨rfl, Nat.le_refl _, by omega, fun _ => ⟨rfl, rfl⟩, fun h => by omega⟩, ⟨rfl, Nat.le_refl _, by omega, fun _ => ⟨rfl, rfl⟩, fun h => by omega⟩, ?_⟩
    simp [hr]
  · obtain ⟨a1, c1, rfl, hI⟩ := L.ints
    obtain ⟨a2, c2, rfl, hL⟩ := L.lists
    refine ⟨a1, _, c1, a2, _, c2, _, _, he, hb, hI, hL, ?_⟩
    simp [hr]

set_option maxHeartbeats 1000000 in
theorem walk (s : ByteArray) (a1 : Option Addr) (l1 c1 : Nat) (u : List Int) (w : World) (hm : s.size ≤ 1048576) (h1 : Ints w a1 l1 c1 u) :
    Calls Try.prog 10 #[.string s, .slice a1 l1 c1] w fun e w' => e = .returned (.bool true) ∧ Below w.heap.size w w' := by
  have hm2 : s.size ≤ maxLen := by unfold maxLen; omega
  have C1 := read_any s w hm2
  have C2 := fun W => rread_any s W hm
  have C3 := fun W (b : Below w.heap.size w W) => vrun_any s a1 l1 c1 u W hm2 (h1.below b)
  have C4 := fun W (b : Below w.heap.size w W) => rrun_any s a1 l1 c1 u W hm (h1.below b)
  generalize runVal s u = rv at *
  generalize runErr s u = re at *
  go_enter Try.func10, Try.ntmps10
  go_wp2_with fail
  refine C1.mono ?_
  intro e w1 hd1
  obtain ⟨x1, y1, z1, x2, y2, z2, os, ls, rfl, hb1, I1, L1, ey1, ey2, eos, els⟩ := read_forms hd1
  clear hd1 C1
  have EY1 := hid ey1
  have EY2 := hid ey2
  have EOS := hid eos
  have ELS := hid els
  clear ey1 ey2 eos els
  generalize hre : readErr s = er at *
  have HRE := hid hre
  clear hre
  have tw := two_new w1 (.slice x1 y1 z1) (.slice x2 y2 z2) 46
  have bx := (Below.refl w1.heap.size w1).alloc (Nat.le_refl _) (.cells #[.slice x1 y1 z1, .slice x2 y2 z2] 46)
  go_wp2_with fail
  refine (C2 _).mono ?_
  intro e w2 hd2
  obtain ⟨x3, y3, z3, x4, y4, z4, os2, ls2, rfl, hb2, I2, L2, ey3, ey4, eos2, els2⟩ := read_forms hd2
  obtain rfl : y3 = y1 := by rw [ey3, EY1.out]
  obtain rfl : y4 = y2 := by rw [ey4, EY2.out]
  obtain rfl : os2 = os := by rw [eos2, EOS.out]
  obtain rfl : ls2 = ls := by rw [els2, ELS.out]
  rw [HRE.out]
  have tw2 := tw.below hb2 (by simp)
  have I1' := (I1.below bx).below hb2
  have L1' := (L1.below bx).below hb2
  have bB := hb1.trans ((bx.mono hb1.size).trans (hb2.mono (by have := hb1.size; simp; omega)))
  have HBB := hid bB
  have tw3 := two_new w2 (.slice x3 y3 z3) (.slice x4 y4 z4) 46
  have bx2 := (Below.refl w2.heap.size w2).alloc (Nat.le_refl _) (.cells #[.slice x3 y3 z3, .slice x4 y4 z4] 46)
  have tw4 := tw2.below bx2 tw2.lt
  have S := sameMachine_yes x1 x2 x3 x4 y3 z1 y4 z2 z3 z4 os2 ls2 _ (I1'.below bx2) (L1'.below bx2) (I2.below bx2) (L2.below bx2)
  have p0 := tw4.c0
  have p1 := tw4.c1
  have hsz := bB.size
  clear hd2 ey3 ey4 eos2 els2 hb2 tw tw2 tw3 tw4 I1 L1 I1' L1' I2 L2 bx hb1 C2 bB
  go_wp2_with fail
  refine S.mono ?_
  rintro e w3 ⟨rfl, hb3⟩
  have B3 := hid (HBB.out.trans ((bx2.mono hsz).trans (hb3.mono (by simp; omega))))
  clear hb3 S p0 p1 bx2
  go_wp2_with fail
  refine (C3 _ B3.out).mono ?_
  rintro e w4 ⟨rfl, hb4⟩
  have B4 := hid (B3.out.trans (hb4.mono B3.out.size))
  clear hb4 C3
  go_wp2_with fail
  refine (C4 _ B4.out).mono ?_
  rintro e w5 ⟨rfl, hb5⟩
  have B5 := hid (B4.out.trans (hb5.mono B4.out.size))
  clear hb5 C4
  go_wp2
  all_goals go_ret
  all_goals exact ⟨rfl, B5.out⟩

/-- A slice of ints among the arguments. -/
theorem ints_of {H : Type} {enc : TypeId × Value → H} {W : World} {a : Option Addr} {len cap : Nat} {d : DataW H} {p : List MemPlace} (h : DataW.Trod enc Try.prog W 0 (fun _ => true) true 27 (.slice a len cap) d p) : ∃ zs, Ints W a len cap zs := by
  obtain ⟨fuel, hf⟩ := h
  rcases open_ints Try.underlying27 Try.underlying3 (by kernel_rfl) hf with ⟨hcs, _⟩ | ⟨x, l, c, zs, hcs, _, hl, hm, hz, _, hcell, hwz⟩
  · simp [Value.cells] at hcs
    obtain ⟨rfl, rfl, rfl⟩ := hcs
    exact ⟨[], rfl, Nat.le_refl _, by omega, fun _ => ⟨rfl, rfl⟩, fun h => by omega⟩
  · simp [Value.cells] at hcs
    obtain ⟨rfl, rfl, rfl⟩ := hcs
    have hz2 : zs.length = cap := by simpa using hz
    unfold maxLen at hm
    refine ⟨zs.take len, by rw [List.length_take]; omega, hl, hm, fun h => by simp at h, fun h0 => ?_⟩
    obtain ⟨b, off, hx, hc⟩ := ints_at hcell (by omega)
    subst hx
    refine ⟨b, off, rfl, World.block_lt_of_cell? W ⟨b, off + 0, none⟩ (hc 0 (by omega)), fun i hi => ?_⟩
    rw [hc i (by omega)]
    simp [List.getD, List.getElem?_take_of_lt hi]

/-- What the bound gives: the text's length. -/
theorem short {H : Type} {s : ByteArray} {l : List (DataW H)} (hk : Rows.uptoSmall H (.lit (.string s.data.toList) :: l) = true) : s.size ≤ 1048576 := by
  have h : Rows.uptoBulkAll (DataW.lit (H := H) (.string s.data.toList) :: l) ≤ 1048576 := of_decide_eq_true hk
  simp only [Rows.uptoBulkAll, Rows.uptoBulk] at h
  have e : s.data.toList.length = s.size := by rw [Array.length_toList]; rfl
  omega

set_option maxRecDepth 100000 in
theorem lifted (os : Os) (started : os.Started) (H : Type) (enc : TypeId × Value → H) (F : Stop.Interp) :
    ReturnsInHanded {} Try.checked os 10 .any ((Rows.OpenSpec.upto Rows.readsSpec).pre6 enc Try.prog Try.f10 Rows.readsUptoRow.domain false) (((Rows.OpenSpec.upto Rows.readsSpec).at F).post enc Try.prog Try.f10 false true false false) := by
  refine returnsInHanded_of_cond (C := Try.checked) (s := Rows.OpenSpec.upto Rows.readsSpec) (k := Rows.uptoSmall) rfl own started (by kernel_rfl) Try.func10
    (OpenSpec.witness (enc := enc) (C := Try.checked) (s := Rows.OpenSpec.upto Rows.readsSpec) (k := Rows.uptoSmall) rfl false ⟨#[], #[.string .empty, .slice none 0 0], []⟩ 8 (by kernel_rfl) (by kernel_rfl) (by kernel_rfl)
      (x := ([.lit (.string []), .nil], [], [])) (by kernel_rfl) rfl (by kernel_rfl)) ?_
  intro W base args ds gs before hval0 hW _ hk _
  have hval : ∀ (j : Nat) t v, Try.f10.params[j]? = some t → args[j]? = some v → Value.okWide Try.prog W .any base t v := hval0
  have hW' := hW
  obtain ⟨p, q, hA0, hV, rfl, hfz, hnd⟩ := hW
  have hA : DataW.TrodAll enc Try.prog W 0 (fun _ => true) true Try.f10.params.toList args.toList ds p := hA0
  rw [Try.params10] at hA hval
  obtain ⟨v0, vs0, d0, ds0, p0, q0, hargs, rfl, rfl, h0, r0⟩ := trodAll_cons hA
  obtain ⟨v1, vs1, d1, ds1, p1, q1, rfl, rfl, rfl, h1, r1⟩ := trodAll_cons r0
  obtain ⟨rfl, rfl, rfl⟩ := trodAll_nil r1
  obtain rfl : args = #[v0, v1] := by cases args; simp_all
  obtain ⟨rfl, rfl⟩ := trodVars_none hV
  obtain ⟨a0, rfl, rfl, rfl, w0⟩ := open_string Try.underlying9 (hval 0 9 v0 rfl rfl) h0
  obtain ⟨a1, len1, cap1, rfl⟩ := okWide_slice Try.underlying27 (hval 1 27 v1 rfl rfl)
  have lt1 : ∀ x ∈ p1, x.block < W.heap.size := by obtain ⟨m, hm⟩ := h1; exact DataW.trod_lt m _ _ _ hm
  obtain ⟨z1, w1⟩ := ints_of h1
  clear hA0 hval0
  refine (walk a0 a1 len1 cap1 z1 W (short hk) w1).mono fun e W' ⟨he, bel⟩ => ?_
  subst he
  exact ⟨_, rfl, _, _, _, [], _, [], hW', trodAll_mk1 (shut_bool Try.underlying4 _), (trodAll_cons_mk (shut_string Try.underlying9 w0) (trodAll_cons_mk (Below.trod laidOut (by kernel_rfl) (of_decide_eq_true (by kernel_rfl)) h1 bel lt1) trodAll_mk0)), rfl, bel.frame _, fun h => by cases h⟩

theorem proved : Rows.ReadsUptoSaid :=
  OpenClaim.holds_of_cond 10 Try.f10 rfl rfl rfl rfl rfl rfl rfl ⟨rfl, rfl, rfl, rfl, rfl⟩ rfl rfl rfl rfl rfl (by kernel_rfl) Try.func10 (by kernel_rfl)
    (of_decide_eq_true (by kernel_rfl)) (by unfold Func.isWrapper; first | (rw [if_pos (by decide +kernel)]; kernel_rfl) | (rw [if_neg (by decide +kernel)]; exact ⟨rfl, rfl⟩))
    (fun os started H enc _ F => lifted os started H enc F)
end Go.Proofs.Ytjagijohfkffiaa.reads
namespace Go.Proofs.Ytjagijohfkffiaa
theorem reads_holds : Rows.ReadsUptoSaid := reads.proved
end Go.Proofs.Ytjagijohfkffiaa
