import Derived.Test.YtjagijohfkffiaaWM43
import Derived.ProofKit
import Derived.OpenShut
import Derived.ShutString
import Derived.ChangeOld

/- Watches: the walk and the row. -/
namespace Go.Proofs.Ytjagijohfkffiaa.watches
open Go.ChangeShapes Go.WideShapes Go.ChangeAt Go.RowKit
open Go.ChangeMaps (open_string shut_string)
set_option linter.unusedVariables false

theorem own : ownKnob Try.prog.godebug = none := by kernel_rfl
theorem laidOut : laidOutB Try.prog = true := by kernel_rfl

set_option maxHeartbeats 400000 in
theorem numm_any (n : Int) (w : World) : Calls Try.prog 17 #[.int .i64 n] w fun e w' => e = .returned (.int .i64 n) ∧ w' = w := by
  go_enter Try.func17, Try.ntmps17
  go_wp2
  go_ret
  exact ⟨rfl, rfl⟩

theorem rwatch_any (s : ByteArray) (w : World) (hm : s.size ≤ maxLen) : Calls Try.prog 31 #[.string s] w (RWatched s w) := by
  by_cases h : (parseOf s).1 = 0
  · exact rwatch_yes s w hm h
  · exact rwatch_no s w hm h

theorem machS_lists {ns : List Nd} {ss : List St} {n : Nat} {out : Nat → Nat} {nx : Nat → Nat → Nat} (h : MachS ns ss) (k : Mach ns n out nx) : ss.length = n ∧ outsTo ss n = iList ((List.range n).map out) ∧ nextTo ss n = (List.range n).map fun i => iList ((List.range 8).map fun l => nx i l) := by
  obtain ⟨out1, nx1, hM, hs⟩ := h
  obtain ⟨rfl, e1, e2⟩ := mach_fun hM k
  have st : ∀ i, i < ss.length → stAt ss i = stK (out1 i) (nx1 i) := fun i hi => by simp [stAt, List.getD, hs i hi]
  refine ⟨rfl, ?_, ?_⟩
  · unfold outsTo iList
    rw [List.map_map]
    refine List.map_congr_left fun i hi => ?_
    have hi' : i < ss.length := by simpa using hi
    rw [st i hi', e1 i hi']
    rfl
  · unfold nextTo
    refine List.map_congr_left fun i hi => ?_
    have hi' : i < ss.length := by simpa using hi
    rw [st i hi']
    have e3 : ∀ l, l < 8 → nx1 i l = nx i l := fun l hl => e2 i l hi' hl
    simp only [stK, e3 0 (by omega), e3 1 (by omega), e3 2 (by omega), e3 3 (by omega), e3 4 (by omega), e3 5 (by omega), e3 6 (by omega), e3 7 (by omega)]
    rfl

set_option maxHeartbeats 1000000 in
theorem walk (a0 : ByteArray) (w0 : a0.size ≤ maxLen) (w : World) :
    Calls Try.prog 8 #[.string a0] w fun e w' => e = .returned (.bool true) ∧ Below w.heap.size w w' := by
  have C1 := watch_any a0 w w0
  have C2 := fun W => rwatch_any a0 W w0
  unfold Watched at C1
  unfold RWatched at C2
  generalize parseOf a0 = p at *
  go_enter Try.func8, Try.ntmps8
  go_wp2_with fail
  refine C1.mono ?_
  rintro e w1 ⟨v1, v2, er1, rfl, p1, q1, hb1⟩
  have HF1 : Hid ((p.1 ≠ 0 ∧ er1 = p.1 ∧ v1 = .slice none 0 0 ∧ v2 = .slice none 0 0) ∨ (p.1 = 0 ∧ er1 = 0 ∧ ∃ ss V, Lies w1 w.heap.size v1 v2 V ss ss.length ∧ ss.length ≤ 8 ∧ MachS p.2 ss) ∨ (p.1 = 0 ∧ er1 = 7 ∧ v1 = .slice none 0 0 ∧ v2 = .slice none 0 0 ∧ Big p.2)) := hid (by
    by_cases h0 : p.1 = 0
    · rcases q1 h0 with ⟨h1, ss, V, h2, _, h3, h4⟩ | ⟨h1, h2, h3, h4⟩
      · exact Or.inr (Or.inl ⟨h0, h1, ss, V, h2, h3, h4⟩)
      · exact Or.inr (Or.inr ⟨h0, h1, h2, h3, h4⟩)
    · exact Or.inl ⟨h0, p1 h0⟩)
  obtain ⟨x1, l1, c1, hv1⟩ : ∃ a l c, v1 = .slice a l c := by
    rcases HF1.out with ⟨_, _, h, _⟩ | ⟨_, _, ss, V, h, _⟩ | ⟨_, _, h, _⟩
    · exact ⟨_, _, _, h⟩
    · obtain ⟨a, c, e⟩ := own_slice h.out
      exact ⟨a, _, c, e⟩
    · exact ⟨_, _, _, h⟩
  obtain ⟨x2, l2, c2, hv2⟩ : ∃ a l c, v2 = .slice a l c := by
    rcases HF1.out with ⟨_, _, _, h⟩ | ⟨_, _, ss, V, h, _⟩ | ⟨_, _, _, h, _⟩
    · exact ⟨_, _, _, h⟩
    · obtain ⟨a, c, e⟩ := own_slice h.nxt
      exact ⟨a, _, c, e⟩
    · exact ⟨_, _, _, h⟩
  subst hv1
  subst hv2
  clear p1 q1 C1
  have ba := hid ((Below.refl w1.heap.size w1).alloc (Nat.le_refl _) (.cells #[.slice x1 l1 c1, .slice x2 l2 c2] 46))
  go_wp2_with fail
  refine (C2 _).mono ?_
  rintro e w2 ⟨u1, u2, er2, rfl, p2, q2, hb2⟩
  simp only [World.size_alloc] at hb2
  have bw := hid (ba.out.trans (hb2.mono (by omega)))
  have nilI : ∀ W : World, Ints W none 0 0 [] := fun W => ⟨rfl, Nat.le_refl _, by omega, fun _ => ⟨rfl, rfl⟩, fun h => by omega⟩
  have nilL : ∀ W : World, Lists W none 0 0 [] := fun W => ⟨rfl, Nat.le_refl _, by omega, fun _ => ⟨rfl, rfl⟩, fun h => by omega⟩
  obtain ⟨y1, m1, d1, y2, m2, d2, os, ls, hu1, hu2, I1, L1, I2, L2, her⟩ : ∃ y1 m1 d1 y2 m2 d2 os ls, u1 = .slice y1 m1 d1 ∧ u2 = .slice y2 m2 d2 ∧ Ints w2 x1 l1 c1 os ∧ Lists w2 x2 l2 c2 ls ∧ Ints w2 y1 m1 d1 os ∧ Lists w2 y2 m2 d2 ls ∧ er1 = er2 := by
    rcases HF1.out with ⟨h0, h1, h2, h3⟩ | ⟨h0, h1, ss, V, h2, h3, h4⟩ | ⟨h0, h1, h2, h3, h4⟩
    · obtain ⟨k1, k2, k3⟩ := p2 h0
      cases h2
      cases h3
      exact ⟨_, _, _, _, _, _, [], [], k2, k3, nilI _, nilL _, nilI _, nilL _, by rw [h1, k1]⟩
    · rcases q2 h0 with ⟨k1, n, out, nx, k2, k3, ⟨a, c, k4, k5⟩, ⟨a', c', k6, k7⟩⟩ | ⟨_, _, _, k4⟩
      · obtain ⟨e1, e2, e3⟩ := machS_lists h4 k2
        have hL := h2.keeps bw.out
        obtain ⟨b1, b2, f1, f2⟩ := hL.ints
        obtain ⟨b3, b4, f3, f4⟩ := hL.lists
        cases f1
        cases f3
        rw [e1, e2] at f2
        rw [e1, e3] at f4
        rw [e1]
        exact ⟨_, _, _, _, _, _, _, _, k4, k6, f2, f4, k5, k7, by rw [h1, k1]⟩
      · obtain ⟨o9, n9, hM, _⟩ := h4
        have := k4 _ _ _ hM
        omega
    · rcases q2 h0 with ⟨k1, n, out, nx, k2, k3, _⟩ | ⟨k1, k2, k3, k4⟩
      · have := h4 _ _ _ k2
        omega
      · cases h2
        cases h3
        exact ⟨_, _, _, _, _, _, [], [], k2, k3, nilI _, nilL _, nilI _, nilL _, by rw [h1, k1]⟩
  subst hu1
  subst hu2
  subst her
  have hm1 : m1 = l1 := by rw [← I1.hlen, ← I2.hlen]
  have hm2 : m2 = l2 := by rw [← L1.hlen, ← L2.hlen]
  subst hm1
  subst hm2
  have T1 := (two_new w1 (.slice x1 m1 c1) (.slice x2 m2 c2) 46).below hb2 (by simp)
  have t0 := T1.c0
  have t1 := T1.c1
  have tl := T1.lt
  have bc := (Below.refl w2.heap.size w2).alloc (Nat.le_refl _) (.cells #[.slice y1 m1 d1, .slice y2 m2 d2] 46)
  have SM := hid (sameMachine_yes x1 x2 y1 y2 m1 c1 m2 c2 d1 d2 os ls _ (I1.below bc) (L1.below bc) (I2.below bc) (L2.below bc))
  have B := hid (((hb1.trans (bw.out.mono hb1.size)).trans (bc.mono (hb1.trans (bw.out.mono hb1.size)).size)))
  clear HF1 C2 p2 q2 hb1 hb2 bw ba nilI nilL I1 L1 I2 L2 T1 bc
  go_wp2_with fail
  refine SM.out.mono ?_
  rintro e w3 ⟨rfl, hb3⟩
  have B3 := hid (B.out.trans (hb3.mono B.out.size))
  clear SM hb3
  go_wp2
  go_ret
  exact ⟨rfl, B3.out⟩

set_option maxRecDepth 100000 in
theorem lifted (os : Os) (started : os.Started) (H : Type) (enc : TypeId × Value → H) :
    ReturnsInHanded {} Try.checked os 8 .any (Rows.watchesSpec.pre6 enc Try.prog Try.f8 Rows.watchesRow.domain false) (Rows.watchesSpec.post enc Try.prog Try.f8 false true false false) := by
  refine returnsInHanded_of_change (C := Try.checked) own started (by kernel_rfl) Try.func8
    (ChangeSpec.witness6 (enc := enc) (C := Try.checked) false ⟨#[], #[.string ByteArray.empty], []⟩ 8 (by kernel_rfl) (by kernel_rfl) (by kernel_rfl) (by kernel_rfl)) ?_
  intro W base args ds gs before hval0 hW hcnd _
  have hval : ∀ (j : Nat) t v, Try.f8.params[j]? = some t → args[j]? = some v → Value.okWide Try.prog W .any base t v := hval0
  have hW' := hW
  obtain ⟨p, q, hA0, hV, rfl, hfz, hnd⟩ := hW
  have hA : DataW.TrodAll enc Try.prog W 0 (fun _ => true) true Try.f8.params.toList args.toList ds p := hA0
  rw [Try.params8] at hA hval
  obtain ⟨v0, vs0, d0, ds0, p0, q0, hargs, rfl, rfl, h0, r0⟩ := trodAll_cons hA
  obtain ⟨rfl, rfl, rfl⟩ := trodAll_nil r0
  obtain rfl : args = #[v0] := by cases args; simp_all
  obtain ⟨rfl, rfl⟩ := trodVars_none hV
  obtain ⟨a0, rfl, rfl, rfl, w0⟩ := open_string Try.underlying9 (hval 0 9 v0 rfl rfl) h0
  clear hA0 hval0
  refine (walk a0 w0 W).mono fun e W' ⟨he, bel⟩ => ?_
  subst he
  exact ⟨_, rfl, _, _, _, [], _, [], hW', trodAll_mk1 (shut_bool Try.underlying4 _), (trodAll_cons_mk (shut_string Try.underlying9 w0) trodAll_mk0), rfl, bel.frame _, fun h => by cases h⟩

theorem over : Rows.watchesRow.holds Try.pinned (OpenSpec.ofChange Rows.watchesSpec) :=
  OpenClaim.holds_of_wide 8 Try.f8 rfl rfl rfl rfl rfl rfl rfl ⟨rfl, rfl, rfl, rfl, rfl⟩ rfl rfl rfl rfl rfl (by kernel_rfl) Try.func8 (by kernel_rfl)
    (of_decide_eq_true (by kernel_rfl)) (by unfold Func.isWrapper; first | (rw [if_pos (by decide +kernel)]; kernel_rfl) | (rw [if_neg (by decide +kernel)]; exact ⟨rfl, rfl⟩))
    (fun os started H enc _ => lifted os started H enc)

theorem proved : Rows.WatchesSaid := over
end Go.Proofs.Ytjagijohfkffiaa.watches
namespace Go.Proofs.Ytjagijohfkffiaa
theorem watches_holds : Rows.WatchesSaid := watches.proved
end Go.Proofs.Ytjagijohfkffiaa
