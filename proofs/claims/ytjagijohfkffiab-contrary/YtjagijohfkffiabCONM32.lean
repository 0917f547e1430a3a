import Derived.Test.YtjagijohfkffiabCONM05
import Derived.Test.YtjagijohfkffiabCONM24
import Derived.Test.YtjagijohfkffiabCONM31
import Derived.BigQuiet

/- The kind of Gp; the walks of classing and other. -/
namespace Go.Proofs.Ytjagijohfkffiab
open Go.RowKit
set_option linter.unusedVariables false

theorem gp_kind {sf co lv : Bool} (h : Kind gpN sf co lv) : sf = true ∧ co = false ∧ lv = false := by
  refine ⟨h.safe.2 ?_, ?_, ?_⟩
  · rintro ⟨x, hL, hs, hno⟩
    have h1 : ¬ ∀ t, (x t).testBit 0 = true := fun c => by
      have := hs.1 ((gp_sem x).2 c)
      cases this
    have h2 : ∃ t, x t % 2 = 0 := Classical.byContradiction fun c => h1 fun t => (bit0 _).2 (by
      have : ¬ x t % 2 = 0 := fun e => c ⟨t, e⟩
      omega)
    obtain ⟨t, ht⟩ := h2
    have h3 := gp_tells (pre x (t + 1)) (pre_lt hL (t + 1))
    rcases gp_run0 (pre x (t + 1)) with ⟨_, h5⟩ | ⟨h4, _⟩
    · have := h5 (x t) (by rw [pre_succ]; simp)
      omega
    · rw [h4] at h3
      exact hno (t + 1) h3
  · cases e : co with
    | false => rfl
    | true =>
      exfalso
      refine h.cosafe.1 e ⟨fun _ => 1, fun _ => by simp, ⟨fun _ => rfl, fun _ => (gp_sem _).2 fun t => by simp⟩, fun k hk => ?_⟩
      have h3 := gp_tells (pre (fun _ => 1) k) (pre_lt (fun _ => by simp) k)
      have := verdict_fun h3 hk
      unfold gpO at this
      split at this <;> omega
  · cases e : lv with
    | false => rfl
    | true =>
      exfalso
      have h3 := gp_tells [0] (fun x hx => by simp at hx; omega)
      exact h.live.1 e [0] (fun x hx => by simp at hx; omega) h3

set_option maxHeartbeats 1000000 in
set_option maxRecDepth 100000 in
theorem classing_any (w : World) : Calls Try.prog 9 #[] w fun e w' => e = .returned (.bool true) ∧ Below w.heap.size w w' := by
  have C1 := fun W => class_any ⟨#[71, 112]⟩ W (by decide)
  unfold Classed at C1
  rw [gp_parse] at C1
  go_enter Try.func9, Try.ntmps9
  go_wp2_with fail
  refine (C1 _).mono ?_
  rintro e w1 ⟨sf, co, lv, rfl, q, _, hb1⟩
  obtain ⟨rfl, rfl, rfl⟩ := gp_kind (q trivial)
  have HB := hid (hb1.trans (((Below.refl w1.heap.size w1).alloc (Nat.le_refl _) (.cells #[.bool true, .bool false, .bool false] 30)).mono hb1.size))
  clear C1 hb1 q
  go_wp2
  go_ret
  exact ⟨rfl, HB.out⟩

set_option maxHeartbeats 400000 in
theorem other_any (v : Nat) (w : World) (h : v = 0 ∨ v = 1 ∨ v = 2) : Calls Try.prog 15 #[.int .i64 v] w fun e w' => e = .returned (.int .i64 (otherV v : Nat)) ∧ w' = w := by
  rcases h with rfl | rfl | rfl
  all_goals
    go_enter Try.func15, Try.ntmps15
    go_wp2
    go_ret
    exact ⟨rfl, rfl⟩

end Go.Proofs.Ytjagijohfkffiab

/- Worlds that differ in one block alone. -/
namespace Go.Proofs.Ytjagijohfkffiab
open Go.RowKit
set_option linter.unusedVariables false

structure ButAt (g : Nat) (w w' : World) : Prop where
  size : w.heap.size ≤ w'.heap.size
  block : ∀ i, i < w.heap.size → i ≠ g → w'.heap[i]? = w.heap[i]?
theorem ButAt.refl (g : Nat) (w : World) : ButAt g w w := ⟨Nat.le_refl _, fun _ _ _ => rfl⟩
theorem ButAt.drewN {g : Nat} {w w' : World} (h : ButAt g w w') (n : Nat) : ButAt g w (w'.drewN n) := ⟨h.size, h.block⟩
theorem ButAt.drew {g : Nat} {w w' : World} (h : ButAt g w w') : ButAt g w w'.drew := ⟨h.size, h.block⟩
theorem ButAt.grown {g : Nat} {w w' w'' : World} (h : ButAt g w w') (hg : w'.grownBy w'' (some g)) : ButAt g w w'' :=
  ⟨Nat.le_trans h.size hg.size, fun i hi hne => (hg.block i (Nat.lt_of_lt_of_le hi h.size) (by simpa using hne)).trans (h.block i hi hne)⟩
theorem ButAt.trans {g : Nat} {w w' w'' : World} (h : ButAt g w w') (k : ButAt g w' w'') : ButAt g w w'' :=
  ⟨Nat.le_trans h.size k.size, fun i hi hne => (k.block i (Nat.lt_of_lt_of_le hi h.size) hne).trans (h.block i hi hne)⟩
theorem ButAt.cell {g : Nat} {w w' : World} (h : ButAt g w w') {b o : Nat} (hb : b < w.heap.size) (hne : b ≠ g) : w'.cell? ⟨b, o, none⟩ = w.cell? ⟨b, o, none⟩ := by
  have := h.block b hb hne
  unfold World.cell?
  simp only [this]
theorem own_but {g : Nat} {B : Nat} {e : TypeId} {s : Nat} {v : Value} {n : Nat} {xs : List Value} {w w' : World} (h : w.ownsRow B e s v n xs) (hs : ButAt g w w') (hne : v.ownBlock ≠ some g) : w'.ownsRow B e s v n xs := by
  refine ⟨h.1, ?_⟩
  rcases h.2 with h0 | ⟨g', cap, cur, ev, hb, hg, r⟩
  · exact Or.inl h0
  · refine Or.inr ⟨g', cap, cur, ev, hb, (hs.block g' (Array.getElem?_eq_some_iff.1 hg).1 (fun e => hne ?_)).trans hg, r⟩
    rw [ev, e]
    rfl

end Go.Proofs.Ytjagijohfkffiab

/- The walk of verdictkeep's sameMachine, of two that are the same. -/
namespace Go.Proofs.Ytjagijohfkffiab
open Go.RowKit
set_option linter.unusedVariables false

set_option maxHeartbeats 4000000 in
set_option maxRecDepth 100000 in
theorem ksame_yes (a1 a2 b1 b2 : Option Addr) (l1 c1 l2 c2 d1 d2 : Nat) (os : List Int) (ls : List (List Int)) (w : World) (h1 : Ints w a1 l1 c1 os) (h2 : Lists w a2 l2 c2 ls) (k1 : Ints w b1 l1 d1 os) (k2 : Lists w b2 l2 d2 ls) :
    Calls Try.prog 16 #[.agg #[.slice a1 l1 c1, .slice a2 l2 c2], .agg #[.slice b1 l1 d1, .slice b2 l2 d2]] w fun e w' => e = .returned (.bool true) ∧ Below w.heap.size w w' := by
  have m1 := h1.hmax
  have m2 := h1.hcap
  have m3 := h2.hmax
  have m4 := h2.hcap
  have B := ((Below.refl w.heap.size w).alloc (Nat.le_refl _) (.cells #[.slice a1 l1 c1, .slice a2 l2 c2] 35)).alloc (by simp) (.cells #[.slice b1 l1 d1, .slice b2 l2 d2] 35)
  have TA := (two_new w (.slice a1 l1 c1) (.slice a2 l2 c2) 35).below ((Below.refl (w.heap.size + 1) _).alloc (by simp) (.cells #[.slice b1 l1 d1, .slice b2 l2 d2] 35)) (by omega)
  have TB := two_new (w.alloc (.cells #[.slice a1 l1 c1, .slice a2 l2 c2] 35)) (.slice b1 l1 d1) (.slice b2 l2 d2) 35
  rw [show (w.alloc (.cells #[.slice a1 l1 c1, .slice a2 l2 c2] 35)).heap.size = w.heap.size + 1 by simp] at TB
  have H1 := hid (h1.below B)
  have H2 := hid (h2.below B)
  have K1 := hid (k1.below B)
  have K2 := hid (k2.below B)
  have e1 : ((l1 : Int) != (l1 : Int)) = false := by simp
  have e2 : ((l2 : Int) != (l2 : Int)) = false := by simp
  have HB := hid B
  have x0 := TA.c0
  have x1 := TA.c1
  have y0 := TB.c0
  have y1 := TB.c1
  clear h1 h2 k1 k2 B TA TB
  go_enter Try.func16, Try.ntmps16
  go_wp2_with fail
  generalize ((w.alloc (.cells #[.slice a1 l1 c1, .slice a2 l2 c2] 35)).alloc (.cells #[.slice b1 l1 d1, .slice b2 l2 d2] 35)) = W at *
  have x0' : ∀ n, (W.drewN n).cell? ⟨w.heap.size, 0, none⟩ = some (.slice a1 l1 c1) := fun n => x0
  have x1' : ∀ n, (W.drewN n).cell? ⟨w.heap.size, 1, none⟩ = some (.slice a2 l2 c2) := fun n => x1
  have y0' : ∀ n, (W.drewN n).cell? ⟨w.heap.size + 1, 0, none⟩ = some (.slice b1 l1 d1) := fun n => y0
  have y1' : ∀ n, (W.drewN n).cell? ⟨w.heap.size + 1, 1, none⟩ = some (.slice b2 l2 d2) := fun n => y1
  go_loopw [5] (fun x wq => ∃ j : Nat, j ≤ l1 ∧ x = .int .i64 j ∧ ∃ n, wq = W.drewN n) (fun x _ => l1 - (intOf x).toNat)
  case atStart => exact ⟨0, Nat.zero_le _, rfl, 0, rfl⟩
  case round =>
    obtain ⟨j, hj, rfl, n, rfl⟩ := hrel
    have u0 := x0' n
    have v0 := y0' n
    by_cases hlj : j < l1
    · obtain ⟨b, o, e, hb, hc⟩ := H1.out.hcell (by omega)
      subst e
      obtain ⟨b', o', e, hb', hc'⟩ := K1.out.hcell (by omega)
      subst e
      have p1 : (W.drewN n).cell? ⟨b, o + j, none⟩ = some (.int .i64 (os.getD j 0)) := hc j hlj
      have p2 : (W.drewN n).cell? ⟨b', o' + j, none⟩ = some (.int .i64 (os.getD j 0)) := hc' j hlj
      generalize os.getD j 0 = z at *
      have ez : (z != z) = false := by simp
      go_wp2_with fail
      go_quiet (fail)
      go_wp2_with fail
      go_roundw
      case rel => exact ⟨j + 1, by omega, by go_num, _, rfl⟩
      case measure => simp [intOf]; omega
    · obtain rfl : j = l1 := by omega
      go_wp2_with fail
      go_loopw [6] (fun x wq => ∃ j : Nat, j ≤ l2 ∧ x = .int .i64 j ∧ ∃ n, wq = W.drewN n) (fun x _ => l2 - (intOf x).toNat)
      case atStart => exact ⟨0, Nat.zero_le _, rfl, n, rfl⟩
      case round =>
        obtain ⟨i, hi, rfl, n, rfl⟩ := hrel
        have u1 := x1' n
        have v1 := y1' n
        by_cases hli : i < l2
        · obtain ⟨b, o, e, hb, hc⟩ := H2.out.hcell (by omega)
          subst e
          obtain ⟨b', o', e, hb', hc'⟩ := K2.out.hcell (by omega)
          subst e
          obtain ⟨r, rl, rc, q1, I1⟩ := hc i hli
          obtain ⟨r', rl', rc', q2, I2⟩ := hc' i hli
          obtain rfl : rl' = rl := by rw [← I1.hlen, ← I2.hlen]
          have q1' : ∀ n, (W.drewN n).cell? ⟨b, o + i, none⟩ = some (.slice r rl' rc) := fun n => q1
          have q2' : ∀ n, (W.drewN n).cell? ⟨b', o' + i, none⟩ = some (.slice r' rl' rc') := fun n => q2
          have g1 := q1' n
          have g2 := q2' n
          have rm := I1.hmax
          have rcp := I1.hcap
          have el : ((rl' : Int) != (rl' : Int)) = false := by simp
          clear hc hc'
          go_wp2_with fail
          go_quiet (fail)
          rw [World.drewN_drewN]
          generalize n + nq = n2 at *
          go_wp2_with fail
          go_loopw [7] (fun x wq => ∃ j : Nat, j ≤ rl' ∧ x = .int .i64 j ∧ ∃ n, wq = W.drewN n) (fun x _ => rl' - (intOf x).toNat)
          case atStart => exact ⟨0, Nat.zero_le _, rfl, n2, rfl⟩
          case round =>
            obtain ⟨k, hk, rfl, n, rfl⟩ := hrel
            have u1 := x1' n
            have v1 := y1' n
            have g1 := q1' n
            have g2 := q2' n
            by_cases hlk : k < rl'
            · obtain ⟨br, or, e, _, hr⟩ := I1.hcell (by omega)
              subst e
              obtain ⟨br', or', e, _, hr'⟩ := I2.hcell (by omega)
              subst e
              have p1 : (W.drewN n).cell? ⟨br, or + k, none⟩ = some (.int .i64 ((ls.getD i []).getD k 0)) := hr k hlk
              have p2 : (W.drewN n).cell? ⟨br', or' + k, none⟩ = some (.int .i64 ((ls.getD i []).getD k 0)) := hr' k hlk
              generalize (ls.getD i []).getD k 0 = z at *
              have ez : (z != z) = false := by simp
              go_wp2_with fail
              go_quiet (fail)
              go_wp2_with fail
              go_roundw
              case rel => exact ⟨k + 1, by omega, by go_num, _, rfl⟩
              case measure => simp [intOf]; omega
            · obtain rfl : k = rl' := by omega
              go_wp2_with fail
              go_roundw
              case rel => exact ⟨i + 1, by omega, by go_num, n, rfl⟩
              case measure => simp [intOf]; omega
        · obtain rfl : i = l2 := by omega
          go_wp2_with fail
          go_ret
          exact ⟨rfl, below_drewN HB.out n⟩

end Go.Proofs.Ytjagijohfkffiab
