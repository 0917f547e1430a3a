import Derived.Test.YtjagijohfkffiabCHEM05
import Derived.Test.YtjagijohfkffiabCHEM14

/- The walks of the reference's says and along. -/
namespace Go.Proofs.Ytjagijohfkffiab
open Go.RowKit
set_option linter.unusedVariables false

def saysB (x op : Nat) : Bool := if op = 112 then x.testBit 0 else if op = 113 then x.testBit 1 else x.testBit 2

theorem says_fin : ∀ x : Fin 8, ((x.val : Int) % 2 == 1) = x.val.testBit 0 ∧ ((x.val : Int) / 2 % 2 == 1) = x.val.testBit 1 ∧ ((x.val : Int) / 4 % 2 == 1) = x.val.testBit 2 := by decide

set_option maxHeartbeats 400000 in
theorem says_any (x op : Nat) (w : World) (hx : x < 8) (ho : op = 112 ∨ op = 113 ∨ op = 114) : Calls Try.prog 94 #[.int .i64 x, .int .u8 op] w fun e w' => e = .returned (.bool (saysB x op)) ∧ w' = w := by
  have F := hid (says_fin ⟨x, hx⟩)
  rcases ho with rfl | rfl | rfl
  · go_enter Try.func94, Try.ntmps94
    go_wp2
    go_ret
    exact ⟨ret_bool F.out.1, rfl⟩
  · go_enter Try.func94, Try.ntmps94
    go_wp2
    go_ret
    exact ⟨ret_bool F.out.2.1, rfl⟩
  · go_enter Try.func94, Try.ntmps94
    go_wp2
    go_ret
    exact ⟨ret_bool F.out.2.2, rfl⟩

/-- A row of bools in memory. -/
structure Rb (w : World) (g n : Nat) (f : Nat → Bool) : Prop where
  lt : g < w.heap.size
  cell : ∀ i, i < n → w.cell? ⟨g, i, none⟩ = some (.bool (f i))

theorem Rb.below {w w' : World} {g n : Nat} {f : Nat → Bool} (h : Rb w g n f) (hb : Below w.heap.size w w') : Rb w' g n f :=
  ⟨Nat.lt_of_lt_of_le h.lt hb.size, fun i hi => by rw [hb.cell (p := ⟨g, i, none⟩) h.lt]; exact h.cell i hi⟩

/-- So many steps on. -/
def al (op : Nat) (L R : Nat → Bool) (nx : Nat → Nat) : Nat → Nat → Bool
  | 0, _ => op == 71 || op == 82
  | s + 1, k =>
    if op = 70 then (if L k then true else al op L R nx s (nx k))
    else if op = 71 then (if L k then al op L R nx s (nx k) else false)
    else if op = 85 then (if R k then true else if L k then al op L R nx s (nx k) else false)
    else (if R k then (if L k then true else al op L R nx s (nx k)) else false)

set_option maxHeartbeats 800000 in
theorem along_F (gl n i back : Nat) (ro : Value) (L R : Nat → Bool) (w : World) (hl : Rb w gl n L) (hi : i < n) (hb : back < n) (hn : n ≤ 20000) :
    Calls Try.prog 123 #[.int .u8 70, .slice (some ⟨gl, 0, none⟩) n n, ro, .int .i64 i, .int .i64 back] w fun e w' => e = .returned (.bool (al 70 L R (lnx n back) (n + 1) i)) ∧ w' = w := by
  obtain ⟨V, hV⟩ : ∃ V, V = al 70 L R (lnx n back) (n + 1) i := ⟨_, rfl⟩
  rw [← hV]
  have HV := hid hV
  clear hV
  go_enter Try.func123, Try.ntmps123
  go_wp2_with fail
  go_loop [11, 12] (fun k st => ∃ kn sn : Nat, kn < n ∧ sn ≤ n + 1 ∧ k = .int .i64 kn ∧ st = .int .i64 sn ∧ Hid (V = al 70 L R (lnx n back) (n + 1 - sn) kn)) (fun _ st => n + 1 - (intOf st).toNat)
  case atStart => exact ⟨i, 0, hi, Nat.zero_le _, rfl, rfl, HV⟩
  case round =>
    obtain ⟨kn, sn, hk, hs, rfl, rfl, HA⟩ := hrel
    by_cases hlt : sn ≤ n
    · have c := hl.cell kn hk
      cases hL : L kn with
      | true =>
        have H2 : Hid (V = true) := hid (by rw [HA.out, show n + 1 - sn = (n - sn) + 1 by omega]; simp [al, hL])
        rw [hL] at c
        clear hL
        go_wp2_with fail
        go_ret
        exact ⟨by rw [H2.out]; rfl, rfl⟩
      | false =>
        have H2 : Hid (V = al 70 L R (lnx n back) (n + 1 - (sn + 1)) (lnx n back kn)) := hid (by rw [HA.out, show n + 1 - sn = (n + 1 - (sn + 1)) + 1 by omega]; simp [al, hL])
        rw [hL] at c
        clear hL
        by_cases he : kn + 1 = n
        · have hx : Hid (lnx n back kn = back) := hid (by unfold lnx; rw [if_neg (by omega)])
          have ke : ((kn : Int) + 1 == (n : Int)) = true := beq_iff_eq.2 (by omega)
          clear he
          go_wp2_with fail
          go_round
          case rel => exact ⟨back, sn + 1, hb, by omega, by go_num, by go_num, hid (by rw [H2.out, hx.out])⟩
          case measure => simp [intOf]; omega
        · have hx : Hid (lnx n back kn = kn + 1) := hid (by unfold lnx; rw [if_pos (by omega)])
          have ke : ((kn : Int) + 1 == (n : Int)) = false := beq_eq_false_iff_ne.2 (by omega)
          have he2 : kn + 1 < n := by omega
          clear he
          go_wp2_with fail
          go_round
          case rel => exact ⟨kn + 1, sn + 1, he2, by omega, by go_num, by go_num, hid (by rw [H2.out, hx.out])⟩
          case measure => simp [intOf]; omega
    · have H2 : Hid (V = false) := hid (by rw [HA.out, show n + 1 - sn = 0 by omega]; rfl)
      go_wp2_with fail
      go_ret
      exact ⟨by rw [H2.out]; rfl, rfl⟩

set_option maxHeartbeats 800000 in
theorem along_G (gl n i back : Nat) (ro : Value) (L R : Nat → Bool) (w : World) (hl : Rb w gl n L) (hi : i < n) (hb : back < n) (hn : n ≤ 20000) :
    Calls Try.prog 123 #[.int .u8 71, .slice (some ⟨gl, 0, none⟩) n n, ro, .int .i64 i, .int .i64 back] w fun e w' => e = .returned (.bool (al 71 L R (lnx n back) (n + 1) i)) ∧ w' = w := by
  obtain ⟨V, hV⟩ : ∃ V, V = al 71 L R (lnx n back) (n + 1) i := ⟨_, rfl⟩
  rw [← hV]
  have HV := hid hV
  clear hV
  go_enter Try.func123, Try.ntmps123
  go_wp2_with fail
  go_loop [11, 12] (fun k st => ∃ kn sn : Nat, kn < n ∧ sn ≤ n + 1 ∧ k = .int .i64 kn ∧ st = .int .i64 sn ∧ Hid (V = al 71 L R (lnx n back) (n + 1 - sn) kn)) (fun _ st => n + 1 - (intOf st).toNat)
  case atStart => exact ⟨i, 0, hi, Nat.zero_le _, rfl, rfl, HV⟩
  case round =>
    obtain ⟨kn, sn, hk, hs, rfl, rfl, HA⟩ := hrel
    by_cases hlt : sn ≤ n
    · have c := hl.cell kn hk
      cases hL : L kn with
      | true =>
        have H2 : Hid (V = al 71 L R (lnx n back) (n + 1 - (sn + 1)) (lnx n back kn)) := hid (by rw [HA.out, show n + 1 - sn = (n + 1 - (sn + 1)) + 1 by omega]; simp [al, hL])
        rw [hL] at c
        clear hL
        by_cases he : kn + 1 = n
        · have hx : Hid (lnx n back kn = back) := hid (by unfold lnx; rw [if_neg (by omega)])
          have ke : ((kn : Int) + 1 == (n : Int)) = true := beq_iff_eq.2 (by omega)
          clear he
          go_wp2_with fail
          go_round
          case rel => exact ⟨back, sn + 1, hb, by omega, by go_num, by go_num, hid (by rw [H2.out, hx.out])⟩
          case measure => simp [intOf]; omega
        · have hx : Hid (lnx n back kn = kn + 1) := hid (by unfold lnx; rw [if_pos (by omega)])
          have ke : ((kn : Int) + 1 == (n : Int)) = false := beq_eq_false_iff_ne.2 (by omega)
          have he2 : kn + 1 < n := by omega
          clear he
          go_wp2_with fail
          go_round
          case rel => exact ⟨kn + 1, sn + 1, he2, by omega, by go_num, by go_num, hid (by rw [H2.out, hx.out])⟩
          case measure => simp [intOf]; omega
      | false =>
        have H2 : Hid (V = false) := hid (by rw [HA.out, show n + 1 - sn = (n - sn) + 1 by omega]; simp [al, hL])
        rw [hL] at c
        clear hL
        go_wp2_with fail
        go_ret
        exact ⟨by rw [H2.out]; rfl, rfl⟩
    · have H2 : Hid (V = true) := hid (by rw [HA.out, show n + 1 - sn = 0 by omega]; rfl)
      go_wp2_with fail
      go_ret
      exact ⟨by rw [H2.out]; rfl, rfl⟩

set_option maxHeartbeats 800000 in
theorem along_U (gl n i back : Nat) (gr : Nat) (L R : Nat → Bool) (w : World) (hl : Rb w gl n L) (hr : Rb w gr n R) (hi : i < n) (hb : back < n) (hn : n ≤ 20000) :
    Calls Try.prog 123 #[.int .u8 85, .slice (some ⟨gl, 0, none⟩) n n, .slice (some ⟨gr, 0, none⟩) n n, .int .i64 i, .int .i64 back] w fun e w' => e = .returned (.bool (al 85 L R (lnx n back) (n + 1) i)) ∧ w' = w := by
  obtain ⟨V, hV⟩ : ∃ V, V = al 85 L R (lnx n back) (n + 1) i := ⟨_, rfl⟩
  rw [← hV]
  have HV := hid hV
  clear hV
  go_enter Try.func123, Try.ntmps123
  go_wp2_with fail
  go_loop [11, 12] (fun k st => ∃ kn sn : Nat, kn < n ∧ sn ≤ n + 1 ∧ k = .int .i64 kn ∧ st = .int .i64 sn ∧ Hid (V = al 85 L R (lnx n back) (n + 1 - sn) kn)) (fun _ st => n + 1 - (intOf st).toNat)
  case atStart => exact ⟨i, 0, hi, Nat.zero_le _, rfl, rfl, HV⟩
  case round =>
    obtain ⟨kn, sn, hk, hs, rfl, rfl, HA⟩ := hrel
    by_cases hlt : sn ≤ n
    · have c := hl.cell kn hk
      have c2 := hr.cell kn hk
      cases hR : R kn with
      | true =>
        have H2 : Hid (V = true) := hid (by rw [HA.out, show n + 1 - sn = (n - sn) + 1 by omega]; simp [al, hR])
        rw [hR] at c2
        clear hR
        go_wp2_with fail
        go_ret
        exact ⟨by rw [H2.out]; rfl, rfl⟩
      | false =>
        cases hL : L kn with
        | true =>
          have H2 : Hid (V = al 85 L R (lnx n back) (n + 1 - (sn + 1)) (lnx n back kn)) := hid (by rw [HA.out, show n + 1 - sn = (n + 1 - (sn + 1)) + 1 by omega]; simp [al, hR, hL])
          rw [hR] at c2
          rw [hL] at c
          clear hR hL
          by_cases he : kn + 1 = n
          · have hx : Hid (lnx n back kn = back) := hid (by unfold lnx; rw [if_neg (by omega)])
            have ke : ((kn : Int) + 1 == (n : Int)) = true := beq_iff_eq.2 (by omega)
            clear he
            go_wp2_with fail
            go_round
            case rel => exact ⟨back, sn + 1, hb, by omega, by go_num, by go_num, hid (by rw [H2.out, hx.out])⟩
            case measure => simp [intOf]; omega
          · have hx : Hid (lnx n back kn = kn + 1) := hid (by unfold lnx; rw [if_pos (by omega)])
            have ke : ((kn : Int) + 1 == (n : Int)) = false := beq_eq_false_iff_ne.2 (by omega)
            have he2 : kn + 1 < n := by omega
            clear he
            go_wp2_with fail
            go_round
            case rel => exact ⟨kn + 1, sn + 1, he2, by omega, by go_num, by go_num, hid (by rw [H2.out, hx.out])⟩
            case measure => simp [intOf]; omega
        | false =>
          have H2 : Hid (V = false) := hid (by rw [HA.out, show n + 1 - sn = (n - sn) + 1 by omega]; simp [al, hR, hL])
          rw [hR] at c2
          rw [hL] at c
          clear hR hL
          go_wp2_with fail
          go_ret
          exact ⟨by rw [H2.out]; rfl, rfl⟩
    · have H2 : Hid (V = false) := hid (by rw [HA.out, show n + 1 - sn = 0 by omega]; rfl)
      go_wp2_with fail
      go_ret
      exact ⟨by rw [H2.out]; rfl, rfl⟩

set_option maxHeartbeats 800000 in
theorem along_R (gl n i back : Nat) (gr : Nat) (L R : Nat → Bool) (w : World) (hl : Rb w gl n L) (hr : Rb w gr n R) (hi : i < n) (hb : back < n) (hn : n ≤ 20000) :
    Calls Try.prog 123 #[.int .u8 82, .slice (some ⟨gl, 0, none⟩) n n, .slice (some ⟨gr, 0, none⟩) n n, .int .i64 i, .int .i64 back] w fun e w' => e = .returned (.bool (al 82 L R (lnx n back) (n + 1) i)) ∧ w' = w := by
  obtain ⟨V, hV⟩ : ∃ V, V = al 82 L R (lnx n back) (n + 1) i := ⟨_, rfl⟩
  rw [← hV]
  have HV := hid hV
  clear hV
  go_enter Try.func123, Try.ntmps123
  go_wp2_with fail
  go_loop [11, 12] (fun k st => ∃ kn sn : Nat, kn < n ∧ sn ≤ n + 1 ∧ k = .int .i64 kn ∧ st = .int .i64 sn ∧ Hid (V = al 82 L R (lnx n back) (n + 1 - sn) kn)) (fun _ st => n + 1 - (intOf st).toNat)
  case atStart => exact ⟨i, 0, hi, Nat.zero_le _, rfl, rfl, HV⟩
  case round =>
    obtain ⟨kn, sn, hk, hs, rfl, rfl, HA⟩ := hrel
    by_cases hlt : sn ≤ n
    · have c := hl.cell kn hk
      have c2 := hr.cell kn hk
      cases hR : R kn with
      | true =>
        cases hL : L kn with
        | true =>
          have H2 : Hid (V = true) := hid (by rw [HA.out, show n + 1 - sn = (n - sn) + 1 by omega]; simp [al, hR, hL])
          rw [hR] at c2
          rw [hL] at c
          clear hR hL
          go_wp2_with fail
          go_ret
          exact ⟨by rw [H2.out]; rfl, rfl⟩
        | false =>
          have H2 : Hid (V = al 82 L R (lnx n back) (n + 1 - (sn + 1)) (lnx n back kn)) := hid (by rw [HA.out, show n + 1 - sn = (n + 1 - (sn + 1)) + 1 by omega]; simp [al, hR, hL])
          rw [hR] at c2
          rw [hL] at c
          clear hR hL
          by_cases he : kn + 1 = n
          · have hx : Hid (lnx n back kn = back) := hid (by unfold lnx; rw [if_neg (by omega)])
            have ke : ((kn : Int) + 1 == (n : Int)) = true := beq_iff_eq.2 (by omega)
            clear he
            go_wp2_with fail
            go_round
            case rel => exact ⟨back, sn + 1, hb, by omega, by go_num, by go_num, hid (by rw [H2.out, hx.out])⟩
            case measure => simp [intOf]; omega
          · have hx : Hid (lnx n back kn = kn + 1) := hid (by unfold lnx; rw [if_pos (by omega)])
            have ke : ((kn : Int) + 1 == (n : Int)) = false := beq_eq_false_iff_ne.2 (by omega)
            have he2 : kn + 1 < n := by omega
            clear he
            go_wp2_with fail
            go_round
            case rel => exact ⟨kn + 1, sn + 1, he2, by omega, by go_num, by go_num, hid (by rw [H2.out, hx.out])⟩
            case measure => simp [intOf]; omega
      | false =>
        have H2 : Hid (V = false) := hid (by rw [HA.out, show n + 1 - sn = (n - sn) + 1 by omega]; simp [al, hR])
        rw [hR] at c2
        clear hR
        go_wp2_with fail
        go_ret
        exact ⟨by rw [H2.out]; rfl, rfl⟩
    · have H2 : Hid (V = true) := hid (by rw [HA.out, show n + 1 - sn = 0 by omega]; rfl)
      go_wp2_with fail
      go_ret
      exact ⟨by rw [H2.out]; rfl, rfl⟩

/-- So many steps on all that comes has been seen. -/
theorem al_F {n back : Nat} (hb : back < n) (L R : Nat → Bool) (i : Nat) (hi : i < n) : al 70 L R (lnx n back) (n + 1) i = true ↔ ∃ s, L (it (lnx n back) s i) = true := by
  have key : ∀ s k, al 70 L R (lnx n back) s k = true ↔ ∃ m, m < s ∧ L (it (lnx n back) m k) = true := by
    intro s
    induction s with
    | zero => intro k; simp [al]
    | succ s ih =>
      intro k
      simp only [al, if_true]
      cases hL : L k with
      | true => simp; exact ⟨0, by omega, hL⟩
      | false =>
        simp only [Bool.false_eq_true, if_false]
        rw [ih]
        constructor
        · rintro ⟨m, hm, h⟩; exact ⟨m + 1, by omega, h⟩
        · rintro ⟨m, hm, h⟩
          cases m with
          | zero => simp [it, hL] at h
          | succ m => exact ⟨m, by omega, h⟩
  rw [key]
  constructor
  · rintro ⟨m, _, h⟩; exact ⟨m, h⟩
  · rintro ⟨m, h⟩
    obtain ⟨s, hs, h1, _⟩ := UU_near hb (A := fun _ => True) (B := fun i => L i = true) hi ⟨m, h, fun _ _ => trivial⟩
    exact ⟨s, by omega, h1⟩
theorem al_G {n back : Nat} (hb : back < n) (L R : Nat → Bool) (i : Nat) (hi : i < n) : al 71 L R (lnx n back) (n + 1) i = true ↔ ∀ s, L (it (lnx n back) s i) = true := by
  have key : ∀ s k, al 71 L R (lnx n back) s k = true ↔ ∀ m, m < s → L (it (lnx n back) m k) = true := by
    intro s
    induction s with
    | zero => intro k; simp [al]
    | succ s ih =>
      intro k
      simp only [al, Nat.reduceEqDiff, if_false, if_true]
      cases hL : L k with
      | false => simp; exact ⟨0, by omega, hL⟩
      | true =>
        simp only [if_true]
        rw [ih]
        constructor
        · intro h m hm
          cases m with
          | zero => exact hL
          | succ m => exact h m (by omega)
        · intro h m hm; exact h (m + 1) (by omega)
  rw [key]
  constructor
  · intro h s
    refine Classical.byContradiction fun hc => ?_
    obtain ⟨s, hs, h1, _⟩ := UU_near hb (A := fun _ => True) (B := fun i => ¬ L i = true) hi ⟨s, hc, fun _ _ => trivial⟩
    exact h1 (h s (by omega))
  · intro h m _; exact h m
theorem al_U {n back : Nat} (hb : back < n) (L R : Nat → Bool) (i : Nat) (hi : i < n) : al 85 L R (lnx n back) (n + 1) i = true ↔ ∃ s, R (it (lnx n back) s i) = true ∧ ∀ m, m < s → L (it (lnx n back) m i) = true := by
  have key : ∀ s k, al 85 L R (lnx n back) s k = true ↔ ∃ t, t < s ∧ R (it (lnx n back) t k) = true ∧ ∀ m, m < t → L (it (lnx n back) m k) = true := by
    intro s
    induction s with
    | zero => intro k; simp [al]
    | succ s ih =>
      intro k
      simp only [al, Nat.reduceEqDiff, if_false, if_true]
      cases hR : R k with
      | true => simp only [if_true, true_iff]; exact ⟨0, by omega, hR, fun m hm => by omega⟩
      | false =>
        simp only [Bool.false_eq_true, if_false]
        cases hL : L k with
        | false =>
          simp only [Bool.false_eq_true, if_false, false_iff]
          rintro ⟨t, _, h1, h2⟩
          cases t with
          | zero => simp [it, hR] at h1
          | succ t => have := h2 0 (by omega); simp [it, hL] at this
        | true =>
          simp only [if_true]
          rw [ih]
          constructor
          · rintro ⟨t, ht, h1, h2⟩
            refine ⟨t + 1, by omega, h1, fun m hm => ?_⟩
            cases m with
            | zero => exact hL
            | succ m => exact h2 m (by omega)
          · rintro ⟨t, ht, h1, h2⟩
            cases t with
            | zero => simp [it, hR] at h1
            | succ t => exact ⟨t, by omega, h1, fun m hm => h2 (m + 1) (by omega)⟩
  rw [key]
  constructor
  · rintro ⟨t, _, h⟩; exact ⟨t, h⟩
  · intro h
    obtain ⟨s, hs, h1, h2⟩ := UU_near hb (A := fun i => L i = true) (B := fun i => R i = true) hi h
    exact ⟨s, by omega, h1, h2⟩
theorem al_R {n back : Nat} (hb : back < n) (L R : Nat → Bool) (i : Nat) (hi : i < n) : al 82 L R (lnx n back) (n + 1) i = true ↔ ∀ s, R (it (lnx n back) s i) = true ∨ ∃ m, m < s ∧ L (it (lnx n back) m i) = true := by
  have key : ∀ s k, al 82 L R (lnx n back) s k = !al 85 (fun i => !L i) (fun i => !R i) (lnx n back) s k := by
    intro s
    induction s with
    | zero => intro k; rfl
    | succ s ih =>
      intro k
      simp only [al, Nat.reduceEqDiff, if_false, if_true]
      rw [ih (lnx n back k)]
      generalize al 85 (fun i => !L i) (fun i => !R i) (lnx n back) s (lnx n back k) = v
      by_cases hR : R k = true <;> by_cases hL : L k = true <;> simp [hR, hL]
  have h2 := al_U hb (fun i => !L i) (fun i => !R i) i hi
  rw [key]
  constructor
  · intro h s
    have h3 : ¬ al 85 (fun i => !L i) (fun i => !R i) (lnx n back) (n + 1) i = true := by simpa using h
    rw [h2] at h3
    cases hR : R (it (lnx n back) s i) with
    | true => exact Or.inl rfl
    | false =>
      refine Or.inr (Classical.byContradiction fun hc => h3 ⟨s, by simp [hR], fun m hm => ?_⟩)
      cases hL : L (it (lnx n back) m i) with
      | false => rfl
      | true => exact absurd ⟨m, hm, hL⟩ hc
  · intro h
    cases hv : al 85 (fun i => !L i) (fun i => !R i) (lnx n back) (n + 1) i with
    | false => rfl
    | true =>
      obtain ⟨s, h3, h4⟩ := h2.1 hv
      rcases h s with h5 | ⟨m, hm, h5⟩
      · simp [h5] at h3
      · have := h4 m hm; simp [h5] at this

end Go.Proofs.Ytjagijohfkffiab

/- The walk of the reference's row. -/
namespace Go.Proofs.Ytjagijohfkffiab
open Go.RowKit
set_option linter.unusedVariables false

theorem Try.infoBool : (Try.prog.info? 4).map (fun i => (i.zero, i.size, i.bytes)) = some (some (.bool false), 1, 1) := by kernel_rfl

/-- The parts of the nodes ns lie in the blocks bs. -/
def Parts (w : World) (ns : List Nd) (bs : List Nat) : Prop := ∀ (i : Nat) (nd : Nd), ns[i]? = some nd → ∃ b, bs[i]? = some b ∧ w.heap[b]? = some (partObj bs i nd)

theorem Parts.below {w w' : World} {ns : List Nd} {bs : List Nat} (h : Parts w ns bs) (hb : Below w.heap.size w w') : Parts w' ns bs := fun i nd hn => by
  obtain ⟨b, e, hh⟩ := h i nd hn
  exact ⟨b, e, by rw [hb.block b (heap_lt hh)]; exact hh⟩

/-- The letters of the word in memory. -/
structure Wd (w : World) (g n cap : Nat) (xs : List Nat) : Prop where
  lt : g < w.heap.size
  cap : n ≤ cap
  cell : ∀ i, i < n → w.cell? ⟨g, i, none⟩ = some (.int .i64 (ltOf xs i : Nat))

theorem Wd.below {w w' : World} {g n cap : Nat} {xs : List Nat} (h : Wd w g n cap xs) (hb : Below w.heap.size w w') : Wd w' g n cap xs :=
  ⟨Nat.lt_of_lt_of_le h.lt hb.size, h.cap, fun i hi => by rw [hb.cell (p := ⟨g, i, none⟩) h.lt]; exact h.cell i hi⟩

/-- What has been written of a row, up to j. -/
def outTo (f : Nat → Bool) (n j : Nat) : List Value := (List.range n).map fun i => .bool (if i < j then f i else false)
theorem outTo_zero (f : Nat → Bool) (n : Nat) : outTo f n 0 = List.replicate n (.bool false) := by
  unfold outTo
  apply List.ext_getElem
  · simp
  · intro i h1 h2; simp
theorem outTo_set (f : Nat → Bool) (n j : Nat) : (outTo f n j).set j (.bool (f j)) = outTo f n (j + 1) := by
  unfold outTo
  apply List.ext_getElem
  · simp
  · intro i h1 h2
    simp at h1
    rw [List.getElem_set]
    by_cases e : j = i
    · subst e; simp
    · simp only [if_neg e, List.getElem_map, List.getElem_range]
      by_cases h : i < j
      · rw [if_pos h, if_pos (by omega)]
      · rw [if_neg h, if_neg (by omega)]
theorem outTo_get (f : Nat → Bool) (n i : Nat) (hi : i < n) : (outTo f n n)[i]? = some (.bool (f i)) := by
  unfold outTo
  simp [hi]

theorem grown_trans {a b c : World} {row : Option Nat} (h : a.grownBy b row) (k : b.grownBy c row) : a.grownBy c row :=
  ⟨k.os.trans h.os, k.tape.trans h.tape, k.output.trans h.output, Nat.le_trans h.size k.size, fun q hq hr => (k.block q (Nat.lt_of_lt_of_le hq h.size) hr).trans (h.block q hq hr)⟩
theorem grown_drew {a b : World} {row : Option Nat} (h : a.grownBy b row) : a.grownBy b.drew row := ⟨h.os, h.tape, h.output, h.size, h.block⟩
theorem grown_cell {a b : World} {g q o : Nat} (h : a.grownBy b (some g)) (hq : q < a.heap.size) (hne : q ≠ g) : b.cell? ⟨q, o, none⟩ = a.cell? ⟨q, o, none⟩ :=
  World.cell?_of_block (h.block q hq (by simpa using hne))

theorem Rb.grown {a b : World} {g q n : Nat} {f : Nat → Bool} (h : Rb a q n f) (hg : a.grownBy b (some g)) (hne : q ≠ g) : Rb b q n f :=
  ⟨Nat.lt_of_lt_of_le h.lt hg.size, fun i hi => by rw [grown_cell hg h.lt hne]; exact h.cell i hi⟩

theorem den_rows {nx lt : Nat → Nat} {nd : Nd} {r1 r2 : List (Nat → Prop)} (hl : leafB nd.op = false → r1.getD nd.l (fun _ => False) = r2.getD nd.l (fun _ => False)) (hr : twoB nd.op = true → r1.getD nd.r (fun _ => False) = r2.getD nd.r (fun _ => False))
    (hop : leafB nd.op = true ∨ oneB nd.op = true ∨ twoB nd.op = true) (i : Nat) : den nx lt nd r1 i ↔ den nx lt nd r2 i := by
  unfold den
  rcases hop with hop | hop | hop
  · rcases leaf_is hop with e | e | e | e | e <;> simp [e]
  · have h1 := hl (leaf_not_one hop)
    rcases one_is hop with e | e | e | e <;> simp only [e, h1, Nat.reduceEqDiff, if_false, if_true]
  · have h1 := hl (two_not_leaf hop)
    have h2 := hr hop
    rcases two_is hop with e | e | e | e <;> simp only [e, h1, h2, Nat.reduceEqDiff, if_false, if_true]

theorem wf2_class {ns : List Nd} (h : Wf2 ns) {k : Nat} {nd : Nd} (hn : ns[k]? = some nd) : (leafB nd.op = true ∨ oneB nd.op = true ∨ twoB nd.op = true) ∧ (leafB nd.op = false → nd.l < k) ∧ (twoB nd.op = true → nd.r < k) := by
  rcases h k nd hn with ⟨h1, _, _⟩ | ⟨h1, h2, _⟩ | ⟨h1, h2, h3⟩
  · exact ⟨Or.inl h1, fun h => by rw [h1] at h; simp at h, fun h => by rw [leaf_not_two h1] at h; simp at h⟩
  · exact ⟨Or.inr (Or.inl h1), fun _ => h2, fun h => by rw [one_not_two h1] at h; simp at h⟩
  · exact ⟨Or.inr (Or.inr h1), fun _ => h2, fun _ => h3⟩

theorem sem_den {nx lt : Nat → Nat} {ns : List Nd} {k : Nat} {nd : Nd} (hn : ns[k]? = some nd) (hw : Wf2 ns) (i : Nat) : sem nx lt ns k i ↔ den nx lt nd (rows nx lt ns) i := by
  obtain ⟨hk, e⟩ := List.getElem?_eq_some_iff.1 hn
  obtain ⟨hc, h1, h2⟩ := wf2_class hw hn
  have e1 : ns = (ns.take k ++ [nd]) ++ ns.drop (k + 1) := by
    rw [List.append_assoc, ← e]
    simp
  have hlen : (ns.take k).length = k := by simp; omega
  have e2 : sem nx lt ns k i = den nx lt nd (rows nx lt (ns.take k)) i := by
    have h3 := sem_new nx lt (ns.take k) nd i
    rw [hlen] at h3
    rw [← h3]
    conv => lhs; rw [e1]
    exact sem_pre (by simp; omega) i
  have e3 : ∀ l, l < k → (rows nx lt (ns.take k)).getD l (fun _ => False) = (rows nx lt ns).getD l (fun _ => False) := by
    intro l hl
    funext j
    have h4 : sem nx lt (ns.take k ++ ns.drop k) l j = sem nx lt (ns.take k) l j := sem_pre (by omega) j
    rw [List.take_append_drop] at h4
    exact h4.symm
  rw [e2]
  exact den_rows (fun h => e3 _ (h1 h)) (fun h => e3 _ (h2 h)) hc i

theorem part_cells' {w : World} {P : Nat} {c0 c1 c2 c3 : Value} (h : w.heap[P]? = some (.cells #[c0, c1, c2, c3] 181 (0, 0))) :
    w.cell? ⟨P, 0, none⟩ = some c0 ∧ w.cell? ⟨P, 1, none⟩ = some c1 ∧ w.cell? ⟨P, 2, none⟩ = some c2 ∧ w.cell? ⟨P, 3, none⟩ = some c3 := by
  refine ⟨?_, ?_, ?_, ?_⟩ <;> (rw [cell_of_row w P _ _ _ _ h]; rfl)

section
variable (ns : List Nd) (bs : List Nat) (gw n wcap back : Nat) (xs : List Nat)

def RowPost (k : Nat) (w : World) (e : Ending) (w' : World) : Prop :=
  ∃ (g : Nat) (f : Nat → Bool), e = .returned (.slice (some ⟨g, 0, none⟩) n n) ∧ (∀ i, i < n → (f i = true ↔ sem (lnx n back) (ltOf xs) ns k i)) ∧ w.heap.size ≤ g ∧ Rb w' g n f ∧ Below w.heap.size w w'

def RowAt (k : Nat) : Prop := ∀ (w : World) (b : Nat), Parts w ns bs → Wd w gw n wcap xs → bs[k]? = some b →
  Calls Try.prog 98 #[.pointer (some ⟨b, 0, none⟩), .slice (some ⟨gw, 0, none⟩) n wcap, .int .i64 back] w (RowPost ns n back xs k w)

/-- The end of a row that has been written. -/
theorem row_done {k : Nat} {w wS wr : World} {f : Nat → Bool} (hbS : Below w.heap.size w wS) (hg : wS.grownBy wr (some w.heap.size)) (hsz : w.heap.size < wS.heap.size)
    (own : wr.ownsRow w.heap.size 4 1 (.slice (some ⟨w.heap.size, 0, none⟩) n n) n (outTo f n n)) (hf : ∀ i, i < n → (f i = true ↔ sem (lnx n back) (ltOf xs) ns k i)) :
    RowPost ns n back xs k w (.returned (.slice (some ⟨w.heap.size, 0, none⟩) n n)) wr := by
  refine ⟨w.heap.size, f, rfl, hf, Nat.le_refl _, ⟨Nat.lt_of_lt_of_le hsz hg.size, fun i hi => ?_⟩, hbS.grown hg hbS.size (fun k h => by cases h; exact Nat.le_refl _)⟩
  rw [own.cellAt i (by omega)]
  exact outTo_get f n i hi
end

end Go.Proofs.Ytjagijohfkffiab
