/- The walks of machine.Run and Run. -/
import Derived.Test.YtjagijohfkffiaaFromB
namespace Go.Proofs.Ytjagijohfkffiaa
open Go.RowKit
set_option linter.unusedVariables false

def stepS (ss : List St) (k : Nat) (z : Int) : Nat := ((stAt ss k).next.getD z.toNat 0).toNat
def runS (ss : List St) (u : List Int) : Nat := u.foldl (stepS ss) 0

theorem stAt_ok {ss : List St} (hw : wfB ss = true) {k : Nat} (hk : k < ss.length) : stB ss.length k (stAt ss k) = true := (wfB_iff.1 hw).2.2 k hk
theorem stepS_lt {ss : List St} (hw : wfB ss = true) (h8 : Eight ss) {k : Nat} (hk : k < ss.length) {z : Int} (hz : isL z = true) : stepS ss k z < ss.length ∧ (stAt ss k).next.getD z.toNat 0 = (stepS ss k z : Int) := by
  have hz2 := isL_iff.1 hz
  have h := (stB_small (stAt_ok hw hk)).2.2 z.toNat (by rw [eight_at h8 hk]; omega)
  unfold stepS
  omega
theorem runS_take {ss : List St} (hw : wfB ss = true) (h8 : Eight ss) {u : List Int} (hu : allL u = true) : ∀ j, j ≤ u.length → runS ss (u.take j) < ss.length
  | 0, _ => by
    have := (wfB_iff.1 hw).1
    simp [runS]; omega
  | j + 1, hj => by
    have ih := runS_take hw h8 hu j (by omega)
    unfold runS at ih ⊢
    rw [List.take_succ_eq_append_getElem (by omega), List.foldl_append]
    simp only [List.foldl_cons, List.foldl_nil]
    refine (stepS_lt hw h8 ih ?_).1
    unfold allL at hu
    rw [List.all_eq_true] at hu
    exact hu _ (List.getElem_mem _)
theorem runS_succ {ss : List St} {u : List Int} {j : Nat} (hj : j < u.length) : runS ss (u.take (j + 1)) = stepS ss (runS ss (u.take j)) (u.getD j 0) := by
  unfold runS
  rw [List.take_succ_eq_append_getElem hj, List.foldl_append]
  simp [List.getD, List.getElem?_eq_getElem hj]
theorem allL_get {u : List Int} (hu : allL u = true) {j : Nat} (hj : j < u.length) : isL (u.getD j 0) = true := by
  unfold allL at hu
  rw [List.all_eq_true] at hu
  simpa [List.getD, List.getElem?_eq_getElem hj] using hu _ (List.getElem_mem hj)

set_option maxHeartbeats 2000000 in
set_option maxRecDepth 100000 in
theorem mrun_any (g n cap B : Nat) (ss : List St) (a1 : Option Addr) (l1 c1 : Nat) (u : List Int) (w : World) (hr : w.ownsRow B 150 9 (.slice (some ⟨g, 0, none⟩) n cap) n (flatS ss)) (h8 : Eight ss) (hl : ss.length = n) (hw : wfB ss = true) (hcap : n ≤ cap) (h1 : Ints w a1 l1 c1 u) (hu : allL u = true) :
    Calls Try.prog 73 #[.slice (some ⟨g, 0, none⟩) n cap, .slice a1 l1 c1] w fun e w' => e = .returned (.int .i64 (stAt ss (runS ss u)).out) ∧ w' = w := by
  have HR := hid hr
  have m1 := h1.hmax
  have m3 := h1.hcap
  have L1 := h1.hlen
  obtain ⟨hn1, hn8, _⟩ := wfB_iff.1 hw
  rw [hl] at hn1 hn8
  clear hr
  go_enter Try.func73, Try.ntmps73
  go_wp2_with fail
  go_loop [10, 5] (fun i a => ∃ j k : Nat, j ≤ l1 ∧ i = .int .i64 j ∧ a = .int .i64 k ∧ k < n ∧ Hid (k = runS ss (u.take j))) (fun i _ => l1 - (intOf i).toNat)
  case atStart => exact ⟨0, 0, Nat.zero_le _, rfl, rfl, by omega, hid (by simp [runS])⟩
  case round =>
    obtain ⟨j, k, hj, rfl, rfl, hk, HK⟩ := hrel
    by_cases hlt : j < l1
    · obtain ⟨b1, o1, rfl, hlt1, hc1⟩ := h1.hcell (by omega)
      have c := hc1 j hlt
      have hx := allL_get hu (j := j) (by omega)
      have hs := stepS_lt hw h8 (k := k) (by omega) hx
      have HS : Hid (runS ss (u.take (j + 1)) = stepS ss k (u.getD j 0)) := hid (by rw [HK.out]; exact runS_succ (by omega))
      have hxb := isL_iff.1 hx
      generalize u.getD j 0 = x at *
      obtain ⟨a, rfl⟩ := Int.eq_ofNat_of_zero_le hxb.1
      have ca := own_state HR.out h8 hl (j := k) hk (1 + a) (by omega)
      have he : (stCells (stAt ss k))[1 + a]? = some (.int .i64 (stepS ss k (a : Int) : Nat)) := by
        have h9 : (stAt ss k).next.length = 8 := eight_at h8 (by omega)
        have : a < (stAt ss k).next.length := by omega
        rw [← hs.2, show 1 + a = a + 1 by omega]
        simp [stCells, List.getD, List.getElem?_eq_getElem this]
      rw [he, ← Nat.add_assoc] at ca
      clear he hc1
      have hlt2 := hs.1
      rw [hl] at hlt2
      clear hs
      generalize stepS ss k (a : Int) = k2 at *
      have d1 : decide ((k : Int) < 0) = false := by simp
      have d2 : decide ((n : Int) ≤ (k : Int)) = false := by simp; omega
      have d3 : decide ((a : Int) < 0) = false := by simp
      have d4 : decide (8 ≤ (a : Int)) = false := by simp; omega
      go_wp2_with fail
      go_round
      case rel => exact ⟨j + 1, k2, by omega, by go_num, rfl, hlt2, hid HS.out.symm⟩
      case measure => simp [intOf]; omega
    · have HE : Hid (k = runS ss u) := hid (by rw [HK.out, List.take_of_length_le (by omega)])
      have ca := own_state HR.out h8 hl (j := k) hk 0 (by decide)
      rw [show (stCells (stAt ss k))[0]? = some (.int .i64 (stAt ss k).out) from rfl, Nat.add_zero] at ca
      have d1 : decide ((k : Int) < 0) = false := by simp
      have d2 : decide ((n : Int) ≤ (k : Int)) = false := by simp; omega
      have HO : Hid ((stAt ss (runS ss u)).out = (stAt ss k).out) := hid (by rw [HE.out])
      generalize (stAt ss k).out = o at *
      go_wp2_with fail
      go_ret
      exact ⟨by rw [HO.out]; rfl, rfl⟩

def runErr (s : ByteArray) (u : List Int) : Nat := if readB s = true then (if allL u = true then 0 else 6) else 9
def runVal (s : ByteArray) (u : List Int) : Int := if readB s = true ∧ allL u = true then (stAt (statesOf s (bt s 0)) (runS (statesOf s (bt s 0)) u)).out else 0

set_option maxHeartbeats 1000000 in
theorem vrun_any (s : ByteArray) (a1 : Option Addr) (l1 c1 : Nat) (u : List Int) (w : World) (hm : s.size ≤ maxLen) (h1 : Ints w a1 l1 c1 u) :
    Calls Try.prog 37 #[.string s, .slice a1 l1 c1] w fun e w' => e = .returned (.tuple #[.int .i64 (runVal s u), .int .i64 (runErr s u)]) ∧ Below w.heap.size w w' := by
  have F := from_any s w hm
  cases hr : readB s with
  | false =>
    have HV : Hid (runVal s u = 0 ∧ runErr s u = 9) := hid ⟨by simp [runVal, hr], by simp [runErr, hr]⟩
    have HR := hid hr
    clear hr
    go_enter Try.func37, Try.ntmps37
    go_wp2_with fail
    refine F.mono ?_
    rintro e w2 ⟨hb2, ⟨_, rfl⟩ | ⟨hx, _⟩⟩
    · have B2 := hid hb2
      clear hb2 F
      go_wp2_with fail
      go_ret2
      exact ⟨by rw [HV.out.1, HV.out.2]; rfl, B2.out⟩
    · rw [HR.out] at hx; cases hx
  | true =>
    have HR := hid hr
    have hs := readB_is hr
    cases hu : allL u with
    | false =>
      have HV : Hid (runVal s u = 0 ∧ runErr s u = 6) := hid ⟨by simp [runVal, hu], by simp [runErr, hr, hu]⟩
      have A := fun W (b : Below w.heap.size w W) => allLetters_any a1 l1 c1 u W (h1.below b)
      rw [hu] at A
      clear hr hu
      go_enter Try.func37, Try.ntmps37
      go_wp2_with fail
      refine F.mono ?_
      rintro e w2 ⟨hb2, ⟨hx, _⟩ | ⟨_, g, cap, rfl, own⟩⟩
      · rw [HR.out] at hx; cases hx
      · have B2 := hid hb2
        clear hb2 F own hs
        generalize bt s 0 = n at *
        go_wp2_with fail
        refine (A _ B2.out).mono ?_
        rintro e w3 ⟨rfl, rfl⟩
        go_wp2_with fail
        go_ret2
        exact ⟨by rw [HV.out.1, HV.out.2]; rfl, B2.out⟩
    | true =>
      have HV : Hid (runVal s u = (stAt (statesOf s (bt s 0)) (runS (statesOf s (bt s 0)) u)).out ∧ runErr s u = 0) := hid ⟨by simp [runVal, hu, hr], by simp [runErr, hr, hu]⟩
      have A := fun W (b : Below w.heap.size w W) => allLetters_any a1 l1 c1 u W (h1.below b)
      rw [hu] at A
      have R := fun W g cap (b : Below w.heap.size w W) own hcap => mrun_any g (bt s 0) cap w.heap.size (statesOf s (bt s 0)) a1 l1 c1 u W own (statesOf_eight s _) (statesOf_len s _) hs.2.2 hcap (h1.below b) hu
      have hpos := (wfB_iff.1 hs.2.2).1
      rw [statesOf_len] at hpos
      clear hr hu hs
      generalize hst : statesOf s (bt s 0) = ss at *
      unfold FromDone at F
      rw [hst] at F
      generalize bt s 0 = n at *
      go_enter Try.func37, Try.ntmps37
      go_wp2_with fail
      refine F.mono ?_
      rintro e w2 ⟨hb2, ⟨hx, _⟩ | ⟨_, g, cap, rfl, own⟩⟩
      · rw [HR.out] at hx; cases hx
      · have B2 := hid hb2
        obtain ⟨g', eg, _, _, hcap⟩ := own_at' own (by omega)
        cases eg
        have R2 := R w2 g cap hb2 own hcap
        clear hb2 F own R
        generalize (stAt ss (runS ss u)).out = o at *
        go_wp2_with fail
        refine (A _ B2.out).mono ?_
        rintro e w3 ⟨rfl, rfl⟩
        go_wp2_with fail
        refine R2.mono ?_
        rintro e w4 ⟨rfl, rfl⟩
        go_wp2_with fail
        go_ret2
        exact ⟨by rw [HV.out.1, HV.out.2]; rfl, B2.out⟩

end Go.Proofs.Ytjagijohfkffiaa
