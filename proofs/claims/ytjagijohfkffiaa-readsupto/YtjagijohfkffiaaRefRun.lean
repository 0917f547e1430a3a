/- The walk of the reference's Run. -/
import Derived.Test.YtjagijohfkffiaaRefRead
namespace Go.Proofs.Ytjagijohfkffiaa
open Go.RowKit
set_option linter.unusedVariables false

theorem nextTo_at (ss : List St) {n k : Nat} (hk : k < n) : (nextTo ss n).getD k [] = (stAt ss k).next := by simp [nextTo, List.getD, List.getElem?_map, List.getElem?_range hk]
theorem outsTo_at (ss : List St) {n k : Nat} (hk : k < n) : (outsTo ss n).getD k 0 = (stAt ss k).out := by simp [outsTo, List.getD, List.getElem?_map, List.getElem?_range hk]

set_option maxHeartbeats 2000000 in
set_option maxRecDepth 100000 in
theorem rrun_any (s : ByteArray) (a1 : Option Addr) (l1 c1 : Nat) (u : List Int) (w : World) (hm : s.size ≤ 1048576) (h1 : Ints w a1 l1 c1 u) :
    Calls Try.prog 38 #[.string s, .slice a1 l1 c1] w fun e w' => e = .returned (.tuple #[.int .i64 (runVal s u), .int .i64 (runErr s u)]) ∧ Below w.heap.size w w' := by
  have F := rread_any s w hm
  have m1 := h1.hmax
  have m3 := h1.hcap
  have L1 := h1.hlen
  cases hr : readB s with
  | false =>
    have HV : Hid (runVal s u = 0 ∧ runErr s u = 9) := hid ⟨by simp [runVal, hr], by simp [runErr, hr]⟩
    have HR := hid hr
    have HE : Hid (readErr s = 9) := hid (by simp [readErr, hr])
    clear hr
    go_enter Try.func38, Try.ntmps38
    go_wp2_with fail
    refine F.mono ?_
    rintro e w2 ⟨hb2, v1, v2, rfl, ⟨_, rfl, rfl⟩ | ⟨hx, _⟩⟩
    · have B2 := hid (hb2.alloc hb2.size (.cells #[.slice none 0 0, .slice none 0 0] 46))
      rw [HE.out]
      clear hb2 F
      go_wp2_with fail
      go_ret2
      exact ⟨by rw [HV.out.1, HV.out.2]; rfl, B2.out⟩
    · rw [HR.out] at hx; cases hx
  | true =>
    have HR := hid hr
    have hs := readB_is hr
    have HE : Hid (readErr s = 0) := hid (by simp [readErr, hr])
    cases hu : allL u with
    | false =>
      have HV : Hid (runVal s u = 0 ∧ runErr s u = 6) := hid ⟨by simp [runVal, hu], by simp [runErr, hr, hu]⟩
      have A := fun W (b : Below w.heap.size w W) => rword_any a1 l1 c1 u W (h1.below b)
      rw [hu] at A
      clear hr hu
      go_enter Try.func38, Try.ntmps38
      go_wp2_with fail
      refine F.mono ?_
      rintro e w2 ⟨hb2, v1, v2, rfl, ⟨hx, _⟩ | ⟨_, V, L⟩⟩
      · rw [HR.out] at hx; cases hx
      · obtain ⟨ao1, cc1, hv1⟩ := own_slice L.out
        obtain ⟨ao2, cc2, hv2⟩ := own_slice L.nxt
        subst hv1 hv2
        generalize bt s 0 = n at *
        have B2 := hid (hb2.alloc hb2.size (.cells #[.slice ao1 n cc1, .slice ao2 n cc2] 46))
        rw [HE.out]
        clear hb2 F L hs
        go_wp2_with fail
        refine (A _ B2.out).mono ?_
        rintro e w3 ⟨rfl, rfl⟩
        go_wp2_with fail
        go_ret2
        exact ⟨by rw [HV.out.1, HV.out.2]; rfl, B2.out⟩
    | true =>
      have HV : Hid (runVal s u = (stAt (statesOf s (bt s 0)) (runS (statesOf s (bt s 0)) u)).out ∧ runErr s u = 0) := hid ⟨by simp [runVal, hu, hr], by simp [runErr, hr, hu]⟩
      have A := fun W (b : Below w.heap.size w W) => rword_any a1 l1 c1 u W (h1.below b)
      rw [hu] at A
      have hw := hs.2.2
      have h8 := statesOf_eight s (bt s 0)
      have hlen := statesOf_len s (bt s 0)
      obtain ⟨hn1, hn8, _⟩ := wfB_iff.1 hw
      rw [hlen] at hn1 hn8
      clear hr hs
      unfold ReadDone at F
      generalize statesOf s (bt s 0) = ss at *
      generalize bt s 0 = n at *
      go_enter Try.func38, Try.ntmps38
      go_wp2_with fail
      refine F.mono ?_
      rintro e w2 ⟨hb2, v1, v2, rfl, ⟨hx, _⟩ | ⟨_, V, L⟩⟩
      · rw [HR.out] at hx; cases hx
      · obtain ⟨ao1, cc1, hv1, hI⟩ := L.ints
        obtain ⟨ao2, cc2, hv2, hLs⟩ := L.lists
        subst hv1 hv2
        rw [HE.out]
        have b3 := hb2.alloc hb2.size (.cells #[.slice ao1 n cc1, .slice ao2 n cc2] 46)
        have tw := two_new w2 (.slice ao1 n cc1) (.slice ao2 n cc2) 46
        have I3 := hI.below ((Below.refl w2.heap.size w2).alloc (Nat.le_refl _) (.cells #[.slice ao1 n cc1, .slice ao2 n cc2] 46))
        have L3 := hLs.below ((Below.refl w2.heap.size w2).alloc (Nat.le_refl _) (.cells #[.slice ao1 n cc1, .slice ao2 n cc2] 46))
        have U3 := h1.below b3
        have B3 := hid b3
        clear hb2 F L hI hLs b3
        go_wp2_with fail
        refine (A _ B3.out).mono ?_
        rintro e w3 ⟨rfl, rfl⟩
        generalize hW3 : w2.alloc (.cells #[.slice ao1 n cc1, .slice ao2 n cc2] 46) = W3 at *
        generalize w2.heap.size = b6 at *
        clear hW3 A
        go_wp2_with fail
        go_loopw [10, 9] (fun i a wr => ∃ j k : Nat, j ≤ l1 ∧ i = .int .i64 j ∧ a = .int .i64 k ∧ k < n ∧ Hid (k = runS ss (u.take j)) ∧ ∃ m, wr = W3.drewN m) (fun i _ _ => l1 - (intOf i).toNat)
        case atStart => exact ⟨0, 0, Nat.zero_le _, rfl, rfl, by omega, hid (by simp [runS]), 0, rfl⟩
        case round =>
          obtain ⟨j, k, hj, rfl, rfl, hk, HK, m, rfl⟩ := hrel
          by_cases hlt : j < l1
          · obtain ⟨b1, o1, rfl, hlt1, hc1⟩ := U3.hcell (by omega)
            obtain ⟨b2, o2, rfl, hlt2, hc2⟩ := L3.hcell (by omega)
            obtain ⟨ra, rl, rc, cr, hr⟩ := hc2 k hk
            rw [nextTo_at ss hk] at hr
            have hx := allL_get hu (j := j) (by omega)
            have hst := stepS_lt hw h8 (k := k) (by omega) hx
            have HS : Hid (runS ss (u.take (j + 1)) = stepS ss k (u.getD j 0)) := hid (by rw [HK.out]; exact runS_succ (by omega))
            have hr8 : rl = 8 := by rw [← hr.hlen]; exact eight_at h8 (by omega)
            subst hr8
            obtain ⟨b3, o3, rfl, hlt3, hc3⟩ := hr.hcell (by omega)
            have rcap := hr.hcap
            have rmax := hr.hmax
            have cu := hc1 j hlt
            have hxb := isL_iff.1 hx
            generalize u.getD j 0 = x at *
            obtain ⟨a, rfl⟩ := Int.eq_ofNat_of_zero_le hxb.1
            have ca := hc3 a (by omega)
            have e2 := hst.2
            rw [Int.toNat_natCast] at e2
            rw [e2] at ca
            have hlt2' := hst.1
            rw [hlen] at hlt2'
            have t0 := tw.c1
            have p1 := L3.hcap
            have p2 := L3.hmax
            clear hc1 hc2 hc3 hst e2 hr hx
            generalize stepS ss k (a : Int) = k2 at *
            go_wp2_with fail
            go_quiet (fail)
            go_wp2_with fail
            go_roundw
            case rel => exact ⟨j + 1, k2, by omega, by go_num, rfl, hlt2', hid HS.out.symm, _, rfl⟩
            case measure => simp [intOf]; omega
          · have HEQ : Hid (k = runS ss u) := hid (by rw [HK.out, List.take_of_length_le (by omega)])
            obtain ⟨b1, o1, rfl, hlt1, hc1⟩ := I3.hcell (by omega)
            have co := hc1 k hk
            rw [outsTo_at ss hk] at co
            have HO : Hid ((stAt ss (runS ss u)).out = (stAt ss k).out) := hid (by rw [HEQ.out])
            generalize (stAt ss k).out = o at *
            have t0 := tw.c0
            have p1 := I3.hcap
            have p2 := I3.hmax
            clear hc1
            go_wp2_with fail
            go_ret2
            exact ⟨by rw [HV.out.1, HV.out.2, HO.out]; rfl, below_drewN B3.out _⟩

end Go.Proofs.Ytjagijohfkffiaa
