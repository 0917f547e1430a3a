import Derived.Test.YtjagijohfkffiabKINM30
import Derived.Deep.AppendLies

/- The walk of machine.FromBytes. -/
namespace Go.Proofs.Ytjagijohfkffiab
open Go.RowKit
set_option linter.unusedVariables false

def stOf (s : ByteArray) (i : Nat) : St := ⟨(bt s (1 + i * 9) : Int), (List.range 8).map fun a => (bt s (1 + i * 9 + 1 + a) : Int)⟩
def statesOf (s : ByteArray) (n : Nat) : List St := (List.range n).map (stOf s)
/-- The bytes are a machine. -/
def readB (s : ByteArray) : Bool := decide (0 < s.size) && decide (s.size = 1 + bt s 0 * 9) && wfB (statesOf s (bt s 0))

theorem statesOf_len (s : ByteArray) (n : Nat) : (statesOf s n).length = n := by simp [statesOf]
theorem statesOf_succ (s : ByteArray) (n : Nat) : statesOf s (n + 1) = statesOf s n ++ [stOf s n] := by simp [statesOf, List.range_succ]
theorem stOf_eight (s : ByteArray) (i : Nat) : (stOf s i).next.length = 8 := by simp [stOf]
theorem statesOf_eight (s : ByteArray) (n : Nat) : Eight (statesOf s n) := by
  intro x hx
  simp [statesOf] at hx
  obtain ⟨i, _, rfl⟩ := hx
  exact stOf_eight s i
def FromDone (s : ByteArray) (w : World) (e : Ending) (w' : World) : Prop :=
  Below w.heap.size w w' ∧
  ((readB s = false ∧ e = .returned (.tuple #[.slice none 0 0, .bool false])) ∨
   (readB s = true ∧ ∃ g cap, e = .returned (.tuple #[.slice (some ⟨g, 0, none⟩) (bt s 0) cap, .bool true]) ∧
     w'.ownsRow w.heap.size 137 9 (.slice (some ⟨g, 0, none⟩) (bt s 0) cap) (bt s 0) (flatS (statesOf s (bt s 0)))))

theorem readB_no {s : ByteArray} (h : readB s = true → False) : readB s = false := by
  cases e : readB s with
  | false => rfl
  | true => exact (h e).elim
theorem readB_is {s : ByteArray} (h : readB s = true) : 0 < s.size ∧ s.size = 1 + bt s 0 * 9 ∧ wfB (statesOf s (bt s 0)) = true := by
  unfold readB at h
  simpa [and_assoc] using h

section
variable (s : ByteArray) (w : World)

set_option maxHeartbeats 400000 in
theorem from_none (hm : s.size ≤ maxLen) (h : s.size = 0) : Calls Try.prog 60 #[.string s] w (FromDone s w) := by
  have E : Hid (readB s = false) := hid (readB_no fun e => by have := (readB_is e).1; omega)
  unfold maxLen at hm
  have k : ((s.size : Int) == 0) = true := beq_iff_eq.2 (by omega)
  go_enter Try.func60, Try.ntmps60
  go_wp2_with fail
  go_ret2
  exact ⟨Below.refl _ _, Or.inl ⟨E.out, rfl⟩⟩

set_option maxHeartbeats 400000 in
theorem from_unlike (hm : s.size ≤ maxLen) (h : 0 < s.size) (hd : s.size ≠ 1 + bt s 0 * 9) : Calls Try.prog 60 #[.string s] w (FromDone s w) := by
  have E : Hid (readB s = false) := hid (readB_no fun e => hd (readB_is e).2.1)
  unfold maxLen at hm
  have k : ((s.size : Int) == 0) = false := beq_eq_false_iff_ne.2 (by omega)
  have IX : (s[0]'h).toNat = bt s 0 := (bt_in h).symm
  have hb := bt_256 s 0
  generalize bt s 0 = c at *
  have k2 : ((s.size : Int) != 1 + (c : Int) * 9) = true := bne_iff_ne.2 (by omega)
  go_enter Try.func60, Try.ntmps60
  go_wp2_with fail
  go_ret2
  exact ⟨Below.refl _ _, Or.inl ⟨E.out, rfl⟩⟩

set_option maxHeartbeats 4000000 in
set_option maxRecDepth 100000 in
theorem from_walk (hm : s.size ≤ maxLen) (h : 0 < s.size) (n : Nat) (hn : bt s 0 = n) (hd : s.size = 1 + n * 9) : Calls Try.prog 60 #[.string s] w (FromDone s w) := by
  have k : ((s.size : Int) == 0) = false := beq_eq_false_iff_ne.2 (by omega)
  have hn2 : n < 256 := by rw [← hn]; exact bt_256 s 0
  have IX : (s[0]'h).toNat = n := by rw [← bt_in h]; exact hn
  have k2 : ((s.size : Int) != 1 + (n : Int) * 9) = false := by rw [bne_eq_false_iff_eq]; omega
  obtain ⟨i0, hi, hz0, hz1, hz2⟩ := info_parts Try.infoState
  unfold maxLen at hm
  have HN := hid hn
  have HD := hid hd
  have hd1 : s.size ≤ 1 + n * 9 := Nat.le_of_eq hd
  have hd2 : 1 + n * 9 ≤ s.size := Nat.le_of_eq hd.symm
  clear hn hd
  go_enter Try.func60, Try.ntmps60
  go_wp2_with fail
  clear IX
  go_loopw [6, 5] (fun i sv wr => ∃ (j : Nat) (ao : Option Addr) (cap : Nat), j ≤ n ∧ i = .int .i64 ((1 + j * 9 : Nat) : Int) ∧ sv = .slice ao j cap ∧ Below w.heap.size w wr ∧
      Hid (wr.ownsRow w.heap.size 137 9 (.slice ao j cap) j (flatS (statesOf s j)))) (fun i _ _ => s.size - (intOf i).toNat)
  case atStart => exact ⟨0, none, 0, Nat.zero_le _, rfl, rfl, Below.refl _ _, hid (World.ownsRow_nil _ _ _ _)⟩
  case round =>
    obtain ⟨j, ao, cap, hj, rfl, rfl, hb, HO⟩ := hrel
    by_cases hlt : j < n
    · have hpl : 1 + j * 9 < s.size := by omega
      have IX : (s[1 + j * 9]'hpl).toNat = bt s (1 + j * 9) := (bt_in hpl).symm
      have kd : decide (((1 + j * 9 : Nat) : Int) + 9 ≤ (s.size : Int)) = true := by simp; omega
      have ko := bt_256 s (1 + j * 9)
      have HOo : Hid ((stOf s j).out = (bt s (1 + j * 9) : Int)) := hid rfl
      have HZ := hid (statesOf_succ s j)
      generalize bt s (1 + j * 9) = o at *
      go_wp2_with fail
      go_loopw [33] (fun i wq => ∃ (k : Nat) (f : Nat → Int), k ≤ 8 ∧ i = .int .i64 k ∧ Below wr.heap.size wr wq ∧ Nine wq wr.heap.size f ∧ Hid (f 0 = (o : Int)) ∧ Hid (∀ m, m < k → f (m + 1) = (bt s (1 + j * 9 + 1 + m) : Int))) (fun i _ => 8 - (intOf i).toNat)
      case atStart => exact ⟨0, _, Nat.zero_le _, rfl, (Below.refl _ _).alloc (Nat.le_refl _) _, nine_newT wr o 0 0 0 0 0 0 0 0 _, hid rfl, hid (fun m hm => by omega)⟩
      case round =>
        obtain ⟨k, f, hk, rfl, hbq, hnn, HF, HI2⟩ := hrel
        by_cases hlk : k < 8
        · have hpk : 1 + j * 9 + 1 + k < s.size := by omega
          have IK : (s[1 + j * 9 + 1 + k]'hpk).toNat = bt s (1 + j * 9 + 1 + k) := (bt_in hpk).symm
          have kx := bt_256 s (1 + j * 9 + 1 + k)
          have e1 := hnn.cell (1 + k) (by omega)
          have e2 := hnn.free (1 + k) (by omega)
          have HNN := hid (hnn.set (k := 1 + k) (by omega) (bt s (1 + j * 9 + 1 + k)))
          clear hnn
          generalize hx : bt s (1 + j * 9 + 1 + k) = x at *
          have HX := hid hx
          clear hx IX
          go_wp2_with fail
          go_roundw
          case rel =>
            refine ⟨k + 1, _, by omega, by go_num, hbq.setCell (p := ⟨_, 1 + k, none⟩) (Nat.le_refl _) _, HNN.out, hid ?_, hid (fun m hm => ?_)⟩
            · rw [if_neg (by omega)]; exact HF.out
            · by_cases e : m < k
              · rw [if_neg (by omega)]; exact HI2.out m e
              · rw [if_pos (by omega), show m = k by omega, HX.out]
          case measure => simp [intOf]; omega
        · have hk8 : k = 8 := by omega
          subst hk8
          have e0 := hnn.cell 0 (by decide)
          have e1 := hnn.cell 1 (by decide)
          have e2 := hnn.cell 2 (by decide)
          have e3 := hnn.cell 3 (by decide)
          have e4 := hnn.cell 4 (by decide)
          have e5 := hnn.cell 5 (by decide)
          have e6 := hnn.cell 6 (by decide)
          have e7 := hnn.cell 7 (by decide)
          have e8 := hnn.cell 8 (by decide)
          have HS : Hid (stCells (stOf s j) = [.int .i64 (f 0), .int .i64 (f 1), .int .i64 (f 2), .int .i64 (f 3), .int .i64 (f 4), .int .i64 (f 5), .int .i64 (f 6), .int .i64 (f 7), .int .i64 (f 8)]) := hid (by
            have := HI2.out
            rw [HF.out, this 0 (by decide), this 1 (by decide), this 2 (by decide), this 3 (by decide), this 4 (by decide), this 5 (by decide), this 6 (by decide), this 7 (by decide), ← HOo.out]
            rfl)
          have own := own_keeps HO.out hbq
          have hsz := hbq.size
          have hsz2 := hb.size
          have HBQ := hid hbq
          clear hnn hbq HF HI2 HO IX
          generalize f 0 = f0 at *
          generalize f 1 = f1 at *
          generalize f 2 = f2 at *
          generalize f 3 = f3 at *
          generalize f 4 = f4 at *
          generalize f 5 = f5 at *
          generalize f 6 = f6 at *
          generalize f 7 = f7 at *
          generalize f 8 = f8 at *
          go_wp2_with (at_builtin; go_must (refine wpList_append_own _ rfl (.tmp 47) (.tmp 49) 75 rfl w.heap.size 137 i0 (.agg #[.int .i64 0, .int .i64 0, .int .i64 0, .int .i64 0, .int .i64 0, .int .i64 0, .int .i64 0, .int .i64 0, .int .i64 0]) 9 72 Try.underlying75 hi hz0 hz1 hz2 rfl (by decide) _ _ _ rfl (own.alloc _) ⟨wr.heap.size, 0, none⟩ 1 1 [.int .i64 f0, .int .i64 f1, .int .i64 f2, .int .i64 f3, .int .i64 f4, .int .i64 f5, .int .i64 f6, .int .i64 f7, .int .i64 f8] rfl rfl ?c1 ?c2 ?c3 ?c4 ?c5 ?_))
          case c1 => exact cell_nine_new _ _ _
          case c2 => intro u hu; simp at hu; rcases hu with rfl | rfl | rfl | rfl | rfl | rfl | rfl | rfl | rfl <;> rfl
          case c3 => unfold maxLen; omega
          case c4 => omega
          case c5 => simp; omega
          intro v' w1 hown hgrow _
          have hbel : Below w.heap.size wr w1 := ((Below.refl _ _).alloc (by omega) _).grown hgrow (by simp; omega) (fun k h => (own.lt k h).1)
          rw [← HS.out, ← flatS_snoc, ← HZ.out] at hown
          obtain ⟨ao', cap', hv⟩ : ∃ ao' cap', v' = .slice ao' (j + 1) cap' := by
            rcases hown.2 with ⟨h, h0⟩ | ⟨g, cap', _, h, _⟩
            · omega
            · exact ⟨_, cap', h⟩
          subst hv
          have B1 := hid ((hb.trans (HBQ.out.mono hsz2)).trans hbel)
          have O1 := hid hown
          clear hown hgrow hbel own e0 e1 e2 e3 e4 e5 e6 e7 e8
          go_wp2_with fail
          go_roundw
          case rel => exact ⟨j + 1, ao', cap', by omega, congrArg (Value.int .i64) (by omega), rfl, B1.out, O1⟩
          case measure => simp [intOf]; omega
    · obtain rfl : j = n := by omega
      have kd : decide (((1 + j * 9 : Nat) : Int) + 9 ≤ (s.size : Int)) = false := by simp; omega
      have HR : Hid (readB s = wfB (statesOf s j)) := hid (by unfold readB; rw [HN.out, HD.out]; simp; intro; omega)
      have H8 := statesOf_eight s j
      have O := HO.out
      clear HO
      by_cases hpos : 1 ≤ j ∧ j ≤ 8
      · obtain ⟨g, rfl, hg0, hg1, hg2⟩ := own_at' O (by omega)
        have F := fun W (hW : W.ownsRow w.heap.size 137 9 (.slice (some ⟨g, 0, none⟩) j cap) j (flatS (statesOf s j))) (hg : g < W.heap.size) => wf_good g j cap w.heap.size (statesOf s j) W hW H8 (statesOf_len s j) hpos.1 hpos.2 hg hg2
        have HO := hid O
        clear O
        cases ev : wfB (statesOf s j) with
        | true =>
          have HV := hid ev
          clear ev
          go_wp2_with fail
          refine (F _ HO.out hg1).mono ?_
          rintro e w2 ⟨rfl, hb2⟩
          rw [HV.out]
          have B2 := hid (hb.trans (hb2.mono hb.size))
          have O2 := hid (own_keeps HO.out hb2)
          clear hb2 F
          go_wp2_with fail
          go_ret2
          unfold FromDone
          rw [HN.out]
          exact ⟨B2.out, Or.inr ⟨by rw [HR.out]; exact HV.out, g, cap, rfl, O2.out⟩⟩
        | false =>
          have HV := hid ev
          clear ev
          go_wp2_with fail
          refine (F _ HO.out hg1).mono ?_
          rintro e w2 ⟨rfl, hb2⟩
          rw [HV.out]
          have B2 := hid (hb.trans (hb2.mono hb.size))
          clear hb2 F
          go_wp2_with fail
          go_ret2
          exact ⟨B2.out, Or.inl ⟨by rw [HR.out]; exact HV.out, rfl⟩⟩
      · have F := fun W => wf_bad ao j cap (statesOf s j) W (statesOf_len s j) (by omega) (by omega)
        have HV : Hid (wfB (statesOf s j) = false) := hid (by
          cases e : wfB (statesOf s j) with
          | false => rfl
          | true => rw [wfB_iff, statesOf_len] at e; omega)
        clear O
        go_wp2_with fail
        refine (F _).mono ?_
        rintro e w2 ⟨rfl, hb2⟩
        rw [HV.out]
        have B2 := hid (hb.trans (hb2.mono hb.size))
        clear hb2 F
        go_wp2_with fail
        go_ret2
        exact ⟨B2.out, Or.inl ⟨by rw [HR.out]; exact HV.out, rfl⟩⟩

theorem from_any (hm : s.size ≤ maxLen) : Calls Try.prog 60 #[.string s] w (FromDone s w) := by
  by_cases h : s.size = 0
  · exact from_none s w hm h
  by_cases hd : s.size = 1 + bt s 0 * 9
  · exact from_walk s w hm (by omega) _ rfl hd
  · exact from_unlike s w hm (by omega) hd
end

end Go.Proofs.Ytjagijohfkffiab

/- The walks of machine.Run and Run. -/
namespace Go.Proofs.Ytjagijohfkffiab
open Go.RowKit
set_option linter.unusedVariables false

def stepS (ss : List St) (k : Nat) (z : Int) : Nat := ((stAt ss k).next.getD z.toNat 0).toNat
def runS (ss : List St) (u : List Int) : Nat := u.foldl (stepS ss) 0

theorem stAt_ok {ss : List St} (hw : wfB ss = true) {k : Nat} (hk : k < ss.length) : stB ss.length k (stAt ss k) = true := (wfB_iff.1 hw).2.2 k hk
theorem stepS_lt {ss : List St} (hw : wfB ss = true) (h8 : Eight ss) {k : Nat} (hk : k < ss.length) {z : Int} (hz : isL z = true) : stepS ss k z < ss.length ∧ (stAt ss k).next.getD z.toNat 0 = (stepS ss k z : Int) := by
  have hz2 := isL_iff.1 hz
  have h := (stB_small (stAt_ok hw hk)).2.2 z.toNat (by rw [eight_at h8 hk]; omega)
  unfold stepS
  omega
theorem runS_succ {ss : List St} {u : List Int} {j : Nat} (hj : j < u.length) : runS ss (u.take (j + 1)) = stepS ss (runS ss (u.take j)) (u.getD j 0) := by
  unfold runS
  rw [List.take_succ_eq_append_getElem hj, List.foldl_append]
  simp [List.getD, List.getElem?_eq_getElem hj]
theorem allL_get {u : List Int} (hu : allL u = true) {j : Nat} (hj : j < u.length) : isL (u.getD j 0) = true := by
  unfold allL at hu
  rw [List.all_eq_true] at hu
  simpa [List.getD, List.getElem?_eq_getElem hj] using hu _ (List.getElem_mem hj)

set_option maxHeartbeats 2000000 in
set_option maxRecDepth 100000 in
theorem mrun_any (g n cap B : Nat) (ss : List St) (a1 : Option Addr) (l1 c1 : Nat) (u : List Int) (w : World) (hr : w.ownsRow B 137 9 (.slice (some ⟨g, 0, none⟩) n cap) n (flatS ss)) (h8 : Eight ss) (hl : ss.length = n) (hw : wfB ss = true) (hcap : n ≤ cap) (h1 : Ints w a1 l1 c1 u) (hu : allL u = true) :
    Calls Try.prog 61 #[.slice (some ⟨g, 0, none⟩) n cap, .slice a1 l1 c1] w fun e w' => e = .returned (.int .i64 (stAt ss (runS ss u)).out) ∧ w' = w := by
  have HR := hid hr
  have m1 := h1.hmax
  have m3 := h1.hcap
  have L1 := h1.hlen
  obtain ⟨hn1, hn8, _⟩ := wfB_iff.1 hw
  rw [hl] at hn1 hn8
  clear hr
  go_enter Try.func61, Try.ntmps61
  go_wp2_with fail
  go_loop [10, 5] (fun i a => ∃ j k : Nat, j ≤ l1 ∧ i = .int .i64 j ∧ a = .int .i64 k ∧ k < n ∧ Hid (k = runS ss (u.take j))) (fun i _ => l1 - (intOf i).toNat)
  case atStart => exact ⟨0, 0, Nat.zero_le _, rfl, rfl, by omega, hid (by simp [runS])⟩
  case round =>
    obtain ⟨j, k, hj, rfl, rfl, hk, HK⟩ := hrel
    by_cases hlt : j < l1
    · obtain ⟨b1, o1, rfl, hlt1, hc1⟩ := h1.hcell (by omega)
      have c := hc1 j hlt
      have hx := allL_get hu (j := j) (by omega)
      have hs := stepS_lt hw h8 (k := k) (by omega) hx
      have HS : Hid (runS ss (u.take (j + 1)) = stepS ss k (u.getD j 0)) := hid (by rw [HK.out]; exact runS_succ (by omega))
      have hxb := isL_iff.1 hx
      generalize u.getD j 0 = x at *
      obtain ⟨a, rfl⟩ := Int.eq_ofNat_of_zero_le hxb.1
      have ca := own_state HR.out h8 hl (j := k) hk (1 + a) (by omega)
      have he : (stCells (stAt ss k))[1 + a]? = some (.int .i64 (stepS ss k (a : Int) : Nat)) := by
        have h9 : (stAt ss k).next.length = 8 := eight_at h8 (by omega)
        have : a < (stAt ss k).next.length := by omega
        rw [← hs.2, show 1 + a = a + 1 by omega]
        simp [stCells, List.getD, List.getElem?_eq_getElem this]
      rw [he, ← Nat.add_assoc] at ca
      clear he hc1
      have hlt2 := hs.1
      rw [hl] at hlt2
      clear hs
      generalize stepS ss k (a : Int) = k2 at *
      have d1 : decide ((k : Int) < 0) = false := by simp
      have d2 : decide ((n : Int) ≤ (k : Int)) = false := by simp; omega
      have d3 : decide ((a : Int) < 0) = false := by simp
      have d4 : decide (8 ≤ (a : Int)) = false := by simp; omega
      go_wp2_with fail
      go_round
      case rel => exact ⟨j + 1, k2, by omega, by go_num, rfl, hlt2, hid HS.out.symm⟩
      case measure => simp [intOf]; omega
    · have HE : Hid (k = runS ss u) := hid (by rw [HK.out, List.take_of_length_le (by omega)])
      have ca := own_state HR.out h8 hl (j := k) hk 0 (by decide)
      rw [show (stCells (stAt ss k))[0]? = some (.int .i64 (stAt ss k).out) from rfl, Nat.add_zero] at ca
      have d1 : decide ((k : Int) < 0) = false := by simp
      have d2 : decide ((n : Int) ≤ (k : Int)) = false := by simp; omega
      have HO : Hid ((stAt ss (runS ss u)).out = (stAt ss k).out) := hid (by rw [HE.out])
      generalize (stAt ss k).out = o at *
      go_wp2_with fail
      go_ret
      exact ⟨by rw [HO.out]; rfl, rfl⟩

def runErr (s : ByteArray) (u : List Int) : Nat := if readB s = true then (if allL u = true then 0 else 6) else 9
def runVal (s : ByteArray) (u : List Int) : Int := if readB s = true ∧ allL u = true then (stAt (statesOf s (bt s 0)) (runS (statesOf s (bt s 0)) u)).out else 0

set_option maxHeartbeats 1000000 in
theorem vrun_any (s : ByteArray) (a1 : Option Addr) (l1 c1 : Nat) (u : List Int) (w : World) (hm : s.size ≤ maxLen) (h1 : Ints w a1 l1 c1 u) :
    Calls Try.prog 32 #[.string s, .slice a1 l1 c1] w fun e w' => e = .returned (.tuple #[.int .i64 (runVal s u), .int .i64 (runErr s u)]) ∧ Below w.heap.size w w' := by
  have F := from_any s w hm
  cases hr : readB s with
  | false =>
    have HV : Hid (runVal s u = 0 ∧ runErr s u = 9) := hid ⟨by simp [runVal, hr], by simp [runErr, hr]⟩
    have HR := hid hr
    clear hr
    go_enter Try.func32, Try.ntmps32
    go_wp2_with fail
    refine F.mono ?_
    rintro e w2 ⟨hb2, ⟨_, rfl⟩ | ⟨hx, _⟩⟩
    · have B2 := hid hb2
      clear hb2 F
      go_wp2_with fail
      go_ret2
      exact ⟨by rw [HV.out.1, HV.out.2]; rfl, B2.out⟩
    · rw [HR.out] at hx; cases hx
  | true =>
    have HR := hid hr
    have hs := readB_is hr
    cases hu : allL u with
    | false =>
      have HV : Hid (runVal s u = 0 ∧ runErr s u = 6) := hid ⟨by simp [runVal, hu], by simp [runErr, hr, hu]⟩
      have A := fun W (b : Below w.heap.size w W) => allLetters_any a1 l1 c1 u W (h1.below b)
      rw [hu] at A
      clear hr hu
      go_enter Try.func32, Try.ntmps32
      go_wp2_with fail
      refine F.mono ?_
      rintro e w2 ⟨hb2, ⟨hx, _⟩ | ⟨_, g, cap, rfl, own⟩⟩
      · rw [HR.out] at hx; cases hx
      · have B2 := hid hb2
        clear hb2 F own hs
        generalize bt s 0 = n at *
        go_wp2_with fail
        refine (A _ B2.out).mono ?_
        rintro e w3 ⟨rfl, rfl⟩
        go_wp2_with fail
        go_ret2
        exact ⟨by rw [HV.out.1, HV.out.2]; rfl, B2.out⟩
    | true =>
      have HV : Hid (runVal s u = (stAt (statesOf s (bt s 0)) (runS (statesOf s (bt s 0)) u)).out ∧ runErr s u = 0) := hid ⟨by simp [runVal, hu, hr], by simp [runErr, hr, hu]⟩
      have A := fun W (b : Below w.heap.size w W) => allLetters_any a1 l1 c1 u W (h1.below b)
      rw [hu] at A
      have R := fun W g cap (b : Below w.heap.size w W) own hcap => mrun_any g (bt s 0) cap w.heap.size (statesOf s (bt s 0)) a1 l1 c1 u W own (statesOf_eight s _) (statesOf_len s _) hs.2.2 hcap (h1.below b) hu
      have hpos := (wfB_iff.1 hs.2.2).1
      rw [statesOf_len] at hpos
      clear hr hu hs
      generalize hst : statesOf s (bt s 0) = ss at *
      unfold FromDone at F
      rw [hst] at F
      generalize bt s 0 = n at *
      go_enter Try.func32, Try.ntmps32
      go_wp2_with fail
      refine F.mono ?_
      rintro e w2 ⟨hb2, ⟨hx, _⟩ | ⟨_, g, cap, rfl, own⟩⟩
      · rw [HR.out] at hx; cases hx
      · have B2 := hid hb2
        obtain ⟨g', eg, _, _, hcap⟩ := own_at' own (by omega)
        cases eg
        have R2 := R w2 g cap hb2 own hcap
        clear hb2 F own R
        generalize (stAt ss (runS ss u)).out = o at *
        go_wp2_with fail
        refine (A _ B2.out).mono ?_
        rintro e w3 ⟨rfl, rfl⟩
        go_wp2_with fail
        refine R2.mono ?_
        rintro e w4 ⟨rfl, rfl⟩
        go_wp2_with fail
        go_ret2
        exact ⟨by rw [HV.out.1, HV.out.2]; rfl, B2.out⟩

end Go.Proofs.Ytjagijohfkffiab
