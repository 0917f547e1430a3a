/- The walk of the reference's Read. -/
import Derived.Test.YtjagijohfkffiaaSame
import Derived.Test.YtjagijohfkffiaaRefWrite2
import Derived.Deep.RegionLaw
import Derived.Deep.DrawnRows
namespace Go.Proofs.Ytjagijohfkffiaa
open Go.RowKit
set_option linter.unusedVariables false
attribute [local go_sem ↓] Go.wp_at_zero Go.wp_at_succ

/-- The bytes from place a on. -/
def tail (s : ByteArray) (a : Nat) : ByteArray := s.extract a s.size
theorem tail_size (s : ByteArray) (a : Nat) : (tail s a).size = s.size - a := by simp [tail, ByteArray.size_extract]
theorem tail_bt (s : ByteArray) (a i : Nat) : bt (tail s a) i = bt s (a + i) := by
  by_cases h : a + i < s.size
  · have h2 : i < (tail s a).size := by rw [tail_size]; omega
    rw [bt_in h, bt_in h2]
    simp [tail, ByteArray.getElem_extract]
  · have h2 : ¬ i < (tail s a).size := by rw [tail_size]; omega
    rw [bt_out h, bt_out h2]
theorem tail_tail (s : ByteArray) (a k : Nat) : (tail s a).extract k (tail s a).size = tail s (a + k) := by
  apply ByteArray.ext
  rw [tail_size]
  simp [tail, ByteArray.data_extract, Array.extract_extract]
  congr 1
  have : s.data.size = s.size := rfl
  omega


theorem stAt_states {s : ByteArray} {n i : Nat} (hi : i < n) : stAt (statesOf s n) i = stOf s i := by simp [stAt, statesOf, List.getD, List.getElem?_map, List.getElem?_range hi]
theorem zip_to (ss : List St) : zipSt (outsTo ss ss.length) (nextTo ss ss.length) = ss := by
  apply List.ext_getElem?
  intro i
  by_cases h : i < ss.length
  · have h1 : i < (zipSt (outsTo ss ss.length) (nextTo ss ss.length)).length := by simp [zipSt, outsTo, nextTo]; exact h
    rw [List.getElem?_eq_getElem h1, List.getElem?_eq_getElem h]
    simp [zipSt, outsTo, nextTo, stAt, List.getD, List.getElem?_eq_getElem h]
  · rw [List.getElem?_eq_none (by simp [zipSt, outsTo, nextTo]; omega), List.getElem?_eq_none (by omega)]
theorem formed_to {ss : List St} (h8 : Eight ss) : formedB (outsTo ss ss.length) (nextTo ss ss.length) = wfB ss := by
  have := (formed_mk (os := outsTo ss ss.length) (ls := nextTo ss ss.length) (by simp [outsTo, nextTo]) (fun i hi => by
    have hi2 : i < ss.length := by simpa [nextTo] using hi
    rw [show (nextTo ss ss.length).getD i [] = (stAt ss i).next by simp [nextTo, List.getD, List.getElem?_map, List.getElem?_range hi2]]
    exact eight_at h8 hi2)).1
  rw [this, zip_to]

theorem toList_ne {s : ByteArray} (h : 0 < s.size) : (s.toList == []) = false := by
  rw [ByteArray.toList_eq]
  have : s.data.toList.length = s.size := rfl
  cases e : s.data.toList with
  | nil => rw [e] at this; simp at this; omega
  | cons a l => rfl
theorem toList_no {s : ByteArray} (h : s.size = 0) : (s.toList == []) = true := by
  rw [ByteArray.toList_eq]
  have : s.data.toList.length = s.size := rfl
  cases e : s.data.toList with
  | nil => rfl
  | cons a l => rw [e] at this; simp at this; omega
theorem wrap_less {m : Nat} (h : m ≤ 1000) : IntKind.i64.wrap (m : Int) = (m : Int) := by
  have : (m : Int) % 18446744073709551616 = m := by omega
  simp [IntKind.wrap, IntKind.bits, IntKind.signed]
  omega
def strLen : Value → Nat
  | .string b => b.size
  | _ => 0

section
variable (s : ByteArray) (w : World)

set_option maxHeartbeats 1000000 in
theorem rread_none (h : s.size = 0) : Calls Try.prog 36 #[.string s] w (ReadDone s w) := by
  have E : Hid (readB s = false) := hid (readB_no fun e => by have := (readB_is e).1; omega)
  have HV : Hid (readErr s = 9) := hid (by unfold readErr; rw [E.out]; rfl)
  have hs : s = ⟨#[]⟩ := by
    apply ByteArray.ext
    exact Array.eq_empty_of_size_eq_zero h
  have HS := hid hs
  have t := two_new w (.slice none 0 0) (.slice none 0 0) 46
  have c0 := t.c0
  have c1 := t.c1
  subst hs
  go_enter Try.func36, Try.ntmps36
  go_wp2_with fail
  refine bodyPost_ret (v := .tuple #[.agg #[.slice none 0 0, .slice none 0 0], .int .i64 9]) (by simp [results, Try.results36, go_sem]) rfl ?_
  unfold ReadDone
  rw [HV.out]
  exact ⟨(((Below.refl w.heap.size w).alloc (Nat.le_refl _) _)), _, _, rfl, Or.inl ⟨E.out, rfl, rfl⟩⟩

set_option maxHeartbeats 4000000 in
set_option maxRecDepth 100000 in
theorem rread_walk (hm : s.size ≤ 1048576) (h : 0 < s.size) (N : Nat) (hN1 : 1 + N * 9 ≤ s.size) (hN2 : s.size < 1 + N * 9 + 9) : Calls Try.prog 36 #[.string s] w (ReadDone s w) := by
  obtain ⟨i0, hi, hz0, hz1, hz2⟩ := info_parts Try.infoInt
  obtain ⟨i1, hi1, hz01, hz11, hz21⟩ := info_parts Try.infoInts
  have hne := toList_ne h
  go_enter Try.func36, Try.ntmps36
  go_wp2_with fail
  generalize hT1 : s.extract 1 s.size = T1
  have HT2 : Hid (T1 = tail s (1 + 0 * 9)) := hid hT1.symm
  clear hT1 hne
  go_loopw [5] (fun r wr => ∃ (j : Nat) (v1 v2 : Value) (V : Nat → Value), j ≤ N ∧ r = .string (tail s (1 + j * 9)) ∧ Below w.heap.size w wr ∧
      Two wr w.heap.size (.slice none 0 0) (.slice none 0 0) ∧ Two wr (w.heap.size + 1) v1 v2 ∧ Hid (Lies wr (w.heap.size + 2) v1 v2 V (statesOf s N) j)) (fun r _ => strLen r)
  case atStart =>
    refine ⟨0, _, _, fun _ => .bool false, Nat.zero_le _, by rw [HT2.out], ((Below.refl _ _).alloc (Nat.le_refl _) _).alloc (by simp) _, ?_, ?_, hid (lies_none _ _ _ _)⟩
    · exact (two_new w _ _ _).below ((Below.refl (w.heap.size + 1) _).alloc (by simp) _) (Nat.lt_succ_self _)
    · have := two_new (w.alloc (.cells #[.slice none 0 0, .slice none 0 0] 46)) (.slice none 0 0) (.slice none 0 0) 46
      simpa using this
  case round =>
    obtain ⟨j, v1, v2, V, hj, rfl, hb, q0, q1, HL⟩ := hrel
    rename World => W0
    have HTZ := tail_size s (1 + j * 9)
    have HTB := hid (fun i => tail_bt s (1 + j * 9) i)
    have HTT := hid (tail_tail s (1 + j * 9) 9)
    by_cases hlt : j < N
    · have hst := stAt_states (s := s) (n := N) hlt
      have HST := hid hst
      have ht9 : 9 ≤ (tail s (1 + j * 9)).size := by rw [HTZ]; omega
      have htm : (tail s (1 + j * 9)).size ≤ 1048576 := by rw [HTZ]; omega
      have HOS := hid (outsTo_succ (statesOf s N) j)
      have hM := q1.lt
      have HQ0 := hid q0
      have HQ1 := hid q1
      have HTS : Hid ((tail s (1 + (j + 1) * 9)).size < (tail s (1 + j * 9)).size) := hid (by rw [tail_size, tail_size]; omega)
      have HT2 : Hid (tail s (1 + j * 9 + 9) = tail s (1 + (j + 1) * 9)) := hid (by congr 1; omega)
      clear HTZ q0 q1 hst
      generalize tail s (1 + j * 9) = t at *
      have kd : decide ((9 : Int) ≤ (t.size : Int)) = true := by simp; omega
      have kd2 : decide (9 ≤ t.size) = true := by simp; omega
      go_wp2_with fail
      go_loopw [7, 6] (fun i sv wq => ∃ (k : Nat), k ≤ 8 ∧ i = .int .i64 k ∧ Below W0.heap.size W0 wq ∧
          Hid (wq.ownsRow W0.heap.size 3 1 sv k (intVs ((stOf s j).next.take k)))) (fun i _ _ => 8 - (intOf i).toNat)
      case atStart => exact ⟨0, Nat.zero_le _, rfl, Below.refl _ _, hid (World.ownsRow_nil _ _ _ _)⟩
      case round =>
        obtain ⟨k, hk, rfl, hbq, HO⟩ := hrel
        have hsz := hbq.size
        by_cases hlk : k < 8
        · have hpk : 1 + k < t.size := by omega
          have IK : (t[1 + k]'hpk).toNat = bt s (1 + j * 9 + (1 + k)) := by rw [← bt_in hpk]; exact HTB.out (1 + k)
          have kx := bt_256 s (1 + j * 9 + (1 + k))
          have HT : Hid (intVs ((stOf s j).next.take k) ++ [.int .i64 (bt s (1 + j * 9 + (1 + k)) : Int)] = intVs ((stOf s j).next.take (k + 1))) := hid (by
            have : k < (stOf s j).next.length := by rw [stOf_eight]; exact hlk
            have e := stOf_next s j hlk
            rw [show 1 + j * 9 + 1 + k = 1 + j * 9 + (1 + k) by omega] at e
            unfold intVs
            rw [List.take_succ_eq_append_getElem this, List.map_append, ← e]
            simp [List.getD, List.getElem?_eq_getElem this])
          generalize bt s (1 + j * 9 + (1 + k)) = x at *
          have own := HO.out
          go_wp2_with (at_builtin; go_must (refine wpList_append_own _ rfl (.tmp 21) (.tmp 27) 27 rfl _ 3 i0 (.int .i64 0) 1 8 Try.underlying27 hi hz0 hz1 hz2 rfl (by decide) _ _ _ rfl (own.alloc _) ⟨wr.heap.size, 0, none⟩ 1 1 [.int .i64 x] rfl rfl ?c1 ?c2 ?c3 ?c4 ?c5 ?_))
          case c1 => exact cell_nine_new _ [_] _
          case c2 => intro u hu; simp at hu; subst hu; rfl
          case c3 => unfold maxLen; omega
          case c4 => omega
          case c5 => simp; omega
          intro v' w1 hown hgrow _
          have B1 := hid ((hbq.alloc hsz _).grown hgrow (by simp; omega) (fun k h => (own.lt k h).1))
          rw [HT.out] at hown
          have O1 := hid hown
          clear hown hgrow own HO IK hbq
          go_wp2_with fail
          go_roundw
          case rel => exact ⟨k + 1, by omega, by go_num, B1.out, O1⟩
          case measure => simp [intOf]; omega
        · obtain rfl : k = 8 := by omega
          have O6 := HO.out
          rw [List.take_of_length_le (by rw [stOf_eight]; exact Nat.le_refl _), ← HST.out] at O6
          have L := HL.out.keeps hbq
          obtain ⟨g6, cap6, rfl, hg6, hg6', hc6⟩ := row_own O6 (by decide)
          have h6 := own_mono O6 (B' := w.heap.size + 2) (by omega)
          have hs6 : ∀ i, i < j → (V i).ownBlock ≠ (Value.slice (some ⟨g6, 0, none⟩) 8 cap6).ownBlock := fun i hi e => by
            have := (((HL.out).row i hi).lt g6 e).2
            omega
          have hf6 : v1.ownBlock ≠ (Value.slice (some ⟨g6, 0, none⟩) 8 cap6).ownBlock := fun e => by
            have := ((HL.out).out.lt g6 e).2
            omega
          have t0 := HQ0.out.below hbq (by omega)
          have t1 := HQ1.out.below hbq hM
          have h0t : 0 < t.size := by omega
          have IK : (t[0]'h0t).toNat = bt s (1 + j * 9) := by rw [← bt_in h0t]; exact HTB.out 0
          have kx := bt_256 s (1 + j * 9)
          have HOO : Hid ((stAt (statesOf s N) j).out = (bt s (1 + j * 9) : Int)) := hid (by rw [HST.out]; rfl)
          rw [HOO.out] at HOS
          clear HOO
          generalize bt s (1 + j * 9) = o at *
          have k0 := t1.c0
          have BB := hid (hb.trans (hbq.mono hb.size))
          have HL6 := hid h6
          have HS6 := hid hs6
          have HF6 := hid hf6
          have HLL := hid L
          have T0 := hid t0
          have T1 := hid t1
          have l1 := L.out
          clear h6 hs6 hf6 L O6 HO t0 t1 HQ0 HQ1 HL HTB
          go_wp2_with fail
          have hMw : w.heap.size + 1 < wr.heap.size := by omega
          have wro : IntKind.i64.wrap (o : Int) = (o : Int) := wrap_less (by omega)
          go_region_law ((refine step_append_lies _ (by rfl) (.tmp 30) (.tmp 34) 27 (by rfl) (w.heap.size + 2) 3 i0 (.int .i64 0) 1 8 Try.underlying27 hi hz0 hz1 hz2 rfl (by decide) v1 j (intVs (outsTo (statesOf s N) j)) (by rfl) (l1.alloc _).drew ⟨wr.heap.size, 0, none⟩ 1 1 [.int .i64 o] (by rfl) (by rfl) (World.news_of_block (cs := #[.int .i64 o]) (t := 3) (fr := (0, 0)) (heap_alloc_last wr _)) (by simp [Value.oneCell']) (by decide) (by unfold maxLen; omega) (by omega) (by simp; omega) _ rfl ?_; intro gg cc w1 hown hgrow hat hlt1; have bw1 : Below (w.heap.size + 2) wr w1 := (below_drewN ((Below.refl (w.heap.size + 2) wr).alloc (by omega) (.cells #[.int .i64 o] 3)) 1).grown hgrow (by show w.heap.size + 2 ≤ (wr.alloc (.cells #[.int .i64 o] 3)).heap.size; rw [World.size_alloc]; omega) (fun k h => (l1.lt k h).1); have d0 := (T1.out.below bw1 (by omega)).c0; have d1 := (T1.out.below bw1 (by omega)).f0))
          all_goals
            rw [← HOS.out] at hown
            have M := mid_of (HLL.out.keeps (w' := (wr.alloc (.cells #[.int .i64 o] 3)).drew) (below_drewN ((Below.refl _ _).alloc (Nat.le_refl _) _) 1)) (HL6.out.alloc _).drew HS6.out HF6.out hgrow hown (by rcases hat with e | e; exact Or.inl e; exact Or.inr (by rw [e]))
            have s0 := T0.out.below bw1 (by omega)
            have s1 := T1.out.below bw1 (by omega)
            have hgs := bw1.size
            have M2 := hid (M.set (k := w.heap.size + 1) (by omega) 0 (.slice (some ⟨gg, 0, none⟩) (j + 1) cc))
            have U0 := hid (s0.other (k := w.heap.size + 1) (o := 0) (by omega) (.slice (some ⟨gg, 0, none⟩) (j + 1) cc))
            have u1 := s1.set0 (.slice (some ⟨gg, 0, none⟩) (j + 1) cc)
            have U1 := hid u1
            have k1 := u1.c1
            have BB1 := hid ((BB.out.trans (bw1.mono (by omega))).setCell (p := ⟨w.heap.size + 1, 0, none⟩) (by show w.heap.size ≤ w.heap.size + 1; omega) (.slice (some ⟨gg, 0, none⟩) (j + 1) cc))
            have n1 := M2.out.nxt
            have hws : w.heap.size + 2 ≤ w1.heap.size := by omega
            clear hown hgrow hat M s0 s1 u1 bw1 l1 k0 d0 d1
            go_wp2_with (at_builtin; go_must (refine wpList_append_lies _ rfl (.tmp 38) (.tmp 40) 44 rfl (w.heap.size + 2) 27 i1 (.slice none 0 0) 1 24 Try.underlying44 hi1 hz01 hz11 hz21 rfl (by decide) _ _ _ rfl (n1.alloc _) ⟨w1.heap.size, 0, none⟩ 1 1 [.slice (some ⟨g6, 0, none⟩) 8 cap6] rfl rfl ?d1 ?d2 (by decide) ?d3 ?d4 ?d5 _ rfl ?_))
            case d1 => exact fun m u h => by have := cell_nine_new (w1.setCell ⟨w.heap.size + 1, 0, none⟩ (.slice (some ⟨gg, 0, none⟩) (j + 1) cc)) [.slice (some ⟨g6, 0, none⟩) 8 cap6] 27 m u h; rw [World.size_setCell] at this; exact this
            case d2 => intro u hu; simp at hu; subst hu; rfl
            case d3 => unfold maxLen; omega
            case d4 => omega
            case d5 => simp; omega
            intro g2 cc2 w2 hown hgrow hat hlt2
            have bw2 := ((Below.refl (w.heap.size + 2) _).alloc (by rw [World.size_setCell]; exact hws) _).grown hgrow (by rw [World.size_alloc, World.size_setCell]; omega) (fun k h => (n1.lt k h).1)
            have L2 := lies_of (M2.out.alloc _) hgrow hown
            have s0 := U0.out.below bw2 (by omega)
            have s1 := U1.out.below bw2 (by omega)
            have L3 := hid (L2.set (k := w.heap.size + 1) (by omega) 1 (.slice (some ⟨g2, 0, none⟩) (j + 1) cc2))
            have V0 := hid (s0.other (k := w.heap.size + 1) (o := 1) (by omega) (.slice (some ⟨g2, 0, none⟩) (j + 1) cc2))
            have V1 := hid (s1.set1 (.slice (some ⟨g2, 0, none⟩) (j + 1) cc2))
            have e0 := s1.c1
            have e1 := s1.f1
            have BB2 := hid ((BB1.out.trans (bw2.mono (by omega))).setCell (p := ⟨w.heap.size + 1, 1, none⟩) (by show w.heap.size ≤ w.heap.size + 1; omega) (.slice (some ⟨g2, 0, none⟩) (j + 1) cc2))
            clear hown hgrow hat L2 s0 s1 bw2 n1 k1 IK
            go_wp2_with fail
            go_roundw
            case rel => exact ⟨j + 1, _, _, _, by omega, by rw [HTT.out, HT2.out], BB2.out, V0.out, V1.out, L3⟩
            case measure => simp [strLen]; omega
    · obtain rfl : j = N := by omega
      have h8 := statesOf_eight s j
      have hlen := statesOf_len s j
      have HFT := formed_to h8
      rw [hlen] at HFT
      obtain ⟨a1, cc1, hv1, hI⟩ := HL.out.ints
      obtain ⟨a2, cc2, hv2, hLs⟩ := HL.out.lists
      subst hv1 hv2
      have F := formed_any a1 a2 j cc1 j cc2 _ _ W0 hI hLs
      rw [HFT] at F
      have IK : (s[0]'h).toNat = bt s 0 := (bt_in h).symm
      have kx := bt_256 s 0
      have kd : decide ((9 : Int) ≤ ((tail s (1 + j * 9)).size : Int)) = false := by rw [HTZ]; simp; omega
      have kd2 : decide (9 ≤ (tail s (1 + j * 9)).size) = false := by rw [HTZ]; simp; omega
      have htm : (tail s (1 + j * 9)).size ≤ 1048576 := by rw [HTZ]; omega
      have HRN : Hid (readB s = true → (tail s (1 + j * 9)).size = 0 ∧ bt s 0 = j ∧ wfB (statesOf s j) = true) := hid (fun e => by
        have e2 := readB_is e
        have e3 : bt s 0 = j := by omega
        refine ⟨by rw [HTZ]; omega, e3, ?_⟩
        rw [← e3]; exact e2.2.2)
      have HRY : Hid ((tail s (1 + j * 9)).size = 0 → bt s 0 = j → wfB (statesOf s j) = true → readB s = true) := hid (fun e1 e2 e3 => by
        rw [HTZ] at e1
        unfold readB
        rw [e2, e3]
        simp
        omega)
      have y0 := q1.c0
      have y1 := q1.c1
      have HLL := hid HL.out
      have hMw := q1.lt
      clear HTZ HTT HTB HFT hI hLs HL
      generalize tail s (1 + j * 9) = t at *
      cases ev : wfB (statesOf s j) with
      | false =>
        rw [ev] at F
        have HE : Hid (readB s = false) := hid (readB_no fun e => by have := (HRN.out e).2.2; rw [ev] at this; cases this)
        have HV : Hid (readErr s = 9) := hid (by unfold readErr; rw [HE.out]; rfl)
        clear ev
        go_wp2_with fail
        refine F.mono ?_
        rintro e w2 ⟨rfl, hb2⟩
        have B2 := hid (hb.trans (hb2.mono hb.size))
        have t2 := q0.below hb2 q0.lt
        have t4 := q1.below hb2 q1.lt
        have c0 := t2.c0
        have c1 := t2.c1
        have f0 := t2.f0
        have f1 := t2.f1
        have m0 := t4.c0
        clear hb2 t2 t4 q0 q1
        generalize bt s 0 = cnt at *
        clear F
        go_wp2_with fail
        go_quiet (fail)
        go_wp2_with fail
        refine bodyPost_ret (v := .tuple #[.agg #[.slice none 0 0, .slice none 0 0], .int .i64 9]) (by simp [results, Try.results36, go_sem, c0, c1]) rfl ?_
        unfold ReadDone
        rw [HV.out]
        exact ⟨((below_drewN B2.out _).setCell (p := ⟨w.heap.size, 0, none⟩) (Nat.le_refl _) _).setCell (p := ⟨w.heap.size, 1, none⟩) (Nat.le_refl _) _, _, _, rfl, Or.inl ⟨HE.out, rfl, rfl⟩⟩
      | true =>
        rw [ev] at F
        by_cases hr0 : t.size = 0
        · have hne := toList_no hr0
          by_cases hc : bt s 0 = j
          · have HR := hid (HRY.out hr0 hc ev)
            have HV : Hid (readErr s = 0) := hid (by unfold readErr; rw [HR.out]; rfl)
            have HC := hid hc
            have IK2 : (s[0]'h).toNat = j := by rw [IK]; exact hc
            have hj8 : j < 256 := by omega
            clear ev hr0 IK hc
            go_wp2_with fail
            refine F.mono ?_
            rintro e w2 ⟨rfl, hb2⟩
            have B2 := hid (hb.trans (hb2.mono hb.size))
            have t2 := q0.below hb2 q0.lt
            have t4 := q1.below hb2 q1.lt
            have L2 := HLL.out.keeps hb2
            have c0 := t2.c0
            have c1 := t2.c1
            have f0 := t2.f0
            have f1 := t2.f1
            have m0 := t4.c0
            have m1 := t4.c1
            have hne2 : (t.toList != []) = false := by simpa [bne] using hne
            have hM2 := t4.lt
            clear hb2 q0 q1 F
            have hlt0 : w.heap.size < w.heap.size + 2 := by omega
            have HL2 := hid (fun n => ((L2.keeps (below_drewN (Below.refl w2.heap.size w2) n)).set (k := w.heap.size) hlt0 0 (.slice a1 j cc1)).set (k := w.heap.size) hlt0 1 (.slice a2 j cc2))
            clear t2 t4 L2
            go_wp2_with fail
            go_quiet (fail)
            go_wp2_with fail
            refine bodyPost_ret (v := .tuple #[.agg #[.slice a1 j cc1, .slice a2 j cc2], .int .i64 0]) (by simp [results, Try.results36, go_sem, c0, c1]) rfl ?_
            unfold ReadDone
            rw [HV.out, HC.out]
            exact ⟨((below_drewN B2.out _).setCell (p := ⟨w.heap.size, 0, none⟩) (Nat.le_refl _) _).setCell (p := ⟨w.heap.size, 1, none⟩) (Nat.le_refl _) _, _, _, rfl, Or.inr ⟨HR.out, V, (HL2.out _).mono (by omega)⟩⟩
          · have HE : Hid (readB s = false) := hid (readB_no fun e => hc (HRN.out e).2.1)
            have HV : Hid (readErr s = 9) := hid (by unfold readErr; rw [HE.out]; rfl)
            have hne2 : (t.toList != []) = false := by simpa [bne] using hne
            clear ev hr0
            go_wp2_with fail
            refine F.mono ?_
            rintro e w2 ⟨rfl, hb2⟩
            have B2 := hid (hb.trans (hb2.mono hb.size))
            have t2 := q0.below hb2 q0.lt
            have t4 := q1.below hb2 q1.lt
            have c0 := t2.c0
            have c1 := t2.c1
            have f0 := t2.f0
            have f1 := t2.f1
            have m0 := t4.c0
            clear hb2 t2 t4 q0 q1
            generalize bt s 0 = cnt at *
            have kc : ((j : Int) != (cnt : Int)) = true := bne_iff_ne.2 (by omega)
            clear F
            go_wp2_with fail
            go_quiet (fail)
            go_wp2_with fail
            refine bodyPost_ret (v := .tuple #[.agg #[.slice none 0 0, .slice none 0 0], .int .i64 9]) (by simp [results, Try.results36, go_sem, c0, c1]) rfl ?_
            unfold ReadDone
            rw [HV.out]
            exact ⟨((below_drewN B2.out _).setCell (p := ⟨w.heap.size, 0, none⟩) (Nat.le_refl _) _).setCell (p := ⟨w.heap.size, 1, none⟩) (Nat.le_refl _) _, _, _, rfl, Or.inl ⟨HE.out, rfl, rfl⟩⟩
        · have hne := toList_ne (s := t) (by omega)
          have hne2 : (t.toList != []) = true := by simpa [bne] using hne
          have HE : Hid (readB s = false) := hid (readB_no fun e => hr0 (HRN.out e).1)
          have HV : Hid (readErr s = 9) := hid (by unfold readErr; rw [HE.out]; rfl)
          clear ev
          go_wp2_with fail
          refine F.mono ?_
          rintro e w2 ⟨rfl, hb2⟩
          have B2 := hid (hb.trans (hb2.mono hb.size))
          have t2 := q0.below hb2 q0.lt
          have t4 := q1.below hb2 q1.lt
          have c0 := t2.c0
          have c1 := t2.c1
          have f0 := t2.f0
          have f1 := t2.f1
          have m0 := t4.c0
          clear hb2 t2 t4 q0 q1
          generalize bt s 0 = cnt at *
          clear F
          go_wp2_with fail
          go_quiet (fail)
          go_wp2_with fail
          refine bodyPost_ret (v := .tuple #[.agg #[.slice none 0 0, .slice none 0 0], .int .i64 9]) (by simp [results, Try.results36, go_sem, c0, c1]) rfl ?_
          unfold ReadDone
          rw [HV.out]
          exact ⟨((below_drewN B2.out _).setCell (p := ⟨w.heap.size, 0, none⟩) (Nat.le_refl _) _).setCell (p := ⟨w.heap.size, 1, none⟩) (Nat.le_refl _) _, _, _, rfl, Or.inl ⟨HE.out, rfl, rfl⟩⟩

theorem rread_any (hm : s.size ≤ 1048576) : Calls Try.prog 36 #[.string s] w (ReadDone s w) := by
  by_cases h : s.size = 0
  · exact rread_none s w h
  · exact rread_walk s w hm (by omega) ((s.size - 1) / 9) (by omega) (by omega)
end

end Go.Proofs.Ytjagijohfkffiaa
