import Derived.Test.YtjagijohfkffiabKINM06
import Derived.Test.YtjagijohfkffiabKINM15
import Derived.Test.YtjagijohfkffiabKINM29
import Derived.Outline
import Derived.Laws.IdiomStrings
import Derived.Laws.BitsLemmas

/- The walk of machine.Take; lists of lists of ints that are read. -/
namespace Go.Proofs.Ytjagijohfkffiab
open Go.RowKit
set_option linter.unusedVariables false

/-- The slice value has the lists zss. -/
structure Lists (w : World) (ao : Option Addr) (len cap : Nat) (zss : List (List Int)) : Prop where
  hlen : zss.length = len
  hcap : len ≤ cap
  hmax : cap ≤ 9223372036854775807
  hnil : ao = none → len = 0 ∧ cap = 0
  hcell : 0 < len → ∃ b off, ao = some ⟨b, off, none⟩ ∧ b < w.heap.size ∧ ∀ i, i < len → ∃ a l c, w.cell? ⟨b, off + i, none⟩ = some (.slice a l c) ∧ Ints w a l c (zss.getD i [])

theorem Lists.below {w w' : World} {ao : Option Addr} {len cap : Nat} {zss : List (List Int)} (h : Lists w ao len cap zss) (hb : Below w.heap.size w w') : Lists w' ao len cap zss := by
  refine ⟨h.hlen, h.hcap, h.hmax, h.hnil, fun h0 => ?_⟩
  obtain ⟨b, off, e, hlt, hc⟩ := h.hcell h0
  refine ⟨b, off, e, Nat.lt_of_lt_of_le hlt hb.size, fun i hi => ?_⟩
  obtain ⟨a, l, c, h1, h2⟩ := hc i hi
  exact ⟨a, l, c, by rw [hb.cell (p := ⟨b, off + i, none⟩) hlt]; exact h1, h2.below hb⟩

theorem Try.infoState : (Try.prog.info? 137).map (fun i => (i.zero, i.size, i.bytes)) = some (some (.agg #[.int .i64 0, .int .i64 0, .int .i64 0, .int .i64 0, .int .i64 0, .int .i64 0, .int .i64 0, .int .i64 0, .int .i64 0]), 9, 72) := by kernel_rfl

/-- Nine ints at a block of their own. -/
structure Nine (w : World) (b : Nat) (f : Nat → Int) : Prop where
  cell : ∀ i, i < 9 → w.cell? ⟨b, i, none⟩ = some (.int .i64 (f i))
  free : ∀ i, i < 9 → w.frozen? ⟨b, i, none⟩ = false

theorem Nine.set {w : World} {b : Nat} {f : Nat → Int} (h : Nine w b f) {k : Nat} (hk : k < 9) (z : Int) : Nine (w.setCell ⟨b, k, none⟩ (.int .i64 z)) b (fun i => if i = k then z else f i) := by
  refine ⟨fun i hi => ?_, fun i hi => by rw [World.frozen?_setCell]; exact h.free i hi⟩
  by_cases e : i = k
  · subst e
    simp only [if_true]
    exact World.cell?_setCell_same _ _ _ (h.cell i hi)
  · simp only [if_neg e]
    rw [World.cell?_setCell_other _ _ _ _ (fun h => e (by have := congrArg Addr.off h; simp at this; omega))]
    exact h.cell i hi

theorem nine_newT (w : World) (a0 a1 a2 a3 a4 a5 a6 a7 a8 : Int) (t : TypeId) : Nine (w.alloc (.cells #[.int .i64 a0, .int .i64 a1, .int .i64 a2, .int .i64 a3, .int .i64 a4, .int .i64 a5, .int .i64 a6, .int .i64 a7, .int .i64 a8] t)) w.heap.size (fun i => [a0, a1, a2, a3, a4, a5, a6, a7, a8].getD i 0) := by
  refine ⟨fun i hi => ?_, fun i hi => by simp⟩
  rw [World.cell?_alloc_new]
  match i, hi with
  | 0, _ | 1, _ | 2, _ | 3, _ | 4, _ | 5, _ | 6, _ | 7, _ | 8, _ => rfl

theorem cell_nine_new (w : World) (xs : List Value) (t : TypeId) : ∀ j u, xs[j]? = some u → (w.alloc (.cells xs.toArray t)).cell? ((⟨w.heap.size, 0, none⟩ : Addr).add j) = some u := by
  intro j u hj
  rw [add_off, Nat.zero_add, World.cell?_alloc_new]
  simpa using hj

def Took (os : List Int) (ls : List (List Int)) (w : World) (e : Ending) (w' : World) : Prop :=
  Below w.heap.size w w' ∧
  ((formedB os ls = false ∧ e = .returned (.tuple #[.slice none 0 0, .bool false])) ∨
   (formedB os ls = true ∧ ∃ g cap, e = .returned (.tuple #[.slice (some ⟨g, 0, none⟩) os.length cap, .bool true]) ∧
     w'.ownsRow w.heap.size 137 9 (.slice (some ⟨g, 0, none⟩) os.length cap) os.length (flatS (zipSt os ls))))

theorem formed_len {os : List Int} {ls : List (List Int)} (h : formedB os ls = true) : ls.length = os.length ∧ (∀ i, i < ls.length → (ls.getD i []).length = 8) ∧ wfB (zipSt os ls) = true := by
  unfold formedB at h
  simp only [Bool.and_eq_true, decide_eq_true_eq, List.all_eq_true] at h
  refine ⟨h.1.1, fun i hi => ?_, h.2⟩
  have := h.1.2 ls[i] (List.getElem_mem hi)
  simpa [List.getD, List.getElem?_eq_getElem hi] using this
theorem formed_mk {os : List Int} {ls : List (List Int)} (h1 : ls.length = os.length) (h2 : ∀ i, i < ls.length → (ls.getD i []).length = 8) : formedB os ls = wfB (zipSt os ls) ∧ Eight (zipSt os ls) := by
  have h3 : ls.all (fun l => decide (l.length = 8)) = true := by
    rw [List.all_eq_true]
    intro x hx
    obtain ⟨i, hi, rfl⟩ := List.getElem_of_mem hx
    have := h2 i hi
    simpa [List.getD, List.getElem?_eq_getElem hi] using this
  exact ⟨by unfold formedB; rw [h3]; simp [h1], zip_eight h3⟩
theorem formed_no {os : List Int} {ls : List (List Int)} (h : formedB os ls = true → False) : formedB os ls = false := by
  cases e : formedB os ls with
  | false => rfl
  | true => exact (h e).elim

section
variable (a1 a2 : Option Addr) (l1 c1 l2 c2 : Nat) (os : List Int) (ls : List (List Int)) (w : World)

set_option maxHeartbeats 400000 in
theorem take_big (h1 : Ints w a1 l1 c1 os) (h2 : Lists w a2 l2 c2 ls) (h : 8 < l1) : Calls Try.prog 58 #[.agg #[.slice a1 l1 c1, .slice a2 l2 c2]] w (Took os ls w) := by
  have E : Hid (formedB os ls = false) := hid (formed_no fun e => by
    have e2 := formed_len e
    have e3 := (wfB_iff.1 e2.2.2).2.1
    rw [zip_len e2.1, h1.hlen] at e3
    omega)
  have m1 := h1.hmax
  have m3 := h1.hcap
  go_enter Try.func58, Try.ntmps58
  go_wp2_with fail
  go_ret2
  unfold Took
  exact ⟨(Below.refl _ _).alloc (Nat.le_refl _) _, Or.inl ⟨E.out, rfl⟩⟩

set_option maxHeartbeats 400000 in
theorem take_unlike (h1 : Ints w a1 l1 c1 os) (h2 : Lists w a2 l2 c2 ls) (h : ¬ 8 < l1) (hd : ¬ l2 = l1) : Calls Try.prog 58 #[.agg #[.slice a1 l1 c1, .slice a2 l2 c2]] w (Took os ls w) := by
  have E : Hid (formedB os ls = false) := hid (formed_no fun e => by
    have e2 := (formed_len e).1
    rw [h1.hlen, h2.hlen] at e2
    exact hd e2)
  have k : ((l2 : Int) != (l1 : Int)) = true := bne_iff_ne.2 (by omega)
  have m1 := h1.hmax
  have m3 := h1.hcap
  have m2 := h2.hmax
  have m4 := h2.hcap
  go_enter Try.func58, Try.ntmps58
  go_wp2_with fail
  go_ret2
  unfold Took
  exact ⟨(Below.refl _ _).alloc (Nat.le_refl _) _, Or.inl ⟨E.out, rfl⟩⟩

set_option maxHeartbeats 4000000 in
set_option maxRecDepth 100000 in
theorem take_walk (h1 : Ints w a1 l1 c1 os) (h2 : Lists w a2 l1 c2 ls) (h : ¬ 8 < l1) : Calls Try.prog 58 #[.agg #[.slice a1 l1 c1, .slice a2 l1 c2]] w (Took os ls w) := by
  have m1 := h1.hcap
  have m2 := h2.hcap
  have L1 := h1.hlen
  have L2 := h2.hlen
  have ha1 := h1.hmax
  have ha2 := h2.hmax
  obtain ⟨i0, hi, hz0, hz1, hz2⟩ := info_parts Try.infoState
  go_enter Try.func58, Try.ntmps58
  go_wp2_with fail
  go_loopw [26, 5] (fun i s wr => ∃ (j : Nat) (ao : Option Addr) (cap : Nat), j ≤ l1 ∧ i = .int .i64 j ∧ s = .slice ao j cap ∧ Hid (∀ m, m < j → (ls.getD m []).length = 8) ∧ Below w.heap.size w wr ∧
      wr.cell? ⟨w.heap.size, 0, none⟩ = some (.slice a1 l1 c1) ∧
      Hid (wr.ownsRow (w.heap.size + 1) 137 9 (.slice ao j cap) j (flatS ((zipSt os ls).take j)))) (fun i _ _ => l1 - (intOf i).toNat)
  case atStart => exact ⟨0, none, 0, Nat.zero_le _, rfl, rfl, hid (fun m hm => by omega), (Below.refl _ _).alloc (Nat.le_refl _) _, by simp, hid (World.ownsRow_nil _ _ _ _)⟩
  case round =>
    obtain ⟨j, ao, cap, hj, rfl, rfl, HI, hb, q0, HO⟩ := hrel
    by_cases hlt : j < l1
    · obtain ⟨b2, o2, rfl, hlt2, hc2⟩ := h2.hcell (by omega)
      obtain ⟨ra, rl, rc, cr, hr⟩ := hc2 j hlt
      have cr' := (hb.cell (p := ⟨b2, o2 + j, none⟩) hlt2).trans cr
      have rl' := hr.hlen
      have rcap := hr.hcap
      have rmax := hr.hmax
      by_cases h8 : rl = 8
      · subst h8
        obtain ⟨b3, o3, rfl, hlt3, hc3⟩ := hr.hcell (by omega)
        obtain ⟨b1, o1, rfl, hlt1, hc1⟩ := h1.hcell (by omega)
        have cO := (hb.cell (p := ⟨b1, o1 + j, none⟩) hlt1).trans (hc1 j hlt)
        have HR : Hid (∀ m, m < 8 → wr.cell? ⟨b3, o3 + m, none⟩ = some (.int .i64 ((ls.getD j []).getD m 0))) := hid (fun m hm => (hb.cell (p := ⟨b3, o3 + m, none⟩) hlt3).trans (hc3 m hm))
        have hlt3' : b3 < wr.heap.size := Nat.lt_of_lt_of_le hlt3 hb.size
        have HZ : Hid ((zipSt os ls).take (j + 1) = (zipSt os ls).take j ++ [⟨os.getD j 0, ls.getD j []⟩]) := hid (by
          have hz := zip_len (os := os) (ls := ls) (by omega)
          rw [List.take_succ_eq_append_getElem (by omega), ← zip_at (os := os) (ls := ls) (by omega) (by omega)]
          simp [stAt, List.getD, List.getElem?_eq_getElem (show j < (zipSt os ls).length by omega)])
        have HL8 := hid rl'
        generalize hrow : ls.getD j [] = row at *
        have HRW := hid hrow
        clear hrow
        generalize os.getD j 0 = o at *
        clear hc1 hc2 hc3 cr hr
        go_wp2_with fail
        go_loopw [42] (fun i wq => ∃ (k : Nat) (f : Nat → Int), k ≤ 8 ∧ i = .int .i64 k ∧ Below wr.heap.size wr wq ∧ Nine wq wr.heap.size f ∧ Hid (f 0 = o) ∧ Hid (∀ m, m < k → f (m + 1) = row.getD m 0)) (fun i _ => 8 - (intOf i).toNat)
        case atStart => exact ⟨0, _, Nat.zero_le _, rfl, (Below.refl _ _).alloc (Nat.le_refl _) _, nine_newT wr o 0 0 0 0 0 0 0 0 _, hid rfl, hid (fun m hm => by omega)⟩
        case round =>
          obtain ⟨k, f, hk, rfl, hbq, hn, HF, HI2⟩ := hrel
          by_cases hlk : k < 8
          · have c := (hbq.cell (p := ⟨b3, o3 + k, none⟩) hlt3').trans (HR.out k hlk)
            have e1 := hn.cell (1 + k) (by omega)
            have e2 := hn.free (1 + k) (by omega)
            have HN := hid (hn.set (k := 1 + k) (by omega) (row.getD k 0))
            clear hn
            generalize hx : row.getD k 0 = x at *
            have HX := hid hx
            clear hx
            go_wp2_with fail
            go_roundw
            case rel =>
              refine ⟨k + 1, _, by omega, by go_num, hbq.setCell (p := ⟨_, 1 + k, none⟩) (Nat.le_refl _) _, HN.out, hid ?_, hid (fun m hm => ?_)⟩
              · rw [if_neg (by omega)]; exact HF.out
              · by_cases e : m < k
                · rw [if_neg (by omega)]; exact HI2.out m e
                · rw [if_pos (by omega), show m = k by omega]; exact HX.out.symm
            case measure => simp [intOf]; omega
          · have hk8 : k = 8 := by omega
            subst hk8
            have e0 := hn.cell 0 (by decide)
            have e1 := hn.cell 1 (by decide)
            have e2 := hn.cell 2 (by decide)
            have e3 := hn.cell 3 (by decide)
            have e4 := hn.cell 4 (by decide)
            have e5 := hn.cell 5 (by decide)
            have e6 := hn.cell 6 (by decide)
            have e7 := hn.cell 7 (by decide)
            have e8 := hn.cell 8 (by decide)
            have HS : Hid (stCells ⟨o, row⟩ = [.int .i64 (f 0), .int .i64 (f 1), .int .i64 (f 2), .int .i64 (f 3), .int .i64 (f 4), .int .i64 (f 5), .int .i64 (f 6), .int .i64 (f 7), .int .i64 (f 8)]) := hid (by
              obtain ⟨x0, x1, x2, x3, x4, x5, x6, x7, rfl⟩ := eight_cases HL8.out
              have := HI2.out
              rw [HF.out, this 0 (by decide), this 1 (by decide), this 2 (by decide), this 3 (by decide), this 4 (by decide), this 5 (by decide), this 6 (by decide), this 7 (by decide)]
              rfl)
            have own := own_keeps HO.out hbq
            have hsz := hbq.size
            have hsz2 := hb.size
            have hsz3 : w.heap.size < _ := World.block_lt_of_cell? _ ⟨w.heap.size, 0, none⟩ q0
            have q1 := (hbq.cell (p := ⟨w.heap.size, 0, none⟩) (World.block_lt_of_cell? _ ⟨w.heap.size, 0, none⟩ q0)).trans q0
            have HBQ := hid hbq
            clear hn hbq HF HI2 HO
            generalize f 0 = f0 at *
            generalize f 1 = f1 at *
            generalize f 2 = f2 at *
            generalize f 3 = f3 at *
            generalize f 4 = f4 at *
            generalize f 5 = f5 at *
            generalize f 6 = f6 at *
            generalize f 7 = f7 at *
            generalize f 8 = f8 at *
            go_wp2_with (at_builtin; go_must (refine wpList_append_own _ rfl (.tmp 52) (.tmp 54) 75 rfl (w.heap.size + 1) 137 i0 (.agg #[.int .i64 0, .int .i64 0, .int .i64 0, .int .i64 0, .int .i64 0, .int .i64 0, .int .i64 0, .int .i64 0, .int .i64 0]) 9 72 Try.underlying75 hi hz0 hz1 hz2 rfl (by decide) _ _ _ rfl (own.alloc _) ⟨wr.heap.size, 0, none⟩ 1 1 [.int .i64 f0, .int .i64 f1, .int .i64 f2, .int .i64 f3, .int .i64 f4, .int .i64 f5, .int .i64 f6, .int .i64 f7, .int .i64 f8] rfl rfl ?c1 ?c2 ?c3 ?c4 ?c5 ?_))
            case c1 => exact cell_nine_new _ _ _
            case c2 => intro u hu; simp at hu; rcases hu with rfl | rfl | rfl | rfl | rfl | rfl | rfl | rfl | rfl <;> rfl
            case c3 => unfold maxLen; omega
            case c4 => omega
            case c5 => simp; omega
            intro v' w1 hown hgrow _
            have hbel : Below (w.heap.size + 1) wr w1 := ((Below.refl _ _).alloc (by omega) _).grown hgrow (by simp; omega) (fun k h => (own.lt k h).1)
            rw [← HS.out, ← flatS_snoc, ← HZ.out] at hown
            obtain ⟨ao', cap', hv⟩ : ∃ ao' cap', v' = .slice ao' (j + 1) cap' := by
              rcases hown.2 with ⟨h, h0⟩ | ⟨g, cap', _, h, _⟩
              · omega
              · exact ⟨_, cap', h⟩
            subst hv
            have B1 := hid ((hb.trans (HBQ.out.mono hsz2)).trans (hbel.mono (Nat.le_succ _)))
            have q2 := (hbel.cell (p := ⟨w.heap.size, 0, none⟩) (Nat.lt_succ_self _)).trans q1
            have O1 := hid hown
            have Q2 := hid q2
            clear hown hgrow hbel own e0 e1 e2 e3 e4 e5 e6 e7 e8 cO cr' q0 q1 q2
            go_wp2_with fail
            go_roundw
            case rel =>
              refine ⟨j + 1, ao', cap', by omega, by go_num, rfl, hid (fun m hm => ?_), B1.out, Q2.out, O1⟩
              by_cases e : m < j
              · exact HI.out m e
              · rw [show m = j by omega, HRW.out]; exact HL8.out
            case measure => simp [intOf]; omega
      · have E : Hid (formedB os ls = false) := hid (formed_no fun e => by
          have e2 := (formed_len e).2.1 j (by omega)
          rw [rl'] at e2
          exact h8 e2)
        have k8 : ((rl : Int) != 8) = true := bne_iff_ne.2 (by omega)
        clear HO q0
        go_wp2_with fail
        go_ret2
        unfold Took
        exact ⟨hb, Or.inl ⟨E.out, rfl⟩⟩
    · obtain rfl : j = l1 := by omega
      have hf := formed_mk (os := os) (ls := ls) (by omega) (fun i hi => HI.out i (by omega))
      have hz := zip_len (os := os) (ls := ls) (by omega)
      have O := HO.out
      rw [List.take_of_length_le (by omega)] at O
      have HF := hid hf.1
      have H8 := hf.2
      clear hf HI q0 HO
      by_cases hpos : 1 ≤ j
      · obtain ⟨g, rfl, hg0, hg1, hg2⟩ := own_at' O (by omega)
        have F := fun W (hW : W.ownsRow (w.heap.size + 1) 137 9 (.slice (some ⟨g, 0, none⟩) j cap) j (flatS (zipSt os ls))) (hg : g < W.heap.size) => wf_good g j cap (w.heap.size + 1) (zipSt os ls) W hW H8 (by omega) hpos (by omega) hg hg2
        have HO := hid O
        clear O
        cases ev : wfB (zipSt os ls) with
        | true =>
          have HV := hid ev
          clear ev
          go_wp2_with fail
          refine (F _ HO.out hg1).mono ?_
          rintro e w2 ⟨rfl, hb2⟩
          rw [HV.out]
          have B2 := hid (hb.trans (hb2.mono hb.size))
          have O2 := hid (own_keeps HO.out hb2)
          clear hb2 F
          go_wp2_with fail
          go_ret2
          unfold Took
          rw [L1]
          exact ⟨B2.out, Or.inr ⟨by rw [HF.out]; exact HV.out, g, cap, rfl, own_mono O2.out (Nat.le_succ _)⟩⟩
        | false =>
          have HV := hid ev
          clear ev
          go_wp2_with fail
          refine (F _ HO.out hg1).mono ?_
          rintro e w2 ⟨rfl, hb2⟩
          rw [HV.out]
          have B2 := hid (hb.trans (hb2.mono hb.size))
          clear hb2 F
          go_wp2_with fail
          go_ret2
          unfold Took
          exact ⟨B2.out, Or.inl ⟨by rw [HF.out]; exact HV.out, rfl⟩⟩
      · obtain rfl : j = 0 := by omega
        have F := fun W => wf_bad ao 0 cap (zipSt os ls) W (by omega) (Or.inl (by decide)) (by decide)
        have HV : Hid (wfB (zipSt os ls) = false) := hid (by
          cases e : wfB (zipSt os ls) with
          | false => rfl
          | true => rw [wfB_iff] at e; omega)
        clear O
        go_wp2_with fail
        refine (F _).mono ?_
        rintro e w2 ⟨rfl, hb2⟩
        rw [HV.out]
        have B2 := hid (hb.trans (hb2.mono hb.size))
        clear hb2 F
        go_wp2_with fail
        go_ret2
        unfold Took
        exact ⟨B2.out, Or.inl ⟨by rw [HF.out]; exact HV.out, rfl⟩⟩

theorem mtake_any (h1 : Ints w a1 l1 c1 os) (h2 : Lists w a2 l2 c2 ls) : Calls Try.prog 58 #[.agg #[.slice a1 l1 c1, .slice a2 l2 c2]] w (Took os ls w) := by
  by_cases h : 8 < l1
  · exact take_big a1 a2 l1 c1 l2 c2 os ls w h1 h2 h
  by_cases hd : l2 = l1
  · subst hd; exact take_walk a1 a2 l2 c1 c2 os ls w h1 h2 h
  · exact take_unlike a1 a2 l1 c1 l2 c2 os ls w h1 h2 h hd

end
end Go.Proofs.Ytjagijohfkffiab

/- The walks of machine.Bytes and Write. -/
namespace Go.Proofs.Ytjagijohfkffiab
open Go.RowKit
set_option linter.unusedVariables false

theorem Try.infoByte : (Try.prog.info? 5).map (fun i => (i.zero, i.size, i.bytes)) = some (some (.int .u8 0), 1, 1) := by kernel_rfl

def bcells (l : List UInt8) : List Value := l.map fun b => Value.int .u8 (b.toNat : Int)
theorem bcells_snoc (l : List UInt8) (b : UInt8) : bcells (l ++ [b]) = bcells l ++ [.int .u8 (b.toNat : Int)] := by simp [bcells]
/-- A row of one that was just built. -/
theorem own_built (w : World) (base : Nat) (e : TypeId) (v : Value) (hb : base ≤ w.heap.size) : (w.alloc (.cells #[v] e)).ownsRow base e 1 (.slice (some ⟨w.heap.size, 0, none⟩) 1 1) 1 [v] :=
  ⟨rfl, Or.inr ⟨w.heap.size, 1, #[v], rfl, hb, heap_alloc_last w _, Nat.le_refl _, by unfold maxLen; omega, rfl, rfl⟩⟩

theorem cell_one_new (w : World) (a : Value) (t : TypeId) : ∀ j u, [a][j]? = some u → (w.alloc (.cells #[a] t)).cell? ((⟨w.heap.size, 0, none⟩ : Addr).add j) = some u := cell_nine_new w [a] t

theorem wrap_u8 {x : Int} (h0 : 0 ≤ x) (h1 : x < 256) : IntKind.u8.wrap x = x := by
  rw [IntKind.wrap_u8]; omega

def bytesTo (ss : List St) (j : Nat) : List UInt8 := byt (ss.length : Int) :: (ss.take j).flatMap stBytes
theorem stBytes_len {s : St} (h : s.next.length = 8) : (stBytes s).length = 9 := by simp [stBytes, h]
theorem bytesTo_len {ss : List St} (h : Eight ss) {j : Nat} (hj : j ≤ ss.length) : (bytesTo ss j).length = 1 + j * 9 := by
  unfold bytesTo
  rw [List.length_cons]
  have : ∀ (l : List St), Eight l → (l.flatMap stBytes).length = l.length * 9 := by
    intro l hl
    induction l with
    | nil => rfl
    | cons s l ih =>
      rw [List.flatMap_cons, List.length_append, ih (fun x hx => hl x (by simp [hx])), stBytes_len (hl s (by simp)), List.length_cons]
      omega
  rw [this _ (fun s hs => h s (List.mem_of_mem_take hs)), List.length_take]
  omega
theorem bytesTo_succ {ss : List St} {j : Nat} (hj : j < ss.length) : bytesTo ss (j + 1) = bytesTo ss j ++ stBytes (stAt ss j) := by
  unfold bytesTo
  rw [List.take_succ_eq_append_getElem hj, List.flatMap_append]
  simp [stAt, List.getD, List.getElem?_eq_getElem hj]
theorem bytesTo_all (ss : List St) : bytesTo ss ss.length = bytesOf ss := by unfold bytesTo bytesOf; rw [List.take_length]

/-- The bytes of a state up to letter k. -/
def stPart (s : St) (k : Nat) : List UInt8 := byt s.out :: (s.next.take k).map byt
theorem stPart_succ {s : St} {k : Nat} (hk : k < s.next.length) : stPart s (k + 1) = stPart s k ++ [byt (s.next.getD k 0)] := by
  unfold stPart
  rw [List.take_succ_eq_append_getElem hk, List.map_append, ← List.cons_append]
  simp [List.getD, List.getElem?_eq_getElem hk]
theorem stPart_all {s : St} : stPart s s.next.length = stBytes s := by unfold stPart stBytes; rw [List.take_length]
theorem stB_small {n i : Nat} {s : St} (h : stB n i s = true) : 0 ≤ s.out ∧ s.out ≤ 2 ∧ ∀ k, k < s.next.length → 0 ≤ s.next.getD k 0 ∧ s.next.getD k 0 < n := by
  unfold stB finB at h
  simp only [Bool.and_eq_true, Bool.or_eq_true, decide_eq_true_eq, List.all_eq_true] at h
  refine ⟨by omega, by omega, fun k hk => ?_⟩
  have := goes_iff.1 (h.2 s.next[k] (List.getElem_mem hk))
  simp [List.getD, List.getElem?_eq_getElem hk]
  exact ⟨this.1, this.2.1⟩

set_option maxHeartbeats 4000000 in
set_option maxRecDepth 100000 in
theorem bytes_any (g n cap B : Nat) (ss : List St) (w : World) (hr : w.ownsRow B 137 9 (.slice (some ⟨g, 0, none⟩) n cap) n (flatS ss)) (h8 : Eight ss) (hl : ss.length = n) (hw : wfB ss = true) (hg : g < w.heap.size) (hcap : n ≤ cap) :
    Calls Try.prog 59 #[.slice (some ⟨g, 0, none⟩) n cap] w fun e w' => e = .returned (.string ⟨(bytesOf ss).toArray⟩) ∧ Below w.heap.size w w' := by
  obtain ⟨hn1, hn8, hall⟩ := wfB_iff.1 hw
  rw [hl] at hn1 hn8 hall
  have HR := hid hr
  clear hr
  obtain ⟨i0, hi, hz0, hz1, hz2⟩ := info_parts Try.infoByte
  have wr0 : IntKind.u8.wrap (n : Int) = n := wrap_u8 (by omega) (by omega)
  have HN0 : Hid ([Value.int .u8 (n : Int)] = bcells (bytesTo ss 0)) := hid (by
    simp [bytesTo, bcells]
    rw [hl, byt_toNat (by omega) (by omega)])
  go_enter Try.func59, Try.ntmps59
  go_wp2_with fail
  go_loopw [14, 3] (fun i s wr => ∃ (j : Nat), j ≤ n ∧ i = .int .i64 j ∧ Below w.heap.size w wr ∧ Hid (wr.ownsRow w.heap.size 5 1 s (1 + j * 9) (bcells (bytesTo ss j)))) (fun i _ _ => n - (intOf i).toNat)
  case atStart => exact ⟨0, Nat.zero_le _, rfl, (Below.refl _ _).alloc (Nat.le_refl _) _, hid (by rw [← HN0.out]; exact own_built w w.heap.size 5 _ (Nat.le_refl _))⟩
  case round =>
    obtain ⟨j, hj, rfl, hb, HO⟩ := hrel
    by_cases hlt : j < n
    · have S := own_state HR.out h8 hl hlt
      have hs8 := eight_at h8 (i := j) (by omega)
      obtain ⟨a0, a1, a2, a3, a4, a5, a6, a7, ea, HX⟩ := st_lit (stAt ss j).out hs8
      rw [show (⟨(stAt ss j).out, (stAt ss j).next⟩ : St) = stAt ss j from rfl] at ea
      have ec : stCells (stAt ss j) = [.int .i64 (stAt ss j).out, .int .i64 a0, .int .i64 a1, .int .i64 a2, .int .i64 a3, .int .i64 a4, .int .i64 a5, .int .i64 a6, .int .i64 a7] := by
        have := congrArg Array.toList ea
        simpa [stArr] using this
      rw [ec] at S
      have hsm := stB_small (hall j hlt)
      have HLB := hid (bytesTo_len h8 (j := j) (by omega))
      have HSU := hid (bytesTo_succ (ss := ss) (j := j) (by omega))
      have HP0 : Hid (bcells (bytesTo ss j) ++ [.int .u8 (stAt ss j).out] = bcells (bytesTo ss j ++ stPart (stAt ss j) 0)) := hid (by
        rw [show stPart (stAt ss j) 0 = [byt (stAt ss j).out] by simp [stPart], bcells_snoc, byt_toNat hsm.1 (by omega)])
      have HS8 := hid hs8
      have HSM := hid hsm.2.2
      have s1 := hsm.1
      have s2 := hsm.2.1
      generalize hst : stAt ss j = st at *
      generalize st.out = o at *
      have c0 := (hb.cell (p := ⟨g, j * 9, none⟩) hg).trans (S 0 (by decide))
      have c1 := (hb.cell (p := ⟨g, j * 9 + 1, none⟩) hg).trans (S 1 (by decide))
      have c2 := (hb.cell (p := ⟨g, j * 9 + 2, none⟩) hg).trans (S 2 (by decide))
      have c3 := (hb.cell (p := ⟨g, j * 9 + 3, none⟩) hg).trans (S 3 (by decide))
      have c4 := (hb.cell (p := ⟨g, j * 9 + 4, none⟩) hg).trans (S 4 (by decide))
      have c5 := (hb.cell (p := ⟨g, j * 9 + 5, none⟩) hg).trans (S 5 (by decide))
      have c6 := (hb.cell (p := ⟨g, j * 9 + 6, none⟩) hg).trans (S 6 (by decide))
      have c7 := (hb.cell (p := ⟨g, j * 9 + 7, none⟩) hg).trans (S 7 (by decide))
      have c8 := (hb.cell (p := ⟨g, j * 9 + 8, none⟩) hg).trans (S 8 (by decide))
      simp only [List.getElem?_cons_succ, List.getElem?_cons_zero] at c0 c1 c2 c3 c4 c5 c6 c7 c8
      clear S ea ec hs8 hsm hst
      have wro : IntKind.u8.wrap o = o := wrap_u8 s1 (by omega)
      have own := HO.out
      have hsz := hb.size
      go_wp2_with (at_builtin; go_must (refine wpList_append_own _ rfl (.tmp 18) (.tmp 22) 187 rfl w.heap.size 5 i0 (.int .u8 0) 1 1 Try.underlying187 hi hz0 hz1 hz2 rfl (by decide) _ _ _ rfl ((own.alloc _).alloc _) ⟨wr.heap.size + 1, 0, none⟩ 1 1 [.int .u8 o] rfl rfl ?c1 ?c2 ?c3 ?c4 ?c5 ?_))
      case c1 => have := cell_one_new (wr.alloc (.cells #[.int .i64 o, .int .i64 a0, .int .i64 a1, .int .i64 a2, .int .i64 a3, .int .i64 a4, .int .i64 a5, .int .i64 a6, .int .i64 a7] 137)) (.int .u8 o) 5; simpa using this
      case c2 => intro u hu; simp at hu; subst hu; rfl
      case c3 => unfold maxLen; omega
      case c4 => omega
      case c5 => simp; omega
      intro v1 w1 hown hgrow _
      have nb : ∀ i v, ((wr.alloc (.cells #[.int .i64 o, .int .i64 a0, .int .i64 a1, .int .i64 a2, .int .i64 a3, .int .i64 a4, .int .i64 a5, .int .i64 a6, .int .i64 a7] 137)).alloc (.cells #[.int .u8 o] 5)).cell? ⟨wr.heap.size, i, none⟩ = some v → w1.cell? ⟨wr.heap.size, i, none⟩ = some v := fun i v h => hgrow.cell h (fun e => by
        have := (own.lt _ e.symm).2
        exact absurd this (Nat.lt_irrefl _))
      have k1 := nb 1 (.int .i64 a0) (by simp)
      have k2 := nb 2 (.int .i64 a1) (by simp)
      have k3 := nb 3 (.int .i64 a2) (by simp)
      have k4 := nb 4 (.int .i64 a3) (by simp)
      have k5 := nb 5 (.int .i64 a4) (by simp)
      have k6 := nb 6 (.int .i64 a5) (by simp)
      have k7 := nb 7 (.int .i64 a6) (by simp)
      have k8 := nb 8 (.int .i64 a7) (by simp)
      have hbel : Below w.heap.size wr w1 := (((Below.refl _ _).alloc hsz _).alloc (by simp; omega) _).grown hgrow (by simp; omega) (fun k h => (own.lt k h).1)
      rw [HP0.out] at hown
      have O1 := hid hown
      have B1 := hid (hb.trans hbel)
      clear hown hgrow hbel own nb c0 c1 c2 c3 c4 c5 c6 c7 c8 HO
      go_wp2_with fail
      generalize (#[Value.int .i64 a0, .int .i64 a1, .int .i64 a2, .int .i64 a3, .int .i64 a4, .int .i64 a5, .int .i64 a6, .int .i64 a7] : Array Value) = X at *
      go_loopw [26, 3] (fun i s wr => ∃ (k : Nat), k ≤ 8 ∧ i = .int .i64 k ∧ Below w.heap.size w wr ∧ Hid (wr.ownsRow w.heap.size 5 1 s (1 + j * 9 + 1 + k) (bcells (bytesTo ss j ++ stPart st k)))) (fun i _ _ => 8 - (intOf i).toNat)
      case atStart => exact ⟨0, Nat.zero_le _, rfl, B1.out, O1⟩
      case round =>
        obtain ⟨k, hk, rfl, hbq, HO⟩ := hrel
        by_cases hlk : k < 8
        · have IX := fun W => run_index_one (P := Try.prog) W Try.underlying135 (run_isAgg_int Try.underlying3) (by kernel_rfl) hlk (HX.out k hlk)
          have hx := HSM.out k (by rw [HS8.out]; exact hlk)
          have HPS : Hid (bcells (bytesTo ss j ++ stPart st k) ++ [.int .u8 (st.next.getD k 0)] = bcells (bytesTo ss j ++ stPart st (k + 1))) := hid (by
            rw [stPart_succ (by rw [HS8.out]; exact hlk), ← List.append_assoc, bcells_snoc, byt_toNat hx.1 (by omega)])
          generalize st.next.getD k 0 = x at *
          have wrx : IntKind.u8.wrap x = x := wrap_u8 hx.1 (by omega)
          have own := HO.out
          have hsz := hbq.size
          go_wp2_with (at_builtin; go_must (refine wpList_append_own _ rfl (.tmp 29) (.tmp 32) 187 rfl w.heap.size 5 i0 (.int .u8 0) 1 1 Try.underlying187 hi hz0 hz1 hz2 rfl (by decide) _ _ _ rfl (own.alloc _) ⟨wr.heap.size, 0, none⟩ 1 1 [.int .u8 x] rfl rfl ?c1 ?c2 ?c3 ?c4 ?c5 ?_))
          case c1 => exact cell_one_new _ _ _
          case c2 => intro u hu; simp at hu; subst hu; rfl
          case c3 => unfold maxLen; omega
          case c4 => omega
          case c5 => simp; omega
          intro v2 w2 hown hgrow _
          have hbel : Below w.heap.size wr w2 := ((Below.refl _ _).alloc hsz _).grown hgrow (by simp; omega) (fun k h => (own.lt k h).1)
          rw [HPS.out] at hown
          have O2 := hid hown
          have B2 := hid (hbq.trans hbel)
          clear hown hgrow hbel own HO IX
          go_wp2_with fail
          go_roundw
          case rel => exact ⟨k + 1, by omega, by go_num, B2.out, O2⟩
          case measure => simp [intOf]; omega
        · obtain rfl : k = 8 := by omega
          have O3 := HO.out
          rw [show stPart st 8 = stBytes st by rw [← HS8.out]; exact stPart_all, ← HSU.out, show 1 + j * 9 + 1 + 8 = 1 + (j + 1) * 9 by omega] at O3
          have O4 := hid O3
          clear O3 HO
          go_wp2_with fail
          go_roundw
          case rel => exact ⟨j + 1, by omega, by go_num, hbq, O4⟩
          case measure => simp [intOf]; omega
    · obtain rfl : j = n := by omega
      have own := HO.out
      have HL := bytesTo_len h8 (j := j) (by omega)
      rw [show bytesTo ss j = bytesOf ss by rw [← hl]; exact bytesTo_all ss] at own HL
      obtain ⟨gb, bcap, hv, _⟩ : ∃ gb bcap, u3 = .slice (some ⟨gb, 0, none⟩) (1 + j * 9) bcap ∧ True := by
        rcases own.2 with ⟨h, h0⟩ | ⟨g, cap', _, h, _⟩
        · omega
        · exact ⟨g, cap', h, trivial⟩
      subst hv
      have CV := run_convert_bytes_back (P := Try.prog) wr 187 9 5 ⟨gb, 0, none⟩ bcap (bytesOf ss) Try.underlying187 Try.underlying5 Try.underlying9 (fun k hk => by
        rw [add_off, Nat.zero_add, own.cellAt k (by omega)]
        simp [bcells, List.getElem?_eq_getElem hk])
      rw [HL] at CV
      clear own HO HL
      go_wp2_with fail
      go_ret
      exact ⟨rfl, hb⟩

section
variable (a1 a2 : Option Addr) (l1 c1 l2 c2 : Nat) (os : List Int) (ls : List (List Int)) (w : World)

set_option maxHeartbeats 1000000 in
set_option maxRecDepth 100000 in
theorem write_any (h1 : Ints w a1 l1 c1 os) (h2 : Lists w a2 l2 c2 ls) :
    Calls Try.prog 30 #[.agg #[.slice a1 l1 c1, .slice a2 l2 c2]] w fun e w' => e = .returned (.tuple #[.string (writeStr os ls), .int .i64 (writeErr os ls)]) ∧ Below w.heap.size w w' := by
  have T := fun W (b : Below w.heap.size w W) => mtake_any a1 a2 l1 c1 l2 c2 os ls W (h1.below b) (h2.below b)
  cases ef : formedB os ls with
  | false =>
    have HE : Hid (writeStr os ls = ⟨#[]⟩ ∧ writeErr os ls = 8) := hid ⟨by simp [writeStr, ef], by simp [writeErr, ef]⟩
    have HF := hid ef
    clear ef
    go_enter Try.func30, Try.ntmps30
    go_wp2_with fail
    refine (T _ ((Below.refl _ _).alloc (Nat.le_refl _) _)).mono ?_
    rintro e w2 ⟨hb2, ⟨_, rfl⟩ | ⟨hx, _⟩⟩
    · have B2 := hid (((Below.refl w.heap.size w).alloc (Nat.le_refl _) _).trans (hb2.mono (by simp)))
      clear hb2 T
      go_wp2_with fail
      go_ret2
      exact ⟨by rw [HE.out.1, HE.out.2]; rfl, B2.out⟩
    · rw [HF.out] at hx; cases hx
  | true =>
    have HE : Hid (writeStr os ls = ⟨(bytesOf (zipSt os ls)).toArray⟩ ∧ writeErr os ls = 0) := hid ⟨by simp [writeStr, ef], by simp [writeErr, ef]⟩
    have HF := hid ef
    have hl := formed_len ef
    have h8 := (formed_mk hl.1 hl.2.1).2
    clear ef
    go_enter Try.func30, Try.ntmps30
    go_wp2_with fail
    refine (T _ ((Below.refl _ _).alloc (Nat.le_refl _) _)).mono ?_
    rintro e w2 ⟨hb2, ⟨hx, _⟩ | ⟨_, g, cap, rfl, own⟩⟩
    · rw [HF.out] at hx; cases hx
    · have hpos := (wfB_iff.1 hl.2.2).1
      rw [zip_len hl.1] at hpos
      obtain ⟨g', eg, hg0, hg1, hg2⟩ := own_at' own (by omega)
      cases eg
      have F := bytes_any g os.length cap _ (zipSt os ls) w2 own h8 (zip_len hl.1) hl.2.2 hg1 hg2
      have B2 := hid (((Below.refl w.heap.size w).alloc (Nat.le_refl _) _).trans (hb2.mono (by simp)))
      clear hb2 T own hl h8
      go_wp2_with fail
      refine F.mono ?_
      rintro e w3 ⟨rfl, hb3⟩
      have B3 := hid (B2.out.trans (hb3.mono B2.out.size))
      clear hb3 F
      go_wp2_with fail
      go_ret2
      exact ⟨by rw [HE.out.1, HE.out.2]; rfl, B3.out⟩
end

end Go.Proofs.Ytjagijohfkffiab
