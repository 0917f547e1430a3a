import Derived.Test.YtjagijohfkffiabCHEM02
import Derived.Test.YtjagijohfkffiabCHEM36

/- The walk of the reference's from: what one gets to. -/
namespace Go.Proofs.Ytjagijohfkffiab
open Go.RowKit
set_option linter.unusedVariables false

/-- One goes from a to b. -/
def Ed (N : Nat) (to : Nat → List Nat) (a b : Nat) : Prop := a < N ∧ b ∈ to a

theorem outTo_upd (f : Nat → Bool) (N b : Nat) (v : Bool) : (outTo f N N).set b (.bool v) = outTo (upd f b v) N N := by
  unfold outTo
  apply List.ext_getElem
  · simp
  · intro i h1 h2
    simp at h1
    rw [List.getElem_set]
    simp only [List.getElem_map, List.getElem_range, upd, h1, if_true]
    by_cases e : b = i
    · rw [if_pos e, if_pos e.symm]
    · rw [if_neg e, if_neg (fun h => e h.symm)]

theorem atN_mem {l : List Nat} {i : Nat} (h : i < l.length) : atN l i ∈ l := by simp [atN, List.getD, List.getElem?_eq_getElem h]
theorem mem_atN {l : List Nat} {x : Nat} (h : x ∈ l) : ∃ i, i < l.length ∧ atN l i = x := by
  obtain ⟨i, hi, e⟩ := List.getElem_of_mem h
  exact ⟨i, hi, by simp [atN, List.getD, List.getElem?_eq_getElem hi, e]⟩
theorem atN_snoc {l : List Nat} {i x : Nat} (h : i < l.length) : atN (l ++ [x]) i = atN l i := by simp [atN, List.getD, List.getElem?_append_left h]

/-- Up to place i of todo all that one goes to has been seen. -/
def Done (N : Nat) (to : Nat → List Nat) (todo : List Nat) (seen : Nat → Bool) (i : Nat) : Prop := ∀ q, q < i → ∀ b, b ∈ to (atN todo q) → seen b = true

theorem done_push {N : Nat} {to : Nat → List Nat} {td : List Nat} {sn : Nat → Bool} {q b : Nat} (h : Done N to td sn q) (hq : q ≤ td.length) : Done N to (td ++ [b]) (upd sn b true) q := fun x hx c hc => by
  rw [atN_snoc (by omega)] at hc
  unfold upd
  by_cases e : c = b
  · rw [if_pos e]
  · rw [if_neg e]; exact h x hx c hc

set_option maxHeartbeats 4000000 in
set_option maxRecDepth 100000 in
theorem from_net (P N K at0 : Nat) (to : Nat → List Nat) (kp : Nat → Nat → Bool) (w : World) (hn : NetM w P N to K kp) (hto : ∀ a, a < N → ∀ b ∈ to a, b < N) (hlen : ∀ a, a < N → (to a).length ≤ 4398046511104) (ha : at0 < N) (hN : N ≤ 1099511627776) :
    Calls Try.prog 97 #[.pointer (some ⟨P, 0, none⟩), .int .i64 at0] w fun e w' => ∃ g seen, e = .returned (.slice (some ⟨g, 0, none⟩) N N) ∧ w.heap.size ≤ g ∧ w'.ownsRow w.heap.size 4 1 (.slice (some ⟨g, 0, none⟩) N N) N (outTo seen N N) ∧ (∀ b, seen b = true ↔ reach (Ed N to) at0 b) ∧ Below w.heap.size w w' := by
  obtain ⟨v0, c0, ao, cap, rfl, hcap, hrow⟩ := hn.c0
  obtain ⟨g, rfl, hg, hcell⟩ := hrow (by omega)
  have hP := hn.lt
  have HC := hid hcell
  obtain ⟨i0, hi, hz0, hz1, hz2⟩ := info_parts Try.infoBool
  obtain ⟨i1, hi1, hz01, hz11, hz21⟩ := info_parts Try.infoIntE
  have HTO := hid hto
  clear hcell hrow hn hto
  go_enter Try.func97, Try.ntmps97
  go_wp2_with (at_make; go_must (refine wpList_make_full _ rfl (.tmp 14) (.tmp 14) 104 rfl w.heap.size 4 i0 (.bool false) 1 Try.underlying104 hi hz0 hz1 .i64 .i64 N N N rfl rfl rfl rfl ?m2 ?m3 (Nat.le_refl _) ?_))
  case m2 => rw [hz2]; omega
  case m3 => unfold maxLen; omega
  intro w1 own1 grow1
  have eo : (madeCells #[Value.bool false] N).toList = List.replicate N (.bool false) := toList_madeCells_one _ _
  rw [eo, ← outTo_zero (fun _ => false), show outTo (fun _ => false) N 0 = outTo (fun _ => false) N N by simp [outTo]] at own1
  have hb1 : Below w.heap.size w w1 := (Below.refl _ _).grown grow1 (Nat.le_refl _) (fun k h => by cases h)
  have hs1 : w.heap.size < w1.heap.size := (own1.lt _ rfl).2
  have O1 := hid own1
  have HB1 := hid hb1
  clear own1 grow1 eo hb1
  go_wp2_with fail
  go_loopw [7, 6] (fun i v wr => ∃ (q : Nat) (todo : List Nat) (seen : Nat → Bool), i = .int .i64 q ∧ q ≤ todo.length ∧ Hid (Bfs (Ed N to) N at0 todo seen) ∧ Hid (Done N to todo seen q) ∧ Hid (wr.ownsRow (w.heap.size + 1) 3 1 v todo.length (nInts todo)) ∧
      Hid (wr.ownsRow w.heap.size 4 1 (.slice (some ⟨w.heap.size, 0, none⟩) N N) N (outTo seen N N)) ∧ Below w.heap.size w wr) (fun i _ _ => N + 1 - (intOf i).toNat)
  case atStart =>
    refine ⟨0, [at0], fun _ => false, rfl, Nat.zero_le _, hid (bfs_start _ _ _), hid (fun q hq => by omega), hid ?_, hid (O1.out.alloc _), HB1.out.alloc HB1.out.size _⟩
    exact ⟨rfl, Or.inr ⟨w1.heap.size, 1, #[.int .i64 at0], rfl, by omega, by show (w1.heap.push _)[w1.heap.size]? = _; simp, Nat.le_refl _, by unfold maxLen; omega, rfl, rfl⟩⟩
  case round =>
    obtain ⟨q, todo, seen, rfl, hq, HBF, HD, HT, HS, hb⟩ := hrel
    rename World => W0
    obtain ⟨aot, tcap, hv⟩ := own_slice HT.out
    subst hv
    have htl := HBF.out.len
    have c0' := (hb.cell (p := ⟨P, 0, none⟩) hP).trans c0
    by_cases hlt : q < todo.length
    · obtain ⟨gt, e, hgt0, hgt, htc⟩ := own_at' HT.out (by omega)
      subst e
      have ct : W0.cell? ⟨gt, q, none⟩ = some (.int .i64 (atN todo q : Nat)) := by
        rw [HT.out.cellAt q (by omega)]
        simp [nInts, atN, List.getD, List.getElem?_eq_getElem hlt]
      have haN : atN todo q < N := by
        rcases HBF.out.mem (atN_mem hlt) with e | e
        · rw [e]; exact ha
        · exact e.2
      obtain ⟨r, cr, hnr⟩ := HC.out (atN todo q) haN
      have cr' := (hb.cell (p := ⟨g, atN todo q, none⟩) hg).trans cr
      obtain ⟨aor, rcap, rfl, hrc, hrr⟩ := hnr
      have HRR := hid hrr
      have HQ : Hid (atN todo q ∈ todo) := hid (atN_mem hlt)
      have HTA := hid (HTO.out (atN todo q) haN)
      have hll := hlen (atN todo q) haN
      generalize hA : atN todo q = a at *
      have HAQ := hid hA
      generalize hlnE : (to a).length = ln at *
      have HLN := hid hlnE
      generalize htnE : todo.length = tn at *
      have HTN := hid htnE
      clear hrr cr hlnE hA htnE
      have kd : decide ((q : Int) < (tn : Int)) = true := by simp; omega
      go_wp2_with fail
      go_quiet (fail)
      have HBD := hid (below_drewN hb nq)
      have HT2 := hid (own_keeps HT.out (below_drewN (Below.refl W0.heap.size W0) nq))
      have HS2 := hid (own_keeps HS.out (below_drewN (Below.refl W0.heap.size W0) nq))
      clear HT HS c0' cr' ct hgt kd hb
      generalize W0.drewN nq = W1 at *
      go_wp2_with fail
      go_loopw [9, 6] (fun i v wr => ∃ (k : Nat) (td : List Nat) (sn : Nat → Bool), k ≤ ln ∧ i = .int .i64 k ∧ Hid (Bfs (Ed N to) N at0 td sn) ∧ Hid (q < td.length ∧ atN td q = a) ∧ Hid (Done N to td sn q) ∧ Hid (∀ x, x < k → sn (atN (to a) x) = true) ∧ Hid (wr.ownsRow (w.heap.size + 1) 3 1 v td.length (nInts td)) ∧
          Hid (wr.ownsRow w.heap.size 4 1 (.slice (some ⟨w.heap.size, 0, none⟩) N N) N (outTo sn N N)) ∧ Below w.heap.size w wr) (fun i _ _ => ln - (intOf i).toNat)
      case atStart => exact ⟨0, todo, seen, Nat.zero_le _, rfl, HBF, hid ⟨by rw [HTN.out]; exact hlt, HAQ.out⟩, HD, hid (fun x hx => by omega), by rw [HTN.out]; exact HT2, HS2, HBD.out⟩
      case round =>
        obtain ⟨k, td, sn, hk, rfl, HBF2, HQ2, HD2, HK, HT3, HS3, hbr⟩ := hrel
        obtain ⟨aot, tcap, hv⟩ := own_slice HT3.out
        subst hv
        have htl2 := HBF2.out.len
        have hsz := hbr.size
        by_cases hlk : k < ln
        · obtain ⟨gr, e, hgr, crr⟩ := HRR.out (by omega)
          subst e
          have cb := (hbr.cell (p := ⟨gr, k, none⟩) hgr).trans (crr k hlk)
          have hbN : atN (to a) k < N := HTA.out _ (atN_mem (by rw [HLN.out]; exact hlk))
          have HED : Hid (Ed N to a (atN (to a) k)) := hid ⟨haN, atN_mem (by rw [HLN.out]; exact hlk)⟩
          have sb : wr.cell? ⟨w.heap.size, atN (to a) k, none⟩ = some (.bool (sn (atN (to a) k))) := by
            rw [HS3.out.cellAt _ (by omega)]
            exact outTo_get sn N _ hbN
          have sf := HS3.out.frozenAt (atN (to a) k)
          have HKS : Hid (sn (atN (to a) k) = true → ∀ x, x < k + 1 → sn (atN (to a) x) = true) := hid (fun h x hx => by
            by_cases e : x < k
            · exact HK.out x e
            · rw [show x = k by omega]; exact h)
          have HKU : Hid (∀ x, x < k + 1 → upd sn (atN (to a) k) true (atN (to a) x) = true) := hid (fun x hx => by
            unfold upd
            by_cases e : atN (to a) x = atN (to a) k
            · rw [if_pos e]
            · rw [if_neg e]
              by_cases e2 : x < k
              · exact HK.out x e2
              · exact absurd (by rw [show x = k by omega]) e)
          have HST := hid (HS3.out.stored (atN (to a) k) (.bool true))
          generalize hbb : atN (to a) k = b at *
          have HBB := hid hbb
          clear hbb crr
          cases hsv : sn b with
          | true =>
            rw [hsv] at sb
            have HSV := hid hsv
            clear hsv
            go_wp2_with fail
            go_roundw
            case rel => exact ⟨k + 1, td, sn, by omega, by go_num, HBF2, HQ2, HD2, hid (HKS.out HSV.out), HT3, HS3, hbr⟩
            case measure => simp [intOf]; omega
          | false =>
            rw [hsv] at sb
            have HSV := hid hsv
            clear hsv
            have BA := hid (bfs_add HBF2.out (by rw [← HQ2.out.2]; exact atN_mem HQ2.out.1) HED.out hbN HSV.out)
            have hst := HST.out
            rw [outTo_upd] at hst
            have HO5 := hid hst.1
            have HB5 := hid (hbr.setCell (p := ⟨w.heap.size, b, none⟩) (Nat.le_refl _) (.bool true))
            have t5 := own_set_other HT3.out (k := w.heap.size) (Nat.lt_succ_self _) b (.bool true)
            have cb5 : (wr.setCell ⟨w.heap.size, b, none⟩ (.bool true)).cell? ⟨gr, k, none⟩ = some (.int .i64 (b : Nat)) := by
              rw [World.cell?_setCell_other _ _ _ _ (fun e => by have := congrArg Addr.block e; simp at this; omega)]
              exact cb
            have hs5 : (wr.setCell ⟨w.heap.size, b, none⟩ (.bool true)).heap.size = wr.heap.size := World.size_setCell _ _ _
            have HDP := hid (done_push (b := b) HD2.out (by have := HQ2.out.1; omega))
            have HQP : Hid (q < (td ++ [b]).length ∧ atN (td ++ [b]) q = a) := hid ⟨by have := HQ2.out.1; rw [List.length_append]; omega, by rw [atN_snoc HQ2.out.1]; exact HQ2.out.2⟩
            have HLT : Hid (nInts td ++ [.int .i64 (b : Nat)] = nInts (td ++ [b]) ∧ td.length + 1 = (td ++ [b]).length) := hid ⟨by simp [nInts], by simp⟩
            clear hst HST HS3 HT3 HBF2 HD2 HQ2
            have hl5 : td.length ≤ N + 1 := htl2
            go_wp2_with (at_builtin; go_must (refine wpList_append_own _ rfl (.tmp 54) (.tmp 59) 22 rfl (w.heap.size + 1) 3 i1 (.int .i64 0) 1 8 Try.underlying22 hi1 hz01 hz11 hz21 rfl (by decide) _ _ _ rfl (t5.alloc _) ⟨wr.heap.size, 0, none⟩ 1 1 [.int .i64 b] rfl rfl ?c1 ?c2 ?c3 ?c4 ?c5 ?_))
            case c1 => exact fun z u hz => by have := World.cell?_alloc_here (wr.setCell ⟨w.heap.size, b, none⟩ (.bool true)) #[.int .i64 (b : Nat)] 3 wr.heap.size z hs5.symm; rw [add_off, Nat.zero_add, this]; simpa using hz
            case c2 => intro u hu; simp at hu; subst hu; rfl
            case c3 => unfold maxLen; omega
            case c4 => omega
            case c5 => simp; omega
            intro v' w2 hown hgrow _
            have B6 := hid ((HB5.out.alloc (by rw [hs5]; exact hsz) _).grown hgrow (by rw [World.size_alloc, hs5]; omega) (fun k h => Nat.le_trans (Nat.le_succ _) (t5.lt k h).1))
            have S6 := hid ((HO5.out.alloc (.cells #[.int .i64 (b : Nat)] 3)).kept hgrow (own_ne' (HO5.out.alloc (.cells #[.int .i64 (b : Nat)] 3)) (t5.alloc (.cells #[.int .i64 (b : Nat)] 3)) (by decide)))
            rw [HLT.out.1, HLT.out.2] at hown
            have O6 := hid hown
            clear hown hgrow t5 cb5 HB5 HO5 sb sf cb
            go_wp2_with fail
            go_roundw
            case rel => exact ⟨k + 1, td ++ [b], upd sn b true, by omega, by go_num, BA, HQP, HDP, HKU, O6, S6, B6.out⟩
            case measure => simp [intOf]; omega
        · obtain rfl : k = ln := by omega
          have HDN : Hid (Done N to td sn (q + 1)) := hid (fun x hx c hc => by
            by_cases e : x < q
            · exact HD2.out x e c hc
            · rw [show x = q by omega, HQ2.out.2] at hc
              obtain ⟨y, hy, rfl⟩ := mem_atN hc
              exact HK.out y (by rw [HLN.out] at hy; exact hy))
          have hq1 : q + 1 ≤ td.length := HQ2.out.1
          go_wp2_with fail
          go_roundw
          case rel => exact ⟨q + 1, td, sn, by go_num, hq1, HBF2, HDN, HT3, HS3, hbr⟩
          case measure => simp [intOf]; omega
    · have HALL : Hid (∀ b, seen b = true ↔ reach (Ed N to) at0 b) := hid (bfs_done HBF.out (fun a hm b he => by
        obtain ⟨x, hx, rfl⟩ := mem_atN hm
        exact HD.out x (by omega) b he.2))
      generalize todo.length = tn at *
      have kd : decide ((q : Int) < (tn : Int)) = false := by simp; omega
      go_wp2_with fail
      go_ret
      exact ⟨w.heap.size, seen, rfl, Nat.le_refl _, HS.out, HALL.out, hb⟩

end Go.Proofs.Ytjagijohfkffiab
