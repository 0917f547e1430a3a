import Derived.Test.YtjagijohfkffiabCHEM22
import Derived.Test.YtjagijohfkffiabCHEM23

/- The walks of the reference's numbers, IsGraph, Edge. -/
namespace Go.Proofs.Ytjagijohfkffiab
open Go.RowKit
set_option linter.unusedVariables false

set_option maxHeartbeats 1000000 in
set_option maxRecDepth 100000 in
theorem rnumbers_any (a : Option Addr) (l c n : Nat) (zs : List Int) (w : World) (h : Ints w a l c zs) :
    Calls Try.prog 54 #[.slice a l c, .int .i64 (n : Nat)] w fun e w' => e = .returned (.bool (numB n zs)) ∧ w' = w := by
  have hl := h.hlen
  have hcap := h.hcap
  have hmax := h.hmax
  have HI := hid h
  clear h
  go_enter Try.func54, Try.ntmps54
  go_wp2_with fail
  go_loop [5] (fun i => ∃ j : Nat, j ≤ l ∧ i = .int .i64 j ∧ Hid (∀ k, k < j → 0 ≤ zs.getD k 0 ∧ zs.getD k 0 < (n : Int))) (fun i => l - (intOf i).toNat)
  case atStart => exact ⟨0, Nat.zero_le _, rfl, hid (fun k hk => by omega)⟩
  case round =>
    obtain ⟨j, hj, rfl, HK⟩ := hrel
    by_cases hlt : j < l
    · obtain ⟨b, o, e, hb, hc⟩ := HI.out.hcell (by omega)
      subst e
      have ck := hc j hlt
      have HM : Hid (zs.getD j 0 ∈ zs) := hid (by rw [List.getD, List.getElem?_eq_getElem (by omega)]; exact List.getElem_mem _)
      have HST : Hid (0 ≤ zs.getD j 0 ∧ zs.getD j 0 < (n : Int) → ∀ k, k < j + 1 → 0 ≤ zs.getD k 0 ∧ zs.getD k 0 < (n : Int)) := hid (fun h k hk => by
        by_cases e : k = j
        · subst e; exact h
        · exact HK.out k (by omega))
      have HNO : Hid (¬ (0 ≤ zs.getD j 0 ∧ zs.getD j 0 < (n : Int)) → numB n zs = false) := hid (fun h => by
        cases e : numB n zs with
        | false => rfl
        | true => exact absurd (numB_iff.1 e _ HM.out) h)
      clear hc
      generalize zs.getD j 0 = z at *
      have i1 : (0 : Int) ≤ (j : Int) := by omega
      have i2 : (j : Int) < (l : Int) := by omega
      by_cases g1 : z < 0
      · have HE := hid (HNO.out (by omega))
        go_wp2_with fail
        go_ret
        exact ⟨by rw [HE.out]; rfl, rfl⟩
      · have g1' : decide (z < 0) = false := by simp; omega
        by_cases g2 : (n : Int) ≤ z
        · have HE := hid (HNO.out (by omega))
          go_wp2_with fail
          go_ret
          exact ⟨by rw [HE.out]; rfl, rfl⟩
        · have g2' : decide ((n : Int) ≤ z) = false := by simp; omega
          have HS := hid (HST.out (by omega))
          go_wp2_with fail
          go_round
          case rel => exact ⟨j + 1, by omega, by go_num, HS⟩
          case measure => simp [intOf] <;> omega
    · obtain rfl : j = l := by omega
      have HE : Hid (numB n zs = true) := hid (numB_iff.2 (fun z hz => by
        obtain ⟨k, hk, e⟩ := List.getElem_of_mem hz
        have := HK.out k (by omega)
        rw [List.getD, List.getElem?_eq_getElem hk] at this
        simpa [e] using this))
      go_wp2_with fail
      go_ret
      exact ⟨by rw [HE.out]; rfl, rfl⟩

section
variable (a1 a2 a3 : Option Addr) (l1 c1 l2 c2 l3 c3 : Nat) (zs : List Int) (zss : List (List Int)) (ss : List Int) (w : World)

set_option maxHeartbeats 4000000 in
set_option maxRecDepth 100000 in
theorem isGraph_any (h1 : Ints w a1 l1 c1 zs) (h2 : Lists w a2 l2 c2 zss) (h3 : Ints w a3 l3 c3 ss) :
    Calls Try.prog 46 #[.agg #[.slice a1 l1 c1, .slice a2 l2 c2, .slice a3 l3 c3]] w fun e w' => e = .returned (.bool (graphB zs zss ss)) ∧ Below w.heap.size w w' := by
  have m1 := h1.hcap
  have m2 := h1.hmax
  have L1 := h1.hlen
  have L2 := h2.hlen
  have L3 := h3.hlen
  have n1 := h2.hcap
  have n2 := h2.hmax
  have o1 := h3.hcap
  have o2 := h3.hmax
  have HGE : Hid (graphB zs zss ss = (decide (1 ≤ l1) && decide (l1 ≤ 6) && decide (l2 = l1) && allL zs && decide (l3 ≠ 0) && numB l1 ss && rowsB l1 zss l1)) := hid (by unfold graphB; rw [L1, L2, L3])
  have ba := (Below.refl w.heap.size w).alloc (Nat.le_refl _) (.cells #[.slice a1 l1 c1, .slice a2 l2 c2, .slice a3 l3 c3] 46)
  have T0 := three_new w (.slice a1 l1 c1) (.slice a2 l2 c2) (.slice a3 l3 c3) 46
  have x0 := T0.c0
  have x1 := T0.c1
  have x2 := T0.c2
  have WD := hid (rword_any a1 l1 c1 zs _ (h1.below ba))
  have NB := hid (rnumbers_any a3 l3 c3 l1 ss _ (h3.below ba))
  have HI2 := hid (h2.below ba)
  have HB := hid ba
  clear h1 h2 h3 ba T0
  generalize hSL : allL zs = sl at *
  generalize hSN : numB l1 ss = sn at *
  go_enter Try.func46, Try.ntmps46
  go_wp2_with fail
  refine WD.out.mono ?_
  rintro e w1 ⟨rfl, rfl⟩
  go_wp2_with fail
  refine NB.out.mono ?_
  rintro e w2 ⟨rfl, rfl⟩
  by_cases k1 : l1 = 0
  · have HE : Hid (graphB zs zss ss = false) := hid (by rw [HGE.out, k1]; simp)
    have z1 : ((l1 : Int) == 0) = true := by simp [k1]
    clear k1
    go_wp2_with fail
    go_ret
    exact ⟨by rw [HE.out]; rfl, HB.out⟩
  have z1 : ((l1 : Int) == 0) = false := beq_eq_false_iff_ne.2 (by omega)
  by_cases k2 : 6 < l1
  · have HE : Hid (graphB zs zss ss = false) := hid (by rw [HGE.out, show decide (l1 ≤ 6) = false by simp; omega]; simp)
    have z2 : (6 : Int) < (l1 : Int) := by omega
    go_wp2_with fail
    go_ret
    exact ⟨by rw [HE.out]; rfl, HB.out⟩
  have z2 : decide ((6 : Int) < (l1 : Int)) = false := by simp; omega
  have z2n : decide (6 < l1) = false := by simp; omega
  by_cases k3 : l2 = l1
  · subst k3
    have z3 : ((l2 : Int) != (l2 : Int)) = false := by simp
    cases sl with
    | false =>
      have HE : Hid (graphB zs zss ss = false) := hid (by rw [HGE.out]; simp)
      go_wp2_with fail
      go_ret
      exact ⟨by rw [HE.out]; rfl, HB.out⟩
    | true =>
      cases sn with
      | false =>
        have HE : Hid (graphB zs zss ss = false) := hid (by rw [HGE.out]; simp)
        go_wp2_with fail
        go_ret
        exact ⟨by rw [HE.out]; rfl, HB.out⟩
      | true =>
        by_cases k4 : l3 = 0
        · have HE : Hid (graphB zs zss ss = false) := hid (by rw [HGE.out, k4]; simp)
          have z4 : ((l3 : Int) == 0) = true := by simp [k4]
          clear k4
          go_wp2_with fail
          go_ret
          exact ⟨by rw [HE.out]; rfl, HB.out⟩
        · have z4 : ((l3 : Int) == 0) = false := beq_eq_false_iff_ne.2 (by omega)
          have HG2 : Hid (graphB zs zss ss = rowsB l2 zss l2) := hid (by rw [HGE.out, show decide (1 ≤ l2) = true by simp; omega, show decide (l2 ≤ 6) = true by simp; omega, show decide (l3 ≠ 0) = true by simpa using k4]; simp)
          go_wp2_with fail
          generalize hW : (w.alloc (.cells #[.slice a1 l2 c1, .slice a2 l2 c2, .slice a3 l3 c3] 46)) = W at *
          clear hW
          go_loopw [6] (fun i wq => ∃ k : Nat, k ≤ l2 ∧ i = .int .i64 k ∧ wq = W ∧ Hid (rowsB l2 zss k = true)) (fun i _ => l2 - (intOf i).toNat)
          case atStart => exact ⟨0, Nat.zero_le _, rfl, rfl, hid (by simp [rowsB])⟩
          case round =>
            obtain ⟨k, hk, rfl, rfl, HRB⟩ := hrel
            by_cases hlk : k < l2
            · obtain ⟨b, o, e, hb, hc⟩ := HI2.out.hcell (by omega)
              subst e
              obtain ⟨ra, rl, rc, cr, hr⟩ := hc k hlk
              have HRS := hid (rowsB_succ l2 zss k)
              have HCT : Hid (rowsB l2 zss l2 = true → numB l2 (zss.getD k []) = true) := hid (fun h9 => by
                unfold rowsB at h9
                rw [List.all_eq_true] at h9
                exact h9 k (by simpa using hlk))
              have NK := hid (rnumbers_any ra rl rc l2 (zss.getD k []) _ hr)
              generalize numB l2 (zss.getD k []) = nk at *
              have i1 : (0 : Int) ≤ (k : Int) := by omega
              have i2 : (k : Int) < (l2 : Int) := by omega
              clear hc hr
              go_wp2_with fail
              refine NK.out.mono ?_
              rintro e w3 ⟨rfl, rfl⟩
              cases nk with
              | false =>
                have HE : Hid (graphB zs zss ss = false) := hid (by
                  rw [HG2.out]
                  cases e : rowsB l2 zss l2 with
                  | false => rfl
                  | true => exact absurd (HCT.out e) (by simp))
                go_wp2_with fail
                go_ret
                exact ⟨by rw [HE.out]; rfl, HB.out⟩
              | true =>
                have HRK : Hid (rowsB l2 zss (k + 1) = true) := hid (by rw [HRS.out, HRB.out]; rfl)
                go_wp2_with fail
                go_roundw
                case rel => exact ⟨k + 1, by omega, by go_num, by first | rfl | trivial, HRK⟩
                case measure => simp [intOf] <;> omega
            · obtain rfl : k = l2 := by omega
              have HE : Hid (graphB zs zss ss = true) := hid (by rw [HG2.out]; exact HRB.out)
              go_wp2_with fail
              go_ret
              exact ⟨by rw [HE.out]; rfl, HB.out⟩
  · have HE : Hid (graphB zs zss ss = false) := hid (by rw [HGE.out, show decide (l2 = l1) = false by simpa using k3]; simp)
    have z3 : ((l2 : Int) != (l1 : Int)) = true := bne_iff_ne.2 (by omega)
    go_wp2_with fail
    go_ret
    exact ⟨by rw [HE.out]; rfl, HB.out⟩

set_option maxHeartbeats 4000000 in
set_option maxRecDepth 100000 in
theorem redge_any (i j : Nat) (h2 : Lists w a2 l2 c2 zss) (hi : i < l2) :
    Calls Try.prog 50 #[.agg #[.slice a1 l1 c1, .slice a2 l2 c2, .slice a3 l3 c3], .int .i64 (i : Nat), .int .i64 (j : Nat)] w fun e w' => e = .returned (.bool (gEd zss i j)) ∧ Below w.heap.size w w' := by
  have n1 := h2.hcap
  have n2 := h2.hmax
  have ba := (Below.refl w.heap.size w).alloc (Nat.le_refl _) (.cells #[.slice a1 l1 c1, .slice a2 l2 c2, .slice a3 l3 c3] 46)
  have T0 := three_new w (.slice a1 l1 c1) (.slice a2 l2 c2) (.slice a3 l3 c3) 46
  have x1 := T0.c1
  obtain ⟨b, o, e, hb, hc⟩ := (h2.below ba).hcell (by omega)
  subst e
  obtain ⟨ra, rl, rc, cr, hr⟩ := hc i hi
  have HRR := hid hr
  have rm := hr.hmax
  have rcp := hr.hcap
  have rlen := hr.hlen
  have HB := hid ba
  have i1 : (0 : Int) ≤ (i : Int) := by omega
  have i2 : (i : Int) < (l2 : Int) := by omega
  have HGD : Hid (gEd zss i j = inB (outZ i (zss.getD i [])) j) := hid rfl
  rw [HGD.out]
  clear h2 hc hr ba T0
  generalize zss.getD i [] = row at *
  by_cases h0 : rl = 0
  · subst h0
    have HO : Hid (inB (outZ i row) j = ((i : Int) == (j : Int))) := hid (by unfold outZ; rw [if_pos rlen]; simp [inB])
    have z0 : ((0 : Int) == 0) = true := rfl
    generalize inB (outZ i row) j = bv at *
    have hbv := HO.out
    go_enter Try.func50, Try.ntmps50
    go_wp2_with fail
    go_ret
    exact ⟨by rw [HO.out]; first | rfl | simp, HB.out⟩
  · have z0 : ((rl : Int) == 0) = false := beq_eq_false_iff_ne.2 (by omega)
    have HO : Hid (outZ i row = row) := hid (by unfold outZ; rw [if_neg (by omega)])
    rw [HO.out]
    go_enter Try.func50, Try.ntmps50
    go_wp2_with fail
    generalize hW : (w.alloc (.cells #[.slice a1 l1 c1, .slice (some ⟨b, o, none⟩) l2 c2, .slice a3 l3 c3] 46)) = W at *
    clear hW
    go_loopw [7] (fun x wq => ∃ k : Nat, k ≤ rl ∧ x = .int .i64 k ∧ wq = W ∧ Hid (∀ m, m < k → row.getD m 0 ≠ (j : Int))) (fun x _ => rl - (intOf x).toNat)
    case atStart => exact ⟨0, Nat.zero_le _, rfl, rfl, hid (fun m hm => by omega)⟩
    case round =>
      obtain ⟨k, hk, rfl, rfl, HN⟩ := hrel
      by_cases hlk : k < rl
      · obtain ⟨b', o', e, hb', hc'⟩ := HRR.out.hcell (by omega)
        subst e
        have ck := hc' k hlk
        have HM : Hid (row.getD k 0 ∈ row) := hid (by rw [List.getD, List.getElem?_eq_getElem (by omega)]; exact List.getElem_mem _)
        have HN2 : Hid (row.getD k 0 ≠ (j : Int) → ∀ m, m < k + 1 → row.getD m 0 ≠ (j : Int)) := hid (fun h m hm => by
          by_cases e : m = k
          · subst e; exact h
          · exact HN.out m (by omega))
        have HY : Hid (row.getD k 0 = (j : Int) → inB row j = true) := hid (fun h => inB_iff.2 (by rw [← h]; exact HM.out))
        have j1 : (0 : Int) ≤ (k : Int) := by omega
        have j2 : (k : Int) < (rl : Int) := by omega
        clear hc' HM
        generalize row.getD k 0 = z at *
        by_cases ez : z = (j : Int)
        · have HE := hid (HY.out ez)
          have zz : (z == (j : Int)) = true := by simp [ez]
          clear ez
          go_wp2_with fail
          go_ret
          exact ⟨by rw [HE.out]; rfl, HB.out⟩
        · have HS := hid (HN2.out ez)
          have zz : (z == (j : Int)) = false := beq_eq_false_iff_ne.2 ez
          clear ez
          go_wp2_with fail
          go_roundw
          case rel => exact ⟨k + 1, by omega, by go_num, by first | rfl | trivial, HS⟩
          case measure => simp [intOf] <;> omega
      · obtain rfl : k = rl := by omega
        have HE : Hid (inB row j = false) := hid (by
          cases e : inB row j with
          | false => rfl
          | true =>
            obtain ⟨m, hm, e2⟩ := List.getElem_of_mem (inB_iff.1 e)
            have := HN.out m (by omega)
            rw [List.getD, List.getElem?_eq_getElem hm] at this
            simp [e2] at this)
        go_wp2_with fail
        go_ret
        exact ⟨by rw [HE.out]; rfl, HB.out⟩
end

end Go.Proofs.Ytjagijohfkffiab

/- The walk of wrong. -/
namespace Go.Proofs.Ytjagijohfkffiab
open Go.RowKit
set_option linter.unusedVariables false

/-- A path may begin here of whose word the formula does not hold. -/
def wrB (st f beg : Nat → Bool) (x : Nat) : Bool := st (x / 256) && (f x && !beg (x % 256))

set_option maxHeartbeats 8000000 in
set_option maxRecDepth 100000 in
theorem wrong_any (P g n cap gl lcap : Nat) (lt : Nat → Nat) (ed : Nat → Nat → Bool) (st f beg : Nat → Bool) (w : World) (hn : n ≤ 6) (h : NodeM w g n lt ed st) (hf : FlatG w gl (n * 256) f) (hgl : gl < w.heap.size) (hb : GrpAt w P 2305 beg) (hP : P < w.heap.size) :
    Calls Try.prog 81 #[.pointer (some ⟨P, 0, none⟩), .slice (some ⟨g, 0, none⟩) n cap, .slice (some ⟨gl, 0, none⟩) n lcap] w fun e w' => ∃ g', e = .returned (.slice (some ⟨g', 0, none⟩) n n) ∧ w.heap.size ≤ g' ∧ g' < w'.heap.size ∧ FlatG w' g' (n * 256) (wrB st f beg) ∧ Below w.heap.size w w' := by
  have HR := hid h
  have hg := h.blk
  have HF := hid hf
  have HBG := hid hb
  clear h hf hb
  go_enter Try.func81, Try.ntmps81
  go_wp2_with (at_make; go_must (refine wpList_make_groups _ rfl (.tmp 13) rfl n rfl (by omega) ?_))
  intro w1 F1 hlt1 hb1
  have HF1 := hid F1
  have HB1 := hid hb1
  clear F1 hb1
  go_wp2_with fail
  go_loopw [17] (fun i wq => ∃ k : Nat, k ≤ n ∧ i = .int .i64 k ∧ Hid (FlatG wq w.heap.size (n * 256) (upTo (wrB st f beg) (k * 256))) ∧ w.heap.size < wq.heap.size ∧ Hid (Below w.heap.size w wq)) (fun i _ => n - (intOf i).toNat)
  case atStart => exact ⟨0, Nat.zero_le _, rfl, by rw [Nat.zero_mul, upTo_zero]; exact HF1, hlt1, HB1⟩
  case round =>
    obtain ⟨k, hk, rfl, H5, hz, HB⟩ := hrel
    rename World => W0
    clear HF1 HB1
    by_cases hlk : k < n
    · have r := HR.out.below HB.out (Nat.le_refl _) hg
      have q0 := r.l k hlk
      have q1 : W0.cell? ⟨g, k * 8 + 1, none⟩ = some (.bool (ed k 0)) := r.e k 0 hlk (by omega)
      have q2 : W0.cell? ⟨g, k * 8 + 2, none⟩ = some (.bool (ed k 1)) := r.e k 1 hlk (by omega)
      have q3 : W0.cell? ⟨g, k * 8 + 3, none⟩ = some (.bool (ed k 2)) := r.e k 2 hlk (by omega)
      have q4 : W0.cell? ⟨g, k * 8 + 4, none⟩ = some (.bool (ed k 3)) := r.e k 3 hlk (by omega)
      have q5 : W0.cell? ⟨g, k * 8 + 5, none⟩ = some (.bool (ed k 4)) := r.e k 4 hlk (by omega)
      have q6 : W0.cell? ⟨g, k * 8 + 6, none⟩ = some (.bool (ed k 5)) := r.e k 5 hlk (by omega)
      have q7 := r.s k hlk
      have dk : decide ((n : Int) ≤ (k : Int)) = false := by simp; omega
      have dkn : decide (n ≤ k) = false := by simp; omega
      have bal := (Below.refl W0.heap.size W0).alloc (Nat.le_refl _) (.cells #[.int .i64 (lt k : Nat), .bool (ed k 0), .bool (ed k 1), .bool (ed k 2), .bool (ed k 3), .bool (ed k 4), .bool (ed k 5), .bool (st k)] 152)
      have HX := hid bal
      have HB2 := hid (HB.out.trans (bal.mono HB.out.size))
      have H52 := hid (H5.out.below bal hz)
      clear r bal
      cases hst : st k with
      | false =>
        rw [hst] at q7 HX HB2 H52
        have H53 := hid (H52.out.congr (f' := upTo (wrB st f beg) ((k + 1) * 256)) (fun j hj => by
          unfold upTo
          by_cases c1 : j < k * 256
          · rw [if_pos c1, if_pos (by omega)]
          · rw [if_neg c1]
            by_cases c2 : j < (k + 1) * 256
            · rw [if_pos c2]
              unfold wrB
              rw [show j / 256 = k by omega, hst]
              rfl
            · rw [if_neg c2]))
        clear hst
        generalize lt k = e0 at *
        generalize ed k 0 = e1 at *
        generalize ed k 1 = e2 at *
        generalize ed k 2 = e3 at *
        generalize ed k 3 = e4 at *
        generalize ed k 4 = e5 at *
        generalize ed k 5 = e6 at *
        go_wp2_with fail
        go_roundw
        case rel => exact ⟨k + 1, by omega, by go_num, H53, by simp; omega, HB2⟩
        case measure => simp [intOf] <;> omega
      | true =>
        rw [hst] at q7 HX HB2 H52
        have HST := hid hst
        clear hst
        have GF := hid ((HF.out.below HB2.out hgl).grp (t := k) (by omega))
        generalize lt k = e0 at *
        generalize ed k 0 = e1 at *
        generalize ed k 1 = e2 at *
        generalize ed k 2 = e3 at *
        generalize ed k 3 = e4 at *
        generalize ed k 4 = e5 at *
        generalize ed k 5 = e6 at *
        have hz2 : w.heap.size < (W0.alloc (.cells #[.int .i64 (e0 : Nat), .bool e1, .bool e2, .bool e3, .bool e4, .bool e5, .bool e6, .bool true] 152)).heap.size := by simp; omega
        go_wp2_with (refine wpList_load_grp rfl (.tmp 33) rfl gl (k * 256) _ rfl GF.out ?_)
        go_loopw [35] (fun i wq => ∃ j : Nat, j ≤ 256 ∧ i = .int .i64 j ∧ Hid (FlatG wq w.heap.size (n * 256) (upTo (wrB st f beg) (k * 256 + j))) ∧ w.heap.size < wq.heap.size ∧ Hid (Below w.heap.size w wq)) (fun i _ => 256 - (intOf i).toNat)
        case atStart => exact ⟨0, by omega, rfl, H52, hz2, HB2⟩
        case round =>
          obtain ⟨j, hj, rfl, H5, hz3, HB⟩ := hrel
          rename World => W3
          clear H52 hz2 HB2 q0 q1 q2 q3 q4 q5 q6 q7
          by_cases hlj : j < 256
          · have p0 := H5.out.f (k * 256 + j) (by omega)
            have p1 := H5.out.c (k * 256 + j) (by omega)
            have p2 : W3.cell? ⟨P, 2305 + j, none⟩ = some (.bool (beg j)) := ((HBG.out.below HB.out hP).c j hlj)
            have ix := fun W => run_index_grp (fun j => f (k * 256 + j)) hlj W
            have e9 : wrB st f beg (k * 256 + j) = (f (k * 256 + j) && !beg j) := by unfold wrB; rw [show (k * 256 + j) / 256 = k by omega, show (k * 256 + j) % 256 = j by omega, HST.out]; rfl
            have D5 := hid (H5.out.drew.set (k * 256 + j) (wrB st f beg (k * 256 + j)))
            have DB := hid (HB.out.drew.setCell (p := ⟨w.heap.size, k * 256 + j, none⟩) (Nat.le_refl _) (.bool (wrB st f beg (k * 256 + j))))
            rw [upTo_step] at D5
            generalize upTo (wrB st f beg) (k * 256 + j) (k * 256 + j) = ov at *
            generalize wrB st f beg (k * 256 + j) = sv at *
            generalize f (k * 256 + j) = fv at *
            generalize beg j = bv at *
            subst e9
            have i1 : (0 : Int) ≤ (k : Int) := by omega
            have i2 : (k : Int) < (n : Int) := by omega
            have i3 : (0 : Int) ≤ (j : Int) := by omega
            have i4 : (j : Int) < 256 := by omega
            cases fv with
            | false =>
              simp only [Bool.false_and] at D5 DB
              go_wp2_with fail
              refine wp_region_held_drew (S := fun _ => True) (by kernel_rfl) trivial (fun hHeld => ?_)
              refine wpAnyH_take (i := 0) (oi := { dst := some 39, op := Op.move (.tmp 7), type := _, pos := _, after := _, guard := none }) (v := (Value.slice (some ⟨w.heap.size, 0, none⟩) n n)) rfl (by kernel_rfl) (by kernel_rfl) (by kernel_rfl) (fun _ _ _ h => h) (Or.inl ⟨by rfl, by intro w' hSw; (try dsimp only at hSw); go_simp⟩) (by assumption) ?_
              simp only [Act.put, List.setIfInBounds_toArray, List.set_cons_zero, List.set_cons_succ]
              refine wpAnyH_take (i := 1) (oi := { dst := some 40, op := Op.move (.tmp 8), type := _, pos := _, after := _, guard := none }) (v := (Value.int .i64 (k : Nat))) rfl (by kernel_rfl) (by kernel_rfl) (by kernel_rfl) (fun _ _ _ h => h) (Or.inl ⟨by rfl, by intro w' hSw; (try dsimp only at hSw); go_simp⟩) (by assumption) ?_
              simp only [Act.put, List.setIfInBounds_toArray, List.set_cons_zero, List.set_cons_succ]
              refine wpAnyH_take (i := 2) (oi := { dst := some 41, op := Op.move (.tmp 10), type := _, pos := _, after := _, guard := none }) (v := (Value.int .i64 (j : Nat))) rfl (by kernel_rfl) (by kernel_rfl) (by kernel_rfl) (fun _ _ _ h => h) (Or.inl ⟨by rfl, by intro w' hSw; (try dsimp only at hSw); go_simp⟩) (by assumption) ?_
              simp only [Act.put, List.setIfInBounds_toArray, List.set_cons_zero, List.set_cons_succ]
              refine wpAnyH_take (i := 3) (oi := { dst := some 42, op := Op.move (.tmp 11), type := _, pos := _, after := _, guard := none }) (v := (Value.bool false)) rfl (by kernel_rfl) (by kernel_rfl) (by kernel_rfl) (fun _ _ _ h => h) (Or.inl ⟨by rfl, by intro w' hSw; (try dsimp only at hSw); go_simp⟩) (by assumption) ?_
              simp only [Act.put, List.setIfInBounds_toArray, List.set_cons_zero, List.set_cons_succ]
              refine wpAnyH_take (i := 4) (oi := { dst := some 43, op := Op.move (.tmp 42), type := _, pos := _, after := _, guard := none }) (v := (Value.bool false)) rfl (by kernel_rfl) (by kernel_rfl) (by kernel_rfl) (fun _ _ _ h => h) (Or.inl ⟨by rfl, by intro w' hSw; (try dsimp only at hSw); go_simp⟩) (by assumption) ?_
              simp only [Act.put, List.setIfInBounds_toArray, List.set_cons_zero, List.set_cons_succ]
              refine wpAnyH_take (i := 5) (oi := { dst := some 44, op := Op.move (.tmp 0), type := _, pos := _, after := _, guard := some (4, true) }) (v := undef) rfl (by kernel_rfl) (by kernel_rfl) (by kernel_rfl) (fun _ _ _ h => h) (Or.inr ⟨by rfl, rfl⟩) (by assumption) ?_
              simp only [Act.put, List.setIfInBounds_toArray, List.set_cons_zero, List.set_cons_succ]
              refine wpAnyH_take (i := 6) (oi := { dst := some 45, op := Op.move (.tmp 10), type := _, pos := _, after := _, guard := some (4, true) }) (v := undef) rfl (by kernel_rfl) (by kernel_rfl) (by kernel_rfl) (fun _ _ _ h => h) (Or.inr ⟨by rfl, rfl⟩) (by assumption) ?_
              simp only [Act.put, List.setIfInBounds_toArray, List.set_cons_zero, List.set_cons_succ]
              refine wpAnyH_take (i := 7) (oi := { dst := some 46, op := Op.nilCheck (.tmp 44), type := _, pos := _, after := _, guard := some (4, true) }) (v := undef) rfl (by kernel_rfl) (by kernel_rfl) (by kernel_rfl) (fun _ _ _ h => h) (Or.inr ⟨by rfl, rfl⟩) (by assumption) ?_
              simp only [Act.put, List.setIfInBounds_toArray, List.set_cons_zero, List.set_cons_succ]
              refine wpAnyH_take (i := 8) (oi := { dst := some 47, op := Op.fieldAddr _ (.tmp 46) 3, type := _, pos := _, after := _, guard := some (4, true) }) (v := undef) rfl (by kernel_rfl) (by kernel_rfl) (by kernel_rfl) (fun _ _ _ h => h) (Or.inr ⟨by rfl, rfl⟩) (by assumption) ?_
              simp only [Act.put, List.setIfInBounds_toArray, List.set_cons_zero, List.set_cons_succ]
              refine wpAnyH_take (i := 9) (oi := { dst := some 48, op := Op.indexAddr _ (.tmp 47) (.tmp 45), type := _, pos := _, after := _, guard := some (4, true) }) (v := undef) rfl (by kernel_rfl) (by kernel_rfl) (by kernel_rfl) (fun _ _ _ h => h) (Or.inr ⟨by rfl, rfl⟩) (by assumption) ?_
              simp only [Act.put, List.setIfInBounds_toArray, List.set_cons_zero, List.set_cons_succ]
              refine wpAnyH_take (i := 10) (oi := { dst := some 49, op := Op.load _ (.tmp 48), type := _, pos := _, after := _, guard := some (4, true) }) (v := undef) rfl (by kernel_rfl) (by kernel_rfl) (by kernel_rfl) (fun _ _ _ h => h) (Or.inr ⟨by rfl, rfl⟩) (by assumption) ?_
              simp only [Act.put, List.setIfInBounds_toArray, List.set_cons_zero, List.set_cons_succ]
              refine wpAnyH_take (i := 11) (oi := { dst := some 50, op := Op.unOp UnOp.not _ (.tmp 49), type := _, pos := _, after := _, guard := some (4, true) }) (v := undef) rfl (by kernel_rfl) (by kernel_rfl) (by kernel_rfl) (fun _ _ _ h => h) (Or.inr ⟨by rfl, rfl⟩) (by assumption) ?_
              simp only [Act.put, List.setIfInBounds_toArray, List.set_cons_zero, List.set_cons_succ]
              refine wpAnyH_take (i := 12) (oi := { dst := some 51, op := Op.pick (.tmp 43) (.tmp 50) (Operand.const (Value.bool false)), type := _, pos := _, after := _, guard := none }) (v := (Value.bool false)) rfl (by kernel_rfl) (by kernel_rfl) (by kernel_rfl) (fun _ _ _ h => h) (Or.inl ⟨by rfl, by intro w' hSw; (try dsimp only at hSw); go_simp⟩) (by assumption) ?_
              simp only [Act.put, List.setIfInBounds_toArray, List.set_cons_zero, List.set_cons_succ]
              refine wpAnyH_take (i := 13) (oi := { dst := some 52, op := Op.indexAddr _ (.tmp 39) (.tmp 40), type := _, pos := _, after := _, guard := none }) (v := (Value.pointer (some ⟨w.heap.size, k * 256, none⟩))) rfl (by kernel_rfl) (by kernel_rfl) (by kernel_rfl) (fun _ _ _ h => h) (Or.inl ⟨by rfl, by intro w' hSw; (try dsimp only at hSw); go_simp⟩) (by assumption) ?_
              simp only [Act.put, List.setIfInBounds_toArray, List.set_cons_zero, List.set_cons_succ]
              refine wpAnyH_take (i := 14) (oi := { dst := some 53, op := Op.indexAddr _ (.tmp 52) (.tmp 41), type := _, pos := _, after := _, guard := none }) (v := (Value.pointer (some ⟨w.heap.size, k * 256 + j, none⟩))) rfl (by kernel_rfl) (by kernel_rfl) (by kernel_rfl) (fun _ _ _ h => h) (Or.inl ⟨by rfl, by intro w' hSw; (try dsimp only at hSw); go_simp⟩) (by assumption) ?_
              simp only [Act.put, List.setIfInBounds_toArray, List.set_cons_zero, List.set_cons_succ]
              refine wpAnyH_ready (rs := [15]) (by kernel_rfl) (by simp) ?_
              refine AllReadyH.cons rfl (fun K hK => ?_) AllReadyH.nil
              go_simp
              refine hK.out _ _ trivial (fun hHeld => ?_)
              clear hK K
              refine wpAnyH_done (by kernel_rfl) ?_ _
              go_wp2_with fail
              go_roundw
              case rel => exact ⟨j + 1, by omega, by go_num, D5, by simp; omega, DB⟩
              case measure => simp [intOf] <;> omega
            | true =>
              simp only [Bool.true_and] at D5 DB
              have s0 : ((W3.drew.setCell ⟨w.heap.size, k * 256 + j, none⟩ (.bool (!bv)))).cell? ⟨P, 2305 + j, none⟩ = some (.bool bv) := by
                rw [World.cell?_setCell_other _ _ _ _ (fun e => by have := congrArg Addr.block e; simp at this; omega)]
                exact p2
              have s1 : ((W3.setCell ⟨w.heap.size, k * 256 + j, none⟩ (.bool (!bv)))).cell? ⟨P, 2305 + j, none⟩ = some (.bool bv) := by
                rw [World.cell?_setCell_other _ _ _ _ (fun e => by have := congrArg Addr.block e; simp at this; omega)]
                exact p2
              go_wp2_with fail
              go_region_held3 (fun w' => w'.cell? ⟨P, 2305 + j, none⟩ = some (.bool bv)) (first | go_keep | exact s0 | exact s1) (fail)
              go_wp2_with fail
              go_roundw
              case rel => exact ⟨j + 1, by omega, by go_num, D5, by simp; omega, DB⟩
              case measure => simp [intOf] <;> omega
          · obtain rfl : j = 256 := by omega
            go_wp2_with fail
            go_roundw
            case rel => exact ⟨k + 1, by omega, by go_num, by rw [show (k + 1) * 256 = k * 256 + 256 by omega]; exact H5, hz3, HB⟩
            case measure => simp [intOf] <;> omega
    · obtain rfl : k = n := by omega
      have HG := hid (H5.out.congr (f' := wrB st f beg) (fun j hj => by unfold upTo; rw [if_pos hj]))
      go_wp2_with fail
      go_ret
      exact ⟨_, rfl, Nat.le_refl _, hz, HG.out, HB.out⟩

end Go.Proofs.Ytjagijohfkffiab
