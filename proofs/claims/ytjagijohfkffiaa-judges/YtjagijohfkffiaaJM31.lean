import Derived.Test.YtjagijohfkffiaaJM09
import Derived.Test.YtjagijohfkffiaaJM23
import Derived.Test.YtjagijohfkffiaaJM24
import Derived.Test.YtjagijohfkffiaaJM25
import Derived.Test.YtjagijohfkffiaaJM26
import Derived.Test.YtjagijohfkffiaaJM29
import Derived.Test.YtjagijohfkffiaaJM30
import Derived.Laws.AppendOwnNone

/- The walks of the reference's row (whole), Of and Holds. -/
namespace Go.Proofs.Ytjagijohfkffiaa
open Go.RowKit
set_option linter.unusedVariables false

theorem row_any (ns : List Nd) (bs : List Nat) (gw n wcap back : Nat) (xs : List Nat) (hw : Wf2 ns) (hlx : xs.length = n) (hb : back < n) (hn80 : n ≤ 80) (h8 : ∀ x ∈ xs, x < 8) (k : Nat) (hk : k < ns.length) : RowAt ns bs gw n wcap back xs k := by
  induction k using Nat.strongRecOn with
  | _ k ih =>
    intro w b hp hwd hbk
    have hn : ns[k]? = some ns[k] := List.getElem?_eq_getElem hk
    obtain ⟨hc, h1, h2⟩ := wf2_class hw hn
    rcases hc with hc | hc | hc
    · rcases leaf_is hc with e | e | e | e | e
      · exact row_0 ns bs gw n wcap back xs hw hlx hb hn80 h8 k b _ hn e w hp hwd hbk
      · exact row_1 ns bs gw n wcap back xs hw hlx hb hn80 h8 k b _ hn e w hp hwd hbk
      · exact row_p ns bs gw n wcap back xs hw hlx hb hn80 h8 k b _ hn e w hp hwd hbk
      · exact row_q ns bs gw n wcap back xs hw hlx hb hn80 h8 k b _ hn e w hp hwd hbk
      · exact row_r ns bs gw n wcap back xs hw hlx hb hn80 h8 k b _ hn e w hp hwd hbk
    · have hl := h1 (leaf_not_one hc)
      have il := ih _ hl (by omega)
      rcases one_is hc with e | e | e | e
      · exact row_not ns bs gw n wcap back xs hw hlx hb hn80 h8 k b _ hn e il w hp hwd hbk
      · exact row_X ns bs gw n wcap back xs hw hlx hb hn80 h8 k b _ hn e il w hp hwd hbk
      · exact row_F ns bs gw n wcap back xs hw hlx hb hn80 h8 k b _ hn e il w hp hwd hbk
      · exact row_G ns bs gw n wcap back xs hw hlx hb hn80 h8 k b _ hn e il w hp hwd hbk
    · have il := ih _ (h1 (two_not_leaf hc)) (by have := h1 (two_not_leaf hc); omega)
      have ir := ih _ (h2 hc) (by have := h2 hc; omega)
      rcases two_is hc with e | e | e | e
      · exact row_and ns bs gw n wcap back xs hw hlx hb hn80 h8 k b _ hn e il ir w hp hwd hbk
      · exact row_or ns bs gw n wcap back xs hw hlx hb hn80 h8 k b _ hn e il ir w hp hwd hbk
      · exact row_U ns bs gw n wcap back xs hw hlx hb hn80 h8 k b _ hn e il ir w hp hwd hbk
      · exact row_R ns bs gw n wcap back xs hw hlx hb hn80 h8 k b _ hn e il ir w hp hwd hbk

set_option maxRecDepth 10000 in
theorem wrap_small {m : Nat} (h : m ≤ 1000) : IntKind.i64.wrap (m : Int) = (m : Int) := by
  rw [IntKind.wrap_i64]
  omega

theorem Fm.partsOf {w : World} {F : Nat} {ns : List Nd} {bs : List Nat} (h : Fm w F ns bs) : Parts w ns bs := fun i nd hn => by
  obtain ⟨b, e, _, hh⟩ := h.parts i nd hn
  exact ⟨b, e, hh⟩

/-- What lies in memory behind the two appends: the letters. -/
theorem wd_of {w : World} {B n cap : Nat} {ao : Option Addr} {zs : List Int} (own : w.ownsRow B 3 1 (.slice ao n cap) n (natInts (natOf zs))) (hn : 0 < n) (hl : zs.length = n) : ∃ g, ao = some ⟨g, 0, none⟩ ∧ Wd w g n cap (natOf zs) := by
  obtain ⟨g, rfl, _, hg, hc⟩ := own_at own hn
  refine ⟨g, rfl, hg, hc, fun i hi => ?_⟩
  rw [own.cellAt i (by omega)]
  simp [natInts, natOf, ltOf, List.getD, List.getElem?_eq_getElem (show i < zs.length by omega)]

section
variable (F : Nat) (ns : List Nd) (bs : List Nat) (a1 a2 : Option Addr) (l1 c1 l2 c2 : Nat) (z1 z2 : List Int) (w : World)

/-- The rest of Of, behind the two appends. -/
def OfPost (e : Ending) (w' : World) : Prop := e = .returned (.bool (holdsB z1.length ns (natOf (z1 ++ z2)))) ∧ Below w.heap.size w w'

set_option maxHeartbeats 1600000 in
set_option maxRecDepth 100000 in
theorem of_some (ad : Addr) (hf : Fm w F ns bs) (hg : Good ns) (hj : joinErr z1 z2 = 0) (h1 : Ints w (some ad) l1 c1 z1) (h2 : Ints w a2 l2 c2 z2) :
    Calls Try.prog 52 #[.pointer (some ⟨F, 0, none⟩), .slice (some ad) l1 c1, .slice a2 l2 c2] w (OfPost ns z1 z2 w) := by
  obtain ⟨q1, q2, q3, q4, q5⟩ := joinErr_zero hj
  have L1 := h1.hlen
  have L2 := h2.hlen
  have LN := letters_nat (allL_append q4 q5)
  obtain ⟨b2, off2, rfl, _⟩ := h2.hcell (by omega)
  have s1 := h1.src ad rfl
  obtain ⟨i0, hi, hz0, hz1, hz2⟩ := info_parts Try.infoInt
  go_enter Try.func52, Try.ntmps52
  go_wp2_with (at_builtin; go_must (refine wpList_append_own _ rfl (.tmp 9) (.tmp 10) 27 rfl w.heap.size 3 i0 (.int .i64 0) 1 8 Try.underlying27 hi hz0 hz1 hz2 rfl (by decide) _ 0 [] rfl (World.ownsRow_nil _ _ _ _) ad l1 c1 (z1.map (Value.int .i64)) rfl ?n1 s1 (int_one z1) ?n2 ?n3 (Nat.le_refl _) ?_))
  case n1 => simp [L1]
  case n2 => unfold maxLen; omega
  case n3 => omega
  intro v1 w1 own1 grow1 _
  try simp only [Nat.zero_add, List.nil_append] at own1
  have hb1 : Below w.heap.size w w1 := (Below.refl _ _).grown grow1 (Nat.le_refl _) (fun k h => by cases h)
  have s2 := (h2.below hb1).src _ rfl
  have HB1 := hid hb1
  have hs1 := hb1.size
  clear hb1 grow1 s1
  go_wp2_with (at_builtin; go_must (refine wpList_append_own _ rfl (.tmp 12) (.tmp 13) 27 rfl w.heap.size 3 i0 (.int .i64 0) 1 8 Try.underlying27 hi hz0 hz1 hz2 rfl (by decide) _ l1 (z1.map (Value.int .i64)) rfl own1 ⟨b2, off2, none⟩ l2 c2 (z2.map (Value.int .i64)) rfl ?n4 s2 (int_one z2) ?n5 ?n6 hs1 ?_))
  case n4 => simp [L2]
  case n5 => unfold maxLen; omega
  case n6 => omega
  intro v2 w2 own2 grow2 _
  rw [← List.map_append, LN.1] at own2
  have hb2 : Below w.heap.size w w2 := HB1.out.grown grow2 hs1 (fun k h => (own1.lt k h).1)
  obtain ⟨ao, cap, hv⟩ : ∃ ao cap, v2 = .slice ao (l1 + l2) cap := by
    rcases own2.2 with ⟨h, h0⟩ | ⟨g, cap', _, h, _⟩
    · omega
    · exact ⟨_, cap', h⟩
  subst hv
  obtain ⟨gw, rfl, hwd⟩ := wd_of own2 (by omega) (by simp [L1, L2])
  have hpt := hf.partsOf.below hb2
  have hnat : (natOf (z1 ++ z2)).length = l1 + l2 := by simp [natOf, L1, L2]
  have HH := hid (holdsB_sem (back := l1) (ns := ns) (xs := natOf (z1 ++ z2)) hg (by omega) LN.2)
  rw [hnat] at HH
  have pos := hg.pos
  have ROW := hid (row_any ns bs gw (l1 + l2) cap l1 (natOf (z1 ++ z2)) hg.wf hnat (by omega) (by omega) LN.2 (ns.length - 1) (by omega))
  obtain ⟨fo, fcap, fc, fown⟩ := hf.c0
  obtain ⟨gf, rfl, _, hgf, hfcap⟩ := own_at fown (by omega)
  obtain ⟨bl, hbl⟩ : ∃ bl, bs[ns.length - 1]? = some bl := ⟨_, List.getElem?_eq_getElem (by have := hf.len; omega)⟩
  have fc2 := (hb2.cell (p := ⟨F, 0, none⟩) hf.ltF).trans fc
  have fl2 : w2.cell? ⟨gf, ns.length - 1, none⟩ = some (.pointer (some ⟨bl, 0, none⟩)) := by
    rw [hb2.cell (p := ⟨gf, ns.length - 1, none⟩) hgf, fown.cellAt _ (by omega)]
    simp [hbl, ptrTo1]
  obtain ⟨m, hm⟩ : ∃ m, ns.length = m + 1 := ⟨ns.length - 1, by omega⟩
  rw [hm] at fc2 hfcap
  rw [show ns.length - 1 = m by omega] at fl2
  have hmi : ((m + 1 : Nat) : Int) - 1 = (m : Int) := by omega
  have hmi2 : (m : Int) + 1 - 1 = (m : Int) := by omega
  have hwm := wrap_small (m := m) (by have := hg.le; omega)
  have hml : m ≤ 8 := by have := hg.le; omega
  have HM := hid hm
  clear hm pos
  have HW := hid hwd
  have HP := hid hpt
  have HB2 := hid hb2
  have HBL := hid hbl
  have hs2 := hb2.size
  clear own1 own2 grow2 hwd hpt hb2 hbl s2 LN fown fc hnat
  go_wp2_with fail
  have RW := hid (ROW.out w2.drew bl (show Parts w2.drew ns bs from HP.out) ⟨HW.out.lt, HW.out.cap, HW.out.cell⟩ HBL.out)
  go_region_with (go_at_call 80; go_must (refine RW.out.mono ?_; rintro e w3 ⟨g, f, rfl, SF, hg3, hR, hb3⟩))
  all_goals
    have y := hR.cell 0 (by omega)
    have S0 := SF 0 (by omega)
    have V : Hid (f 0 = holdsB l1 ns (natOf (z1 ++ z2))) := hid (by
      rw [Bool.eq_iff_iff, S0, HH.out])
    have B3 : Hid (Below w.heap.size w w3) := hid (HB2.out.trans ((show Below w2.heap.size w2 w3 from ⟨hb3.os, hb3.tape, hb3.output, hb3.size, hb3.block⟩).mono hs2))
    clear SF S0 hR hb3 fc2 fl2
    generalize f 0 = x at *
    go_wp2_with fail
    go_ret
    unfold OfPost
    rw [L1, ← V.out]
    exact ⟨rfl, B3.out⟩
set_option maxHeartbeats 1600000 in
set_option maxRecDepth 100000 in
theorem of_none (hf : Fm w F ns bs) (hg : Good ns) (hj : joinErr z1 z2 = 0) (h1 : Ints w none l1 c1 z1) (h2 : Ints w a2 l2 c2 z2) :
    Calls Try.prog 52 #[.pointer (some ⟨F, 0, none⟩), Value.slice none l1 c1, .slice a2 l2 c2] w (OfPost ns z1 z2 w) := by
  obtain ⟨q1, q2, q3, q4, q5⟩ := joinErr_zero hj
  have L1 := h1.hlen
  have L2 := h2.hlen
  have LN := letters_nat (allL_append q4 q5)
  obtain ⟨b2, off2, rfl, _⟩ := h2.hcell (by omega)
  obtain ⟨e1, e2⟩ := h1.hnil rfl
  subst e1
  subst e2
  have hz : z1 = [] := List.eq_nil_of_length_eq_zero L1
  obtain ⟨i0, hi, hz0, hz1, hz2⟩ := info_parts Try.infoInt
  have own1 : w.ownsRow w.heap.size 3 1 (.slice none 0 0) 0 (z1.map (Value.int .i64)) := by rw [hz]; exact World.ownsRow_nil _ _ _ _
  have s2 := h2.src _ rfl
  have HZ := hid hz
  clear hz
  have HB1 := hid (Below.refl w.heap.size w)
  go_enter Try.func52, Try.ntmps52
  go_wp2_with (first | (at_builtin; refine wpList_append_own_none rfl (.tmp 9) (.tmp 10) 27 rfl w.heap.size 3 i0 1 Try.underlying27 hi _ 0 [] rfl (World.ownsRow_nil _ _ _ _) rfl ?_) | (at_builtin; refine wpList_append_own _ rfl (.tmp 12) (.tmp 13) 27 rfl w.heap.size 3 i0 (.int .i64 0) 1 8 Try.underlying27 hi hz0 hz1 hz2 rfl (by decide) _ 0 (z1.map (Value.int .i64)) rfl own1 ⟨b2, off2, none⟩ l2 c2 (z2.map (Value.int .i64)) rfl ?n4 s2 (int_one z2) ?n5 ?n6 (Nat.le_refl _) ?_))
  case n4 => simp [L2]
  case n5 => unfold maxLen; omega
  case n6 => omega
  intro v2 w2 own2 grow2 _
  rw [← List.map_append, LN.1] at own2
  have hb2 : Below w.heap.size w w2 := HB1.out.grown grow2 (Nat.le_refl _) (fun k h => (own1.lt k h).1)
  obtain ⟨ao, cap, hv⟩ : ∃ ao cap, v2 = .slice ao (l2) cap := by
    rcases own2.2 with ⟨h, h0⟩ | ⟨g, cap', _, h, _⟩
    · omega
    · exact ⟨_, cap', h⟩
  subst hv
  obtain ⟨gw, rfl, hwd⟩ := wd_of own2 (by omega) (by simp [L1, L2])
  have hpt := hf.partsOf.below hb2
  have hnat : (natOf (z1 ++ z2)).length = l2 := by simp [natOf, L1, L2]
  have HH := hid (holdsB_sem (back := 0) (ns := ns) (xs := natOf (z1 ++ z2)) hg (by omega) LN.2)
  rw [hnat] at HH
  have pos := hg.pos
  have ROW := hid (row_any ns bs gw (l2) cap 0 (natOf (z1 ++ z2)) hg.wf hnat (by omega) (by omega) LN.2 (ns.length - 1) (by omega))
  obtain ⟨fo, fcap, fc, fown⟩ := hf.c0
  obtain ⟨gf, rfl, _, hgf, hfcap⟩ := own_at fown (by omega)
  obtain ⟨bl, hbl⟩ : ∃ bl, bs[ns.length - 1]? = some bl := ⟨_, List.getElem?_eq_getElem (by have := hf.len; omega)⟩
  have fc2 := (hb2.cell (p := ⟨F, 0, none⟩) hf.ltF).trans fc
  have fl2 : w2.cell? ⟨gf, ns.length - 1, none⟩ = some (.pointer (some ⟨bl, 0, none⟩)) := by
    rw [hb2.cell (p := ⟨gf, ns.length - 1, none⟩) hgf, fown.cellAt _ (by omega)]
    simp [hbl, ptrTo1]
  obtain ⟨m, hm⟩ : ∃ m, ns.length = m + 1 := ⟨ns.length - 1, by omega⟩
  rw [hm] at fc2 hfcap
  rw [show ns.length - 1 = m by omega] at fl2
  have hmi : ((m + 1 : Nat) : Int) - 1 = (m : Int) := by omega
  have hmi2 : (m : Int) + 1 - 1 = (m : Int) := by omega
  have hwm := wrap_small (m := m) (by have := hg.le; omega)
  have hml : m ≤ 8 := by have := hg.le; omega
  have HM := hid hm
  clear hm pos
  have HW := hid hwd
  have HP := hid hpt
  have HB2 := hid hb2
  have HBL := hid hbl
  have hs2 := hb2.size
  clear own1 own2 grow2 hwd hpt hb2 hbl s2 LN fown fc hnat
  go_wp2_with fail
  have RW := hid (ROW.out w2.drew bl (show Parts w2.drew ns bs from HP.out) ⟨HW.out.lt, HW.out.cap, HW.out.cell⟩ HBL.out)
  go_region_with (go_at_call 80; go_must (refine RW.out.mono ?_; rintro e w3 ⟨g, f, rfl, SF, hg3, hR, hb3⟩))
  all_goals
    have y := hR.cell 0 (by omega)
    have S0 := SF 0 (by omega)
    have V : Hid (f 0 = holdsB 0 ns (natOf (z1 ++ z2))) := hid (by
      rw [Bool.eq_iff_iff, S0, HH.out])
    have B3 : Hid (Below w.heap.size w w3) := hid (HB2.out.trans ((show Below w2.heap.size w2 w3 from ⟨hb3.os, hb3.tape, hb3.output, hb3.size, hb3.block⟩).mono hs2))
    clear SF S0 hR hb3 fc2 fl2
    generalize f 0 = x at *
    go_wp2_with fail
    go_ret
    unfold OfPost
    rw [L1, ← V.out]
    exact ⟨rfl, B3.out⟩


theorem of_any (hf : Fm w F ns bs) (hg : Good ns) (hj : joinErr z1 z2 = 0) (h1 : Ints w a1 l1 c1 z1) (h2 : Ints w a2 l2 c2 z2) :
    Calls Try.prog 52 #[.pointer (some ⟨F, 0, none⟩), .slice a1 l1 c1, .slice a2 l2 c2] w (OfPost ns z1 z2 w) := by
  cases a1 with
  | none => exact of_none F ns bs a2 l1 c1 l2 c2 z1 z2 w hf hg hj h1 h2
  | some ad => exact of_some F ns bs a2 l1 c1 l2 c2 z1 z2 w ad hf hg hj h1 h2

end

section
variable (s : ByteArray) (a1 a2 : Option Addr) (l1 c1 l2 c2 : Nat) (z1 z2 : List Int) (w : World)

set_option maxHeartbeats 400000 in
theorem rholds_no (hm : s.size ≤ maxLen) (h : (parseOf s).1 ≠ 0) : Calls Try.prog 19 #[.string s, .slice a1 l1 c1, .slice a2 l2 c2] w fun e w' => e = .returned (.tuple #[.bool (holdVal s z1 z2), .int .i64 (holdErr s z1 z2)]) ∧ Below w.heap.size w w' := by
  have E : Hid (holdErr s z1 z2 = (parseOf s).1) := hid (by unfold holdErr; rw [if_neg h])
  have V : Hid (holdVal s z1 z2 = false) := hid (by unfold holdVal; rw [E.out, if_neg h])
  have C := formulate_any s w hm
  unfold Formulated at C
  generalize parseOf s = p at *
  have k : ((p.1 : Int) != 0) = true := by rw [bne_iff_ne]; omega
  go_enter Try.func19, Try.ntmps19
  go_wp2_with fail
  refine C.mono ?_
  rintro e w1 ⟨hb, ⟨_, rfl⟩ | ⟨h0, _⟩⟩
  · go_wp2_with fail
    go_ret2
    exact ⟨by rw [E.out, V.out]; rfl, hb⟩
  · exact absurd h0 h

set_option maxHeartbeats 800000 in
theorem rholds_yes (hm : s.size ≤ maxLen) (h : (parseOf s).1 = 0) (h1 : Ints w a1 l1 c1 z1) (h2 : Ints w a2 l2 c2 z2) : Calls Try.prog 19 #[.string s, .slice a1 l1 c1, .slice a2 l2 c2] w fun e w' => e = .returned (.tuple #[.bool (holdVal s z1 z2), .int .i64 (holdErr s z1 z2)]) ∧ Below w.heap.size w w' := by
  have E : Hid (holdErr s z1 z2 = joinErr z1 z2) := hid (by unfold holdErr; rw [if_pos h])
  have V : Hid (holdVal s z1 z2 = if joinErr z1 z2 = 0 then holdsB z1.length (parseOf s).2 (natOf (z1 ++ z2)) else false) := hid (by unfold holdVal; rw [E.out])
  have C := formulate_any s w hm
  unfold Formulated at C
  have G := hid (parse_good h)
  have m1 := h1.hmax
  have m2 := h2.hmax
  have m3 := h1.hcap
  have m4 := h2.hcap
  have L1 := h1.hlen
  have L2 := h2.hlen
  have R1 := fun W (b : Below w.heap.size w W) => rword_any a1 l1 c1 z1 W (h1.below b)
  have R2 := fun W (b : Below w.heap.size w W) => rword_any a2 l2 c2 z2 W (h2.below b)
  have OF := fun W (b : Below w.heap.size w W) bs (hf : Fm W w.heap.size (parseOf s).2 bs) (hj : joinErr z1 z2 = 0) => of_any w.heap.size (parseOf s).2 bs a1 a2 l1 c1 l2 c2 z1 z2 W hf (parse_good h) hj (h1.below b) (h2.below b)
  unfold OfPost at OF
  generalize parseOf s = p at *
  obtain ⟨p1, p2⟩ := p
  dsimp only at *
  subst h
  by_cases q1 : l2 = 0
  · have J : Hid (joinErr z1 z2 = 4) := hid (by simp [joinErr, L2, q1])
    subst q1
    go_enter Try.func19, Try.ntmps19
    go_wp2_with fail
    refine C.mono ?_
    rintro e w1 ⟨hb, ⟨h0, _⟩ | ⟨_, bs, rfl, hf⟩⟩
    · exact absurd rfl h0
    go_wp2_with fail
    refine (R1 _ hb).mono ?_
    rintro e w2 ⟨rfl, rfl⟩
    go_wp2_with fail
    refine (R2 _ hb).mono ?_
    rintro e w2 ⟨rfl, rfl⟩
    go_wp2_with fail
    go_ret2
    exact ⟨by rw [E.out, V.out, J.out]; rfl, hb⟩
  have k0 : ((l2 : Int) == 0) = false := beq_eq_false_iff_ne.2 (by omega)
  by_cases q2 : 40 < l1 ∨ 40 < l2
  · have J : Hid (joinErr z1 z2 = 5) := hid (by unfold joinErr; rw [L1, L2, if_neg q1, if_pos q2])
    by_cases q3 : 40 < l1
    · clear q2
      go_enter Try.func19, Try.ntmps19
      go_wp2_with fail
      refine C.mono ?_
      rintro e w1 ⟨hb, ⟨h0, _⟩ | ⟨_, bs, rfl, hf⟩⟩
      · exact absurd rfl h0
      go_wp2_with fail
      refine (R1 _ hb).mono ?_
      rintro e w2 ⟨rfl, rfl⟩
      go_wp2_with fail
      refine (R2 _ hb).mono ?_
      rintro e w2 ⟨rfl, rfl⟩
      go_wp2_with fail
      go_ret2
      exact ⟨by rw [E.out, V.out, J.out]; rfl, hb⟩
    · have q4 : 40 < l2 := by omega
      clear q2
      go_enter Try.func19, Try.ntmps19
      go_wp2_with fail
      refine C.mono ?_
      rintro e w1 ⟨hb, ⟨h0, _⟩ | ⟨_, bs, rfl, hf⟩⟩
      · exact absurd rfl h0
      go_wp2_with fail
      refine (R1 _ hb).mono ?_
      rintro e w2 ⟨rfl, rfl⟩
      go_wp2_with fail
      refine (R2 _ hb).mono ?_
      rintro e w2 ⟨rfl, rfl⟩
      go_wp2_with fail
      go_ret2
      exact ⟨by rw [E.out, V.out, J.out]; rfl, hb⟩
  have k1 : ¬ 40 < l1 := by omega
  have k2 : ¬ 40 < l2 := by omega
  by_cases q3 : allL z1 = true ∧ allL z2 = true
  · have hj : joinErr z1 z2 = 0 := by unfold joinErr; rw [L1, L2, if_neg q1, if_neg q2, if_pos q3]
    have OF2 := fun W b bs hf => OF W b bs hf hj
    have J := hid hj
    have A1 := hid q3.1
    have A2 := hid q3.2
    clear OF hj q2 q3
    go_enter Try.func19, Try.ntmps19
    go_wp2_with fail
    refine C.mono ?_
    rintro e w1 ⟨hb, ⟨h0, _⟩ | ⟨_, bs, rfl, hf⟩⟩
    · exact absurd rfl h0
    go_wp2_with fail
    refine (R1 _ hb).mono ?_
    rintro e w2 ⟨rfl, rfl⟩
    rw [A1.out]
    go_wp2_with fail
    refine (R2 _ hb).mono ?_
    rintro e w2 ⟨rfl, rfl⟩
    rw [A2.out]
    go_wp2_with fail
    refine (OF2 _ hb bs hf).mono ?_
    rintro e w3 ⟨rfl, hb3⟩
    clear OF2 R1 R2 C
    go_wp2_with fail
    go_ret2
    refine ⟨by rw [E.out, V.out, J.out, if_pos rfl, L1]; rfl, hb.trans (hb3.mono hb.size)⟩
  · have J : Hid (joinErr z1 z2 = 6) := hid (by unfold joinErr; rw [L1, L2, if_neg q1, if_neg q2, if_neg q3])
    clear OF q2
    cases e1 : allL z1 with
    | false =>
      have A1 := hid e1
      clear e1 q3
      go_enter Try.func19, Try.ntmps19
      go_wp2_with fail
      refine C.mono ?_
      rintro e w1 ⟨hb, ⟨h0, _⟩ | ⟨_, bs, rfl, hf⟩⟩
      · exact absurd rfl h0
      go_wp2_with fail
      refine (R1 _ hb).mono ?_
      rintro e w2 ⟨rfl, rfl⟩
      rw [A1.out]
      go_wp2_with fail
      refine (R2 _ hb).mono ?_
      rintro e w2 ⟨rfl, rfl⟩
      go_wp2_with fail
      go_ret2
      exact ⟨by rw [E.out, V.out, J.out]; rfl, hb⟩
    | true =>
      have e2 : allL z2 = false := by
        cases e2 : allL z2 with
        | false => rfl
        | true => exact absurd ⟨e1, e2⟩ q3
      have A1 := hid e1
      have A2 := hid e2
      clear e1 e2 q3
      go_enter Try.func19, Try.ntmps19
      go_wp2_with fail
      refine C.mono ?_
      rintro e w1 ⟨hb, ⟨h0, _⟩ | ⟨_, bs, rfl, hf⟩⟩
      · exact absurd rfl h0
      go_wp2_with fail
      refine (R1 _ hb).mono ?_
      rintro e w2 ⟨rfl, rfl⟩
      rw [A1.out]
      go_wp2_with fail
      refine (R2 _ hb).mono ?_
      rintro e w2 ⟨rfl, rfl⟩
      rw [A2.out]
      go_wp2_with fail
      go_ret2
      exact ⟨by rw [E.out, V.out, J.out]; rfl, hb⟩

theorem rholds_any (hm : s.size ≤ maxLen) (h1 : Ints w a1 l1 c1 z1) (h2 : Ints w a2 l2 c2 z2) : Calls Try.prog 19 #[.string s, .slice a1 l1 c1, .slice a2 l2 c2] w fun e w' => e = .returned (.tuple #[.bool (holdVal s z1 z2), .int .i64 (holdErr s z1 z2)]) ∧ Below w.heap.size w w' := by
  by_cases h : (parseOf s).1 = 0
  · exact rholds_yes s a1 a2 l1 c1 l2 c2 z1 z2 w hm h h1 h2
  · exact rholds_no s a1 a2 l1 c1 l2 c2 z1 z2 w hm h
end

end Go.Proofs.Ytjagijohfkffiaa

/- What Judge answers. -/
namespace Go.Proofs.Ytjagijohfkffiaa
open Go.RowKit
set_option linter.unusedVariables false

def judgeErr (s : ByteArray) (z : List Int) : Nat := if (parseOf s).1 = 0 then (if 40 < z.length then 5 else if allL z = true then 0 else 6) else (parseOf s).1

theorem nat_lt {z : List Int} (h : allL z = true) : ∀ x ∈ natOf z, x < 8 := fun x hx => by
  obtain ⟨y, hy, rfl⟩ := List.mem_map.1 hx
  have hl := isL_iff.1 (List.all_eq_true.1 h _ hy)
  omega

def RJudged (s : ByteArray) (z1 : List Int) (w : World) (e : Ending) (w' : World) : Prop :=
  ∃ v : Nat, e = .returned (.tuple #[.int .i64 v, .int .i64 (judgeErr s z1)]) ∧ (judgeErr s z1 = 0 → Verdict (parseOf s).2 (natOf z1) v) ∧ (judgeErr s z1 ≠ 0 → v = 0) ∧ Below w.heap.size w w'

end Go.Proofs.Ytjagijohfkffiaa

/- The walk of the reference's Judge. -/
namespace Go.Proofs.Ytjagijohfkffiaa
open Go.RowKit
set_option linter.unusedVariables false

theorem afB_snoc (ns : List Nd) (vs : List Nat) : ∀ (u : List Nat) (f : Nat → Bool) (a : Nat), afB ns vs (u ++ [a]) f = onTo ns vs (afB ns vs u f) a vs.length
  | [], f, a => rfl
  | x :: u, f, a => afB_snoc ns vs u _ a

theorem told_is {ns : List Nd} (hg : Good ns) {vs : List Nat} (hL : LiveSets ns vs.length (mOf vs)) (u : List Nat) (hu : ∀ x ∈ u, x < 8) :
    Verdict ns u (toldB (noneB (afB ns vs u (fun i => mOf vs i (ns.length - 1) == true)) vs.length) (noneB (afB ns vs u (fun i => mOf vs i (ns.length - 1) == false)) vs.length)) := by
  have h1 := none_may hg hL u hu true
  have h2 := none_may hg hL u hu false
  generalize noneB (afB ns vs u (fun i => mOf vs i (ns.length - 1) == true)) vs.length = y at *
  generalize noneB (afB ns vs u (fun i => mOf vs i (ns.length - 1) == false)) vs.length = n at *
  unfold Verdict toldB
  cases y with
  | true => exact Or.inl ⟨rfl, fun h => by have := h1.2 h; cases this⟩
  | false =>
    cases n with
    | true => exact Or.inr (Or.inl ⟨rfl, h1.1 rfl, fun h => by have := h2.2 h; cases this⟩)
    | false => exact Or.inr (Or.inr ⟨rfl, h1.1 rfl, h2.1 rfl⟩)

theorem letter_at {z : List Int} (h : allL z = true) {k : Nat} (hk : k < z.length) : ∃ x : Nat, x < 8 ∧ z.getD k 0 = (x : Int) ∧ (natOf z).take (k + 1) = (natOf z).take k ++ [x] := by
  have hm : z[k] ∈ z := List.getElem_mem hk
  have hl := isL_iff.1 (List.all_eq_true.1 h _ hm)
  refine ⟨z[k].toNat, by omega, ?_, ?_⟩
  · simp [List.getD, List.getElem?_eq_getElem hk]; omega
  · rw [List.take_succ_eq_append_getElem (by simpa [natOf] using hk)]
    simp [natOf]
section
variable (s : ByteArray) (a1 : Option Addr) (l1 c1 : Nat) (z1 : List Int) (w : World)

set_option maxHeartbeats 400000 in
theorem rjudge_no (hm : s.size ≤ maxLen) (h : (parseOf s).1 ≠ 0) : Calls Try.prog 29 #[.string s, .slice a1 l1 c1] w (RJudged s z1 w) := by
  have E : Hid (judgeErr s z1 = (parseOf s).1) := hid (by unfold judgeErr; rw [if_neg h])
  have C := formulate_any s w hm
  unfold Formulated at C
  unfold RJudged
  rw [E.out]
  generalize parseOf s = p at *
  have k : ((p.1 : Int) != 0) = true := by rw [bne_iff_ne]; omega
  go_enter Try.func29, Try.ntmps29
  go_wp2_with fail
  refine C.mono ?_
  rintro e w1 ⟨hb, ⟨_, rfl⟩ | ⟨h0, _⟩⟩
  · go_wp2_with fail
    go_ret2
    exact ⟨0, rfl, fun h1 => absurd h1 h, fun _ => rfl, hb⟩
  · exact absurd h0 h

set_option maxHeartbeats 4000000 in
set_option maxRecDepth 100000 in
theorem rjudge_yes (hm : s.size ≤ maxLen) (h : (parseOf s).1 = 0) (h1 : Ints w a1 l1 c1 z1) : Calls Try.prog 29 #[.string s, .slice a1 l1 c1] w (RJudged s z1 w) := by
  have E : Hid (judgeErr s z1 = if 40 < z1.length then 5 else if allL z1 = true then 0 else 6) := hid (by unfold judgeErr; rw [if_pos h])
  have C := formulate_any s w hm
  unfold Formulated at C
  have G := hid (parse_good h)
  have m1 := h1.hmax
  have m3 := h1.hcap
  have L1 := h1.hlen
  have R1 := fun W (b : Below w.heap.size w W) => rword_any a1 l1 c1 z1 W (h1.below b)
  unfold RJudged
  rw [E.out]
  generalize parseOf s = p at *
  obtain ⟨p1, ns⟩ := p
  dsimp only at *
  subst h
  rw [L1]
  by_cases q1 : 40 < l1
  · rw [if_pos q1]
    have k1 : (40 : Int) < (l1 : Int) := by omega
    go_enter Try.func29, Try.ntmps29
    go_wp2_with fail
    refine C.mono ?_
    rintro e w1 ⟨hb, ⟨h0, _⟩ | ⟨_, bs, rfl, hf⟩⟩
    · exact absurd rfl h0
    go_wp2_with fail
    refine (R1 _ hb).mono ?_
    rintro e w2 ⟨rfl, rfl⟩
    go_wp2_with fail
    go_ret2
    exact ⟨0, rfl, fun h1 => (by cases h1), fun _ => rfl, hb⟩
  rw [if_neg q1]
  have k1 : ¬ (40 : Int) < (l1 : Int) := by omega
  cases hal : allL z1 with
  | false =>
    rw [hal] at R1
    rw [if_neg (by simp)]
    clear hal
    go_enter Try.func29, Try.ntmps29
    go_wp2_with fail
    refine C.mono ?_
    rintro e w1 ⟨hb, ⟨h0, _⟩ | ⟨_, bs, rfl, hf⟩⟩
    · exact absurd rfl h0
    go_wp2_with fail
    refine (R1 _ hb).mono ?_
    rintro e w2 ⟨rfl, rfl⟩
    go_wp2_with fail
    go_ret2
    exact ⟨0, rfl, fun h1 => (by cases h1), fun _ => rfl, hb⟩
  | true =>
    rw [hal] at R1
    rw [if_pos rfl]
    have HAL := hid hal
    have H1 := hid h1
    clear hal h1
    go_enter Try.func29, Try.ntmps29
    go_wp2_with fail
    refine C.mono ?_
    rintro e w1 ⟨hb, ⟨h0, _⟩ | ⟨_, bs, rfl, hf⟩⟩
    · exact absurd rfl h0
    have HB1 := hid hb
    have HF := hid hf
    clear C hf
    go_wp2_with fail
    refine (R1 _ hb).mono ?_
    rintro e w2 ⟨rfl, rfl⟩
    clear R1 hb
    obtain ⟨gp, cap, hfr⟩ := fr_of HF.out G.out.pos
    have RW := hid (rows_any w.heap.size gp cap ns bs w2 hfr G.out)
    clear HF hfr
    go_wp2_with fail
    refine RW.out.mono ?_
    rintro e w3 ⟨R, vs, rfl, hRM, hLS, hM, hb3⟩
    have s1 := HB1.out.size
    have HB3 := hid (HB1.out.trans (hb3.mono s1))
    have WT := hid (fun (W : World) (b : Below w3.heap.size w3 W) (hd : Bool) => whole_any R w.heap.size gp cap ns bs vs hd W (hRM.below b) G.out hM)
    have ON := hid (fun (W : World) (b : Below w3.heap.size w3 W) (gl x : Nat) (f : Nat → Bool) (hx : x < 8) (hf : Rb W gl vs.length f) => on_any R w.heap.size gp cap gl x ns bs vs f W (hRM.below b) G.out hM hx hf)
    have HTI := hid (told_is G.out hLS (natOf z1) (nat_lt HAL.out))
    have HSN := hid (fun u f x => afB_snoc ns vs u f x)
    clear hRM hLS RW hb3
    go_wp2_with fail
    refine (WT.out w3 (Below.refl _ _) true).mono ?_
    rintro e w4 ⟨gy, rfl, hy, hgy, hb4⟩
    have HY4 := hid hy
    have HB4 := hid hb4
    clear hy hb4
    go_wp2_with fail
    refine (WT.out w4 HB4.out false).mono ?_
    rintro e w5 ⟨gn, rfl, hn, hgn, hb5⟩
    have HY := hid (HY4.out.below hb5)
    have HN := hid hn
    have HB5 := hid (HB4.out.trans (hb5.mono HB4.out.size))
    clear hn hb5 HY4 HB4 WT
    generalize vs.length = M at *
    go_wp2_with fail
    go_loopw [12, 10, 11] (fun i y n wq => ∃ (k gy gn : Nat), k ≤ l1 ∧ i = .int .i64 k ∧ y = .slice (some ⟨gy, 0, none⟩) M M ∧ n = .slice (some ⟨gn, 0, none⟩) M M ∧ Hid (Rb wq gy M (afB ns vs ((natOf z1).take k) (fun i => mOf vs i (ns.length - 1) == true))) ∧ Hid (Rb wq gn M (afB ns vs ((natOf z1).take k) (fun i => mOf vs i (ns.length - 1) == false))) ∧ Below w3.heap.size w3 wq) (fun i _ _ _ => l1 - (intOf i).toNat)
    case atStart => exact ⟨0, gy, gn, Nat.zero_le _, rfl, rfl, rfl, HY, HN, HB5.out⟩
    case round =>
      obtain ⟨k, gy, gn, hk, rfl, rfl, rfl, HY, HN, hb⟩ := hrel
      have BW := hid (HB3.out.trans (hb.mono HB3.out.size))
      by_cases hlk : k < l1
      · obtain ⟨bk, off, e, hbb, hc⟩ := H1.out.hcell (by omega)
        subst e
        have cz := (BW.out.cell (p := ⟨bk, off + k, none⟩) hbb).trans (hc k hlk)
        obtain ⟨x, hx8, ex, htk⟩ := letter_at HAL.out (k := k) (by rw [L1]; exact hlk)
        rw [ex] at cz
        have HTK := hid htk
        have HBR := hid hb
        clear hc ex htk hb
        go_wp2_with fail
        refine (ON.out wr HBR.out gy x _ hx8 HY.out).mono ?_
        rintro e w6 ⟨g1, rfl, r1, _, hb6⟩
        have cz6 := (hb6.cell (p := ⟨bk, off + k, none⟩) (World.block_lt_of_cell? wr ⟨bk, off + k, none⟩ cz)).trans cz
        have HBS := hid (HBR.out.trans (hb6.mono HBR.out.size))
        have HR1 := hid r1
        have HN6 := hid (HN.out.below hb6)
        clear cz r1 hb6
        go_wp2_with fail
        refine (ON.out w6 HBS.out gn x _ hx8 HN6.out).mono ?_
        rintro e w7 ⟨g2, rfl, r2, _, hb7⟩
        have HR2 := hid r2
        have HR3 := hid (HR1.out.below hb7)
        have HBT := hid (HBS.out.trans (hb7.mono HBS.out.size))
        clear r2 hb7 cz6 HR1
        go_wp2_with fail
        go_roundw
        case rel => exact ⟨k + 1, g1, g2, by omega, by go_num, rfl, rfl, by rw [HTK.out, HSN.out]; exact HR3, by rw [HTK.out, HSN.out]; exact HR2, HBT.out⟩
        case measure => simp [intOf]; omega
      · obtain rfl : k = l1 := by omega
        have htk : (natOf z1).take k = natOf z1 := List.take_of_length_le (by simp [natOf, L1])
        rw [htk] at HY HN
        clear htk hb
        go_wp2_with fail
        refine (told_any gy gn M _ _ wr HY.out HN.out (by omega)).mono ?_
        rintro e w6 ⟨rfl, rfl⟩
        go_wp2_with fail
        go_ret2
        exact ⟨_, rfl, fun _ => by simpa using HTI.out, fun h => absurd rfl h, BW.out⟩

theorem rjudge_any (hm : s.size ≤ maxLen) (h1 : Ints w a1 l1 c1 z1) : Calls Try.prog 29 #[.string s, .slice a1 l1 c1] w (RJudged s z1 w) := by
  by_cases h : (parseOf s).1 = 0
  · exact rjudge_yes s a1 l1 c1 z1 w hm h h1
  · exact rjudge_no s a1 l1 c1 z1 w hm h

end

end Go.Proofs.Ytjagijohfkffiaa
