import Derived.Test.YtjagijohfkffiabCHEM19
import Derived.Test.YtjagijohfkffiabCHEM26
import Derived.Test.YtjagijohfkffiabCHEM27
import Derived.Test.YtjagijohfkffiabCHEM28
import Derived.Test.YtjagijohfkffiabCHEM29
import Derived.Laws.AppendOwnNone

/- The walks of the reference's parse (whole), Formulate and Size. -/
namespace Go.Proofs.Ytjagijohfkffiab
open Go.RowKit
set_option linter.unusedVariables false

set_option maxHeartbeats 1600000 in
set_option maxRecDepth 100000 in
theorem rparse_no (k F : Nat) (s : ByteArray) (hs : s.size ≤ 24) (a : Nat) (ns : List Nd) (bs : List Nat) (w : World) (hf : Fm w F ns bs) (ha : a ≤ s.size) (h1 : leafB (bt s a) = false) (h2 : oneB (bt s a) = false) (h3 : ¬ bt s a = 40) :
    Calls Try.prog 91 #[.pointer (some ⟨F, 0, none⟩), .string s, .int .i64 a] w (Rff (ps (k + 1) s a ns) F a bs w) := by
  have e1 := hid (ps_no (k := k) (ns := ns) h1 h2 h3)
  have hF := hf.ltF
  by_cases hl : a < s.size
  · have hx := bt_in hl
    rw [hx] at h1 h2 h3
    have k48 : (((s[a]'hl).toNat : Int) == 48) = false := beq_eq_false_iff_ne.2 (fun h => by rw [show (s[a]'hl).toNat = 48 by omega] at h1; revert h1; decide)
    have k49 : (((s[a]'hl).toNat : Int) == 49) = false := beq_eq_false_iff_ne.2 (fun h => by rw [show (s[a]'hl).toNat = 49 by omega] at h1; revert h1; decide)
    have k112 : (((s[a]'hl).toNat : Int) == 112) = false := beq_eq_false_iff_ne.2 (fun h => by rw [show (s[a]'hl).toNat = 112 by omega] at h1; revert h1; decide)
    have k113 : (((s[a]'hl).toNat : Int) == 113) = false := beq_eq_false_iff_ne.2 (fun h => by rw [show (s[a]'hl).toNat = 113 by omega] at h1; revert h1; decide)
    have k114 : (((s[a]'hl).toNat : Int) == 114) = false := beq_eq_false_iff_ne.2 (fun h => by rw [show (s[a]'hl).toNat = 114 by omega] at h1; revert h1; decide)
    have k33 : (((s[a]'hl).toNat : Int) == 33) = false := beq_eq_false_iff_ne.2 (fun h => by rw [show (s[a]'hl).toNat = 33 by omega] at h2; revert h2; decide)
    have k88 : (((s[a]'hl).toNat : Int) == 88) = false := beq_eq_false_iff_ne.2 (fun h => by rw [show (s[a]'hl).toNat = 88 by omega] at h2; revert h2; decide)
    have k70 : (((s[a]'hl).toNat : Int) == 70) = false := beq_eq_false_iff_ne.2 (fun h => by rw [show (s[a]'hl).toNat = 70 by omega] at h2; revert h2; decide)
    have k71 : (((s[a]'hl).toNat : Int) == 71) = false := beq_eq_false_iff_ne.2 (fun h => by rw [show (s[a]'hl).toNat = 71 by omega] at h2; revert h2; decide)
    have k40 : (((s[a]'hl).toNat : Int) == 40) = false := beq_eq_false_iff_ne.2 (by omega)
    clear h1 h2 h3 hx
    go_enter Try.func91, Try.ntmps91
    go_wp2_with fail
    go_ret3
    exact Or.inl ⟨e1.out, rfl, (Below.refl F w).alloc (by omega) _⟩
  · clear h1 h2 h3
    go_enter Try.func91, Try.ntmps91
    go_wp2_with fail
    go_ret3
    exact Or.inl ⟨e1.out, rfl, Below.refl F w⟩

theorem rparse_any (F : Nat) (s : ByteArray) (hs : s.size ≤ 24) (k : Nat) : RparseAt k F s := by
  induction k with
  | zero => intro x a ns bs w hx hf hk ha hn; omega
  | succ k ih =>
    intro x a ns bs w hx hf hk ha hn
    subst hx
    by_cases h1 : leafB (bt s a) = true
    · exact rparse_leaf k F s hs a ns bs w hf hn h1
    rw [Bool.not_eq_true] at h1
    by_cases h2 : oneB (bt s a) = true
    · exact rparse_one k F s hs ih a ns bs w hf hk hn h2
    rw [Bool.not_eq_true] at h2
    by_cases h3 : bt s a = 40
    · cases e0 : ps k s (a + 1) ns with
      | none => exact rparse_two_none k F s hs ih a ns bs w hf hk hn h3 e0
      | some y =>
        obtain ⟨a1, n1⟩ := y
        cases b4 : twoB (bt s a1) with
        | false => exact rparse_two_noop k F s hs ih a ns bs w hf hk hn h3 a1 n1 e0 b4
        | true =>
          cases e3 : ps k s (a1 + 1) n1 with
          | none => exact rparse_two_none2 k F s hs ih a ns bs w hf hk hn h3 a1 n1 e0 b4 e3
          | some y =>
            obtain ⟨a2, n2⟩ := y
            by_cases b5 : bt s a2 = 41
            · exact rparse_two_yes k F s hs ih a ns bs w hf hk hn h3 a1 a2 n1 n2 e0 b4 e3 b5
            · by_cases hl : a2 < s.size
              · exact rparse_two_open k F s hs ih a ns bs w hf hk hn h3 a1 a2 n1 n2 e0 b4 e3 b5 hl
              · exact rparse_two_end k F s hs ih a ns bs w hf hk hn h3 a1 a2 n1 n2 e0 b4 e3 b5 hl
    · exact rparse_no k F s hs a ns bs w hf ha h1 h2 h3

end Go.Proofs.Ytjagijohfkffiab

/- The walks of the reference's Formulate and Size. -/
namespace Go.Proofs.Ytjagijohfkffiab
open Go.RowKit
set_option linter.unusedVariables false

def Formulated (s : ByteArray) (w : World) (e : Ending) (w' : World) : Prop :=
  Below w.heap.size w w' ∧
  (((parseOf s).1 ≠ 0 ∧ e = .returned (.tuple #[.pointer none, .int .i64 (parseOf s).1])) ∨
   ((parseOf s).1 = 0 ∧ ∃ bs, e = .returned (.tuple #[.pointer (some ⟨w.heap.size, 0, none⟩), .int .i64 0]) ∧ Fm w' w.heap.size (parseOf s).2 bs))

theorem fm_new (w : World) : Fm (w.alloc (.cells #[.slice none 0 0] 109)) w.heap.size [] [] :=
  ⟨⟨none, 0, by simp, World.ownsRow_nil _ _ _ _⟩, by simp, rfl, wf_nil, by intro i n h; simp at h⟩

set_option maxHeartbeats 400000 in
theorem formulate_long (s : ByteArray) (w : World) (hm : s.size ≤ maxLen) (h : 24 < s.size) : Calls Try.prog 47 #[.string s] w (Formulated s w) := by
  unfold maxLen at hm
  have P : Hid (parseOf s = (1, [])) := hid (by simp [parseOf, h])
  go_enter Try.func47, Try.ntmps47
  go_wp2_with fail
  go_ret2
  unfold Formulated
  rw [P.out]
  exact ⟨Below.refl _ _, Or.inl ⟨by decide, rfl⟩⟩

set_option maxHeartbeats 400000 in
theorem formulate_none (s : ByteArray) (w : World) (h : ¬ 24 < s.size) (e0 : ps 25 s 0 [] = none) : Calls Try.prog 47 #[.string s] w (Formulated s w) := by
  have C := rparse_any w.heap.size s (by omega) 25 0 0 [] [] _ (by omega) (fm_new w) (by omega) (by omega) (by simp)
  have P : Hid (parseOf s = (2, [])) := hid (by simp [parseOf, h, e0])
  have E0 := hid e0
  clear e0
  go_enter Try.func47, Try.ntmps47
  go_wp2_with fail
  refine C.mono ?_
  rintro e w1 (⟨_, rfl, hb⟩ | ⟨a', ns', _, _, h, _⟩)
  · go_wp2_with fail
    go_ret2
    unfold Formulated
    rw [P.out]
    exact ⟨((Below.refl _ _).alloc (Nat.le_refl _) _).trans hb, Or.inl ⟨by decide, rfl⟩⟩
  · rw [E0.out] at h; cases h

set_option maxHeartbeats 400000 in
theorem formulate_rest (s : ByteArray) (w : World) (h : ¬ 24 < s.size) (a : Nat) (ns : List Nd) (e0 : ps 25 s 0 [] = some (a, ns)) (h1 : ¬ a = s.size) : Calls Try.prog 47 #[.string s] w (Formulated s w) := by
  have C := rparse_any w.heap.size s (by omega) 25 0 0 [] [] _ (by omega) (fm_new w) (by omega) (by omega) (by simp)
  have P : Hid (parseOf s = (2, [])) := hid (by simp [parseOf, h, e0, h1])
  have g := ps_grows 25 s 0 [] a ns e0
  have E0 := hid e0
  have h3 : ((a : Int) != (s.size : Int)) = true := by rw [bne_iff_ne]; omega
  clear e0
  go_enter Try.func47, Try.ntmps47
  go_wp2_with fail
  refine C.mono ?_
  rintro e w1 (⟨h, _⟩ | ⟨a', ns', ext, L, h, rfl, hf1, hL, hext, hb, hkp⟩)
  · rw [E0.out] at h; cases h
  rw [E0.out] at h
  simp only [Option.some.injEq, Prod.mk.injEq] at h
  obtain ⟨rfl, rfl⟩ := h
  go_wp2_with fail
  go_ret2
  unfold Formulated
  rw [P.out]
  exact ⟨((Below.refl _ _).alloc (Nat.le_refl _) _).trans hb, Or.inl ⟨by decide, rfl⟩⟩

set_option maxHeartbeats 800000 in
theorem formulate_whole (s : ByteArray) (w : World) (h : ¬ 24 < s.size) (ns : List Nd) (e0 : ps 25 s 0 [] = some (s.size, ns)) : Calls Try.prog 47 #[.string s] w (Formulated s w) := by
  have C := rparse_any w.heap.size s (by omega) 25 0 0 [] [] _ (by omega) (fm_new w) (by omega) (by omega) (by simp)
  have g := ps_grows 25 s 0 [] s.size ns e0
  have hc : cntTo s s.size = ns.length := by have := ps_cnt 25 s 0 [] s.size ns e0; simp [cntTo] at this; omega
  have P3 : Hid (8 < ns.length → parseOf s = (3, [])) := hid (fun h2 => by simp [parseOf, h, e0, h2])
  have P0 : Hid (¬ 8 < ns.length → parseOf s = (0, ns)) := hid (fun h2 => by simp [parseOf, h, e0, h2])
  have E0 := hid e0
  have HC := hid hc
  clear e0 hc
  go_enter Try.func47, Try.ntmps47
  go_wp2_with fail
  refine C.mono ?_
  rintro e w1 (⟨h, _⟩ | ⟨a', ns', ext, L, h, rfl, hf1, hL, hext, hb, hkp⟩)
  · rw [E0.out] at h; cases h
  rw [E0.out] at h
  simp only [Option.some.injEq, Prod.mk.injEq] at h
  obtain ⟨rfl, rfl⟩ := h
  have HB := hid (((Below.refl w.heap.size w).alloc (Nat.le_refl _) _).trans hb)
  have HF := hid hf1
  have hnl : ns.length ≤ 24 := by simp at g; omega
  clear hb hf1 hL hext hkp C g
  go_wp2_with fail
  go_loop [8, 9] (fun n i => ∃ k : Nat, k ≤ s.size ∧ i = .int .i64 k ∧ n = .int .i64 (cntTo s k)) (fun _ i => s.size - (intOf i).toNat)
  case atStart => exact ⟨0, Nat.zero_le _, rfl, rfl⟩
  case round =>
    obtain ⟨k, hk, rfl, rfl⟩ := hrel
    have hd := cntTo_le s k
    by_cases hlt : k < s.size
    · have hx := bt_in hlt
      by_cases h40 : bt s k = 40
      · have k1 : (((s[k]'hlt).toNat : Int) != 40) = false := by rw [bne_eq_false_iff_eq]; omega
        have HS := hid (cnt_out (s := s) (k := k) (Or.inl h40))
        clear h40 hx
        go_wp2_with fail
        go_round
        case rel => exact ⟨k + 1, by omega, by go_num, by rw [HS.out]⟩
        case measure => simp [intOf]; omega
      by_cases h41 : bt s k = 41
      · have k1 : (((s[k]'hlt).toNat : Int) != 40) = true := by rw [bne_iff_ne]; omega
        have k2 : (((s[k]'hlt).toNat : Int) != 41) = false := by rw [bne_eq_false_iff_eq]; omega
        have HS := hid (cnt_out (s := s) (k := k) (Or.inr h41))
        clear h40 h41 hx
        go_wp2_with fail
        go_round
        case rel => exact ⟨k + 1, by omega, by go_num, by rw [HS.out]⟩
        case measure => simp [intOf]; omega
      have k1 : (((s[k]'hlt).toNat : Int) != 40) = true := by rw [bne_iff_ne]; omega
      have k2 : (((s[k]'hlt).toNat : Int) != 41) = true := by rw [bne_iff_ne]; omega
      have HS := hid (cnt_in (s := s) (k := k) h40 h41)
      clear h40 h41 hx
      go_wp2_with fail
      go_round
      case rel => exact ⟨k + 1, by omega, by go_num, by rw [HS.out]; go_num⟩
      case measure => simp [intOf]; omega
    · have hk2 : k = s.size := by omega
      subst hk2
      by_cases h8 : 8 < ns.length
      · have h9 : 8 < cntTo s s.size := by rw [HC.out]; exact h8
        go_wp2_with fail
        go_ret2
        unfold Formulated
        rw [P3.out h8]
        exact ⟨HB.out, Or.inl ⟨by decide, rfl⟩⟩
      · have h9 : ¬ 8 < cntTo s s.size := by rw [HC.out]; exact h8
        go_wp2_with fail
        go_ret2
        unfold Formulated
        rw [P0.out h8]
        exact ⟨HB.out, Or.inr ⟨rfl, _, rfl, HF.out⟩⟩

theorem formulate_any (s : ByteArray) (w : World) (hm : s.size ≤ maxLen) : Calls Try.prog 47 #[.string s] w (Formulated s w) := by
  by_cases h : 24 < s.size
  · exact formulate_long s w hm h
  cases e0 : ps 25 s 0 [] with
  | none => exact formulate_none s w h e0
  | some x =>
    obtain ⟨a, ns⟩ := x
    by_cases h1 : a = s.size
    · subst h1; exact formulate_whole s w h ns e0
    · exact formulate_rest s w h a ns e0 h1

end Go.Proofs.Ytjagijohfkffiab

/- The walks of the reference's row (whole), Of and Holds. -/
namespace Go.Proofs.Ytjagijohfkffiab
open Go.RowKit
set_option linter.unusedVariables false

theorem row_any (ns : List Nd) (bs : List Nat) (gw n wcap back : Nat) (xs : List Nat) (hw : Wf2 ns) (hlx : xs.length = n) (hb : back < n) (hn80 : n ≤ 20000) (h8 : ∀ x ∈ xs, x < 8) (k : Nat) (hk : k < ns.length) : RowAt ns bs gw n wcap back xs k := by
  induction k using Nat.strongRecOn with
  | _ k ih =>
    intro w b hp hwd hbk
    have hn : ns[k]? = some ns[k] := List.getElem?_eq_getElem hk
    obtain ⟨hc, h1, h2⟩ := wf2_class hw hn
    rcases hc with hc | hc | hc
    · rcases leaf_is hc with e | e | e | e | e
      · exact row_0 ns bs gw n wcap back xs hw hlx hb hn80 h8 k b _ hn e w hp hwd hbk
      · exact row_1 ns bs gw n wcap back xs hw hlx hb hn80 h8 k b _ hn e w hp hwd hbk
      · exact row_p ns bs gw n wcap back xs hw hlx hb hn80 h8 k b _ hn e w hp hwd hbk
      · exact row_q ns bs gw n wcap back xs hw hlx hb hn80 h8 k b _ hn e w hp hwd hbk
      · exact row_r ns bs gw n wcap back xs hw hlx hb hn80 h8 k b _ hn e w hp hwd hbk
    · have hl := h1 (leaf_not_one hc)
      have il := ih _ hl (by omega)
      rcases one_is hc with e | e | e | e
      · exact row_not ns bs gw n wcap back xs hw hlx hb hn80 h8 k b _ hn e il w hp hwd hbk
      · exact row_X ns bs gw n wcap back xs hw hlx hb hn80 h8 k b _ hn e il w hp hwd hbk
      · exact row_F ns bs gw n wcap back xs hw hlx hb hn80 h8 k b _ hn e il w hp hwd hbk
      · exact row_G ns bs gw n wcap back xs hw hlx hb hn80 h8 k b _ hn e il w hp hwd hbk
    · have il := ih _ (h1 (two_not_leaf hc)) (by have := h1 (two_not_leaf hc); omega)
      have ir := ih _ (h2 hc) (by have := h2 hc; omega)
      rcases two_is hc with e | e | e | e
      · exact row_and ns bs gw n wcap back xs hw hlx hb hn80 h8 k b _ hn e il ir w hp hwd hbk
      · exact row_or ns bs gw n wcap back xs hw hlx hb hn80 h8 k b _ hn e il ir w hp hwd hbk
      · exact row_U ns bs gw n wcap back xs hw hlx hb hn80 h8 k b _ hn e il ir w hp hwd hbk
      · exact row_R ns bs gw n wcap back xs hw hlx hb hn80 h8 k b _ hn e il ir w hp hwd hbk

set_option maxRecDepth 10000 in
theorem wrap_small {m : Nat} (h : m ≤ 1000) : IntKind.i64.wrap (m : Int) = (m : Int) := by
  rw [IntKind.wrap_i64]
  omega

theorem Fm.partsOf {w : World} {F : Nat} {ns : List Nd} {bs : List Nat} (h : Fm w F ns bs) : Parts w ns bs := fun i nd hn => by
  obtain ⟨b, e, _, hh⟩ := h.parts i nd hn
  exact ⟨b, e, hh⟩

/-- What lies in memory behind the two appends: the letters. -/
theorem wd_of {w : World} {B n cap : Nat} {ao : Option Addr} {zs : List Int} (own : w.ownsRow B 3 1 (.slice ao n cap) n (natInts (natOf zs))) (hn : 0 < n) (hl : zs.length = n) : ∃ g, ao = some ⟨g, 0, none⟩ ∧ Wd w g n cap (natOf zs) := by
  obtain ⟨g, rfl, _, hg, hc⟩ := own_at own hn
  refine ⟨g, rfl, hg, hc, fun i hi => ?_⟩
  rw [own.cellAt i (by omega)]
  simp [natInts, natOf, ltOf, List.getD, List.getElem?_eq_getElem (show i < zs.length by omega)]

section
variable (F : Nat) (ns : List Nd) (bs : List Nat) (a1 a2 : Option Addr) (l1 c1 l2 c2 : Nat) (z1 z2 : List Int) (w : World)

/-- The rest of Of, behind the two appends. -/
def OfPost (e : Ending) (w' : World) : Prop := e = .returned (.bool (holdsB z1.length ns (natOf (z1 ++ z2)))) ∧ Below w.heap.size w w'

set_option maxHeartbeats 1600000 in
set_option maxRecDepth 100000 in
theorem of_some (ad : Addr) (hf : Fm w F ns bs) (hg : Good ns) (hj : 0 < z2.length ∧ z1.length + z2.length ≤ 20000 ∧ allL z1 = true ∧ allL z2 = true) (h1 : Ints w (some ad) l1 c1 z1) (h2 : Ints w a2 l2 c2 z2) :
    Calls Try.prog 55 #[.pointer (some ⟨F, 0, none⟩), .slice (some ad) l1 c1, .slice a2 l2 c2] w (OfPost ns z1 z2 w) := by
  obtain ⟨q1, q2, q4, q5⟩ := hj
  have L1 := h1.hlen
  have L2 := h2.hlen
  have LN := letters_nat (allL_append q4 q5)
  obtain ⟨b2, off2, rfl, _⟩ := h2.hcell (by omega)
  have s1 := h1.src ad rfl
  obtain ⟨i0, hi, hz0, hz1, hz2⟩ := info_parts Try.infoInt
  go_enter Try.func55, Try.ntmps55
  go_wp2_with (at_builtin; go_must (refine wpList_append_own _ rfl (.tmp 9) (.tmp 10) 22 rfl w.heap.size 3 i0 (.int .i64 0) 1 8 Try.underlying22 hi hz0 hz1 hz2 rfl (by decide) _ 0 [] rfl (World.ownsRow_nil _ _ _ _) ad l1 c1 (z1.map (Value.int .i64)) rfl ?n1 s1 (int_one z1) ?n2 ?n3 (Nat.le_refl _) ?_))
  case n1 => simp [L1]
  case n2 => unfold maxLen; omega
  case n3 => omega
  intro v1 w1 own1 grow1 _
  try simp only [Nat.zero_add, List.nil_append] at own1
  have hb1 : Below w.heap.size w w1 := (Below.refl _ _).grown grow1 (Nat.le_refl _) (fun k h => by cases h)
  have s2 := (h2.below hb1).src _ rfl
  have HB1 := hid hb1
  have hs1 := hb1.size
  clear hb1 grow1 s1
  go_wp2_with (at_builtin; go_must (refine wpList_append_own _ rfl (.tmp 12) (.tmp 13) 22 rfl w.heap.size 3 i0 (.int .i64 0) 1 8 Try.underlying22 hi hz0 hz1 hz2 rfl (by decide) _ l1 (z1.map (Value.int .i64)) rfl own1 ⟨b2, off2, none⟩ l2 c2 (z2.map (Value.int .i64)) rfl ?n4 s2 (int_one z2) ?n5 ?n6 hs1 ?_))
  case n4 => simp [L2]
  case n5 => unfold maxLen; omega
  case n6 => omega
  intro v2 w2 own2 grow2 _
  rw [← List.map_append, LN.1] at own2
  have hb2 : Below w.heap.size w w2 := HB1.out.grown grow2 hs1 (fun k h => (own1.lt k h).1)
  obtain ⟨ao, cap, hv⟩ : ∃ ao cap, v2 = .slice ao (l1 + l2) cap := by
    rcases own2.2 with ⟨h, h0⟩ | ⟨g, cap', _, h, _⟩
    · omega
    · exact ⟨_, cap', h⟩
  subst hv
  obtain ⟨gw, rfl, hwd⟩ := wd_of own2 (by omega) (by simp [L1, L2])
  have hpt := hf.partsOf.below hb2
  have hnat : (natOf (z1 ++ z2)).length = l1 + l2 := by simp [natOf, L1, L2]
  have HH := hid (holdsB_sem (back := l1) (ns := ns) (xs := natOf (z1 ++ z2)) hg (by omega) LN.2)
  rw [hnat] at HH
  have pos := hg.pos
  have ROW := hid (row_any ns bs gw (l1 + l2) cap l1 (natOf (z1 ++ z2)) hg.wf hnat (by omega) (by omega) LN.2 (ns.length - 1) (by omega))
  obtain ⟨fo, fcap, fc, fown⟩ := hf.c0
  obtain ⟨gf, rfl, _, hgf, hfcap⟩ := own_at fown (by omega)
  obtain ⟨bl, hbl⟩ : ∃ bl, bs[ns.length - 1]? = some bl := ⟨_, List.getElem?_eq_getElem (by have := hf.len; omega)⟩
  have fc2 := (hb2.cell (p := ⟨F, 0, none⟩) hf.ltF).trans fc
  have fl2 : w2.cell? ⟨gf, ns.length - 1, none⟩ = some (.pointer (some ⟨bl, 0, none⟩)) := by
    rw [hb2.cell (p := ⟨gf, ns.length - 1, none⟩) hgf, fown.cellAt _ (by omega)]
    simp [hbl, ptrTo1]
  obtain ⟨m, hm⟩ : ∃ m, ns.length = m + 1 := ⟨ns.length - 1, by omega⟩
  rw [hm] at fc2 hfcap
  rw [show ns.length - 1 = m by omega] at fl2
  have hmi : ((m + 1 : Nat) : Int) - 1 = (m : Int) := by omega
  have hmi2 : (m : Int) + 1 - 1 = (m : Int) := by omega
  have hwm := wrap_small (m := m) (by have := hg.le; omega)
  have hml : m ≤ 8 := by have := hg.le; omega
  have HM := hid hm
  clear hm pos
  have HW := hid hwd
  have HP := hid hpt
  have HB2 := hid hb2
  have HBL := hid hbl
  have hs2 := hb2.size
  clear own1 own2 grow2 hwd hpt hb2 hbl s2 LN fown fc hnat
  go_wp2_with fail
  have RW := hid (ROW.out w2.drew bl (show Parts w2.drew ns bs from HP.out) ⟨HW.out.lt, HW.out.cap, HW.out.cell⟩ HBL.out)
  go_region_with (go_at_call 98; go_must (refine RW.out.mono ?_; rintro e w3 ⟨g, f, rfl, SF, hg3, hR, hb3⟩))
  all_goals
    have y := hR.cell 0 (by omega)
    have S0 := SF 0 (by omega)
    have V : Hid (f 0 = holdsB l1 ns (natOf (z1 ++ z2))) := hid (by
      rw [Bool.eq_iff_iff, S0, HH.out])
    have B3 : Hid (Below w.heap.size w w3) := hid (HB2.out.trans ((show Below w2.heap.size w2 w3 from ⟨hb3.os, hb3.tape, hb3.output, hb3.size, hb3.block⟩).mono hs2))
    clear SF S0 hR hb3 fc2 fl2
    generalize f 0 = x at *
    go_wp2_with fail
    go_ret
    unfold OfPost
    rw [L1, ← V.out]
    exact ⟨rfl, B3.out⟩
set_option maxHeartbeats 1600000 in
set_option maxRecDepth 100000 in
theorem of_none (hf : Fm w F ns bs) (hg : Good ns) (hj : 0 < z2.length ∧ z1.length + z2.length ≤ 20000 ∧ allL z1 = true ∧ allL z2 = true) (h1 : Ints w none l1 c1 z1) (h2 : Ints w a2 l2 c2 z2) :
    Calls Try.prog 55 #[.pointer (some ⟨F, 0, none⟩), Value.slice none l1 c1, .slice a2 l2 c2] w (OfPost ns z1 z2 w) := by
  obtain ⟨q1, q2, q4, q5⟩ := hj
  have L1 := h1.hlen
  have L2 := h2.hlen
  have LN := letters_nat (allL_append q4 q5)
  obtain ⟨b2, off2, rfl, _⟩ := h2.hcell (by omega)
  obtain ⟨e1, e2⟩ := h1.hnil rfl
  subst e1
  subst e2
  have hz : z1 = [] := List.eq_nil_of_length_eq_zero L1
  obtain ⟨i0, hi, hz0, hz1, hz2⟩ := info_parts Try.infoInt
  have own1 : w.ownsRow w.heap.size 3 1 (.slice none 0 0) 0 (z1.map (Value.int .i64)) := by rw [hz]; exact World.ownsRow_nil _ _ _ _
  have s2 := h2.src _ rfl
  have HZ := hid hz
  clear hz
  have HB1 := hid (Below.refl w.heap.size w)
  go_enter Try.func55, Try.ntmps55
  go_wp2_with (first | (at_builtin; refine wpList_append_own_none rfl (.tmp 9) (.tmp 10) 22 rfl w.heap.size 3 i0 1 Try.underlying22 hi _ 0 [] rfl (World.ownsRow_nil _ _ _ _) rfl ?_) | (at_builtin; refine wpList_append_own _ rfl (.tmp 12) (.tmp 13) 22 rfl w.heap.size 3 i0 (.int .i64 0) 1 8 Try.underlying22 hi hz0 hz1 hz2 rfl (by decide) _ 0 (z1.map (Value.int .i64)) rfl own1 ⟨b2, off2, none⟩ l2 c2 (z2.map (Value.int .i64)) rfl ?n4 s2 (int_one z2) ?n5 ?n6 (Nat.le_refl _) ?_))
  case n4 => simp [L2]
  case n5 => unfold maxLen; omega
  case n6 => omega
  intro v2 w2 own2 grow2 _
  rw [← List.map_append, LN.1] at own2
  have hb2 : Below w.heap.size w w2 := HB1.out.grown grow2 (Nat.le_refl _) (fun k h => (own1.lt k h).1)
  obtain ⟨ao, cap, hv⟩ : ∃ ao cap, v2 = .slice ao (l2) cap := by
    rcases own2.2 with ⟨h, h0⟩ | ⟨g, cap', _, h, _⟩
    · omega
    · exact ⟨_, cap', h⟩
  subst hv
  obtain ⟨gw, rfl, hwd⟩ := wd_of own2 (by omega) (by simp [L1, L2])
  have hpt := hf.partsOf.below hb2
  have hnat : (natOf (z1 ++ z2)).length = l2 := by simp [natOf, L1, L2]
  have HH := hid (holdsB_sem (back := 0) (ns := ns) (xs := natOf (z1 ++ z2)) hg (by omega) LN.2)
  rw [hnat] at HH
  have pos := hg.pos
  have ROW := hid (row_any ns bs gw (l2) cap 0 (natOf (z1 ++ z2)) hg.wf hnat (by omega) (by omega) LN.2 (ns.length - 1) (by omega))
  obtain ⟨fo, fcap, fc, fown⟩ := hf.c0
  obtain ⟨gf, rfl, _, hgf, hfcap⟩ := own_at fown (by omega)
  obtain ⟨bl, hbl⟩ : ∃ bl, bs[ns.length - 1]? = some bl := ⟨_, List.getElem?_eq_getElem (by have := hf.len; omega)⟩
  have fc2 := (hb2.cell (p := ⟨F, 0, none⟩) hf.ltF).trans fc
  have fl2 : w2.cell? ⟨gf, ns.length - 1, none⟩ = some (.pointer (some ⟨bl, 0, none⟩)) := by
    rw [hb2.cell (p := ⟨gf, ns.length - 1, none⟩) hgf, fown.cellAt _ (by omega)]
    simp [hbl, ptrTo1]
  obtain ⟨m, hm⟩ : ∃ m, ns.length = m + 1 := ⟨ns.length - 1, by omega⟩
  rw [hm] at fc2 hfcap
  rw [show ns.length - 1 = m by omega] at fl2
  have hmi : ((m + 1 : Nat) : Int) - 1 = (m : Int) := by omega
  have hmi2 : (m : Int) + 1 - 1 = (m : Int) := by omega
  have hwm := wrap_small (m := m) (by have := hg.le; omega)
  have hml : m ≤ 8 := by have := hg.le; omega
  have HM := hid hm
  clear hm pos
  have HW := hid hwd
  have HP := hid hpt
  have HB2 := hid hb2
  have HBL := hid hbl
  have hs2 := hb2.size
  clear own1 own2 grow2 hwd hpt hb2 hbl s2 LN fown fc hnat
  go_wp2_with fail
  have RW := hid (ROW.out w2.drew bl (show Parts w2.drew ns bs from HP.out) ⟨HW.out.lt, HW.out.cap, HW.out.cell⟩ HBL.out)
  go_region_with (go_at_call 98; go_must (refine RW.out.mono ?_; rintro e w3 ⟨g, f, rfl, SF, hg3, hR, hb3⟩))
  all_goals
    have y := hR.cell 0 (by omega)
    have S0 := SF 0 (by omega)
    have V : Hid (f 0 = holdsB 0 ns (natOf (z1 ++ z2))) := hid (by
      rw [Bool.eq_iff_iff, S0, HH.out])
    have B3 : Hid (Below w.heap.size w w3) := hid (HB2.out.trans ((show Below w2.heap.size w2 w3 from ⟨hb3.os, hb3.tape, hb3.output, hb3.size, hb3.block⟩).mono hs2))
    clear SF S0 hR hb3 fc2 fl2
    generalize f 0 = x at *
    go_wp2_with fail
    go_ret
    unfold OfPost
    rw [L1, ← V.out]
    exact ⟨rfl, B3.out⟩


theorem of_wide (hf : Fm w F ns bs) (hg : Good ns) (hj : 0 < z2.length ∧ z1.length + z2.length ≤ 20000 ∧ allL z1 = true ∧ allL z2 = true) (h1 : Ints w a1 l1 c1 z1) (h2 : Ints w a2 l2 c2 z2) :
    Calls Try.prog 55 #[.pointer (some ⟨F, 0, none⟩), .slice a1 l1 c1, .slice a2 l2 c2] w (OfPost ns z1 z2 w) := by
  cases a1 with
  | none => exact of_none F ns bs a2 l1 c1 l2 c2 z1 z2 w hf hg hj h1 h2
  | some ad => exact of_some F ns bs a2 l1 c1 l2 c2 z1 z2 w ad hf hg hj h1 h2

end

section
variable (s : ByteArray) (a1 a2 : Option Addr) (l1 c1 l2 c2 : Nat) (z1 z2 : List Int) (w : World)

end

end Go.Proofs.Ytjagijohfkffiab
