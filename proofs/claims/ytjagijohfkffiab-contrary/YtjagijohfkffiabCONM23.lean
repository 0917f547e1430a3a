import Derived.Test.YtjagijohfkffiabCONM03
import Derived.Test.YtjagijohfkffiabCONM14
import Derived.Test.YtjagijohfkffiabCONM15
import Derived.Test.YtjagijohfkffiabCONM22
import Derived.Laws.AppendOwnNone

/- The walks of Parse and Size. -/
namespace Go.Proofs.Ytjagijohfkffiab
open Go.RowKit
set_option linter.unusedVariables false

/-- What Parse answers: the error, the nodes in memory of its own. -/
def Parsed (s : ByteArray) (w : World) (e : Ending) (w' : World) : Prop :=
  ∃ ao cap, e = .returned (.tuple #[.slice ao (parseOf s).2.length cap, .int .i64 (parseOf s).1]) ∧ w'.ownsRow w.heap.size 124 3 (.slice ao (parseOf s).2.length cap) (parseOf s).2.length (flat (parseOf s).2) ∧ Below w.heap.size w w'

theorem parsed_err {s : ByteArray} {w w' : World} {k : Nat} (h : parseOf s = (k, [])) (hb : Below w.heap.size w w') : Parsed s w (.returned (.tuple #[.slice none 0 0, .int .i64 k])) w' := by
  unfold Parsed
  rw [h]
  exact ⟨none, 0, rfl, World.ownsRow_nil _ _ _ _, hb⟩

theorem rd_new (w : World) (s : ByteArray) : Rd (w.alloc (.cells #[.string s, .int .i64 0, .slice none 0 0] 120)) w.heap.size s 0 [] :=
  ⟨by simp, by simp, ⟨none, 0, by simp, World.ownsRow_nil _ _ _ _⟩, by simp, by simp⟩

set_option maxHeartbeats 400000 in
theorem parse_long (s : ByteArray) (w : World) (hm : s.size ≤ maxLen) (h : 24 < s.size) : Calls Try.prog 33 #[.string s] w (Parsed s w) := by
  unfold maxLen at hm
  have P := hid (parsed_err (s := s) (w := w) (w' := w) (k := 1) (by simp [parseOf, h]) (Below.refl _ _))
  go_enter Try.func33, Try.ntmps33
  go_wp2_with fail
  go_ret2
  exact P.out

set_option maxHeartbeats 400000 in
theorem parse_short (s : ByteArray) (w : World) (h : ¬ 24 < s.size) : Calls Try.prog 33 #[.string s] w (Parsed s w) := by
  have C := formula_any w.heap.size s (by omega) 25 0 [] _ (rd_new w s) (by omega) (by omega) (by simp)
  cases e0 : ps 25 s 0 [] with
  | none =>
    have P := hid (fun w' => parsed_err (s := s) (w := w) (w' := w') (k := 2) (by simp [parseOf, h, e0]))
    have E0 := hid e0
    clear e0
    go_enter Try.func33, Try.ntmps33
    go_wp2_with fail
    refine C.mono ?_
    rintro e w1 (⟨_, rfl, hb⟩ | ⟨a', ns', h, _⟩)
    · go_wp2_with fail
      go_ret2
      exact P.out _ (((Below.refl _ _).alloc (Nat.le_refl _) _).trans hb)
    · rw [E0.out] at h; cases h
  | some x =>
    obtain ⟨a, ns⟩ := x
    have g := ps_grows 25 s 0 [] a ns e0
    by_cases h1 : a = s.size
    · by_cases h2 : 8 < ns.length
      · have P := hid (fun w' => parsed_err (s := s) (w := w) (w' := w') (k := 3) (by simp [parseOf, h, e0, h1, h2]))
        have E0 := hid e0
        have h3 : ((a : Int) != (s.size : Int)) = false := by rw [bne_eq_false_iff_eq]; omega
        clear e0 h1
        go_enter Try.func33, Try.ntmps33
        go_wp2_with fail
        refine C.mono ?_
        rintro e w1 (⟨h, _⟩ | ⟨a', ns', h, rfl, hr1, hb⟩)
        · rw [E0.out] at h; cases h
        rw [E0.out] at h
        simp only [Option.some.injEq, Prod.mk.injEq] at h
        obtain ⟨rfl, rfl⟩ := h
        have c1 := hr1.c1
        obtain ⟨ao, cap, c2, own⟩ := hr1.c2
        go_wp2_with fail
        go_ret2
        exact P.out _ (((Below.refl _ _).alloc (Nat.le_refl _) _).trans hb)
      · have P : Hid (parseOf s = (0, ns)) := hid (by simp [parseOf, h, e0, h1, h2])
        have E0 := hid e0
        have h3 : ((a : Int) != (s.size : Int)) = false := by rw [bne_eq_false_iff_eq]; omega
        clear e0 h1
        go_enter Try.func33, Try.ntmps33
        go_wp2_with fail
        refine C.mono ?_
        rintro e w1 (⟨h, _⟩ | ⟨a', ns', h, rfl, hr1, hb⟩)
        · rw [E0.out] at h; cases h
        rw [E0.out] at h
        simp only [Option.some.injEq, Prod.mk.injEq] at h
        obtain ⟨rfl, rfl⟩ := h
        have c1 := hr1.c1
        obtain ⟨ao, cap, c2, own⟩ := hr1.c2
        go_wp2_with fail
        go_ret2
        unfold Parsed
        rw [P.out]
        exact ⟨ao, cap, rfl, own_mono own (Nat.le_succ _), ((Below.refl _ _).alloc (Nat.le_refl _) _).trans hb⟩
    · have P := hid (fun w' => parsed_err (s := s) (w := w) (w' := w') (k := 2) (by simp [parseOf, h, e0, h1]))
      have E0 := hid e0
      have h3 : ((a : Int) != (s.size : Int)) = true := by rw [bne_iff_ne]; omega
      clear e0
      go_enter Try.func33, Try.ntmps33
      go_wp2_with fail
      refine C.mono ?_
      rintro e w1 (⟨h, _⟩ | ⟨a', ns', h, rfl, hr1, hb⟩)
      · rw [E0.out] at h; cases h
      rw [E0.out] at h
      simp only [Option.some.injEq, Prod.mk.injEq] at h
      obtain ⟨rfl, rfl⟩ := h
      have c1 := hr1.c1
      obtain ⟨ao, cap, c2, own⟩ := hr1.c2
      go_wp2_with fail
      go_ret2
      exact P.out _ (((Below.refl _ _).alloc (Nat.le_refl _) _).trans hb)

theorem parse_any (s : ByteArray) (w : World) (hm : s.size ≤ maxLen) : Calls Try.prog 33 #[.string s] w (Parsed s w) := by
  by_cases h : 24 < s.size
  · exact parse_long s w hm h
  · exact parse_short s w h

set_option maxHeartbeats 400000 in
theorem size_any (s : ByteArray) (w : World) (hm : s.size ≤ maxLen) : Calls Try.prog 10 #[.string s] w fun e w' => e = .returned (.tuple #[.int .i64 (parseOf s).2.length, .int .i64 (parseOf s).1]) ∧ Below w.heap.size w w' := by
  go_enter Try.func10, Try.ntmps10
  go_wp2_with fail
  refine (parse_any s _ hm).mono ?_
  rintro e w1 ⟨ao, cap, rfl, _, hb⟩
  go_wp2_with fail
  go_ret2
  exact ⟨rfl, hb⟩

end Go.Proofs.Ytjagijohfkffiab

/- The walk of the program's Holds. -/
namespace Go.Proofs.Ytjagijohfkffiab
open Go.RowKit
set_option linter.unusedVariables false

def natOf (zs : List Int) : List Nat := zs.map Int.toNat

section
variable (s : ByteArray) (a1 a2 : Option Addr) (l1 c1 l2 c2 : Nat) (z1 z2 : List Int) (w : World)

end

end Go.Proofs.Ytjagijohfkffiab

/- What Judge answers. -/
namespace Go.Proofs.Ytjagijohfkffiab
open Go.RowKit
set_option linter.unusedVariables false

def judgeErr (s : ByteArray) (z : List Int) : Nat := if (parseOf s).1 = 0 then (if 40 < z.length then 5 else if allL z = true then 0 else 6) else (parseOf s).1

theorem nat_lt {z : List Int} (h : allL z = true) : ∀ x ∈ natOf z, x < 8 := fun x hx => by
  obtain ⟨y, hy, rfl⟩ := List.mem_map.1 hx
  have hl := isL_iff.1 (List.all_eq_true.1 h _ hy)
  omega

def RJudged (s : ByteArray) (z1 : List Int) (w : World) (e : Ending) (w' : World) : Prop :=
  ∃ v : Nat, e = .returned (.tuple #[.int .i64 v, .int .i64 (judgeErr s z1)]) ∧ (judgeErr s z1 = 0 → Verdict (parseOf s).2 (natOf z1) v) ∧ (judgeErr s z1 ≠ 0 → v = 0) ∧ Below w.heap.size w w'

end Go.Proofs.Ytjagijohfkffiab

/- The walk of the program's Judge. -/
namespace Go.Proofs.Ytjagijohfkffiab
open Go.RowKit
set_option linter.unusedVariables false

theorem ndM_of {w : World} {B gn m ncap : Nat} {ns : List Nd} (h : w.ownsRow B 124 3 (.slice (some ⟨gn, 0, none⟩) m ncap) m (flat ns)) (hl : ns.length = m) : NdM w gn ns :=
  ⟨(h.lt _ rfl).2, fun i hi => (h.cellAt (i * 3) (by omega)).trans (flat_get ns i (by omega)).1, fun i hi => (h.cellAt (i * 3 + 1) (by omega)).trans (flat_get ns i (by omega)).2.1, fun i hi => (h.cellAt (i * 3 + 2) (by omega)).trans (flat_get ns i (by omega)).2.2⟩

section
variable (s : ByteArray) (a1 : Option Addr) (l1 c1 : Nat) (z1 : List Int) (w : World)

set_option maxHeartbeats 400000 in
theorem judge_no (hm : s.size ≤ maxLen) (h : (parseOf s).1 ≠ 0) : Calls Try.prog 12 #[.string s, .slice a1 l1 c1] w (RJudged s z1 w) := by
  have E : Hid (judgeErr s z1 = (parseOf s).1) := hid (by unfold judgeErr; rw [if_neg h])
  have C := parse_any s w hm
  unfold Parsed at C
  unfold RJudged
  rw [E.out]
  generalize parseOf s = p at *
  have k : ((p.1 : Int) != 0) = true := by rw [bne_iff_ne]; omega
  go_enter Try.func12, Try.ntmps12
  go_wp2_with fail
  refine C.mono ?_
  rintro e w1 ⟨ao, cap, rfl, _, hb⟩
  go_wp2_with fail
  go_ret2
  exact ⟨0, rfl, fun h1 => absurd h1 h, fun _ => rfl, hb⟩

set_option maxHeartbeats 4000000 in
set_option maxRecDepth 100000 in
theorem judge_yes (hm : s.size ≤ maxLen) (h : (parseOf s).1 = 0) (h1 : Ints w a1 l1 c1 z1) : Calls Try.prog 12 #[.string s, .slice a1 l1 c1] w (RJudged s z1 w) := by
  have E : Hid (judgeErr s z1 = if 40 < z1.length then 5 else if allL z1 = true then 0 else 6) := hid (by unfold judgeErr; rw [if_pos h])
  have C := parse_any s w hm
  unfold Parsed at C
  have G := hid (parse_good h)
  have m1 := h1.hmax
  have m3 := h1.hcap
  have L1 := h1.hlen
  have R1 := fun W (b : Below w.heap.size w W) => allLetters_any a1 l1 c1 z1 W (h1.below b)
  unfold RJudged
  rw [E.out]
  generalize parseOf s = p at *
  obtain ⟨p1, ns⟩ := p
  dsimp only at *
  subst h
  rw [L1]
  by_cases q1 : 40 < l1
  · rw [if_pos q1]
    have k1 : (40 : Int) < (l1 : Int) := by omega
    go_enter Try.func12, Try.ntmps12
    go_wp2_with fail
    refine C.mono ?_
    rintro e w1 ⟨ao, cap, rfl, _, hb⟩
    go_wp2_with fail
    go_ret2
    exact ⟨0, rfl, fun h1 => (by cases h1), fun _ => rfl, hb⟩
  rw [if_neg q1]
  have k1 : ¬ (40 : Int) < (l1 : Int) := by omega
  cases hal : allL z1 with
  | false =>
    rw [hal] at R1
    rw [if_neg (by simp)]
    clear hal
    go_enter Try.func12, Try.ntmps12
    go_wp2_with fail
    refine C.mono ?_
    rintro e w1 ⟨ao, cap, rfl, _, hb⟩
    go_wp2_with fail
    refine (R1 _ hb).mono ?_
    rintro e w2 ⟨rfl, rfl⟩
    go_wp2_with fail
    go_ret2
    exact ⟨0, rfl, fun h1 => (by cases h1), fun _ => rfl, hb⟩
  | true =>
    rw [hal] at R1
    rw [if_pos rfl]
    have HAL := hid hal
    have H1 := hid h1
    clear hal h1
    have hpos := G.out.pos
    obtain ⟨m1', hlen⟩ : ∃ m1', ns.length = m1' + 1 := ⟨ns.length - 1, by omega⟩
    have HLN := hid hlen
    rw [hlen] at C
    clear hlen hpos
    obtain ⟨od, hod, hor⟩ := Try.outUnder
    have HOC := hid Try.outCells
    clear hod hor
    go_enter Try.func12, Try.ntmps12
    go_wp2_with fail
    refine C.mono ?_
    rintro e w1 ⟨ao, cap, rfl, own, hb⟩
    obtain ⟨gn, rfl, _, hgn, _⟩ := own_at own (by omega)
    have ND := hid (ndM_of own HLN.out)
    clear C own
    go_wp2_with fail
    refine (R1 _ hb).mono ?_
    rintro e w2 ⟨rfl, rfl⟩
    clear R1
    go_wp2_with fail
    refine (look_any gn m1' cap ns _ ND.out G.out HLN.out).mono ?_
    rintro e w3 ⟨sl, liv, rfl, hlv, _, hon, hb3⟩
    have HLV := hid hlv
    have HB3 := hid (hb.trans (hb3.mono hb.size))
    have hs3 : w.heap.size ≤ w3.heap.size := HB3.out.size
    clear hlv hb3 ND hb
    have hth : (w3.alloc (.cells Try.zeroCells71 71)).there w3.heap.size 0 2561 := by
      have := raw_new w3 (outC (fun _ => 0) (.slice none 0 0) (fun _ => false) (fun _ => false)) 2561 71
      rw [← HOC.out] at this
      exact this.there 0 2561 (by omega)
    have HTH := hid hth
    clear hth
    go_wp2_with (refine wpList_store_raw rfl 71 (.tmp 8) (.tmp 24) rfl w3.heap.size 2561 (outC (befF ns) sl liv (begB ns liv)) rfl rfl HTH.out Try.outSize (outC_one _ _ _ hon) ?_)
    intro w4 S4
    have OM := hid (outM_of S4.at_)
    have HB4 := hid (S4.bel _ _ hs3 (HB3.out.alloc hs3 (.cells Try.zeroCells71 71)))
    clear S4 HTH HB3
    go_wp2_with fail
    refine (ojudge_any w3.heap.size ns liv (begB ns liv) a1 l1 c1 z1 w4 G.out.le OM.out (H1.out.below HB4.out) HAL.out).mono ?_
    rintro e w5 ⟨rfl, hb5⟩
    have HB5 := hid (HB4.out.trans (hb5.mono HB4.out.size))
    have HV := hid (verdG_verdict G.out HLV.out (nat_lt HAL.out))
    clear hb5 HB4 OM
    go_wp2_with fail
    go_ret2
    exact ⟨_, rfl, fun _ => HV.out, fun h0 => absurd rfl h0, HB5.out⟩

theorem judge_any (hm : s.size ≤ maxLen) (h1 : Ints w a1 l1 c1 z1) : Calls Try.prog 12 #[.string s, .slice a1 l1 c1] w (RJudged s z1 w) := by
  by_cases h : (parseOf s).1 = 0
  · exact judge_yes s a1 l1 c1 z1 w hm h h1
  · exact judge_no s a1 l1 c1 z1 w hm h

end

end Go.Proofs.Ytjagijohfkffiab

/- The walks of verdictkeep's small functions: pick, word, looped, joined, holding. -/
namespace Go.Proofs.Ytjagijohfkffiab
open Go.RowKit
set_option linter.unusedVariables false

def pick8 (z : Int) : Nat := ((if z < 0 then -(z + 1) else z) % 8).toNat
theorem pick8_lt (z : Int) : pick8 z < 8 := by unfold pick8; omega

set_option maxHeartbeats 400000 in
theorem pick_any (z : Int) (w : World) (h1 : -9223372036854775808 ≤ z) (h2 : z ≤ 9223372036854775807) : Calls Try.prog 34 #[.int .i64 z, .int .i64 8] w fun e w' => e = .returned (.int .i64 (pick8 z : Nat)) ∧ w' = w := by
  by_cases h : z < 0
  · have E : Hid (((pick8 z : Nat) : Int) = -((z + 1).tmod 8)) := hid (by rw [← Int.neg_tmod, Int.tmod_eq_emod_of_nonneg (by omega)]; unfold pick8; rw [if_pos h]; omega)
    go_enter Try.func34, Try.ntmps34
    go_wp2
    go_ret
    exact ⟨ret_int E.out.symm, rfl⟩
  · have E : Hid (((pick8 z : Nat) : Int) = z % 8) := hid (by unfold pick8; rw [if_neg h]; omega)
    go_enter Try.func34, Try.ntmps34
    go_wp2
    go_ret
    exact ⟨ret_int E.out.symm, rfl⟩

/-- Numbers made letters, the first j of them. -/
def wordTo (zs : List Int) (j : Nat) : List Nat := (zs.take j).map pick8
theorem wordTo_len {zs : List Int} {j : Nat} (h : j ≤ zs.length) : (wordTo zs j).length = j := by simp [wordTo]; omega
theorem wordTo_succ {zs : List Int} {j : Nat} (h : j < zs.length) : wordTo zs (j + 1) = wordTo zs j ++ [pick8 (zs.getD j 0)] := by
  unfold wordTo
  rw [List.take_succ_eq_append_getElem h, List.map_append]
  simp [List.getD, List.getElem?_eq_getElem h]
theorem wordTo_8 (zs : List Int) (j : Nat) : ∀ x ∈ wordTo zs j, x < 8 := by
  intro x hx
  obtain ⟨z, _, rfl⟩ := List.mem_map.1 hx
  exact pick8_lt z

def intsOf (xs : List Nat) : List Int := xs.map fun x : Nat => (x : Int)
theorem intsOf_len (xs : List Nat) : (intsOf xs).length = xs.length := by simp [intsOf]
theorem natOf_ints (xs : List Nat) : natOf (intsOf xs) = xs := by
  unfold natOf intsOf
  rw [List.map_map]
  conv => rhs; rw [← List.map_id xs]
  apply List.map_congr_left
  intro x _; simp
theorem allL_ints {xs : List Nat} (h : ∀ x ∈ xs, x < 8) : allL (intsOf xs) = true := by
  unfold allL intsOf
  rw [List.all_eq_true]
  intro z hz
  obtain ⟨x, hx, rfl⟩ := List.mem_map.1 hz
  rw [isL_iff]
  have := h x hx
  omega

/-- A row of the call's own, as a slice that is read. -/
theorem own_ints {w : World} {B n : Nat} {v : Value} {xs : List Nat} (h : w.ownsRow B 3 1 v n (natInts xs)) (hl : xs.length = n) : ∃ ao cap, v = .slice ao n cap ∧ Ints w ao n cap (intsOf xs) := by
  rcases h.2 with ⟨rfl, rfl⟩ | ⟨g, cap, cur, rfl, hb, hh, hc, hm, _⟩
  · exact ⟨none, 0, rfl, by rw [intsOf_len, hl], Nat.le_refl _, by omega, fun _ => ⟨rfl, rfl⟩, fun h => by omega⟩
  · refine ⟨_, cap, rfl, by rw [intsOf_len, hl], hc, by unfold maxLen at hm; omega, fun h => by simp at h, fun _ => ⟨g, 0, rfl, heap_lt hh, fun i hi => ?_⟩⟩
    rw [Nat.zero_add, h.cellAt i (by omega)]
    simp [natInts, intsOf, List.getD, List.getElem?_eq_getElem (show i < xs.length by omega)]

/-- The numbers of an argument are int's. -/
def Fits (zs : List Int) : Prop := ∀ z ∈ zs, -9223372036854775808 ≤ z ∧ z ≤ 9223372036854775807

theorem fits_at {zs : List Int} (h : Fits zs) {j : Nat} (hj : j < zs.length) : -9223372036854775808 ≤ zs.getD j 0 ∧ zs.getD j 0 ≤ 9223372036854775807 := by
  rw [List.getD, List.getElem?_eq_getElem hj]
  exact h _ (List.getElem_mem hj)

/-- What 'word' and its kin leave: a word of letters. -/
def Made (xs : List Nat) (w : World) (e : Ending) (w' : World) : Prop := ∃ ao cap, e = .returned (.slice ao xs.length cap) ∧ Ints w' ao xs.length cap (intsOf xs) ∧ Below w.heap.size w w'

set_option maxHeartbeats 800000 in
set_option maxRecDepth 100000 in
theorem word_own (ao : Option Addr) (len cap n : Nat) (zs : List Int) (w : World) (h : Ints w ao len cap zs) (hf : Fits zs) (hn : n ≤ 1000) :
    Calls Try.prog 11 #[.slice ao len cap, .int .i64 n] w fun e w' => ∃ v, e = .returned v ∧ w'.ownsRow w.heap.size 3 1 v (min len n) (natInts (wordTo zs (min len n))) ∧ Below w.heap.size w w' := by
  have hl := h.hlen
  have hc := h.hcap
  have hm := h.hmax
  obtain ⟨i0, hi, hz0, hz1, hz2⟩ := info_parts Try.infoInt
  go_enter Try.func11, Try.ntmps11
  go_wp2_with fail
  go_loopw [5, 6] (fun v i wr => ∃ j : Nat, j ≤ len ∧ j ≤ n ∧ i = .int .i64 j ∧ wr.ownsRow w.heap.size 3 1 v j (natInts (wordTo zs j)) ∧ Below w.heap.size w wr) (fun _ i _ => n - (intOf i).toNat)
  case atStart => exact ⟨0, Nat.zero_le _, Nat.zero_le _, rfl, World.ownsRow_nil _ _ _ _, Below.refl _ _⟩
  case round =>
    obtain ⟨j, hj1, hj2, rfl, own, hbr⟩ := hrel
    by_cases hlt : j < len
    · by_cases hlt2 : j < n
      · obtain ⟨b, off, rfl, hb, hcell⟩ := (h.below hbr).hcell (by omega)
        have c := hcell j hlt
        have fa := fits_at hf (j := j) (by omega)
        have HS := hid (wordTo_succ (zs := zs) (j := j) (by omega))
        have hsz := hbr.size
        clear hcell
        generalize zs.getD j 0 = z at *
        go_wp2_with fail
        refine (pick_any z _ fa.1 fa.2).mono ?_
        rintro e w' ⟨rfl, rfl⟩
        have HO := hid own
        have HB := hid hbr
        generalize pick8 z = x at *
        go_wp2_with (at_builtin; go_must (refine wpList_append_own _ rfl (.tmp 24) (.tmp 26) 22 rfl w.heap.size 3 i0 (.int .i64 0) 1 8 Try.underlying22 hi hz0 hz1 hz2 rfl (by decide) _ _ _ rfl (HO.out.alloc _) ⟨w'.heap.size, 0, none⟩ 1 1 [.int .i64 x] rfl rfl ?c1 ?c2 ?c3 ?c4 ?c5 ?_))
        case c1 => exact cell_one_new _ _ _
        case c2 => intro u hu; simp at hu; subst hu; rfl
        case c3 => unfold maxLen; omega
        case c4 => omega
        case c5 => simp; omega
        intro v' w1 hown hgrow _
        have B1 := hid ((HB.out.alloc hsz _).grown hgrow (by simp; omega) (fun k h => (HO.out.lt k h).1))
        have e1 : natInts (wordTo zs j) ++ [.int .i64 (x : Nat)] = natInts (wordTo zs (j + 1)) := by rw [HS.out]; simp [natInts]
        rw [e1] at hown
        have O1 := hid hown
        clear hown hgrow e1 c own hbr
        go_wp2_with fail
        go_roundw
        case rel => exact ⟨j + 1, by omega, by omega, by go_num, O1.out, B1.out⟩
        case measure => simp [intOf]; omega
      · have hm2 : min len n = j := by omega
        have HO := hid own
        have HM := hid hm2
        clear own hm2
        go_wp2_with fail
        go_ret
        refine ⟨_, rfl, ?_, hbr⟩
        rw [HM.out]
        exact HO.out
    · have hm2 : min len n = j := by omega
      have HO := hid own
      have HM := hid hm2
      clear own hm2
      go_wp2_with fail
      go_ret
      refine ⟨_, rfl, ?_, hbr⟩
      rw [HM.out]
      exact HO.out

end Go.Proofs.Ytjagijohfkffiab

/- The walks of verdictkeep's small functions: looped, joined, holding. -/
namespace Go.Proofs.Ytjagijohfkffiab
open Go.RowKit
set_option linter.unusedVariables false

theorem word_any (ao : Option Addr) (len cap n : Nat) (zs : List Int) (w : World) (h : Ints w ao len cap zs) (hf : Fits zs) (hn : n ≤ 1000) :
    Calls Try.prog 11 #[.slice ao len cap, .int .i64 n] w (Made (wordTo zs (min zs.length n)) w) := by
  refine (word_own ao len cap n zs w h hf hn).mono ?_
  rintro e w' ⟨v, rfl, own, hb⟩
  rw [← h.hlen] at own
  have hl := wordTo_len (zs := zs) (j := min zs.length n) (by omega)
  obtain ⟨ao', cap', rfl, hI⟩ := own_ints own hl
  refine ⟨ao', cap', by rw [hl], by rw [hl]; exact hI, hb⟩

theorem word_le (zs : List Int) (n : Nat) : (wordTo zs (min zs.length n)).length ≤ n := by
  rw [wordTo_len (by omega)]; omega

theorem ints_one (w : World) (z : Int) : Ints (w.alloc (.cells #[.int .i64 z] 3)) (some ⟨w.heap.size, 0, none⟩) 1 1 [z] :=
  ⟨rfl, Nat.le_refl _, by omega, fun h => by simp at h, fun _ => ⟨w.heap.size, 0, rfl, by simp, fun i hi => by
    have : i = 0 := by omega
    subst this
    simp⟩⟩

end Go.Proofs.Ytjagijohfkffiab

/- Plain mathematics: the endless word of a stem and a loop. -/
namespace Go.Proofs.Ytjagijohfkffiab

theorem getD_app_left {A B : List Nat} {i : Nat} (h : i < A.length) : (A ++ B).getD i 0 = A.getD i 0 := by simp [List.getD, List.getElem?_append_left h]
end Go.Proofs.Ytjagijohfkffiab

/- What Holds answers of letters. -/
namespace Go.Proofs.Ytjagijohfkffiab
open Go.RowKit
set_option linter.unusedVariables false

/-- What Holds answers of letters. -/
def hv (s : ByteArray) (xs ys : List Nat) : Bool := if (parseOf s).1 = 0 then holdsB xs.length (parseOf s).2 (xs ++ ys) else false

theorem Ints.drew {w : World} {ao : Option Addr} {len cap : Nat} {zs : List Int} (h : Ints w ao len cap zs) : Ints w.drew ao len cap zs := ⟨h.hlen, h.hcap, h.hmax, h.hnil, h.hcell⟩

end Go.Proofs.Ytjagijohfkffiab

/- Settled: plain mathematics, judging, the walk. -/
namespace Go.Proofs.Ytjagijohfkffiab
open Go.RowKit
set_option linter.unusedVariables false

theorem begins_left {A B : List Nat} {x : Nat → Nat} (h : Begins (A ++ B) x) : Begins A x := fun i hi => by
  rw [h i (by rw [List.length_append]; omega), getD_app_left hi]
theorem settled_more {ns : List Nd} {A B : List Nat} {v u : Nat} (hab : ∀ x ∈ A ++ B, x < 8) (hv : Verdict ns A v) (hu : Verdict ns (A ++ B) u) : (v = 1 → u = 1) ∧ (v = 2 → u = 2) := by
  have d1 := verdict_doc (fun x hx => hab x (by simp [hx])) hv
  have d2 := verdict_doc hab hu
  exact ⟨fun h => d2.1.2 fun x h1 h2 => d1.1.1 h x h1 (begins_left h2), fun h => d2.2.2 fun x h1 h2 => d1.2.1 h x h1 (begins_left h2)⟩
/-- Judge of letters. -/
theorem judgeL (s : ByteArray) (hm : s.size ≤ maxLen) (a1 : Option Addr) (l1 c1 : Nat) (xs : List Nat) (w : World) (h1 : Ints w a1 l1 c1 (intsOf xs)) (x8 : ∀ x ∈ xs, x < 8) (q1 : xs.length ≤ 40) :
    Calls Try.prog 12 #[.string s, .slice a1 l1 c1] w fun e w' => ∃ v : Nat, e = .returned (.tuple #[.int .i64 v, .int .i64 (parseOf s).1]) ∧ ((parseOf s).1 = 0 → Verdict (parseOf s).2 xs v) ∧ ((parseOf s).1 ≠ 0 → v = 0) ∧ Below w.heap.size w w' := by
  have h := judge_any s a1 l1 c1 (intsOf xs) w hm h1
  unfold RJudged at h
  have e : judgeErr s (intsOf xs) = (parseOf s).1 := by
    unfold judgeErr
    split
    · rename_i h0; rw [intsOf_len, if_neg (by omega), if_pos (allL_ints x8), h0]
    · rfl
  rw [e, natOf_ints] at h
  exact h

theorem gp_parse : parseOf ⟨#[71, 112]⟩ = (0, [⟨112, 0, 0⟩, ⟨71, 0, 0⟩]) := by rfl
theorem gp_sem (x : Nat → Nat) : sem (fun i => i + 1) x [⟨112, 0, 0⟩, ⟨71, 0, 0⟩] 1 0 ↔ ∀ t, (x t).testBit 0 = true := by
  have e : ∀ s i, it (fun i => i + 1) s i = i + s := by
    intro s
    induction s with
    | zero => intro i; rfl
    | succ s ih => intro i; simp only [it]; rw [ih]; omega
  simp [sem, rows, den, e]
theorem gp_one {v : Nat} (h : Verdict [⟨112, 0, 0⟩, ⟨71, 0, 0⟩] [1] v) : v = 0 := by
  have d := verdict_doc (by simp) h
  have n1 : ¬ v = 1 := fun e => by
    have := d.1.1 e (fun t => if t = 0 then 1 else 0) (fun t => by dsimp only; split <;> omega) (fun i hi => by simp at hi; subst hi; rfl)
    have := (gp_sem _).1 this 1
    simp at this
  have n2 : ¬ v = 2 := fun e => by
    refine d.2.1 e (fun _ => 1) (fun t => by simp) (fun i hi => by simp at hi; subst hi; rfl) ((gp_sem _).2 fun t => by simp)
  rcases h with ⟨h, _⟩ | ⟨h, _⟩ | ⟨h, _⟩
  · exact absurd h n2
  · exact absurd h n1
  · exact h
theorem gp_two {v : Nat} (h : Verdict [⟨112, 0, 0⟩, ⟨71, 0, 0⟩] [0] v) : v = 2 := by
  have d := verdict_doc (by simp) h
  refine d.2.2 fun x h1 h2 h3 => ?_
  have h4 := (gp_sem x).1 h3 0
  have h5 := h2 0 (by simp)
  simp at h5
  rw [h5] at h4
  simp at h4

theorem intsOf_one (k : Nat) : intsOf [k] = [(k : Int)] := by simp [intsOf]

set_option maxHeartbeats 400000 in
theorem judging_any (w : World) : Calls Try.prog 7 #[] w fun e w' => e = .returned (.bool true) ∧ Below w.heap.size w w' := by
  have C1 := fun (W : World) => judgeL ⟨#[71, 112]⟩ (by decide) (some ⟨W.heap.size, 0, none⟩) 1 1 [1] (W.alloc (.cells #[.int .i64 1] 3)) (by rw [intsOf_one]; exact ints_one W 1) (by simp) (by simp)
  have C2 := fun (W : World) => judgeL ⟨#[71, 112]⟩ (by decide) (some ⟨W.heap.size, 0, none⟩) 1 1 [0] (W.alloc (.cells #[.int .i64 0] 3)) (by rw [intsOf_one]; exact ints_one W 0) (by simp) (by simp)
  rw [gp_parse] at C1 C2
  go_enter Try.func7, Try.ntmps7
  go_wp2_with fail
  refine (C1 _).mono ?_
  rintro e w1 ⟨v1, rfl, q1, _, hb1⟩
  obtain rfl := gp_one (q1 trivial)
  have B1 := hid (((Below.refl w.heap.size w).alloc (Nat.le_refl _) _).trans (hb1.mono (by simp)))
  clear hb1 q1
  go_wp2_with fail
  refine (C2 _).mono ?_
  rintro e w2 ⟨v2, rfl, q2, _, hb2⟩
  obtain rfl := gp_two (q2 trivial)
  have hz := B1.out.size
  have B2 := hid ((B1.out.alloc hz _).trans (hb2.mono (by simp; omega)))
  clear hb2 q2 C1 C2
  go_wp2_with fail
  go_ret
  exact ⟨rfl, B2.out⟩

end Go.Proofs.Ytjagijohfkffiab
