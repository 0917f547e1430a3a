import Derived.Test.YtjagijohfkffiaaCM03
import Derived.Test.YtjagijohfkffiaaCM07
import Derived.Test.YtjagijohfkffiaaCM26
import Derived.Test.YtjagijohfkffiaaCM31
import Derived.Laws.AppendOwnNone

/- What Judge answers. -/
namespace Go.Proofs.Ytjagijohfkffiaa
open Go.RowKit
set_option linter.unusedVariables false

def judgeErr (s : ByteArray) (z : List Int) : Nat := if (parseOf s).1 = 0 then (if 40 < z.length then 5 else if allL z = true then 0 else 6) else (parseOf s).1

theorem nat_lt {z : List Int} (h : allL z = true) : ∀ x ∈ natOf z, x < 8 := fun x hx => by
  obtain ⟨y, hy, rfl⟩ := List.mem_map.1 hx
  have hl := isL_iff.1 (List.all_eq_true.1 h _ hy)
  omega

def RJudged (s : ByteArray) (z1 : List Int) (w : World) (e : Ending) (w' : World) : Prop :=
  ∃ v : Nat, e = .returned (.tuple #[.int .i64 v, .int .i64 (judgeErr s z1)]) ∧ (judgeErr s z1 = 0 → Verdict (parseOf s).2 (natOf z1) v) ∧ (judgeErr s z1 ≠ 0 → v = 0) ∧ Below w.heap.size w w'

end Go.Proofs.Ytjagijohfkffiaa

/- The walk of the program's Judge. -/
namespace Go.Proofs.Ytjagijohfkffiaa
open Go.RowKit
set_option linter.unusedVariables false

theorem ndM_of {w : World} {B gn m ncap : Nat} {ns : List Nd} (h : w.ownsRow B 123 3 (.slice (some ⟨gn, 0, none⟩) m ncap) m (flat ns)) (hl : ns.length = m) : NdM w gn ns :=
  ⟨(h.lt _ rfl).2, fun i hi => (h.cellAt (i * 3) (by omega)).trans (flat_get ns i (by omega)).1, fun i hi => (h.cellAt (i * 3 + 1) (by omega)).trans (flat_get ns i (by omega)).2.1, fun i hi => (h.cellAt (i * 3 + 2) (by omega)).trans (flat_get ns i (by omega)).2.2⟩

section
variable (s : ByteArray) (a1 : Option Addr) (l1 c1 : Nat) (z1 : List Int) (w : World)

set_option maxHeartbeats 400000 in
theorem judge_no (hm : s.size ≤ maxLen) (h : (parseOf s).1 ≠ 0) : Calls Try.prog 28 #[.string s, .slice a1 l1 c1] w (RJudged s z1 w) := by
  have E : Hid (judgeErr s z1 = (parseOf s).1) := hid (by unfold judgeErr; rw [if_neg h])
  have C := parse_any s w hm
  unfold Parsed at C
  unfold RJudged
  rw [E.out]
  generalize parseOf s = p at *
  have k : ((p.1 : Int) != 0) = true := by rw [bne_iff_ne]; omega
  go_enter Try.func28, Try.ntmps28
  go_wp2_with fail
  refine C.mono ?_
  rintro e w1 ⟨ao, cap, rfl, _, hb⟩
  go_wp2_with fail
  go_ret2
  exact ⟨0, rfl, fun h1 => absurd h1 h, fun _ => rfl, hb⟩

set_option maxHeartbeats 4000000 in
set_option maxRecDepth 100000 in
theorem judge_yes (hm : s.size ≤ maxLen) (h : (parseOf s).1 = 0) (h1 : Ints w a1 l1 c1 z1) : Calls Try.prog 28 #[.string s, .slice a1 l1 c1] w (RJudged s z1 w) := by
  have E : Hid (judgeErr s z1 = if 40 < z1.length then 5 else if allL z1 = true then 0 else 6) := hid (by unfold judgeErr; rw [if_pos h])
  have C := parse_any s w hm
  unfold Parsed at C
  have G := hid (parse_good h)
  have m1 := h1.hmax
  have m3 := h1.hcap
  have L1 := h1.hlen
  have R1 := fun W (b : Below w.heap.size w W) => allLetters_any a1 l1 c1 z1 W (h1.below b)
  unfold RJudged
  rw [E.out]
  generalize parseOf s = p at *
  obtain ⟨p1, ns⟩ := p
  dsimp only at *
  subst h
  rw [L1]
  by_cases q1 : 40 < l1
  · rw [if_pos q1]
    have k1 : (40 : Int) < (l1 : Int) := by omega
    go_enter Try.func28, Try.ntmps28
    go_wp2_with fail
    refine C.mono ?_
    rintro e w1 ⟨ao, cap, rfl, _, hb⟩
    go_wp2_with fail
    go_ret2
    exact ⟨0, rfl, fun h1 => (by cases h1), fun _ => rfl, hb⟩
  rw [if_neg q1]
  have k1 : ¬ (40 : Int) < (l1 : Int) := by omega
  cases hal : allL z1 with
  | false =>
    rw [hal] at R1
    rw [if_neg (by simp)]
    clear hal
    go_enter Try.func28, Try.ntmps28
    go_wp2_with fail
    refine C.mono ?_
    rintro e w1 ⟨ao, cap, rfl, _, hb⟩
    go_wp2_with fail
    refine (R1 _ hb).mono ?_
    rintro e w2 ⟨rfl, rfl⟩
    go_wp2_with fail
    go_ret2
    exact ⟨0, rfl, fun h1 => (by cases h1), fun _ => rfl, hb⟩
  | true =>
    rw [hal] at R1
    rw [if_pos rfl]
    have HAL := hid hal
    have H1 := hid h1
    clear hal h1
    have hpos := G.out.pos
    obtain ⟨m1', hlen⟩ : ∃ m1', ns.length = m1' + 1 := ⟨ns.length - 1, by omega⟩
    have HLN := hid hlen
    rw [hlen] at C
    clear hlen hpos
    obtain ⟨od, hod, hor⟩ := Try.outUnder
    have HOC := hid Try.outCells
    clear hod hor
    go_enter Try.func28, Try.ntmps28
    go_wp2_with fail
    refine C.mono ?_
    rintro e w1 ⟨ao, cap, rfl, own, hb⟩
    obtain ⟨gn, rfl, _, hgn, _⟩ := own_at own (by omega)
    have ND := hid (ndM_of own HLN.out)
    clear C own
    go_wp2_with fail
    refine (R1 _ hb).mono ?_
    rintro e w2 ⟨rfl, rfl⟩
    clear R1
    go_wp2_with fail
    refine (look_any gn m1' cap ns _ ND.out G.out HLN.out).mono ?_
    rintro e w3 ⟨sl, liv, rfl, hlv, _, hon, hb3⟩
    have HLV := hid hlv
    have HB3 := hid (hb.trans (hb3.mono hb.size))
    have hs3 : w.heap.size ≤ w3.heap.size := HB3.out.size
    clear hlv hb3 ND hb
    have hth : (w3.alloc (.cells Try.zeroCells83 83)).there w3.heap.size 0 2561 := by
      have := raw_new w3 (outC (fun _ => 0) (.slice none 0 0) (fun _ => false) (fun _ => false)) 2561 83
      rw [← HOC.out] at this
      exact this.there 0 2561 (by omega)
    have HTH := hid hth
    clear hth
    go_wp2_with (refine wpList_store_raw rfl 83 (.tmp 8) (.tmp 24) rfl w3.heap.size 2561 (outC (befF ns) sl liv (begB ns liv)) rfl rfl HTH.out Try.outSize (outC_one _ _ _ hon) ?_)
    intro w4 S4
    have OM := hid (outM_of S4.at_)
    have HB4 := hid (S4.bel _ _ hs3 (HB3.out.alloc hs3 (.cells Try.zeroCells83 83)))
    clear S4 HTH HB3
    go_wp2_with fail
    refine (ojudge_any w3.heap.size ns liv (begB ns liv) a1 l1 c1 z1 w4 G.out.le OM.out (H1.out.below HB4.out) HAL.out).mono ?_
    rintro e w5 ⟨rfl, hb5⟩
    have HB5 := hid (HB4.out.trans (hb5.mono HB4.out.size))
    have HV := hid (verdG_verdict G.out HLV.out (nat_lt HAL.out))
    clear hb5 HB4 OM
    go_wp2_with fail
    go_ret2
    exact ⟨_, rfl, fun _ => HV.out, fun h0 => absurd rfl h0, HB5.out⟩

theorem judge_any (hm : s.size ≤ maxLen) (h1 : Ints w a1 l1 c1 z1) : Calls Try.prog 28 #[.string s, .slice a1 l1 c1] w (RJudged s z1 w) := by
  by_cases h : (parseOf s).1 = 0
  · exact judge_yes s a1 l1 c1 z1 w hm h h1
  · exact judge_no s a1 l1 c1 z1 w hm h

end

end Go.Proofs.Ytjagijohfkffiaa

/- The walks of verdictkeep's small functions: pick, word, looped, joined, holding. -/
namespace Go.Proofs.Ytjagijohfkffiaa
open Go.RowKit
set_option linter.unusedVariables false

/-- 'append' on a slice of the call's own, of whatever is appended. -/
theorem wpList_append_any {P : Program} (w : World) {ops : Array Oper} {rest : List Oper} {o : Oper} {a : Act} {Q : Exit → Act → World → Prop} (hgd : o.guard = none) (s x : Operand) (t : TypeId)
    (ho : o.op = .call { callee := .builtin .append, args := #[s, x], argTypes := #[t, t] })
    (base : Nat) (e : TypeId) (i : TypeInfo) (z : Value) (size bytes : Nat) (ht : P.underlying t = some (.slice e)) (hi : P.info? e = some i) (hz : i.zero = some z)
    (hsize : i.size = size) (hby : i.bytes = bytes) (hzs : z.cells.size = size) (hsz : 0 < size)
    (v : Value) (n : Nat) (xs : List Value) (hs : a.eval s = v) (hown : w.ownsRow base e size v n xs)
    (ao : Option Addr) (m c : Nat) (news : List Value) (hx : a.eval x = .slice ao m c) (hl : news.length = m * size) (hnone : ao = none → m = 0 ∧ c = 0) (hnews : ∀ ad, ao = some ad → ∀ j u, news[j]? = some u → w.cell? (ad.add j) = some u) (h1 : ∀ u ∈ news, u.oneCell' = true)
    (h63 : n + m ≤ maxLen) (hbytes : (n + m) * bytes ≤ 140737488355328) (hbase : base ≤ w.heap.size)
    (h : ∀ v' w', w'.ownsRow base e size v' (n + m) (xs ++ news) → w.grownBy w' v.ownBlock → wpList P ops Q rest (a.put o.dst v') w') : wpList P ops Q (o :: rest) a w := by
  cases ao with
  | none =>
    obtain ⟨rfl, rfl⟩ := hnone rfl
    have hn : news = [] := List.eq_nil_of_length_eq_zero (by simpa using hl)
    subst hn
    refine wpList_append_own_none hgd s x t ho base e i size ht hi v n xs hs hown hx ?_
    exact h v w (by simpa using hown) (World.grownBy.refl _ _)
  | some ad =>
    exact wpList_append_own w hgd s x t ho base e i z size bytes ht hi hz hsize hby hzs hsz v n xs hs hown ad m c news hx hl (hnews ad rfl) h1 h63 hbytes hbase (fun v' w' h2 h3 _ => h v' w' h2 h3)

def pick8 (z : Int) : Nat := ((if z < 0 then -(z + 1) else z) % 8).toNat
theorem pick8_lt (z : Int) : pick8 z < 8 := by unfold pick8; omega

set_option maxHeartbeats 400000 in
theorem pick_any (z : Int) (w : World) (h1 : -9223372036854775808 ≤ z) (h2 : z ≤ 9223372036854775807) : Calls Try.prog 21 #[.int .i64 z, .int .i64 8] w fun e w' => e = .returned (.int .i64 (pick8 z : Nat)) ∧ w' = w := by
  by_cases h : z < 0
  · have E : Hid (((pick8 z : Nat) : Int) = -((z + 1).tmod 8)) := hid (by rw [← Int.neg_tmod, Int.tmod_eq_emod_of_nonneg (by omega)]; unfold pick8; rw [if_pos h]; omega)
    go_enter Try.func21, Try.ntmps21
    go_wp2
    go_ret
    exact ⟨ret_int E.out.symm, rfl⟩
  · have E : Hid (((pick8 z : Nat) : Int) = z % 8) := hid (by unfold pick8; rw [if_neg h]; omega)
    go_enter Try.func21, Try.ntmps21
    go_wp2
    go_ret
    exact ⟨ret_int E.out.symm, rfl⟩

/-- Numbers made letters, the first j of them. -/
def wordTo (zs : List Int) (j : Nat) : List Nat := (zs.take j).map pick8
theorem wordTo_len {zs : List Int} {j : Nat} (h : j ≤ zs.length) : (wordTo zs j).length = j := by simp [wordTo]; omega
theorem wordTo_succ {zs : List Int} {j : Nat} (h : j < zs.length) : wordTo zs (j + 1) = wordTo zs j ++ [pick8 (zs.getD j 0)] := by
  unfold wordTo
  rw [List.take_succ_eq_append_getElem h, List.map_append]
  simp [List.getD, List.getElem?_eq_getElem h]
theorem wordTo_8 (zs : List Int) (j : Nat) : ∀ x ∈ wordTo zs j, x < 8 := by
  intro x hx
  obtain ⟨z, _, rfl⟩ := List.mem_map.1 hx
  exact pick8_lt z

def intsOf (xs : List Nat) : List Int := xs.map fun x : Nat => (x : Int)
theorem intsOf_len (xs : List Nat) : (intsOf xs).length = xs.length := by simp [intsOf]
theorem intsOf_app (xs ys : List Nat) : intsOf (xs ++ ys) = intsOf xs ++ intsOf ys := by simp [intsOf]
theorem intsOf_vals (xs : List Nat) : (intsOf xs).map (Value.int .i64) = natInts xs := by simp [intsOf, natInts]
theorem natOf_ints (xs : List Nat) : natOf (intsOf xs) = xs := by
  unfold natOf intsOf
  rw [List.map_map]
  conv => rhs; rw [← List.map_id xs]
  apply List.map_congr_left
  intro x _; simp
theorem allL_ints {xs : List Nat} (h : ∀ x ∈ xs, x < 8) : allL (intsOf xs) = true := by
  unfold allL intsOf
  rw [List.all_eq_true]
  intro z hz
  obtain ⟨x, hx, rfl⟩ := List.mem_map.1 hz
  rw [isL_iff]
  have := h x hx
  omega

/-- A row of the call's own, as a slice that is read. -/
theorem own_ints {w : World} {B n : Nat} {v : Value} {xs : List Nat} (h : w.ownsRow B 3 1 v n (natInts xs)) (hl : xs.length = n) : ∃ ao cap, v = .slice ao n cap ∧ Ints w ao n cap (intsOf xs) := by
  rcases h.2 with ⟨rfl, rfl⟩ | ⟨g, cap, cur, rfl, hb, hh, hc, hm, _⟩
  · exact ⟨none, 0, rfl, by rw [intsOf_len, hl], Nat.le_refl _, by omega, fun _ => ⟨rfl, rfl⟩, fun h => by omega⟩
  · refine ⟨_, cap, rfl, by rw [intsOf_len, hl], hc, by unfold maxLen at hm; omega, fun h => by simp at h, fun _ => ⟨g, 0, rfl, heap_lt hh, fun i hi => ?_⟩⟩
    rw [Nat.zero_add, h.cellAt i (by omega)]
    simp [natInts, intsOf, List.getD, List.getElem?_eq_getElem (show i < xs.length by omega)]

/-- The numbers of an argument are int's. -/
def Fits (zs : List Int) : Prop := ∀ z ∈ zs, -9223372036854775808 ≤ z ∧ z ≤ 9223372036854775807

theorem fits_at {zs : List Int} (h : Fits zs) {j : Nat} (hj : j < zs.length) : -9223372036854775808 ≤ zs.getD j 0 ∧ zs.getD j 0 ≤ 9223372036854775807 := by
  rw [List.getD, List.getElem?_eq_getElem hj]
  exact h _ (List.getElem_mem hj)

/-- What 'word' and its kin leave: a word of letters. -/
def Made (xs : List Nat) (w : World) (e : Ending) (w' : World) : Prop := ∃ ao cap, e = .returned (.slice ao xs.length cap) ∧ Ints w' ao xs.length cap (intsOf xs) ∧ Below w.heap.size w w'

set_option maxHeartbeats 800000 in
set_option maxRecDepth 100000 in
theorem word_own (ao : Option Addr) (len cap n : Nat) (zs : List Int) (w : World) (h : Ints w ao len cap zs) (hf : Fits zs) (hn : n ≤ 1000) :
    Calls Try.prog 22 #[.slice ao len cap, .int .i64 n] w fun e w' => ∃ v, e = .returned v ∧ w'.ownsRow w.heap.size 3 1 v (min len n) (natInts (wordTo zs (min len n))) ∧ Below w.heap.size w w' := by
  have hl := h.hlen
  have hc := h.hcap
  have hm := h.hmax
  obtain ⟨i0, hi, hz0, hz1, hz2⟩ := info_parts Try.infoInt
  go_enter Try.func22, Try.ntmps22
  go_wp2_with fail
  go_loopw [5, 6] (fun v i wr => ∃ j : Nat, j ≤ len ∧ j ≤ n ∧ i = .int .i64 j ∧ wr.ownsRow w.heap.size 3 1 v j (natInts (wordTo zs j)) ∧ Below w.heap.size w wr) (fun _ i _ => n - (intOf i).toNat)
  case atStart => exact ⟨0, Nat.zero_le _, Nat.zero_le _, rfl, World.ownsRow_nil _ _ _ _, Below.refl _ _⟩
  case round =>
    obtain ⟨j, hj1, hj2, rfl, own, hbr⟩ := hrel
    by_cases hlt : j < len
    · by_cases hlt2 : j < n
      · obtain ⟨b, off, rfl, hb, hcell⟩ := (h.below hbr).hcell (by omega)
        have c := hcell j hlt
        have fa := fits_at hf (j := j) (by omega)
        have HS := hid (wordTo_succ (zs := zs) (j := j) (by omega))
        have hsz := hbr.size
        clear hcell
        generalize zs.getD j 0 = z at *
        go_wp2_with fail
        refine (pick_any z _ fa.1 fa.2).mono ?_
        rintro e w' ⟨rfl, rfl⟩
        have HO := hid own
        have HB := hid hbr
        generalize pick8 z = x at *
        go_wp2_with (at_builtin; go_must (refine wpList_append_own _ rfl (.tmp 24) (.tmp 26) 27 rfl w.heap.size 3 i0 (.int .i64 0) 1 8 Try.underlying27 hi hz0 hz1 hz2 rfl (by decide) _ _ _ rfl (HO.out.alloc _) ⟨w'.heap.size, 0, none⟩ 1 1 [.int .i64 x] rfl rfl ?c1 ?c2 ?c3 ?c4 ?c5 ?_))
        case c1 => exact cell_one_new _ _ _
        case c2 => intro u hu; simp at hu; subst hu; rfl
        case c3 => unfold maxLen; omega
        case c4 => omega
        case c5 => simp; omega
        intro v' w1 hown hgrow _
        have B1 := hid ((HB.out.alloc hsz _).grown hgrow (by simp; omega) (fun k h => (HO.out.lt k h).1))
        have e1 : natInts (wordTo zs j) ++ [.int .i64 (x : Nat)] = natInts (wordTo zs (j + 1)) := by rw [HS.out]; simp [natInts]
        rw [e1] at hown
        have O1 := hid hown
        clear hown hgrow e1 c own hbr
        go_wp2_with fail
        go_roundw
        case rel => exact ⟨j + 1, by omega, by omega, by go_num, O1.out, B1.out⟩
        case measure => simp [intOf]; omega
      · have hm2 : min len n = j := by omega
        have HO := hid own
        have HM := hid hm2
        clear own hm2
        go_wp2_with fail
        go_ret
        refine ⟨_, rfl, ?_, hbr⟩
        rw [HM.out]
        exact HO.out
    · have hm2 : min len n = j := by omega
      have HO := hid own
      have HM := hid hm2
      clear own hm2
      go_wp2_with fail
      go_ret
      refine ⟨_, rfl, ?_, hbr⟩
      rw [HM.out]
      exact HO.out

end Go.Proofs.Ytjagijohfkffiaa

/- The walks of verdictkeep's small functions: looped, joined, holding. -/
namespace Go.Proofs.Ytjagijohfkffiaa
open Go.RowKit
set_option linter.unusedVariables false

theorem word_any (ao : Option Addr) (len cap n : Nat) (zs : List Int) (w : World) (h : Ints w ao len cap zs) (hf : Fits zs) (hn : n ≤ 1000) :
    Calls Try.prog 22 #[.slice ao len cap, .int .i64 n] w (Made (wordTo zs (min zs.length n)) w) := by
  refine (word_own ao len cap n zs w h hf hn).mono ?_
  rintro e w' ⟨v, rfl, own, hb⟩
  rw [← h.hlen] at own
  have hl := wordTo_len (zs := zs) (j := min zs.length n) (by omega)
  obtain ⟨ao', cap', rfl, hI⟩ := own_ints own hl
  refine ⟨ao', cap', by rw [hl], by rw [hl]; exact hI, hb⟩

/-- A loop has a letter. -/
def loopTo (zs : List Int) (n : Nat) : List Nat := if min zs.length n = 0 then [0] else wordTo zs (min zs.length n)
theorem loopTo_8 (zs : List Int) (n : Nat) : ∀ x ∈ loopTo zs n, x < 8 := by
  unfold loopTo
  split
  · intro x hx; simp at hx; omega
  · exact wordTo_8 _ _
theorem loopTo_pos (zs : List Int) (n : Nat) : 0 < (loopTo zs n).length := by
  unfold loopTo
  split
  · decide
  · rw [wordTo_len (by omega)]; omega
theorem loopTo_le (zs : List Int) (n : Nat) (hn : 0 < n) : (loopTo zs n).length ≤ n := by
  unfold loopTo
  split
  · simp; omega
  · rw [wordTo_len (by omega)]; omega
theorem word_le (zs : List Int) (n : Nat) : (wordTo zs (min zs.length n)).length ≤ n := by
  rw [wordTo_len (by omega)]; omega

set_option maxHeartbeats 400000 in
set_option maxRecDepth 100000 in
theorem looped_any (ao : Option Addr) (len cap n : Nat) (zs : List Int) (w : World) (h : Ints w ao len cap zs) (hf : Fits zs) (hn : n ≤ 1000) :
    Calls Try.prog 23 #[.slice ao len cap, .int .i64 n] w (Made (loopTo zs n) w) := by
  have C := word_own ao len cap n zs w h hf hn
  have L : Hid (loopTo zs n = if min len n = 0 then [0] else wordTo zs (min len n)) := hid (by unfold loopTo; rw [h.hlen])
  have hwl := wordTo_len (zs := zs) (j := min len n) (by have := h.hlen; omega)
  have hml : min len n ≤ 1000 := by omega
  have HWL := hid hwl
  clear hwl
  generalize min len n = m at *
  obtain ⟨i0, hi, hz0, hz1, hz2⟩ := info_parts Try.infoInt
  by_cases hm : m = 0
  · subst hm
    have L0 : Hid (loopTo zs n = [0]) := hid (by rw [L.out, if_pos rfl])
    clear L
    go_enter Try.func23, Try.ntmps23
    go_wp2_with fail
    refine C.mono ?_
    rintro e w1 ⟨v, rfl, own, hb⟩
    obtain ⟨ao1, cap1, rfl, hI⟩ := own_ints own HWL.out
    have O1 := hid own
    have hsz := hb.size
    clear C own
    go_wp2_with (at_builtin; go_must (refine wpList_append_own _ rfl (.tmp 12) (.tmp 13) 27 rfl w.heap.size 3 i0 (.int .i64 0) 1 8 Try.underlying27 hi hz0 hz1 hz2 rfl (by decide) _ _ _ rfl (O1.out.alloc _) ⟨w1.heap.size, 0, none⟩ 1 1 [.int .i64 0] rfl rfl ?c1 ?c2 ?c3 ?c4 ?c5 ?_))
    case c1 => exact cell_one_new _ _ _
    case c2 => intro u hu; simp at hu; subst hu; rfl
    case c3 => unfold maxLen; omega
    case c4 => omega
    case c5 => simp; omega
    intro v' w2 hown hgrow _
    have e1 : natInts (wordTo zs 0) ++ [.int .i64 0] = natInts [0] := by simp [natInts, wordTo]
    have hown2 : w2.ownsRow w.heap.size 3 1 v' 1 (natInts [0]) := by rw [← e1]; simpa using hown
    obtain ⟨ao2, cap2, rfl, hI2⟩ := own_ints hown2 rfl
    have B1 := hid ((hb.alloc hsz _).grown hgrow (by simp; omega) (fun k h => (O1.out.lt k h).1))
    have HI := hid hI2
    clear hown hown2 hgrow hI2 e1
    go_wp2_with fail
    go_ret
    unfold Made
    rw [L0.out]
    exact ⟨ao2, cap2, rfl, HI.out, B1.out⟩
  · have k0 : ((m : Int) == 0) = false := beq_eq_false_iff_ne.2 (by omega)
    go_enter Try.func23, Try.ntmps23
    go_wp2_with fail
    refine C.mono ?_
    rintro e w1 ⟨v, rfl, own, hb⟩
    obtain ⟨ao1, cap1, rfl, hI⟩ := own_ints own HWL.out
    have HI := hid hI
    clear C own hI
    go_wp2_with fail
    go_ret
    unfold Made
    rw [L.out, if_neg hm, HWL.out]
    exact ⟨ao1, cap1, rfl, HI.out, hb⟩

set_option maxHeartbeats 400000 in
set_option maxRecDepth 100000 in
theorem joined_any (a1 a2 : Option Addr) (l1 c1 l2 c2 : Nat) (xs ys : List Nat) (w : World) (h1 : Ints w a1 l1 c1 (intsOf xs)) (h2 : Ints w a2 l2 c2 (intsOf ys)) (hn1 : l1 ≤ 1000) (hn2 : l2 ≤ 1000) :
    Calls Try.prog 27 #[.slice a1 l1 c1, .slice a2 l2 c2] w (Made (xs ++ ys) w) := by
  have L1 : xs.length = l1 := by rw [← intsOf_len]; exact h1.hlen
  have L2 : ys.length = l2 := by rw [← intsOf_len]; exact h2.hlen
  have s1 := h1.src
  rw [intsOf_vals] at s1
  have N1 := h1.hnil
  have o1 : ∀ u ∈ natInts xs, u.oneCell' = true := by rw [← intsOf_vals]; exact int_one _
  have o2 : ∀ u ∈ natInts ys, u.oneCell' = true := by rw [← intsOf_vals]; exact int_one _
  obtain ⟨i0, hi, hz0, hz1, hz2⟩ := info_parts Try.infoInt
  go_enter Try.func27, Try.ntmps27
  go_wp2_with (at_builtin; go_must (refine wpList_append_any _ rfl (.tmp 6) (.tmp 7) 27 rfl w.heap.size 3 i0 (.int .i64 0) 1 8 Try.underlying27 hi hz0 hz1 hz2 rfl (by decide) _ 0 [] rfl (World.ownsRow_nil _ _ _ _) a1 l1 c1 (natInts xs) rfl ?n1 N1 s1 o1 ?n2 ?n3 (Nat.le_refl _) ?_))
  case n1 => simp [natInts, L1]
  case n2 => unfold maxLen; omega
  case n3 => omega
  intro v1 w1 own1 grow1
  try simp only [Nat.zero_add, List.nil_append] at own1
  have hb1 : Below w.heap.size w w1 := (Below.refl _ _).grown grow1 (Nat.le_refl _) (fun k h => by cases h)
  have s2 := (h2.below hb1).src
  rw [intsOf_vals] at s2
  have N2 := (h2.below hb1).hnil
  have hs1 := hb1.size
  have HB1 := hid hb1
  clear hb1 grow1 s1 N1
  go_wp2_with (at_builtin; go_must (refine wpList_append_any _ rfl (.tmp 9) (.tmp 10) 27 rfl w.heap.size 3 i0 (.int .i64 0) 1 8 Try.underlying27 hi hz0 hz1 hz2 rfl (by decide) _ l1 (natInts xs) rfl own1 a2 l2 c2 (natInts ys) rfl ?n4 N2 s2 o2 ?n5 ?n6 hs1 ?_))
  case n4 => simp [natInts, L2]
  case n5 => unfold maxLen; omega
  case n6 => omega
  intro v2 w2 own2 grow2
  have e1 : natInts xs ++ natInts ys = natInts (xs ++ ys) := by simp [natInts]
  rw [e1] at own2
  have B2 := hid (HB1.out.grown grow2 hs1 (fun k h => (own1.lt k h).1))
  obtain ⟨ao, cap, rfl, hI⟩ := own_ints own2 (by simp [L1, L2])
  have HI := hid hI
  clear own1 own2 grow2 s2 N2 hI e1
  go_wp2_with fail
  go_ret
  unfold Made
  rw [List.length_append, L1, L2]
  exact ⟨ao, cap, rfl, HI.out, B2.out⟩

theorem p_parse : parseOf ⟨#[112]⟩ = (0, [⟨112, 0, 0⟩]) := by rfl
theorem p_yes : holdVal ⟨#[112]⟩ [] [1] = true ∧ holdErr ⟨#[112]⟩ [] [1] = 0 := by decide +kernel
theorem p_no : holdVal ⟨#[112]⟩ [] [0] = false ∧ holdErr ⟨#[112]⟩ [] [0] = 0 := by decide +kernel

theorem ints_none (w : World) : Ints w none 0 0 [] := ⟨rfl, Nat.le_refl _, by omega, fun _ => ⟨rfl, rfl⟩, fun h => by omega⟩
theorem ints_one (w : World) (z : Int) : Ints (w.alloc (.cells #[.int .i64 z] 3)) (some ⟨w.heap.size, 0, none⟩) 1 1 [z] :=
  ⟨rfl, Nat.le_refl _, by omega, fun h => by simp at h, fun _ => ⟨w.heap.size, 0, rfl, by simp, fun i hi => by
    have : i = 0 := by omega
    subst this
    simp⟩⟩

set_option maxHeartbeats 400000 in
theorem holding_any (w : World) : Calls Try.prog 20 #[] w fun e w' => e = .returned (.bool true) ∧ Below w.heap.size w w' := by
  have C1 := size_any ⟨#[112]⟩ w (by decide)
  rw [p_parse] at C1
  have C2 := fun W => holds_any ⟨#[112]⟩ none (some ⟨W.heap.size, 0, none⟩) 0 0 1 1 [] [1] (W.alloc (.cells #[.int .i64 1] 3)) (by decide) (ints_none _) (ints_one W 1)
  rw [p_yes.1, p_yes.2] at C2
  have C3 := fun W => holds_any ⟨#[112]⟩ none (some ⟨W.heap.size, 0, none⟩) 0 0 1 1 [] [0] (W.alloc (.cells #[.int .i64 0] 3)) (by decide) (ints_none _) (ints_one W 0)
  rw [p_no.1, p_no.2] at C3
  go_enter Try.func20, Try.ntmps20
  go_wp2_with fail
  refine C1.mono ?_
  rintro e w1 ⟨rfl, hb1⟩
  go_wp2_with fail
  refine (C2 _).mono ?_
  rintro e w2 ⟨rfl, hb2⟩
  have B2 := hid ((hb1.alloc hb1.size _).trans (hb2.mono (by have := hb1.size; simp; omega)))
  clear hb1 hb2
  go_wp2_with fail
  refine (C3 _).mono ?_
  rintro e w3 ⟨rfl, hb3⟩
  have hz := B2.out.size
  have B3 := hid ((B2.out.alloc hz _).trans (hb3.mono (by simp; omega)))
  clear hb3 C1 C2 C3
  go_wp2_with fail
  go_ret
  exact ⟨rfl, B3.out⟩

end Go.Proofs.Ytjagijohfkffiaa

/- Plain mathematics: the endless word of a stem and a loop. -/
namespace Go.Proofs.Ytjagijohfkffiaa

/-- The letter at place t of the endless word. -/
def wordAt (A B : List Nat) (t : Nat) : Nat := if t < A.length then A.getD t 0 else B.getD ((t - A.length) % B.length) 0

def posAt (a b t : Nat) : Nat := if t < a then t else a + (t - a) % b

theorem mod_step {q b : Nat} (hb : 0 < b) : (q + 1) % b = if q % b + 1 < b then q % b + 1 else 0 := by
  have h := Nat.mod_lt q hb
  rw [Nat.add_mod]
  by_cases h1 : b = 1
  · subst h1; simp [Nat.mod_one]
  · rw [Nat.mod_eq_of_lt (show 1 < b by omega)]
    split
    · exact Nat.mod_eq_of_lt ‹_›
    · rw [show q % b + 1 = b by omega]; exact Nat.mod_self b

theorem it_pos {a b : Nat} (hb : 0 < b) (t : Nat) : it (lnx (a + b) a) t 0 = posAt a b t := by
  induction t with
  | zero =>
    simp only [it, posAt]
    split
    · rfl
    · rename_i h
      have : a = 0 := by omega
      subst this
      simp
  | succ t ih =>
    rw [it_succ, ih]
    unfold posAt lnx
    by_cases h1 : t + 1 < a
    · rw [if_pos h1, if_pos (show t < a by omega), if_pos (by omega)]
    · rw [if_neg h1]
      by_cases h2 : t < a
      · rw [if_pos h2]
        have : t + 1 - a = 0 := by omega
        rw [this]
        split <;> simp <;> omega
      · rw [if_neg h2, show t + 1 - a = (t - a) + 1 by omega, mod_step hb]
        have := Nat.mod_lt (t - a) hb
        by_cases h3 : (t - a) % b + 1 < b
        · rw [if_pos h3, if_pos (by omega)]; omega
        · rw [if_neg h3, if_neg (by omega)]; rfl

theorem ltOf_pos {A B : List Nat} (hb : 0 < B.length) (t : Nat) : ltOf (A ++ B) (posAt A.length B.length t) = wordAt A B t := by
  unfold ltOf posAt wordAt
  have := Nat.mod_lt (t - A.length) hb
  by_cases h : t < A.length
  · rw [if_pos h, if_pos h]; simp [List.getD, List.getElem?_append_left h]
  · rw [if_neg h, if_neg h, List.getD, List.getD, List.getElem?_append_right (by omega), Nat.add_sub_cancel_left]

/-- At a time, and at the place where one is then. -/
theorem sem_time {A B : List Nat} (hb : 0 < B.length) (ns : List Nd) (k t : Nat) : sem (fun i => i + 1) (wordAt A B) ns k t ↔ sem (lnx (A.length + B.length) A.length) (ltOf (A ++ B)) ns k (posAt A.length B.length t) := by
  have h := sem_map (f := fun t => it (lnx (A.length + B.length) A.length) t 0) (nx1 := fun i => i + 1) (lt1 := wordAt A B) (nx2 := lnx (A.length + B.length) A.length) (lt2 := ltOf (A ++ B))
    (fun i => it_succ _ _ _) (fun i => by rw [it_pos hb, ltOf_pos hb]) ns k t
  rw [it_pos hb] at h
  exact h

/-- What Holds answers, by the document's own words. -/
theorem holdsB_inf {A B : List Nat} {ns : List Nd} (hg : Good ns) (hb : 0 < B.length) (hx : ∀ x ∈ A ++ B, x < 8) : holdsB A.length ns (A ++ B) = true ↔ sem (fun i => i + 1) (wordAt A B) ns (ns.length - 1) 0 := by
  rw [holdsB_sem hg (by simp; omega) hx, sem_time hb, List.length_append]
  have : posAt A.length B.length 0 = 0 := by
    unfold posAt
    split
    · rfl
    · rename_i h
      have h0 : A.length = 0 := by omega
      rw [h0]; simp
  rw [this]

theorem getD_app_left {A B : List Nat} {i : Nat} (h : i < A.length) : (A ++ B).getD i 0 = A.getD i 0 := by simp [List.getD, List.getElem?_append_left h]
theorem getD_app_right {A B : List Nat} {i : Nat} (h : A.length ≤ i) : (A ++ B).getD i 0 = B.getD (i - A.length) 0 := by simp [List.getD, List.getElem?_append_right h]

/-- The loop once more in the stem. -/
theorem wordAt_more {A B : List Nat} (hb : 0 < B.length) : wordAt (A ++ B) B = wordAt A B := by
  funext t
  unfold wordAt
  rw [List.length_append]
  by_cases h1 : t < A.length
  · rw [if_pos (by omega), if_pos h1, getD_app_left h1]
  · rw [if_neg h1]
    by_cases h2 : t < A.length + B.length
    · rw [if_pos h2, getD_app_right (by omega), Nat.mod_eq_of_lt (by omega)]
    · rw [if_neg h2, show t - A.length = (t - (A.length + B.length)) + B.length by omega, Nat.add_mod_right]

/-- The loop twice. -/
theorem wordAt_twice {A B : List Nat} (hb : 0 < B.length) : wordAt A (B ++ B) = wordAt A B := by
  funext t
  unfold wordAt
  rw [List.length_append]
  by_cases h1 : t < A.length
  · rw [if_pos h1, if_pos h1]
  · rw [if_neg h1, if_neg h1]
    generalize t - A.length = q
    have h2 := Nat.mod_lt q (show 0 < B.length + B.length by omega)
    have h3 : q % (B.length + B.length) % B.length = q % B.length := by
      rw [show B.length + B.length = B.length * 2 by omega]
      exact Nat.mod_mul_right_mod q B.length 2
    by_cases h4 : q % (B.length + B.length) < B.length
    · rw [getD_app_left h4, ← h3, Nat.mod_eq_of_lt h4]
    · rw [getD_app_right (by omega), ← h3]
      generalize q % (B.length + B.length) = r at *
      rw [Nat.mod_eq_sub_mod (by omega), Nat.mod_eq_of_lt (by omega)]

/-- The loop begun one letter later. -/
theorem wordAt_later {A B : List Nat} (hb : 0 < B.length) : wordAt (A ++ B.take 1) (B.drop 1 ++ B.take 1) = wordAt A B := by
  have ht : (B.take 1).length = 1 := by simp; omega
  have hd : (B.drop 1).length = B.length - 1 := by simp
  funext t
  unfold wordAt
  rw [List.length_append, List.length_append, ht, hd, show B.length - 1 + 1 = B.length by omega]
  by_cases h1 : t < A.length
  · rw [if_pos (by omega), if_pos h1, getD_app_left h1]
  · rw [if_neg h1]
    by_cases h2 : t < A.length + 1
    · rw [if_pos h2, getD_app_right (by omega), show t - A.length = 0 by omega, Nat.zero_mod]
      simp [List.getD, hb]
    · rw [if_neg h2, show t - A.length = (t - (A.length + 1)) + 1 by omega]
      generalize t - (A.length + 1) = q
      rw [mod_step hb]
      have h3 := Nat.mod_lt q hb
      by_cases h4 : q % B.length + 1 < B.length
      · rw [if_pos h4, getD_app_left (by omega)]
        simp [List.getD]
      · rw [if_neg h4, getD_app_right (by omega), hd, show q % B.length - (B.length - 1) = 0 by omega]
        simp [List.getD, hb]

end Go.Proofs.Ytjagijohfkffiaa
