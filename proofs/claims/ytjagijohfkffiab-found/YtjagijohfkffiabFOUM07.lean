import Derived.Test.YtjagijohfkffiabFOUM01
import Derived.Test.YtjagijohfkffiabFOUM06
import Derived.Laws.AppendOwnNone
import Derived.Deep.WholeRow
import Derived.Laws.CopyRow
import Derived.RowKit

/- The walks of verdictkeep's small functions: pick, word, looped, joined, holding. -/
namespace Go.Proofs.Ytjagijohfkffiab
open Go.RowKit
set_option linter.unusedVariables false

/-- 'append' on a slice of the call's own, of whatever is appended. -/
theorem wpList_append_any {P : Program} (w : World) {ops : Array Oper} {rest : List Oper} {o : Oper} {a : Act} {Q : Exit → Act → World → Prop} (hgd : o.guard = none) (s x : Operand) (t : TypeId)
    (ho : o.op = .call { callee := .builtin .append, args := #[s, x], argTypes := #[t, t] })
    (base : Nat) (e : TypeId) (i : TypeInfo) (z : Value) (size bytes : Nat) (ht : P.underlying t = some (.slice e)) (hi : P.info? e = some i) (hz : i.zero = some z)
    (hsize : i.size = size) (hby : i.bytes = bytes) (hzs : z.cells.size = size) (hsz : 0 < size)
    (v : Value) (n : Nat) (xs : List Value) (hs : a.eval s = v) (hown : w.ownsRow base e size v n xs)
    (ao : Option Addr) (m c : Nat) (news : List Value) (hx : a.eval x = .slice ao m c) (hl : news.length = m * size) (hnone : ao = none → m = 0 ∧ c = 0) (hnews : ∀ ad, ao = some ad → ∀ j u, news[j]? = some u → w.cell? (ad.add j) = some u) (h1 : ∀ u ∈ news, u.oneCell' = true)
    (h63 : n + m ≤ maxLen) (hbytes : (n + m) * bytes ≤ 140737488355328) (hbase : base ≤ w.heap.size)
    (h : ∀ v' w', w'.ownsRow base e size v' (n + m) (xs ++ news) → w.grownBy w' v.ownBlock → wpList P ops Q rest (a.put o.dst v') w') : wpList P ops Q (o :: rest) a w := by
  cases ao with
  | none =>
    obtain ⟨rfl, rfl⟩ := hnone rfl
    have hn : news = [] := List.eq_nil_of_length_eq_zero (by simpa using hl)
    subst hn
    refine wpList_append_own_none hgd s x t ho base e i size ht hi v n xs hs hown hx ?_
    exact h v w (by simpa using hown) (World.grownBy.refl _ _)
  | some ad =>
    exact wpList_append_own w hgd s x t ho base e i z size bytes ht hi hz hsize hby hzs hsz v n xs hs hown ad m c news hx hl (hnews ad rfl) h1 h63 hbytes hbase (fun v' w' h2 h3 _ => h v' w' h2 h3)

def intsOf (xs : List Nat) : List Int := xs.map fun x : Nat => (x : Int)
theorem intsOf_len (xs : List Nat) : (intsOf xs).length = xs.length := by simp [intsOf]
theorem intsOf_app (xs ys : List Nat) : intsOf (xs ++ ys) = intsOf xs ++ intsOf ys := by simp [intsOf]
theorem intsOf_vals (xs : List Nat) : (intsOf xs).map (Value.int .i64) = natInts xs := by simp [intsOf, natInts]
theorem natOf_ints (xs : List Nat) : natOf (intsOf xs) = xs := by
  unfold natOf intsOf
  rw [List.map_map]
  conv => rhs; rw [← List.map_id xs]
  apply List.map_congr_left
  intro x _; simp
theorem allL_ints {xs : List Nat} (h : ∀ x ∈ xs, x < 8) : allL (intsOf xs) = true := by
  unfold allL intsOf
  rw [List.all_eq_true]
  intro z hz
  obtain ⟨x, hx, rfl⟩ := List.mem_map.1 hz
  rw [isL_iff]
  have := h x hx
  omega

/-- A row of the call's own, as a slice that is read. -/
theorem own_ints {w : World} {B n : Nat} {v : Value} {xs : List Nat} (h : w.ownsRow B 3 1 v n (natInts xs)) (hl : xs.length = n) : ∃ ao cap, v = .slice ao n cap ∧ Ints w ao n cap (intsOf xs) := by
  rcases h.2 with ⟨rfl, rfl⟩ | ⟨g, cap, cur, rfl, hb, hh, hc, hm, _⟩
  · exact ⟨none, 0, rfl, by rw [intsOf_len, hl], Nat.le_refl _, by omega, fun _ => ⟨rfl, rfl⟩, fun h => by omega⟩
  · refine ⟨_, cap, rfl, by rw [intsOf_len, hl], hc, by unfold maxLen at hm; omega, fun h => by simp at h, fun _ => ⟨g, 0, rfl, heap_lt hh, fun i hi => ?_⟩⟩
    rw [Nat.zero_add, h.cellAt i (by omega)]
    simp [natInts, intsOf, List.getD, List.getElem?_eq_getElem (show i < xs.length by omega)]

/-- The numbers of an argument are int's. -/
def Fits (zs : List Int) : Prop := ∀ z ∈ zs, -9223372036854775808 ≤ z ∧ z ≤ 9223372036854775807

theorem fits_at {zs : List Int} (h : Fits zs) {j : Nat} (hj : j < zs.length) : -9223372036854775808 ≤ zs.getD j 0 ∧ zs.getD j 0 ≤ 9223372036854775807 := by
  rw [List.getD, List.getElem?_eq_getElem hj]
  exact h _ (List.getElem_mem hj)

/-- What 'word' and its kin leave: a word of letters. -/
def Made (xs : List Nat) (w : World) (e : Ending) (w' : World) : Prop := ∃ ao cap, e = .returned (.slice ao xs.length cap) ∧ Ints w' ao xs.length cap (intsOf xs) ∧ Below w.heap.size w w'

end Go.Proofs.Ytjagijohfkffiab

/- The walks of verdictkeep's small functions: looped, joined, holding. -/
namespace Go.Proofs.Ytjagijohfkffiab
open Go.RowKit
set_option linter.unusedVariables false

set_option maxHeartbeats 400000 in
set_option maxRecDepth 100000 in
theorem joined_any (a1 a2 : Option Addr) (l1 c1 l2 c2 : Nat) (xs ys : List Nat) (w : World) (h1 : Ints w a1 l1 c1 (intsOf xs)) (h2 : Ints w a2 l2 c2 (intsOf ys)) (hn1 : l1 ≤ 20000) (hn2 : l2 ≤ 20000) :
    Calls Try.prog 56 #[.slice a1 l1 c1, .slice a2 l2 c2] w (Made (xs ++ ys) w) := by
  have L1 : xs.length = l1 := by rw [← intsOf_len]; exact h1.hlen
  have L2 : ys.length = l2 := by rw [← intsOf_len]; exact h2.hlen
  have s1 := h1.src
  rw [intsOf_vals] at s1
  have N1 := h1.hnil
  have o1 : ∀ u ∈ natInts xs, u.oneCell' = true := by rw [← intsOf_vals]; exact int_one _
  have o2 : ∀ u ∈ natInts ys, u.oneCell' = true := by rw [← intsOf_vals]; exact int_one _
  obtain ⟨i0, hi, hz0, hz1, hz2⟩ := info_parts Try.infoInt
  go_enter Try.func56, Try.ntmps56
  go_wp2_with (at_builtin; go_must (refine wpList_append_any _ rfl (.tmp 6) (.tmp 7) 22 rfl w.heap.size 3 i0 (.int .i64 0) 1 8 Try.underlying22 hi hz0 hz1 hz2 rfl (by decide) _ 0 [] rfl (World.ownsRow_nil _ _ _ _) a1 l1 c1 (natInts xs) rfl ?n1 N1 s1 o1 ?n2 ?n3 (Nat.le_refl _) ?_))
  case n1 => simp [natInts, L1]
  case n2 => unfold maxLen; omega
  case n3 => omega
  intro v1 w1 own1 grow1
  try simp only [Nat.zero_add, List.nil_append] at own1
  have hb1 : Below w.heap.size w w1 := (Below.refl _ _).grown grow1 (Nat.le_refl _) (fun k h => by cases h)
  have s2 := (h2.below hb1).src
  rw [intsOf_vals] at s2
  have N2 := (h2.below hb1).hnil
  have hs1 := hb1.size
  have HB1 := hid hb1
  clear hb1 grow1 s1 N1
  go_wp2_with (at_builtin; go_must (refine wpList_append_any _ rfl (.tmp 9) (.tmp 10) 22 rfl w.heap.size 3 i0 (.int .i64 0) 1 8 Try.underlying22 hi hz0 hz1 hz2 rfl (by decide) _ l1 (natInts xs) rfl own1 a2 l2 c2 (natInts ys) rfl ?n4 N2 s2 o2 ?n5 ?n6 hs1 ?_))
  case n4 => simp [natInts, L2]
  case n5 => unfold maxLen; omega
  case n6 => omega
  intro v2 w2 own2 grow2
  have e1 : natInts xs ++ natInts ys = natInts (xs ++ ys) := by simp [natInts]
  rw [e1] at own2
  have B2 := hid (HB1.out.grown grow2 hs1 (fun k h => (own1.lt k h).1))
  obtain ⟨ao, cap, rfl, hI⟩ := own_ints own2 (by simp [L1, L2])
  have HI := hid hI
  clear own1 own2 grow2 s2 N2 hI e1
  go_wp2_with fail
  go_ret
  unfold Made
  rw [List.length_append, L1, L2]
  exact ⟨ao, cap, rfl, HI.out, B2.out⟩

theorem p_parse : parseOf ⟨#[112]⟩ = (0, [⟨112, 0, 0⟩]) := by rfl
theorem p_yes : holdVal ⟨#[112]⟩ [] [1] = true ∧ holdErr ⟨#[112]⟩ [] [1] = 0 := by decide +kernel
theorem p_no : holdVal ⟨#[112]⟩ [] [0] = false ∧ holdErr ⟨#[112]⟩ [] [0] = 0 := by decide +kernel

theorem ints_none (w : World) : Ints w none 0 0 [] := ⟨rfl, Nat.le_refl _, by omega, fun _ => ⟨rfl, rfl⟩, fun h => by omega⟩
theorem ints_one (w : World) (z : Int) : Ints (w.alloc (.cells #[.int .i64 z] 3)) (some ⟨w.heap.size, 0, none⟩) 1 1 [z] :=
  ⟨rfl, Nat.le_refl _, by omega, fun h => by simp at h, fun _ => ⟨w.heap.size, 0, rfl, by simp, fun i hi => by
    have : i = 0 := by omega
    subst this
    simp⟩⟩

set_option maxHeartbeats 400000 in
theorem holding_any (w : World) : Calls Try.prog 17 #[] w fun e w' => e = .returned (.bool true) ∧ Below w.heap.size w w' := by
  have C1 := size_any ⟨#[112]⟩ w (by decide)
  rw [p_parse] at C1
  have C2 := fun W => holds_any ⟨#[112]⟩ none (some ⟨W.heap.size, 0, none⟩) 0 0 1 1 [] [1] (W.alloc (.cells #[.int .i64 1] 3)) (by decide) (ints_none _) (ints_one W 1)
  rw [p_yes.1, p_yes.2] at C2
  have C3 := fun W => holds_any ⟨#[112]⟩ none (some ⟨W.heap.size, 0, none⟩) 0 0 1 1 [] [0] (W.alloc (.cells #[.int .i64 0] 3)) (by decide) (ints_none _) (ints_one W 0)
  rw [p_no.1, p_no.2] at C3
  go_enter Try.func17, Try.ntmps17
  go_wp2_with fail
  refine C1.mono ?_
  rintro e w1 ⟨rfl, hb1⟩
  go_wp2_with fail
  refine (C2 _).mono ?_
  rintro e w2 ⟨rfl, hb2⟩
  have B2 := hid ((hb1.alloc hb1.size _).trans (hb2.mono (by have := hb1.size; simp; omega)))
  clear hb1 hb2
  go_wp2_with fail
  refine (C3 _).mono ?_
  rintro e w3 ⟨rfl, hb3⟩
  have hz := B2.out.size
  have B3 := hid ((B2.out.alloc hz _).trans (hb3.mono (by simp; omega)))
  clear hb3 C1 C2 C3
  go_wp2_with fail
  go_ret
  exact ⟨rfl, B3.out⟩

end Go.Proofs.Ytjagijohfkffiab

/- The walk of verdictkeep's pick, of whatever number of things. -/
namespace Go.Proofs.Ytjagijohfkffiab
open Go.RowKit
set_option linter.unusedVariables false

def Picked (n : Nat) (w : World) (e : Ending) (w' : World) : Prop := ∃ x : Nat, e = .returned (.int .i64 (x : Nat)) ∧ x < n ∧ w' = w
theorem picked {n x : Nat} {w : World} {y : Int} (h : y = (x : Int)) (hx : x < n) : Picked n w (.returned (.int .i64 y)) w := ⟨x, by rw [h], hx, rfl⟩

set_option maxHeartbeats 1000000 in
theorem pick_all (z : Int) (n : Nat) (w : World) (h0 : 0 < n) (hn : n ≤ 9223372036854775807) (h1 : -9223372036854775808 ≤ z) (h2 : z ≤ 9223372036854775807) : Calls Try.prog 34 #[.int .i64 z, .int .i64 (n : Nat)] w (Picked n w) := by
  have hz : ¬ (n : Int) = 0 := by omega
  by_cases h : z < 0
  · obtain ⟨u, hu⟩ : ∃ u : Nat, -(z + 1) = (u : Int) := ⟨(-(z + 1)).toNat, by omega⟩
    have E : Hid ((z + 1).tmod (n : Int) = -((u % n : Nat) : Int)) := hid (by
      have e1 : z + 1 = -(u : Int) := by omega
      rw [e1, Int.neg_tmod, Int.tmod_eq_emod_of_nonneg (by omega)]
      rfl)
    have hlt := Nat.mod_lt u h0
    have HU := hid hu
    clear hu
    generalize u % n = x at *
    have E1 := E.out
    have w1 : IntKind.i64.wrap (x : Int) = (x : Int) := by rw [IntKind.wrap_i64]; omega
    have HP := hid (fun y => @picked n x w y)
    go_enter Try.func34, Try.ntmps34
    go_wp2
    go_ret
    exact HP.out _ (by first | rfl | simp | omega) hlt
  · obtain ⟨u, rfl⟩ : ∃ u : Nat, z = (u : Int) := ⟨z.toNat, by omega⟩
    have E1 : (u : Int).tmod (n : Int) = ((u % n : Nat) : Int) := by rw [Int.tmod_eq_emod_of_nonneg (by omega)]; rfl
    have E2 : (u : Int) % (n : Int) = ((u % n : Nat) : Int) := rfl
    have hlt := Nat.mod_lt u h0
    generalize u % n = x at *
    have w1 : IntKind.i64.wrap (x : Int) = (x : Int) := by rw [IntKind.wrap_i64]; omega
    have HP := hid (fun y => @picked n x w y)
    go_enter Try.func34, Try.ntmps34
    go_wp2
    go_ret
    exact HP.out _ (by first | rfl | simp | omega) hlt

end Go.Proofs.Ytjagijohfkffiab

/- Laws on arrays by value: a cell of an array; an array out of and into memory. -/
namespace Go.Proofs.Ytjagijohfkffiab
open Go.RowKit
set_option linter.unusedVariables false

theorem run_sizeOf {P : Program} {t : TypeId} {n : Nat} (h : (P.info? t).map (·.size) = some n) (w : World) : (sizeOf t).run P w = .ok n w := by
  cases hq : P.info? t with
  | none => simp [hq] at h
  | some i => simp [hq] at h; simp [sizeOf, typeInfo, hq, h]

theorem run_isAgg_bool {P : Program} {t : TypeId} (h : P.underlying t = some .bool) (w : World) : (isAgg t).run P w = .ok false w := by
  simp [isAgg, run_underlying h]
/-- x[j], x an array of one-cell elements that was taken by value. -/
theorem run_index_one {P : Program} {t e : TypeId} {len : Nat} {X : Array Value} {j : Nat} {v : Value} (w : World) (ht : P.underlying t = some (.array len e)) (he : ∀ w, (isAgg e).run P w = .ok false w) (hs : (P.info? e).map (·.size) = some 1)
    (hj : j < len) (hX : X[j]? = some v) : (Instr.index t (.agg X) (.int .i64 (j : Nat))).run P w = .ok v w := by
  have h0 : (0 : Int) ≤ (j : Int) ∧ (j : Int) < (len : Int) := by omega
  simp only [Instr.index, asIntOf, Sem.run_bind, Sem.run_pure, Result.andThen, run_underlying ht, if_pos h0, run_sizeOf hs, part, he]
  simp [hX]

end Go.Proofs.Ytjagijohfkffiab

/- Plain mathematics: endless paths in finite graphs that meet each of some marks again and again. -/
namespace Go.Proofs.Ytjagijohfkffiab

def reachN (E : Nat → Nat → Prop) : Nat → Nat → Nat → Prop
  | 0, a, b => a = b
  | L + 1, a, b => ∃ c, E a c ∧ reachN E L c b

/-- With one step at least. -/
def reach (E : Nat → Nat → Prop) (a b : Nat) : Prop := ∃ L, reachN E (L + 1) a b

theorem reachN_add {E : Nat → Nat → Prop} : ∀ (L M a b c : Nat), reachN E L a b → reachN E M b c → reachN E (L + M) a c
  | 0, M, a, b, c, h, k => by cases h; rw [Nat.zero_add]; exact k
  | L + 1, M, a, b, c, ⟨d, h1, h2⟩, k => by
    rw [show L + 1 + M = L + M + 1 by omega]
    exact ⟨d, h1, reachN_add L M d b c h2 k⟩

theorem reach_trans {E : Nat → Nat → Prop} {a b c : Nat} (h : reach E a b) (k : reach E b c) : reach E a c := by
  obtain ⟨L, h⟩ := h
  obtain ⟨M, k⟩ := k
  exact ⟨L + M + 1, by rw [show L + M + 1 + 1 = (L + 1) + (M + 1) by omega]; exact reachN_add _ _ _ _ _ h k⟩
theorem reach_edge {E : Nat → Nat → Prop} {a b : Nat} (h : E a b) : reach E a b := ⟨0, b, h, rfl⟩
theorem reach_cons {E : Nat → Nat → Prop} {a b c : Nat} (h : E a b) (k : reach E b c) : reach E a c := reach_trans (reach_edge h) k

/-- A walk of L steps. -/
def Walk (E : Nat → Nat → Prop) (p : Nat → Nat) (L a b : Nat) : Prop := p 0 = a ∧ p L = b ∧ ∀ i, i < L → E (p i) (p (i + 1))

theorem walk_of {E : Nat → Nat → Prop} : ∀ (L a b : Nat), reachN E L a b → ∃ p, Walk E p L a b
  | 0, a, b, h => ⟨fun _ => a, rfl, h, fun i hi => by omega⟩
  | L + 1, a, b, ⟨c, h1, h2⟩ => by
    obtain ⟨p, p0, pL, pe⟩ := walk_of L c b h2
    refine ⟨fun i => match i with | 0 => a | i + 1 => p i, rfl, pL, fun i hi => ?_⟩
    cases i with
    | zero => show E a (p 0); rw [p0]; exact h1
    | succ i => exact pe i (by omega)

theorem walk_reach {E : Nat → Nat → Prop} {p : Nat → Nat} (h : ∀ t, E (p t) (p (t + 1))) (s d : Nat) : reach E (p s) (p (s + d + 1)) := by
  induction d with
  | zero => exact reach_edge (h s)
  | succ d ih => exact reach_trans ih (reach_edge (h (s + d + 1)))

/-- Two walks, one behind the other. -/
def joinW (p q : Nat → Nat) (L : Nat) (i : Nat) : Nat := if i < L then p i else q (i - L)
theorem walk_join {E : Nat → Nat → Prop} {p q : Nat → Nat} {L M a b c : Nat} (h : Walk E p L a b) (k : Walk E q M b c) : Walk E (joinW p q L) (L + M) a c := by
  obtain ⟨h0, hL, he⟩ := h
  obtain ⟨k0, kM, ke⟩ := k
  refine ⟨?_, ?_, fun i hi => ?_⟩
  · unfold joinW
    by_cases h : 0 < L
    · rw [if_pos h]; exact h0
    · rw [if_neg h]
      have : L = 0 := by omega
      subst this
      rw [Nat.sub_self, k0, ← hL, h0]
  · unfold joinW
    rw [if_neg (by omega), Nat.add_sub_cancel_left]; exact kM
  · unfold joinW
    by_cases h1 : i + 1 < L
    · rw [if_pos (by omega), if_pos h1]; exact he i (by omega)
    · rw [if_neg h1]
      by_cases h2 : i < L
      · have e : i + 1 = L := by omega
        rw [if_pos h2, e, Nat.sub_self, k0, ← hL, ← e]; exact he i h2
      · rw [if_neg h2, show i + 1 - L = (i - L) + 1 by omega]; exact ke (i - L) (by omega)

/-- A ring through all that is listed. -/
theorem ring_through {E : Nat → Nat → Prop} {c : Nat} (hc : reach E c c) : ∀ l : List Nat, (∀ i ∈ l, reach E c i ∧ reach E i c) → ∃ p L, 0 < L ∧ Walk E p L c c ∧ ∀ i ∈ l, ∃ s, s < L ∧ p s = i
  | [], _ => by
    obtain ⟨L, h⟩ := hc
    obtain ⟨p, hp⟩ := walk_of _ _ _ h
    exact ⟨p, L + 1, by omega, hp, fun i hi => by simp at hi⟩
  | i :: l, hl => by
    obtain ⟨p, L, hL, hp, hm⟩ := ring_through hc l (fun j hj => hl j (List.mem_cons_of_mem _ hj))
    obtain ⟨⟨M, h1⟩, ⟨M', h2⟩⟩ := hl i (List.mem_cons_self ..)
    obtain ⟨q, hq⟩ := walk_of _ _ _ h1
    obtain ⟨r, hr⟩ := walk_of _ _ _ h2
    have hqr := walk_join hq hr
    refine ⟨joinW p (joinW q r (M + 1)) L, L + (M + 1 + (M' + 1)), by omega, walk_join hp hqr, fun j hj => ?_⟩
    rcases List.mem_cons.1 hj with rfl | hj
    · refine ⟨L + (M + 1), by omega, ?_⟩
      unfold joinW
      rw [if_neg (by omega), Nat.add_sub_cancel_left, if_neg (by omega), Nat.sub_self]
      exact hr.1
    · obtain ⟨s, hs, e⟩ := hm j hj
      refine ⟨s, by omega, ?_⟩
      unfold joinW
      rw [if_pos hs]; exact e

/-- An endless path. -/
def Path (E : Nat → Nat → Prop) (q : Nat → Nat) : Prop := ∀ t, E (q t) (q (t + 1))
/-- It meets each of the m marks again and again. -/
def Meets (K : Nat → Nat → Prop) (m : Nat) (q : Nat → Nat) : Prop := ∀ k, k < m → ∀ t, ∃ t', t ≤ t' ∧ K k (q t')

def GoodN (E : Nat → Nat → Prop) (K : Nat → Nat → Prop) (m c : Nat) : Prop := reach E c c ∧ ∀ k, k < m → ∃ i, reach E c i ∧ reach E i c ∧ K k i

theorem marks_list {E : Nat → Nat → Prop} {K : Nat → Nat → Prop} {c : Nat} : ∀ m, (∀ k, k < m → ∃ i, reach E c i ∧ reach E i c ∧ K k i) → ∃ l : List Nat, (∀ i ∈ l, reach E c i ∧ reach E i c) ∧ ∀ k, k < m → ∃ i ∈ l, K k i
  | 0, _ => ⟨[], fun i hi => by simp at hi, fun k hk => by omega⟩
  | m + 1, h => by
    obtain ⟨l, h1, h2⟩ := marks_list m (fun k hk => h k (by omega))
    obtain ⟨i, a, b, d⟩ := h m (by omega)
    refine ⟨i :: l, fun j hj => ?_, fun k hk => ?_⟩
    · rcases List.mem_cons.1 hj with rfl | hj
      · exact ⟨a, b⟩
      · exact h1 j hj
    · by_cases e : k = m
      · subst e; exact ⟨i, List.mem_cons_self .., d⟩
      · obtain ⟨j, hj, hk2⟩ := h2 k (by omega)
        exact ⟨j, List.mem_cons_of_mem _ hj, hk2⟩

/-- Round and round. -/
theorem ring_path {E : Nat → Nat → Prop} {p : Nat → Nat} {L c : Nat} (hL : 0 < L) (h : Walk E p L c c) : Path E (fun t => p (t % L)) := by
  obtain ⟨h0, h1, he⟩ := h
  intro t
  have hm := Nat.mod_lt t hL
  show E (p (t % L)) (p ((t + 1) % L))
  by_cases h2 : t % L + 1 < L
  · have e : (t + 1) % L = t % L + 1 := by
      rw [Nat.add_mod]
      by_cases h3 : L = 1
      · omega
      · rw [Nat.mod_eq_of_lt (show 1 < L by omega), Nat.mod_eq_of_lt h2]
    rw [e]; exact he _ hm
  · have e : (t + 1) % L = 0 := by
      have e2 : t % L + 1 = L := by omega
      have := Nat.div_add_mod t L
      have e3 : t + 1 = L * (t / L + 1) := by rw [Nat.mul_add]; omega
      rw [e3, Nat.mul_mod_right]
    rw [e, h0]
    have := he (t % L) hm
    rw [show t % L + 1 = L by omega, h1] at this
    exact this

theorem good_path {E : Nat → Nat → Prop} {K : Nat → Nat → Prop} {m c : Nat} (h : GoodN E K m c) : ∃ q, q 0 = c ∧ Path E q ∧ Meets K m q ∧ ∃ L, 0 < L ∧ ∀ t, q (t + L) = q t := by
  obtain ⟨hc, hk⟩ := h
  obtain ⟨l, h1, h2⟩ := marks_list m hk
  obtain ⟨p, L, hL, hp, hm⟩ := ring_through hc l h1
  refine ⟨fun t => p (t % L), by simp [hp.1], ring_path hL hp, fun k hk t => ?_, L, hL, fun t => by simp⟩
  obtain ⟨i, hi, hK⟩ := h2 k hk
  obtain ⟨s, hs, e⟩ := hm i hi
  refine ⟨t * L + s, ?_, ?_⟩
  · have : t * 1 ≤ t * L := Nat.mul_le_mul_left t hL
    omega
  · show K k (p ((t * L + s) % L))
    rw [Nat.mul_comm, Nat.mul_add_mod, Nat.mod_eq_of_lt hs, e]
    exact hK

/-- Among few nodes one is met again and again. -/
theorem met_often {q : Nat → Nat} {P : Nat → Prop} {n : Nat} (hn : ∀ t, q t < n) (h : ∀ t, ∃ t', t ≤ t' ∧ P (q t')) : ∃ v, v < n ∧ P v ∧ ∀ t, ∃ t', t ≤ t' ∧ q t' = v := by
  refine Classical.byContradiction fun hc => ?_
  have key : ∀ j, j ≤ n → ∃ T, ∀ t, T ≤ t → ∀ v, v < j → P v → q t ≠ v := by
    intro j
    induction j with
    | zero => intro _; exact ⟨0, fun t _ v hv => by omega⟩
    | succ j ih =>
      intro hj
      obtain ⟨T, hT⟩ := ih (by omega)
      by_cases hP : P j
      · have : ∃ T', ∀ t, T' ≤ t → q t ≠ j := Classical.byContradiction fun hx => hc ⟨j, by omega, hP, fun t => Classical.byContradiction fun hy => hx ⟨t, fun t' ht e => hy ⟨t', ht, e⟩⟩⟩
        obtain ⟨T', hT'⟩ := this
        refine ⟨max T T', fun t ht v hv hPv => ?_⟩
        by_cases e : v = j
        · subst e; exact hT' t (by omega)
        · exact hT t (by omega) v (by omega) hPv
      · refine ⟨T, fun t ht v hv hPv => ?_⟩
        by_cases e : v = j
        · subst e; exact absurd hPv hP
        · exact hT t ht v (by omega) hPv
  obtain ⟨T, hT⟩ := key n (Nat.le_refl _)
  obtain ⟨t', ht, hp⟩ := h T
  exact hT t' ht (q t') (hn t') hp rfl

theorem path_good {E : Nat → Nat → Prop} {K : Nat → Nat → Prop} {m n : Nat} {q : Nat → Nat} (hq : Path E q) (hn : ∀ t, q t < n) (hm : Meets K m q) : ∃ c, c < n ∧ reach E (q 0) c ∧ GoodN E K m c := by
  obtain ⟨c, hc, _, hv⟩ := met_often (P := fun _ => True) hn (fun t => ⟨t, Nat.le_refl _, trivial⟩)
  have to : ∀ s v, (∀ t, ∃ t', t ≤ t' ∧ q t' = v) → reach E (q s) v := by
    intro s v hv
    obtain ⟨t', ht, e⟩ := hv (s + 1)
    obtain ⟨d, rfl⟩ : ∃ d, t' = s + d + 1 := ⟨t' - s - 1, by omega⟩
    rw [← e]
    exact walk_reach hq s d
  have back : ∀ u v, (∀ t, ∃ t', t ≤ t' ∧ q t' = u) → (∀ t, ∃ t', t ≤ t' ∧ q t' = v) → reach E u v := by
    intro u v hu hv
    obtain ⟨s, _, e⟩ := hu 0
    rw [← e]
    exact to s v hv
  refine ⟨c, hc, to 0 c hv, back c c hv hv, fun k hk => ?_⟩
  obtain ⟨i, _, hK, hi⟩ := met_often (P := K k) hn (hm k hk)
  exact ⟨i, back c i hv hi, back i c hi hv, hK⟩

/-- From a node an endless path goes that meets all marks just if it gets to a good one. -/
theorem endless_iff {E : Nat → Nat → Prop} {K : Nat → Nat → Prop} {m n a : Nat} (hE : ∀ a b, E a b → b < n) (ha : a < n) : (∃ q, q 0 = a ∧ Path E q ∧ Meets K m q) ↔ ∃ c, c < n ∧ reach E a c ∧ GoodN E K m c := by
  constructor
  · rintro ⟨q, q0, hq, hm⟩
    have hn : ∀ t, q t < n := fun t => by
      cases t with
      | zero => rw [q0]; exact ha
      | succ t => exact hE _ _ (hq t)
    obtain ⟨c, h1, h2, h3⟩ := path_good hq hn hm
    rw [q0] at h2
    exact ⟨c, h1, h2, h3⟩
  · rintro ⟨c, _, ⟨L, h1⟩, h2⟩
    obtain ⟨p, hp⟩ := walk_of _ _ _ h1
    obtain ⟨q, q0, hq, hm, _⟩ := good_path h2
    refine ⟨joinW p q (L + 1), ?_, ?_, ?_⟩
    · unfold joinW; rw [if_pos (by omega)]; exact hp.1
    · intro t
      unfold joinW
      by_cases h3 : t + 1 < L + 1
      · rw [if_pos (by omega), if_pos h3]; exact hp.2.2 t (by omega)
      · rw [if_neg h3]
        by_cases h4 : t < L + 1
        · have e : t + 1 = L + 1 := by omega
          rw [if_pos h4, e, Nat.sub_self, q0]
          have := hp.2.2 t h4
          rw [e, hp.2.1] at this
          exact this
        · rw [if_neg h4, show t + 1 - (L + 1) = (t - (L + 1)) + 1 by omega]; exact hq _
    · intro k hk t
      obtain ⟨t', ht, h3⟩ := hm k hk t
      refine ⟨L + 1 + t', by omega, ?_⟩
      unfold joinW
      rw [if_neg (by omega), Nat.add_sub_cancel_left]; exact h3

end Go.Proofs.Ytjagijohfkffiab

/- Plain mathematics: looking through a graph, as the reference does. -/
namespace Go.Proofs.Ytjagijohfkffiab

theorem nodup_le : ∀ (n : Nat) (l : List Nat), l.Nodup → (∀ b ∈ l, b < n) → l.length ≤ n
  | 0, l, _, h => by
    cases l with
    | nil => exact Nat.le_refl _
    | cons b l => exact absurd (h b (List.mem_cons_self ..)) (by omega)
  | n + 1, l, hd, h => by
    have h1 := nodup_le n (l.erase n) (hd.erase n) (fun b hb => by
      have hb2 := (List.Nodup.mem_erase_iff hd).1 hb
      have := h b hb2.2
      omega)
    have h2 : l.length ≤ (l.erase n).length + 1 := by rw [List.length_erase]; split <;> omega
    omega

def upd (f : Nat → Bool) (b : Nat) (v : Bool) : Nat → Bool := fun i => if i = b then v else f i

/-- What has been met from 'at' on; 'seen' marks all but 'at' itself, which it marks if one comes back. -/
structure Bfs (E : Nat → Nat → Prop) (n at0 : Nat) (todo : List Nat) (seen : Nat → Bool) : Prop where
  parts : ∃ rest, todo = at0 :: rest ∧ rest.Nodup ∧ (∀ b, seen b = true ↔ b ∈ rest) ∧ ∀ b ∈ rest, reach E at0 b ∧ b < n

theorem Bfs.len {E : Nat → Nat → Prop} {n at0 : Nat} {todo : List Nat} {seen : Nat → Bool} (h : Bfs E n at0 todo seen) : todo.length ≤ n + 1 := by
  obtain ⟨rest, rfl, h1, _, h3⟩ := h.parts
  have := nodup_le n rest h1 (fun b hb => (h3 b hb).2)
  simp; omega
theorem Bfs.mem {E : Nat → Nat → Prop} {n at0 : Nat} {todo : List Nat} {seen : Nat → Bool} (h : Bfs E n at0 todo seen) {a : Nat} (ha : a ∈ todo) : a = at0 ∨ (reach E at0 a ∧ a < n) := by
  obtain ⟨rest, rfl, _, _, h3⟩ := h.parts
  rcases List.mem_cons.1 ha with rfl | ha
  · exact Or.inl rfl
  · exact Or.inr (h3 a ha)

end Go.Proofs.Ytjagijohfkffiab
