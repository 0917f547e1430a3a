/- The walks of verdictkeep's at, places, composed. -/
import Derived.Test.YtjagijohfkffiaaUnrolled
import Derived.Test.YtjagijohfkffiaaMeantV
namespace Go.Proofs.Ytjagijohfkffiaa
open Go.RowKit
set_option linter.unusedVariables false

theorem ints_drop {w : World} {a : Option Addr} {len cap : Nat} {xs : List Nat} (h : Ints w a len cap (intsOf xs)) (i : Nat) (hi : i ≤ len) (ao : Option Addr) (he : cap = i → ao = a) (hne : cap ≠ i → ao = a.map (·.add i)) : Ints w ao (len - i) (cap - i) (intsOf (xs.drop i)) := by
  have hl : xs.length = len := by rw [← intsOf_len]; exact h.hlen
  have hc := h.hcap
  refine ⟨by rw [intsOf_len]; simp; omega, by omega, by have := h.hmax; omega, fun hn => ?_, fun h0 => ?_⟩
  · have : a = none := by
      by_cases e : cap = i
      · rw [← he e]; exact hn
      · rw [hne e] at hn
        cases a with
        | none => rfl
        | some x => simp at hn
    obtain ⟨h1, h2⟩ := h.hnil this
    omega
  · obtain ⟨b, off, e, hb, hcell⟩ := h.hcell (by omega)
    refine ⟨b, off + i, ?_, hb, fun j hj => ?_⟩
    · rw [hne (by omega), e]
      simp [add_off]
    · rw [Nat.add_assoc, hcell (i + j) (by omega)]
      simp [intsOf, List.getD]

set_option maxHeartbeats 400000 in
theorem at_any (a1 a2 : Option Addr) (l1 c1 l2 c2 : Nat) (A B : List Nat) (i : Nat) (w : World) (h1 : Ints w a1 l1 c1 (intsOf A)) (h2 : Ints w a2 l2 c2 (intsOf B)) (hp : 0 < l2) (hi : i ≤ 1000) (q1 : l1 ≤ 1000) (q2 : l2 ≤ 1000) :
    Calls Try.prog 53 #[.slice a1 l1 c1, .slice a2 l2 c2, .int .i64 i] w fun e w' => (∃ ao l c, e = .returned (.tuple #[.slice ao l c, .slice a2 l2 c2]) ∧ Ints w ao l c (intsOf (fromAt A B i))) ∧ w' = w := by
  have L1 : A.length = l1 := by rw [← intsOf_len]; exact h1.hlen
  have L2 : B.length = l2 := by rw [← intsOf_len]; exact h2.hlen
  have m1 := h1.hmax
  have m2 := h2.hmax
  have m3 := h1.hcap
  have m4 := h2.hcap
  by_cases hle : i ≤ l1
  · have HF : Hid (fromAt A B i = A.drop i) := hid (by unfold fromAt; rw [L1, if_pos hle])
    by_cases hc : c1 = i
    · have HI := hid (ints_drop h1 i hle a1 (fun _ => rfl) (fun h => absurd hc h))
      go_enter Try.func53, Try.ntmps53
      go_wp2_with fail
      go_ret2
      have h := HI.out
      rw [show c1 - i = 0 by omega] at h
      exact ⟨⟨_, _, _, rfl, by rw [HF.out]; exact h⟩, rfl⟩
    · have HI := hid (ints_drop h1 i hle (a1.map (·.add i)) (fun h => absurd h hc) (fun _ => rfl))
      go_enter Try.func53, Try.ntmps53
      go_wp2_with fail
      go_ret2
      exact ⟨⟨_, _, _, rfl, by rw [HF.out]; exact HI.out⟩, rfl⟩
  · obtain ⟨kn, hkn⟩ : ∃ kn, kn = (i - l1) % l2 := ⟨_, rfl⟩
    have hkl : kn < l2 := by rw [hkn]; exact Nat.mod_lt _ hp
    have HF : Hid (fromAt A B i = B.drop kn) := hid (by unfold fromAt; rw [L1, L2, if_neg hle, hkn])
    have hki : ((i : Int) - (l1 : Int)) % (l2 : Int) = (kn : Int) := by
      rw [show ((i : Int) - (l1 : Int)) = ((i - l1 : Nat) : Int) by omega, hkn]; rfl
    have hz : ((l2 : Int) == 0) = false := beq_eq_false_iff_ne.2 (by omega)
    have HKN := hid hkn
    clear hkn
    by_cases hc : c2 = kn
    · omega
    · have HI := hid (ints_drop h2 kn (by omega) (a2.map (·.add kn)) (fun h => absurd h hc) (fun _ => rfl))
      go_enter Try.func53, Try.ntmps53
      go_wp2_with fail
      go_ret2
      exact ⟨⟨_, _, _, rfl, by rw [HF.out]; exact HI.out⟩, rfl⟩

def boolsTo (X : Nat → Bool) (j : Nat) : List Value := (List.range j).map fun i => .bool (X i)
theorem boolsTo_succ (X : Nat → Bool) (j : Nat) : boolsTo X (j + 1) = boolsTo X j ++ [.bool (X j)] := by
  unfold boolsTo
  rw [List.range_succ, List.map_append]
  rfl

theorem fromAt_mem {A B : List Nat} {i x : Nat} (h : x ∈ fromAt A B i) : x ∈ A ∨ x ∈ B := by
  unfold fromAt at h
  split at h
  · exact Or.inl (List.mem_of_mem_drop h)
  · exact Or.inr (List.mem_of_mem_drop h)
theorem fromAt_len {A B : List Nat} {i m : Nat} (h1 : A.length ≤ m) (h2 : B.length ≤ m) : (fromAt A B i).length ≤ m := by
  unfold fromAt
  split <;> (rw [List.length_drop]; omega)

set_option maxHeartbeats 800000 in
set_option maxRecDepth 100000 in
theorem places_any (s : ByteArray) (hm : s.size ≤ maxLen) (h0 : (parseOf s).1 = 0) (a1 a2 : Option Addr) (l1 c1 l2 c2 : Nat) (A B : List Nat) (w : World) (h1 : Ints w a1 l1 c1 (intsOf A)) (h2 : Ints w a2 l2 c2 (intsOf B))
    (hp : 0 < l2) (q1 : l1 ≤ 40) (q2 : l2 ≤ 40) (A8 : ∀ x ∈ A, x < 8) (B8 : ∀ x ∈ B, x < 8) :
    Calls Try.prog 25 #[.string s, .slice a1 l1 c1, .slice a2 l2 c2] w fun e w' => ∃ g cap, e = .returned (.tuple #[.slice (some ⟨g, 0, none⟩) (l1 + l2) cap, .bool true]) ∧ Rb w' g (l1 + l2) (fun i => hv s (fromAt A B i) B) ∧ l1 + l2 ≤ cap ∧ Below w.heap.size w w' := by
  have L1 : A.length = l1 := by rw [← intsOf_len]; exact h1.hlen
  have L2 : B.length = l2 := by rw [← intsOf_len]; exact h2.hlen
  obtain ⟨i0, hi, hz0, hz1, hz2⟩ := info_parts Try.infoBool
  obtain ⟨X, hX⟩ : ∃ X : Nat → Bool, X = fun i => hv s (fromAt A B i) B := ⟨_, rfl⟩
  rw [← hX]
  have HX := hid hX
  have HH := fun W ao l c (i : Nat) (i1 : Ints W ao l c (intsOf (fromAt A B i))) (i2 : Ints W a2 l2 c2 (intsOf B)) => holdsW s hm ao a2 l c l2 c2 (fromAt A B i) B W i1 i2 (fun x hx => (fromAt_mem hx).elim (A8 x) (B8 x)) B8 (by omega) (fromAt_len (by omega) (by omega)) (by omega)
  rw [h0] at HH
  have XE : ∀ i, hv s (fromAt A B i) B = X i := fun i => by rw [hX]
  simp only [XE] at HH
  have AT := fun W i (j1 : Ints W a1 l1 c1 (intsOf A)) (j2 : Ints W a2 l2 c2 (intsOf B)) (hi : i ≤ 1000) => at_any a1 a2 l1 c1 l2 c2 A B i W j1 j2 hp hi (by omega) (by omega)
  clear hX XE
  have HHH := hid HH
  have HAT := hid AT
  clear HH AT
  go_enter Try.func25, Try.ntmps25
  go_wp2_with fail
  go_loopw [8, 9] (fun v i wr => ∃ j : Nat, j ≤ l1 + l2 ∧ i = .int .i64 j ∧ wr.ownsRow w.heap.size 4 1 v j (boolsTo X j) ∧ Below w.heap.size w wr) (fun _ i _ => l1 + l2 - (intOf i).toNat)
  case atStart => exact ⟨0, Nat.zero_le _, rfl, World.ownsRow_nil _ _ _ _, Below.refl _ _⟩
  case round =>
    obtain ⟨j, hj, rfl, own, hbr⟩ := hrel
    by_cases hlt : j < l1 + l2
    · have HO := hid own
      have HB := hid hbr
      have hsz := hbr.size
      clear own hbr
      go_wp2_with fail
      refine (HAT.out _ j (h1.below HB.out) (h2.below HB.out) (by omega)).mono ?_
      rintro e w' ⟨⟨ao, l, c, rfl, hI⟩, rfl⟩
      go_wp2_with fail
      refine (HHH.out _ ao l c j hI (h2.below HB.out)).mono ?_
      rintro e w2 ⟨rfl, hb2⟩
      have O2 := hid (HO.out.kept (row := none) ⟨hb2.os, hb2.tape, hb2.output, hb2.size, fun k hk _ => hb2.block k hk⟩ (by cases hv : (Value.ownBlock _) <;> simp))
      have B2 := hid (HB.out.trans (hb2.mono hsz))
      have hsz2 := hb2.size
      have HS := hid (boolsTo_succ X j)
      clear hI HO HB hb2
      generalize X j = x at *
      go_wp2_with (at_builtin; go_must (refine wpList_append_own _ rfl (.tmp 39) (.tmp 41) 36 rfl w.heap.size 4 i0 (.bool false) 1 1 Try.underlying36 hi hz0 hz1 hz2 rfl (by decide) _ _ _ rfl (O2.out.alloc _) ⟨w2.heap.size, 0, none⟩ 1 1 [.bool x] rfl rfl ?c1 ?c2 ?c3 ?c4 ?c5 ?_))
      case c1 => exact cell_one_new _ _ _
      case c2 => intro u hu; simp at hu; subst hu; rfl
      case c3 => unfold maxLen; omega
      case c4 => omega
      case c5 => simp; omega
      intro v' w3 hown hgrow _
      rw [← HS.out] at hown
      have B3 := hid ((B2.out.alloc (by omega) _).grown hgrow (by simp; omega) (fun k h => (O2.out.lt k h).1))
      have O3 := hid hown
      clear hown hgrow
      go_wp2_with fail
      go_roundw
      case rel => exact ⟨j + 1, by omega, by go_num, O3.out, B3.out⟩
      case measure => simp [intOf]; omega
    · have hj2 : j = l1 + l2 := by omega
      rw [hj2] at own
      rcases own.2 with ⟨_, h⟩ | ⟨g, cap, cur, rfl, hgb, hh, hc, _⟩
      · omega
      have HR : Hid (Rb wr g (l1 + l2) X) := hid ⟨heap_lt hh, fun i hi => by
        rw [own.cellAt i (by omega)]
        simp [boolsTo, hi]⟩
      clear own hh hj2
      go_wp2_with fail
      go_ret2
      exact ⟨g, cap, rfl, HR.out, hc, hbr⟩

end Go.Proofs.Ytjagijohfkffiaa
