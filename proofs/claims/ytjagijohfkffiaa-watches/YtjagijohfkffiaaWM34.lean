import Derived.Test.YtjagijohfkffiaaWM19
import Derived.Test.YtjagijohfkffiaaWM29
import Derived.Test.YtjagijohfkffiaaWM30
import Derived.Test.YtjagijohfkffiaaWM32
import Derived.Test.YtjagijohfkffiaaWM33
import Derived.Laws.AppendOwnNone

/- The walks of the reference's Formulate and Size. -/
namespace Go.Proofs.Ytjagijohfkffiaa
open Go.RowKit
set_option linter.unusedVariables false

def Formulated (s : ByteArray) (w : World) (e : Ending) (w' : World) : Prop :=
  Below w.heap.size w w' ∧
  (((parseOf s).1 ≠ 0 ∧ e = .returned (.tuple #[.pointer none, .int .i64 (parseOf s).1])) ∨
   ((parseOf s).1 = 0 ∧ ∃ bs, e = .returned (.tuple #[.pointer (some ⟨w.heap.size, 0, none⟩), .int .i64 0]) ∧ Fm w' w.heap.size (parseOf s).2 bs))

theorem fm_new (w : World) : Fm (w.alloc (.cells #[.slice none 0 0] 67)) w.heap.size [] [] :=
  ⟨⟨none, 0, by simp, World.ownsRow_nil _ _ _ _⟩, by simp, rfl, wf_nil, by intro i n h; simp at h⟩

set_option maxHeartbeats 400000 in
theorem formulate_long (s : ByteArray) (w : World) (hm : s.size ≤ maxLen) (h : 24 < s.size) : Calls Try.prog 48 #[.string s] w (Formulated s w) := by
  unfold maxLen at hm
  have P : Hid (parseOf s = (1, [])) := hid (by simp [parseOf, h])
  go_enter Try.func48, Try.ntmps48
  go_wp2_with fail
  go_ret2
  unfold Formulated
  rw [P.out]
  exact ⟨Below.refl _ _, Or.inl ⟨by decide, rfl⟩⟩

set_option maxHeartbeats 400000 in
theorem formulate_none (s : ByteArray) (w : World) (h : ¬ 24 < s.size) (e0 : ps 25 s 0 [] = none) : Calls Try.prog 48 #[.string s] w (Formulated s w) := by
  have C := rparse_any w.heap.size s (by omega) 25 0 0 [] [] _ (by omega) (fm_new w) (by omega) (by omega) (by simp)
  have P : Hid (parseOf s = (2, [])) := hid (by simp [parseOf, h, e0])
  have E0 := hid e0
  clear e0
  go_enter Try.func48, Try.ntmps48
  go_wp2_with fail
  refine C.mono ?_
  rintro e w1 (⟨_, rfl, hb⟩ | ⟨a', ns', _, _, h, _⟩)
  · go_wp2_with fail
    go_ret2
    unfold Formulated
    rw [P.out]
    exact ⟨((Below.refl _ _).alloc (Nat.le_refl _) _).trans hb, Or.inl ⟨by decide, rfl⟩⟩
  · rw [E0.out] at h; cases h

set_option maxHeartbeats 400000 in
theorem formulate_rest (s : ByteArray) (w : World) (h : ¬ 24 < s.size) (a : Nat) (ns : List Nd) (e0 : ps 25 s 0 [] = some (a, ns)) (h1 : ¬ a = s.size) : Calls Try.prog 48 #[.string s] w (Formulated s w) := by
  have C := rparse_any w.heap.size s (by omega) 25 0 0 [] [] _ (by omega) (fm_new w) (by omega) (by omega) (by simp)
  have P : Hid (parseOf s = (2, [])) := hid (by simp [parseOf, h, e0, h1])
  have g := ps_grows 25 s 0 [] a ns e0
  have E0 := hid e0
  have h3 : ((a : Int) != (s.size : Int)) = true := by rw [bne_iff_ne]; omega
  clear e0
  go_enter Try.func48, Try.ntmps48
  go_wp2_with fail
  refine C.mono ?_
  rintro e w1 (⟨h, _⟩ | ⟨a', ns', ext, L, h, rfl, hf1, hL, hext, hb, hkp⟩)
  · rw [E0.out] at h; cases h
  rw [E0.out] at h
  simp only [Option.some.injEq, Prod.mk.injEq] at h
  obtain ⟨rfl, rfl⟩ := h
  go_wp2_with fail
  go_ret2
  unfold Formulated
  rw [P.out]
  exact ⟨((Below.refl _ _).alloc (Nat.le_refl _) _).trans hb, Or.inl ⟨by decide, rfl⟩⟩

set_option maxHeartbeats 800000 in
theorem formulate_whole (s : ByteArray) (w : World) (h : ¬ 24 < s.size) (ns : List Nd) (e0 : ps 25 s 0 [] = some (s.size, ns)) : Calls Try.prog 48 #[.string s] w (Formulated s w) := by
  have C := rparse_any w.heap.size s (by omega) 25 0 0 [] [] _ (by omega) (fm_new w) (by omega) (by omega) (by simp)
  have g := ps_grows 25 s 0 [] s.size ns e0
  have hc : cntTo s s.size = ns.length := by have := ps_cnt 25 s 0 [] s.size ns e0; simp [cntTo] at this; omega
  have P3 : Hid (8 < ns.length → parseOf s = (3, [])) := hid (fun h2 => by simp [parseOf, h, e0, h2])
  have P0 : Hid (¬ 8 < ns.length → parseOf s = (0, ns)) := hid (fun h2 => by simp [parseOf, h, e0, h2])
  have E0 := hid e0
  have HC := hid hc
  clear e0 hc
  go_enter Try.func48, Try.ntmps48
  go_wp2_with fail
  refine C.mono ?_
  rintro e w1 (⟨h, _⟩ | ⟨a', ns', ext, L, h, rfl, hf1, hL, hext, hb, hkp⟩)
  · rw [E0.out] at h; cases h
  rw [E0.out] at h
  simp only [Option.some.injEq, Prod.mk.injEq] at h
  obtain ⟨rfl, rfl⟩ := h
  have HB := hid (((Below.refl w.heap.size w).alloc (Nat.le_refl _) _).trans hb)
  have HF := hid hf1
  have hnl : ns.length ≤ 24 := by simp at g; omega
  clear hb hf1 hL hext hkp C g
  go_wp2_with fail
  go_loop [8, 9] (fun n i => ∃ k : Nat, k ≤ s.size ∧ i = .int .i64 k ∧ n = .int .i64 (cntTo s k)) (fun _ i => s.size - (intOf i).toNat)
  case atStart => exact ⟨0, Nat.zero_le _, rfl, rfl⟩
  case round =>
    obtain ⟨k, hk, rfl, rfl⟩ := hrel
    have hd := cntTo_le s k
    by_cases hlt : k < s.size
    · have hx := bt_in hlt
      by_cases h40 : bt s k = 40
      · have k1 : (((s[k]'hlt).toNat : Int) != 40) = false := by rw [bne_eq_false_iff_eq]; omega
        have HS := hid (cnt_out (s := s) (k := k) (Or.inl h40))
        clear h40 hx
        go_wp2_with fail
        go_round
        case rel => exact ⟨k + 1, by omega, by go_num, by rw [HS.out]⟩
        case measure => simp [intOf]; omega
      by_cases h41 : bt s k = 41
      · have k1 : (((s[k]'hlt).toNat : Int) != 40) = true := by rw [bne_iff_ne]; omega
        have k2 : (((s[k]'hlt).toNat : Int) != 41) = false := by rw [bne_eq_false_iff_eq]; omega
        have HS := hid (cnt_out (s := s) (k := k) (Or.inr h41))
        clear h40 h41 hx
        go_wp2_with fail
        go_round
        case rel => exact ⟨k + 1, by omega, by go_num, by rw [HS.out]⟩
        case measure => simp [intOf]; omega
      have k1 : (((s[k]'hlt).toNat : Int) != 40) = true := by rw [bne_iff_ne]; omega
      have k2 : (((s[k]'hlt).toNat : Int) != 41) = true := by rw [bne_iff_ne]; omega
      have HS := hid (cnt_in (s := s) (k := k) h40 h41)
      clear h40 h41 hx
      go_wp2_with fail
      go_round
      case rel => exact ⟨k + 1, by omega, by go_num, by rw [HS.out]; go_num⟩
      case measure => simp [intOf]; omega
    · have hk2 : k = s.size := by omega
      subst hk2
      by_cases h8 : 8 < ns.length
      · have h9 : 8 < cntTo s s.size := by rw [HC.out]; exact h8
        go_wp2_with fail
        go_ret2
        unfold Formulated
        rw [P3.out h8]
        exact ⟨HB.out, Or.inl ⟨by decide, rfl⟩⟩
      · have h9 : ¬ 8 < cntTo s s.size := by rw [HC.out]; exact h8
        go_wp2_with fail
        go_ret2
        unfold Formulated
        rw [P0.out h8]
        exact ⟨HB.out, Or.inr ⟨rfl, _, rfl, HF.out⟩⟩

theorem formulate_any (s : ByteArray) (w : World) (hm : s.size ≤ maxLen) : Calls Try.prog 48 #[.string s] w (Formulated s w) := by
  by_cases h : 24 < s.size
  · exact formulate_long s w hm h
  cases e0 : ps 25 s 0 [] with
  | none => exact formulate_none s w h e0
  | some x =>
    obtain ⟨a, ns⟩ := x
    by_cases h1 : a = s.size
    · subst h1; exact formulate_whole s w h ns e0
    · exact formulate_rest s w h a ns e0 h1

end Go.Proofs.Ytjagijohfkffiaa

/- The walks of the reference's row (whole), Of and Holds. -/
namespace Go.Proofs.Ytjagijohfkffiaa
open Go.RowKit
set_option linter.unusedVariables false

section
variable (F : Nat) (ns : List Nd) (bs : List Nat) (a1 a2 : Option Addr) (l1 c1 l2 c2 : Nat) (z1 z2 : List Int) (w : World)

end

section
variable (s : ByteArray) (a1 a2 : Option Addr) (l1 c1 l2 c2 : Nat) (z1 z2 : List Int) (w : World)

end

end Go.Proofs.Ytjagijohfkffiaa

/- The walk of the reference's Judge. -/
namespace Go.Proofs.Ytjagijohfkffiaa
open Go.RowKit
set_option linter.unusedVariables false

theorem afB_snoc (ns : List Nd) (vs : List Nat) : ∀ (u : List Nat) (f : Nat → Bool) (a : Nat), afB ns vs (u ++ [a]) f = onTo ns vs (afB ns vs u f) a vs.length
  | [], f, a => rfl
  | x :: u, f, a => afB_snoc ns vs u _ a

theorem told_is {ns : List Nd} (hg : Good ns) {vs : List Nat} (hL : LiveSets ns vs.length (mOf vs)) (u : List Nat) (hu : ∀ x ∈ u, x < 8) :
    Verdict ns u (toldB (noneB (afB ns vs u (fun i => mOf vs i (ns.length - 1) == true)) vs.length) (noneB (afB ns vs u (fun i => mOf vs i (ns.length - 1) == false)) vs.length)) := by
  have h1 := none_may hg hL u hu true
  have h2 := none_may hg hL u hu false
  generalize noneB (afB ns vs u (fun i => mOf vs i (ns.length - 1) == true)) vs.length = y at *
  generalize noneB (afB ns vs u (fun i => mOf vs i (ns.length - 1) == false)) vs.length = n at *
  unfold Verdict toldB
  cases y with
  | true => exact Or.inl ⟨rfl, fun h => by have := h1.2 h; cases this⟩
  | false =>
    cases n with
    | true => exact Or.inr (Or.inl ⟨rfl, h1.1 rfl, fun h => by have := h2.2 h; cases this⟩)
    | false => exact Or.inr (Or.inr ⟨rfl, h1.1 rfl, h2.1 rfl⟩)

section
variable (s : ByteArray) (a1 : Option Addr) (l1 c1 : Nat) (z1 : List Int) (w : World)

end

end Go.Proofs.Ytjagijohfkffiaa

/- Plain mathematics: the reference's states are the program's; nets whose places are a spot and a set. -/
namespace Go.Proofs.Ytjagijohfkffiaa
set_option linter.unusedVariables false

theorem lives_cd {ns : List Nd} (hg : Good ns) {v : Nat} (h : Lives ns v) : cdTo (tb v) ns.length = v := by
  obtain ⟨q, h0, hq, _⟩ := h
  obtain ⟨_, l, _, e⟩ := ew_any.1 (hq 0)
  rw [h0] at e
  have h1 := bef_step hg l (q 1)
  have h2 := bef_cd hg h1 (EqOn.refl _ _)
  rw [← e] at h2
  exact h2.symm

/-- The row of a word: the sets that may stand behind it. -/
def yr (ns : List Nd) (vs : List Nat) (hd : Bool) (u : List Nat) : Nat → Bool := afB ns vs u (fun i => mOf vs i (ns.length - 1) == hd)
theorem yr_snoc (ns : List Nd) (vs : List Nat) (hd : Bool) (u : List Nat) (a : Nat) : yr ns vs hd (u ++ [a]) = onTo ns vs (yr ns vs hd u) a vs.length := afB_snoc ns vs u _ a

/-- Like rows, like groups. -/
theorem rows_geq {ns : List Nd} (hg : Good ns) {liv : Nat → Bool} (hl : LivP ns (calmsTo ns ns.length) liv) {vs : List Nat} (hL : LiveSets ns vs.length (mOf vs)) {u v : List Nat} (hu : ∀ x ∈ u, x < 8) (hv : ∀ x ∈ v, x < 8) (b : Bool) :
    (∀ j, j < vs.length → yr ns vs b u j = yr ns vs b v j) ↔ geq (runG ns liv (begB ns liv) u) (runG ns liv (begB ns liv) v) = true := by
  constructor
  · intro h
    refine geq_iff.2 fun N hN => ?_
    rw [Bool.eq_iff_iff, runG_iff hg hl u hu, runG_iff hg hl v hv]
    cases e : liv N with
    | false => simp
    | true =>
      have lN := (hl N).1 e
      obtain ⟨i, hi, he⟩ := hL.all _ (live_chain' hg lN)
      have hc : cdTo (mOf vs i) ns.length = N := by rw [← lives_cd hg lN]; exact (cdTo_congr _ he).symm
      have h1 := h i hi
      unfold yr at h1
      rw [af_bit hg hL hu b hi, af_bit hg hL hv b hi, hc] at h1
      cases e1 : (back ns u N).testBit (ns.length - 1) <;> cases e2 : (back ns v N).testBit (ns.length - 1) <;> rw [e1, e2] at h1 <;> cases b <;> simp_all
  · intro h j hj
    unfold yr
    have lj := chain_live' hg (hL.live j hj)
    have h1 := geq_iff.1 h _ (cdTo_lt (mOf vs j) _ hg.le)
    rw [Bool.eq_iff_iff, runG_iff hg hl u hu, runG_iff hg hl v hv] at h1
    have h2 := (hl _).2 lj
    simp only [h2, true_and] at h1
    rw [af_bit hg hL hu b hj, af_bit hg hL hv b hj, Bool.eq_iff_iff.2 h1]

theorem rows_step {ns : List Nd} (hg : Good ns) {liv : Nat → Bool} (hl : LivP ns (calmsTo ns ns.length) liv) {vs : List Nat} (hL : LiveSets ns vs.length (mOf vs)) {u v : List Nat} {a : Nat} (ha : a < 8) (hu : ∀ x ∈ u, x < 8) (hv : ∀ x ∈ v, x < 8) (b : Bool) :
    (∀ j, j < vs.length → yr ns vs b u j = onTo ns vs (yr ns vs b v) a vs.length j) ↔ geq (runG ns liv (begB ns liv) u) (stepG ns liv (runG ns liv (begB ns liv) v) a) = true := by
  rw [← yr_snoc, ← runG_snoc]
  refine rows_geq hg hl hL hu (fun x hx => ?_) b
  rcases List.mem_append.1 hx with hx | hx
  · exact hv x hx
  · simp at hx; omega

/-- What told tells of the rows of a word is what its group tells. -/
theorem told_verd {ns : List Nd} (hg : Good ns) {liv : Nat → Bool} (hl : LivP ns (calmsTo ns ns.length) liv) {vs : List Nat} (hL : LiveSets ns vs.length (mOf vs)) {u : List Nat} (hu : ∀ x ∈ u, x < 8) :
    toldB (noneB (yr ns vs true u) vs.length) (noneB (yr ns vs false u) vs.length) = verdG liv (runG ns liv (begB ns liv) u) :=
  verdict_fun (told_is hg hL u hu) (verdG_verdict hg hl hu)

/-! ### Places: a spot and a set -/
/-! ### What slips -/
end Go.Proofs.Ytjagijohfkffiaa
