/- The walk of lasting. -/
import Derived.Test.YtjagijohfkffiaaDrop
namespace Go.Proofs.Ytjagijohfkffiaa
open Go.RowKit
set_option linter.unusedVariables false

/-- How many cells of a slice's block say true. -/
def truesF (w : World) (g : Nat) : Nat → Nat
  | 0 => 0
  | n + 1 => truesF w g n + (match w.cell? ⟨g, n, none⟩ with | some (.bool true) => 1 | _ => 0)
theorem truesF_eq {w : World} {g N : Nat} {f : Nat → Bool} (h : FlatG w g N f) : ∀ n, n ≤ N → truesF w g n = cntT f n
  | 0, _ => rfl
  | n + 1, hn => by
    rw [truesF, cntT, truesF_eq h n (by omega), h.c n (by omega)]
    cases f n <;> simp
def blockOf (v : Value) : Nat := match v with
  | .slice (some a) _ _ => a.block
  | _ => 0

/-- What is left at a round's head. -/
structure LastI (E : Nat → Nat → Prop) (N : Nat) (cs : List (Nat → Bool)) (f : Nat → Bool) : Prop where
  lt : ∀ x, f x = true → x < N
  all : ∀ x, Forever E cs x → f x = true
  sub : ∀ x, dropP E cs (fun y => f y = true) x → f x = true

theorem drop_from {E : Nat → Nat → Prop} {N : Nat} (hE : ∀ a b, E a b → a < N) : ∀ (cs : List (Nat → Bool)) {G : Nat → Prop} {x : Nat}, dropP E cs G x → x < N := by
  intro cs G x h
  obtain ⟨y, _, ⟨L, c, he, _⟩, _⟩ := drop_walk h
  exact hE _ _ he
theorem last_start {E : Nat → Nat → Prop} {N : Nat} (hE : ∀ a b, E a b → a < N) (cs : List (Nat → Bool)) : LastI E N cs (fun x => decide (x < N)) :=
  ⟨fun x h => by simpa using h, fun x ⟨q, h0, hq, _⟩ => by rw [← h0]; simpa using hE _ _ (hq 0), fun x h => by simpa using drop_from hE cs h⟩
theorem last_next {E : Nat → Nat → Prop} {N : Nat} (hE : ∀ a b, E a b → a < N) {cs : List (Nat → Bool)} {f f' : Nat → Bool} (h : LastI E N cs f) (hd : ∀ x, f' x = true ↔ dropP E cs (fun y => f y = true) x) : LastI E N cs f' :=
  ⟨fun x hx => drop_from hE cs ((hd x).1 hx), fun x hx => (hd x).2 (forever_drop h.all x hx), fun x hx => (hd x).2 (drop_mono (fun y hy => h.sub y ((hd y).1 hy)) x hx)⟩
theorem last_done {E : Nat → Nat → Prop} {N : Nat} (hE : ∀ a b, E a b → b < N) {cs : List (Nat → Bool)} {f f' : Nat → Bool} (h : LastI E N cs f) (hd : ∀ x, f' x = true ↔ dropP E cs (fun y => f y = true) x) (he : ∀ i, i < N → f' i = f i) (x : Nat) : f x = true ↔ Forever E cs x :=
  ⟨fun hx => drop_forever hE (fun y hy => (hd y).1 (by rw [he y (h.lt y hy)]; exact hy)) (h.lt x hx) hx, h.all x⟩
theorem last_less {E : Nat → Nat → Prop} {N : Nat} {cs : List (Nat → Bool)} {f f' : Nat → Bool} (h : LastI E N cs f) (hd : ∀ x, f' x = true ↔ dropP E cs (fun y => f y = true) x) (hne : ¬ ∀ i, i < N → f' i = f i) : cntT f' N < cntT f N := by
  obtain ⟨i, hi, hf⟩ : ∃ i, i < N ∧ f' i ≠ f i := Classical.byContradiction fun hh => hne fun i hi => Classical.byContradiction fun hx => hh ⟨i, hi, hx⟩
  have hs : ∀ x, f' x = true → f x = true := fun x hx => h.sub x ((hd x).1 hx)
  have h1 : f' i = false := by
    cases e : f' i with
    | false => rfl
    | true => rw [e, hs i e] at hf; exact absurd rfl hf
  have h2 : f i = true := by
    cases e : f i with
    | true => rfl
    | false => rw [e, h1] at hf; exact absurd rfl hf
  exact cntT_lt h1 h2 N hi (fun x _ => hs x)

theorem ones_step (j : Nat) : upd (upTo (fun _ => true) j) j true = upTo (fun _ => true) (j + 1) := upTo_step (fun _ => true) j

set_option maxHeartbeats 8000000 in
set_option maxRecDepth 100000 in
theorem lasting_any (P gi n icap : Nat) (ns : List Nd) (into : Nat → List (Nat × Nat)) (cs : List (Nat → Bool)) (w : World) (h8 : ns.length ≤ 8) (hp : WaysP n into) (hbm : BefM w P ns) (hP : P < w.heap.size) (hcm : CalmM w P cs) (hcl : cs.length ≤ 8) (hw : WaysM w gi n into) :
    Calls Try.prog 113 #[.pointer (some ⟨P, 0, none⟩), .agg #[.slice (some ⟨gi, 0, none⟩) n icap]] w fun e w' => ∃ g' f, e = .returned (.slice (some ⟨g', 0, none⟩) n n) ∧ w.heap.size ≤ g' ∧ g' < w'.heap.size ∧ FlatG w' g' (n * 256) f ∧ (∀ x, f x = true ↔ Forever (Ew n ns into) (spreads cs) x) ∧ Below w.heap.size w w' := by
  have hn := hp.le
  have HP := hid hp
  have HM := hid hbm
  have HW := hid hw
  have HCM := hid hcm
  have hgi := hw.lt
  have HEF : Hid (∀ a b, Ew n ns into a b → a < n * 256) := hid (fun a b h => ew_from h8 hp h)
  clear hp hbm hw hcm
  go_enter Try.func113, Try.ntmps113
  go_wp2_with (at_make; go_must (refine wpList_make_groups _ rfl (.tmp 11) rfl n rfl (by omega) ?_))
  intro w1 F1 hlt1 hb1
  have C1 : Hid (w1.cell? ⟨w.heap.size, 0, none⟩ = some (.slice (some ⟨gi, 0, none⟩) n icap)) := hid ((hb1.cell (p := ⟨w.heap.size, 0, none⟩) (by show w.heap.size < w.heap.size + 1; omega)).trans (by simp))
  have HB1 := hid (((Below.refl w.heap.size w).alloc (Nat.le_refl _) (.cells #[.slice (some ⟨gi, 0, none⟩) n icap] 175)).trans (hb1.mono (by omega)))
  have F1 := hid F1
  clear hb1
  go_wp2_with fail
  go_loopw [15] (fun i wq => ∃ t : Nat, t ≤ n ∧ i = .int .i64 t ∧ Hid (FlatG wq (w.heap.size + 1) (n * 256) (upTo (fun _ => true) (t * 256))) ∧ Hid (wq.cell? ⟨w.heap.size, 0, none⟩ = some (.slice (some ⟨gi, 0, none⟩) n icap)) ∧ w.heap.size + 1 < wq.heap.size ∧ Hid (Below w.heap.size w wq)) (fun i _ => n - (intOf i).toNat)
  case atStart => exact ⟨0, Nat.zero_le _, rfl, by rw [Nat.zero_mul, upTo_zero]; exact F1, C1, hlt1, HB1⟩
  case round =>
    obtain ⟨t, ht, rfl, H5, HC, hz, HB⟩ := hrel
    rename World => W0
    by_cases hlt : t < n
    · go_wp2_with fail
      go_loopw [18] (fun i wq => ∃ j : Nat, j ≤ 256 ∧ i = .int .i64 j ∧ Hid (FlatG wq (w.heap.size + 1) (n * 256) (upTo (fun _ => true) (t * 256 + j))) ∧ Hid (wq.cell? ⟨w.heap.size, 0, none⟩ = some (.slice (some ⟨gi, 0, none⟩) n icap)) ∧ w.heap.size + 1 < wq.heap.size ∧ Hid (Below w.heap.size w wq)) (fun i _ => 256 - (intOf i).toNat)
      case atStart => exact ⟨0, by omega, rfl, H5, HC, hz, HB⟩
      case round =>
        obtain ⟨j, hj, rfl, H5, HC, hz3, HB⟩ := hrel
        rename World => W3
        by_cases hlj : j < 256
        · have q0 := H5.out.f (t * 256 + j) (by omega)
          have q1 := H5.out.c (t * 256 + j) (by omega)
          have D5 := hid (H5.out.set (t * 256 + j) true)
          rw [ones_step] at D5
          have DC : Hid ((W3.setCell ⟨w.heap.size + 1, t * 256 + j, none⟩ (.bool true)).cell? ⟨w.heap.size, 0, none⟩ = some (.slice (some ⟨gi, 0, none⟩) n icap)) := hid (by
            rw [World.cell?_setCell_other _ _ _ _ (fun e => by have := congrArg Addr.block e; simp at this)]
            exact HC.out)
          have DB := hid (HB.out.setCell (p := ⟨w.heap.size + 1, t * 256 + j, none⟩) (by show w.heap.size ≤ w.heap.size + 1; omega) (.bool true))
          generalize upTo (fun _ => true) (t * 256 + j) (t * 256 + j) = ov at *
          go_wp2_with fail
          go_roundw
          case rel => exact ⟨j + 1, by omega, by go_num, D5, DC, by simp; omega, DB⟩
          case measure => simp [intOf]; omega
        · obtain rfl : j = 256 := by omega
          go_wp2_with fail
          go_roundw
          case rel => exact ⟨t + 1, by omega, by go_num, by rw [show (t + 1) * 256 = t * 256 + 256 by omega]; exact H5, HC, hz3, HB⟩
          case measure => simp [intOf]; omega
    · obtain rfl : t = n := by omega
      have H5 := hid (H5.out.congr (f' := fun x => decide (x < t * 256)) (fun j hj => by simp [upTo, hj]))
      go_wp2_with fail
      go_loopw [5] (fun v wq => ∃ (g2 : Nat) (f : Nat → Bool), v = .slice (some ⟨g2, 0, none⟩) t t ∧ w.heap.size ≤ g2 ∧ g2 < wq.heap.size ∧ Hid (FlatG wq g2 (t * 256) f) ∧ Hid (LastI (Ew t ns into) (t * 256) (spreads cs) f) ∧ Hid (wq.cell? ⟨w.heap.size, 0, none⟩ = some (.slice (some ⟨gi, 0, none⟩) t icap)) ∧ w.heap.size < wq.heap.size ∧ Hid (Below w.heap.size w wq)) (fun v wq => truesF wq (blockOf v) (t * 256))
      case atStart => exact ⟨_, _, rfl, by omega, hz, H5, hid (last_start HEF.out _), HC, by omega, HB⟩
      case round =>
        obtain ⟨g2, f, rfl, hg2, hg2s, HF, HI, HC, hsz, HB⟩ := hrel
        rename World => W4
        have hc := HC.out
        have HTR := hid (truesF_eq HF.out _ (Nat.le_refl _))
        go_wp2_with fail
        refine (drop_any P gi t icap g2 t ns into cs f W4 h8 HP.out (HM.out.below HB.out hP) (by omega) (HCM.out.below HB.out hP) hcl (HW.out.below HB.out) HF.out hg2s).mono ?_
        rintro e w5 ⟨g5, f5, rfl, hg5, hg5s, F5, L5, hb5⟩
        have HF5 := hid (HF.out.below hb5 hg2s)
        have C5 := hid ((hb5.cell (p := ⟨w.heap.size, 0, none⟩) hsz).trans HC.out)
        have B5 := hid (HB.out.trans (hb5.mono (by omega)))
        have F5 := hid F5
        have L5 := hid L5
        have hs5 := hb5.size
        clear hb5 hc
        go_wp2_with fail
        refine (same_any g5 g2 t t t f5 f w5 (by omega) F5.out HF5.out hg5s (by omega)).mono ?_
        rintro e w6 ⟨b, rfl, hbq, hb6⟩
        have HBQ := hid hbq
        have hs6 := hb6.size
        cases b with
        | true =>
          have HE := hid (fun x => last_done (fun a b h => ew_lt a b h) HI.out L5.out (HBQ.out.1 rfl) x)
          have F6 := hid (HF5.out.below hb6 (by omega))
          have B6 := hid (B5.out.trans (hb6.mono (by omega)))
          clear hb6 hbq
          go_wp2_with fail
          go_ret
          exact ⟨g2, f, rfl, hg2, by omega, F6.out, HE.out, B6.out⟩
        | false =>
          have HL := hid (last_less HI.out L5.out (fun k => by simpa using HBQ.out.2 k))
          have HN := hid (last_next HEF.out HI.out L5.out)
          have F6 := hid (F5.out.below hb6 hg5s)
          have B6 := hid (B5.out.trans (hb6.mono (by omega)))
          have C6 := hid ((hb6.cell (p := ⟨w.heap.size, 0, none⟩) (by show w.heap.size < w5.heap.size; omega)).trans C5.out)
          clear hb6 hbq
          go_wp2_with fail
          go_roundw
          case rel => exact ⟨g5, f5, rfl, by omega, by omega, F6, HN, C6, by omega, B6⟩
          case measure =>
            have h1 := truesF_eq F6.out _ (Nat.le_refl _)
            have h2 := HL.out
            have h3 := HTR.out
            simp only [blockOf] at *
            simp
            omega

end Go.Proofs.Ytjagijohfkffiaa
