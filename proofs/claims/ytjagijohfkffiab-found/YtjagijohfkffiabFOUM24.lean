import Derived.Test.YtjagijohfkffiabFOUM03
import Derived.Test.YtjagijohfkffiabFOUM06
import Derived.Test.YtjagijohfkffiabFOUM07
import Derived.Test.YtjagijohfkffiabFOUM10
import Derived.Test.YtjagijohfkffiabFOUM16
import Derived.Test.YtjagijohfkffiabFOUM18
import Derived.Test.YtjagijohfkffiabFOUM20
import Derived.Test.YtjagijohfkffiabFOUM21
import Derived.Test.YtjagijohfkffiabFOUM23
import Derived.Laws.AppendOwnNone
import Derived.Deep.QuietTactic
import Derived.BigQuiet
import Derived.Deep.AppendLies

/- Plain mathematics: what Check tells. -/
namespace Go.Proofs.Ytjagijohfkffiab
set_option linter.unusedVariables false

/-- An endless row of nodes that begins with one in Start and goes along the edges. -/
def GPath (n : Nat) (ed : Nat → Nat → Bool) (st : Nat → Bool) (q : Nat → Nat) : Prop := st (q 0) = true ∧ ∀ t, q t < n ∧ ed (q t) (q (t + 1)) = true
/-- The formula holds in the graph. -/
def HoldsIn (ns : List Nd) (n : Nat) (lt : Nat → Nat) (ed : Nat → Nat → Bool) (st : Nat → Bool) : Prop := ∀ q, GPath n ed st q → sem (fun i => i + 1) (fun t => lt (q t)) ns (ns.length - 1) 0

section
variable {ns : List Nd} {liv : Nat → Bool} {n : Nat} {lt : Nat → Nat} {ed : Nat → Nat → Bool} {st f : Nat → Bool} {tl : Nat → List (Nat × Nat)}

/-- A row of stands is the truth of its word. -/
theorem stands_sem (hg : Good ns) (hl : LivP ns (calmsTo ns ns.length) liv) (hn : n ≤ 6) (hlt : ∀ i, i < n → lt i < 8) (hA : AlP lt ed n 0 tl) {q : Nat → Nat} (hq : Path (Ew n ns tl) q) (hm : Meets (KL (spreads (calmsTo ns ns.length))) (spreads (calmsTo ns ns.length)).length q) :
    (∀ t, q t / 256 < n ∧ ed (q t / 256) (q (t + 1) / 256) = true) ∧ liv (q 0 % 256) = true ∧ ((q 0 % 256).testBit (ns.length - 1) = true ↔ sem (fun i => i + 1) (fun t => lt (q t / 256)) ns (ns.length - 1) 0) := by
  have h8 := hg.le
  have hpos := hg.pos
  have pt : ∀ t, q t / 256 < n ∧ ed (q t / 256) (q (t + 1) / 256) = true ∧ q t % 256 = bef ns (lt (q t / 256)) (q (t + 1) % 256) := fun t => by
    obtain ⟨_, i, h1, h2, h3⟩ := (al_ew hA hn).1 (hq t)
    have hb := bef_lt h8 (lt i) (q (t + 1) % 256)
    have e1 : q t / 256 = i := by rw [h3]; omega
    have e2 : q t % 256 = bef ns (lt i) (q (t + 1) % 256) := by rw [h3]; omega
    rw [e1, e2]
    exact ⟨h1, h2, rfl⟩
  have lives : Lives ns (q 0 % 256) := by
    refine ⟨fun t => q t % 256, rfl, fun t => ew_any.2 ⟨Nat.mod_lt _ (by omega), lt (q t / 256), hlt _ (pt t).1, (pt t).2.2⟩, meets_of_all fun c hc t => ?_⟩
    obtain ⟨t', h1, h2⟩ := meets_all hm c hc t
    refine ⟨t', h1, ?_⟩
    obtain ⟨k, _, _, rfl⟩ := mem_spreads.1 hc
    unfold spread at h2 ⊢
    rw [Nat.mod_mod]
    exact h2
  have row : ERow ns (fun t => lt (q t / 256)) (fun t => tb (q t % 256)) := by
    refine ⟨fun t => ?_, fun k nd hnd t => ?_⟩
    · have := bef_step hg (lt (q t / 256)) (q (t + 1) % 256)
      rw [← (pt t).2.2] at this
      exact this
    · obtain ⟨h1, h2, h3⟩ := wf2_lt hg.wf hnd
      have hnda : ndAt ns k = nd := by have := ndAt_gets (ns := ns) h1; rw [hnd] at this; exact (Option.some.inj this).symm
      cases hww : waitsB nd.op with
      | false => exact ⟨t, Nat.le_refl _, kept_else hww⟩
      | true =>
        obtain ⟨t', h4, h5⟩ := meets_all hm _ (mem_spreads.2 ⟨k, h1, by rw [hnda]; exact hww, rfl⟩) t
        refine ⟨t', h4, ?_⟩
        have hst := bef_step hg (lt (q t' / 256)) (q (t' + 1) % 256) k nd hnd
        rw [← (pt t').2.2] at hst
        rw [calm_kept hst hww]
        simp only [spread, calmB, hnda] at h5
        exact h5
  refine ⟨fun t => ⟨(pt t).1, (pt t).2.1⟩, (hl _).2 lives, ?_⟩
  rw [← erow_sem hg.wf row _ (by omega)]
  rfl

theorem wrong_parts {beg : Nat → Bool} {x : Nat} (h : wrB st f beg x = true) : st (x / 256) = true ∧ f x = true ∧ beg (x % 256) = false := by
  unfold wrB at h
  simp only [Bool.and_eq_true, Bool.not_eq_true'] at h
  exact ⟨h.1, h.2.1, h.2.2⟩

/-- No stand is wrong: it holds in the graph. -/
theorem none_holds (hg : Good ns) (hl : LivP ns (calmsTo ns ns.length) liv) (hn : n ≤ 6) (hlt : ∀ i, i < n → lt i < 8) (hA : AlP lt ed n 0 tl) (hf : ∀ x, f x = true ↔ Forever (Ew n ns tl) (spreads (calmsTo ns ns.length)) x) (hno : ∀ x, x < n * 256 → wrB st f (begB ns liv) x = false) : HoldsIn ns n lt ed st := by
  intro q hq
  have h8 := hg.le
  have hpos := hg.pos
  apply Classical.byContradiction
  intro hsem
  have hL : Letters (fun t => lt (q t)) := fun t => hlt _ (hq.2 t).1
  obtain ⟨S, hS, hR⟩ := erow_truth hg.wf (fun t => lt (q t))
  have vl : ∀ t, cdTo (S t) ns.length < 256 := fun t => cdTo_lt _ _ h8
  have hfv : f (q 0 * 256 + cdTo (S 0) ns.length) = true := by
    rw [hf]
    refine ⟨fun t => q t * 256 + cdTo (S t) ns.length, rfl, fun t => ?_, meets_of_all fun c hc t => ?_⟩
    · have v1 := vl (t + 1)
      have d1 : (q (t + 1) * 256 + cdTo (S (t + 1)) ns.length) / 256 = q (t + 1) := by omega
      have d2 : (q (t + 1) * 256 + cdTo (S (t + 1)) ns.length) % 256 = cdTo (S (t + 1)) ns.length := by omega
      have hql := (hq.2 (t + 1)).1
      refine (al_ew hA hn).2 ⟨by show q (t + 1) * 256 + cdTo (S (t + 1)) ns.length < n * 256; omega, q t, (hq.2 t).1, by rw [d1]; exact (hq.2 t).2, ?_⟩
      rw [d2, bef_cd hg (hR.step t) (cd_eqOn hg _)]
    · obtain ⟨k, h1, h2, rfl⟩ := mem_spreads.1 hc
      have hnd := ndAt_gets (ns := ns) h1
      obtain ⟨_, h3, h4⟩ := wf2_lt hg.wf hnd
      obtain ⟨t', h5, h6⟩ := hR.kept k _ hnd t
      refine ⟨t', h5, ?_⟩
      rw [calm_kept (hR.step t' k _ hnd) h2] at h6
      have e1 := cd_eqOn hg (S t') k h1
      have hen : endN (ndAt ns k) < ns.length := by unfold endN; split <;> omega
      have e2 := cd_eqOn hg (S t') _ hen
      have v1 := vl t'
      have d2 : (q t' * 256 + cdTo (S t') ns.length) % 256 = cdTo (S t') ns.length := by omega
      simp only [tb] at e1 e2
      simp only [spread, calmB, d2, e1, e2]
      exact h6
  have v0 := vl 0
  have hq0 := (hq.2 0).1
  have h9 := hno (q 0 * 256 + cdTo (S 0) ns.length) (by omega)
  unfold wrB at h9
  rw [show (q 0 * 256 + cdTo (S 0) ns.length) / 256 = q 0 by omega, show (q 0 * 256 + cdTo (S 0) ns.length) % 256 = cdTo (S 0) ns.length by omega, hq.1, hfv] at h9
  have hb : begB ns liv (cdTo (S 0) ns.length) = false := by
    unfold begB
    have e1 : (cdTo (S 0) ns.length).testBit (ns.length - 1) = S 0 (ns.length - 1) := cd_eqOn hg (S 0) (ns.length - 1) (by omega)
    have e2 : S 0 (ns.length - 1) = false := by
      cases e : S 0 (ns.length - 1) with
      | false => rfl
      | true => exact absurd ((hS 0 (ns.length - 1)).1 e) hsem
    rw [e1, e2]; simp
  rw [hb] at h9
  simp at h9

/-- A stem and a loop of nodes that show that it does not. -/
structure ShowsP (ns : List Nd) (n : Nat) (lt : Nat → Nat) (ed : Nat → Nat → Bool) (st : Nat → Bool) (SA SB : List Nat) : Prop where
  ne : SB ≠ []
  lt_ : ∀ p ∈ SA ++ SB, p < n
  begins : st ((SA ++ SB).headD 0) = true
  go : Goes (fun a b => ed a b = true) (SA ++ SB) (SB.headD 0)
  sem_ : ¬ sem (fun i => i + 1) (wordAt (SA.map lt) (SB.map lt)) ns (ns.length - 1) 0
  len : SA.length + SB.length ≤ 20000

theorem goes_map {E F : Nat → Nat → Prop} {g : Nat → Nat} (h : ∀ a b, E a b → F (g a) (g b)) : ∀ {l : List Nat} {e : Nat}, Goes E l e → Goes F (l.map g) (g e)
  | [], e, _ => trivial
  | a :: l, e, ⟨h1, h2⟩ => by
    refine ⟨?_, goes_map h h2⟩
    have := h _ _ h1
    cases l with
    | nil => exact this
    | cons b l => exact this

theorem path_shows (hg : Good ns) (hl : LivP ns (calmsTo ns ns.length) liv) (hn : n ≤ 6) (hlt : ∀ i, i < n → lt i < 8) (hA : AlP lt ed n 0 tl) {A B : List Nat} {t : Nat} (hG : Goes (Ew n ns tl) A t) (hP : LoopP (Ew n ns tl) (spreads (calmsTo ns ns.length)) t B) (hw : wrB st f (begB ns liv) ((A ++ B).headD 0) = true) (hlen : A.length + B.length ≤ 20000) (hpn : ∀ p ∈ A ++ B, p < n * 256) :
    ShowsP ns n lt ed st (A.map (· / 256)) (B.map (· / 256)) := by
  have hb : 0 < B.length := List.length_pos_iff.2 hP.ne
  obtain ⟨hq, hm⟩ := rowAt_path hG hP
  obtain ⟨p1, p2, p3⟩ := stands_sem hg hl hn hlt hA hq hm
  obtain ⟨w1, w2, w3⟩ := wrong_parts hw
  have h0 : rowAt A B 0 = (A ++ B).headD 0 := by
    unfold rowAt
    cases A with
    | nil =>
      simp
      cases B with
      | nil => simp at hb
      | cons b B => simp
    | cons a A => simp
  have hE : ∀ a b, Ew n ns tl a b → ed (a / 256) (b / 256) = true := fun a b h => by
    obtain ⟨_, i, h1, h2, h3⟩ := (al_ew hA hn).1 h
    have hbl := bef_lt hg.le (lt i) (b % 256)
    rw [h3, show (i * 256 + bef ns (lt i) (b % 256)) / 256 = i by omega]
    exact h2
  have hh : B.headD 0 = t := hP.head
  have hhd : (B.map (· / 256)).headD 0 = t / 256 := by
    cases B with
    | nil => simp at hb
    | cons b B => simp at hh ⊢; rw [hh]
  refine ⟨by simpa using hP.ne, fun p hp => ?_, ?_, ?_, ?_, by simpa using hlen⟩
  · rw [← List.map_append] at hp
    obtain ⟨x, hx, rfl⟩ := List.mem_map.1 hp
    have := hpn x hx
    omega
  · rw [← List.map_append]
    have : ((A ++ B).map (· / 256)).headD 0 = (A ++ B).headD 0 / 256 := by
      cases hAB : A ++ B with
      | nil => rfl
      | cons a l => rfl
    rw [this]
    exact w1
  · rw [← List.map_append, hhd]
    exact goes_map (g := (· / 256)) hE (goes_app (by rw [show B.headD t = t by cases B with | nil => simp at hb | cons b B => simpa using hh]; exact hG) hP.go)
  · have hx : wordAt ((A.map (· / 256)).map lt) ((B.map (· / 256)).map lt) = fun i => lt (rowAt A B i / 256) := by
      funext i
      unfold wordAt rowAt
      simp only [List.length_map]
      by_cases c : i < A.length
      · rw [if_pos c, if_pos c]
        simp [List.getD, List.getElem?_eq_getElem c]
      · rw [if_neg c, if_neg c]
        have c2 : (i - A.length) % B.length < B.length := Nat.mod_lt _ hb
        simp [List.getD, List.getElem?_eq_getElem c2]
    rw [hx, ← p3]
    rw [h0]
    rw [h0] at p2
    unfold begB at w3
    rw [p2, Bool.true_and] at w3
    rw [w3]
    simp
end

end Go.Proofs.Ytjagijohfkffiab

/- Plain mathematics: what a path that shows it gives the reference's Shows. -/
namespace Go.Proofs.Ytjagijohfkffiab
open Go.RowKit
set_option linter.unusedVariables false

theorem goes_spot {E : Nat → Nat → Prop} : ∀ {l : List Nat} {e : Nat}, Goes E l e → ∀ i, i < l.length → E (l.getD i 0) (if i + 1 < l.length then l.getD (i + 1) 0 else e)
  | [], e, _, i, hi => by simp at hi
  | a :: l, e, ⟨h1, h2⟩, 0, hi => by
    cases l with
    | nil => simpa using h1
    | cons b l => simpa using h1
  | a :: l, e, ⟨h1, h2⟩, i + 1, hi => by
    have h := goes_spot h2 i (by simpa using hi)
    simpa using h

section
variable {ns : List Nd} {n : Nat} {lt : Nat → Nat} {ed : Nat → Nat → Bool} {st : Nat → Bool} {SA SB : List Nat}

theorem show_edge (h : ShowsP ns n lt ed st SA SB) (i : Nat) (hi : i < (SA ++ SB).length) : ed ((SA ++ SB).getD i 0) (if i + 1 < (SA ++ SB).length then (SA ++ SB).getD (i + 1) 0 else SB.headD 0) = true := goes_spot h.go i hi

theorem show_lt (h : ShowsP ns n lt ed st SA SB) (i : Nat) (hi : i < (SA ++ SB).length) : (SA ++ SB).getD i 0 < n := by
  refine h.lt_ _ ?_
  rw [List.getD, List.getElem?_eq_getElem hi]
  exact List.getElem_mem _

theorem show_pos (h : ShowsP ns n lt ed st SA SB) : 0 < SB.length := List.length_pos_iff.2 h.ne

theorem show_not (hg : Good ns) (h : ShowsP ns n lt ed st SA SB) (hlt : ∀ i, i < n → lt i < 8) : holdsB SA.length ns ((SA ++ SB).map lt) = false := by
  have h8 : ∀ x ∈ SA.map lt ++ SB.map lt, x < 8 := fun x hx => by
    rw [← List.map_append] at hx
    obtain ⟨p, hp, rfl⟩ := List.mem_map.1 hx
    exact hlt p (h.lt_ p hp)
  have hi := holdsB_inf (A := SA.map lt) (B := SB.map lt) hg (by simpa using show_pos h) h8
  rw [List.length_map, ← List.map_append] at hi
  cases e : holdsB SA.length ns ((SA ++ SB).map lt) with
  | false => rfl
  | true => exact absurd (hi.1 e) h.sem_

end

/-- The start of it is among the starts. -/
theorem show_start {ns : List Nd} {n : Nat} {lt : Nat → Nat} {ed : Nat → Nat → Bool} {ss : List Int} {SA SB : List Nat} (h : ShowsP ns n lt ed (gSt ss) SA SB) : ∃ j, j < ss.length ∧ ss.getD j 0 = (((SA ++ SB).getD 0 0 : Nat) : Int) := by
  have hb := inB_iff.1 h.begins
  obtain ⟨j, hj, e⟩ := List.getElem_of_mem hb
  refine ⟨j, hj, ?_⟩
  rw [List.getD, List.getElem?_eq_getElem hj]
  simp only [Option.getD_some]
  rw [e]
  congr 1
  cases (SA ++ SB) <;> rfl

end Go.Proofs.Ytjagijohfkffiab

/- The walk of the reference's row, by kinds of parts. -/
namespace Go.Proofs.Ytjagijohfkffiab
open Go.RowKit
set_option linter.unusedVariables false
section
variable (ns : List Nd) (bs : List Nat) (gw n wcap back : Nat) (xs : List Nat)

end

end Go.Proofs.Ytjagijohfkffiab

/- The walk of the reference's row, by kinds of parts. -/
namespace Go.Proofs.Ytjagijohfkffiab
open Go.RowKit
set_option linter.unusedVariables false
section
variable (ns : List Nd) (bs : List Nat) (gw n wcap back : Nat) (xs : List Nat)

end

end Go.Proofs.Ytjagijohfkffiab

/- The walk of the reference's row, by kinds of parts. -/
namespace Go.Proofs.Ytjagijohfkffiab
open Go.RowKit
set_option linter.unusedVariables false
section
variable (ns : List Nd) (bs : List Nat) (gw n wcap back : Nat) (xs : List Nat)

end

end Go.Proofs.Ytjagijohfkffiab

/- The walk of the reference's parse. -/
namespace Go.Proofs.Ytjagijohfkffiab
open Go.RowKit
set_option linter.unusedVariables false

end Go.Proofs.Ytjagijohfkffiab

/- The walk of the reference's parse: a sign for one formula. -/
namespace Go.Proofs.Ytjagijohfkffiab
open Go.RowKit
set_option linter.unusedVariables false

end Go.Proofs.Ytjagijohfkffiab

/- The walk of the reference's parse: a bracket. -/
namespace Go.Proofs.Ytjagijohfkffiab
open Go.RowKit
set_option linter.unusedVariables false

end Go.Proofs.Ytjagijohfkffiab

/- The walks of the reference's parse (whole), Formulate and Size. -/
namespace Go.Proofs.Ytjagijohfkffiab
open Go.RowKit
set_option linter.unusedVariables false

end Go.Proofs.Ytjagijohfkffiab

/- The walks of the reference's Formulate and Size. -/
namespace Go.Proofs.Ytjagijohfkffiab
open Go.RowKit
set_option linter.unusedVariables false

end Go.Proofs.Ytjagijohfkffiab

/- The walks of the reference's row (whole), Of and Holds. -/
namespace Go.Proofs.Ytjagijohfkffiab
open Go.RowKit
set_option linter.unusedVariables false

section
variable (F : Nat) (ns : List Nd) (bs : List Nat) (a1 a2 : Option Addr) (l1 c1 l2 c2 : Nat) (z1 z2 : List Int) (w : World)

end

section
variable (s : ByteArray) (a1 a2 : Option Addr) (l1 c1 l2 c2 : Nat) (z1 z2 : List Int) (w : World)

end

end Go.Proofs.Ytjagijohfkffiab

/- Plain mathematics: sets of nodes as the reference looks at them, and its nets of sets. -/
namespace Go.Proofs.Ytjagijohfkffiab

def folN (nd : Nd) (k : Nat) (S T : Nat → Bool) : Bool :=
  if nd.op = 88 then S k == T nd.l else if nd.op = 70 then S k == (S nd.l || T k) else if nd.op = 71 then S k == (S nd.l && T k) else if nd.op = 85 then S k == (S nd.r || (S nd.l && T k)) else if nd.op = 82 then S k == (S nd.r && (S nd.l || T k)) else true

end Go.Proofs.Ytjagijohfkffiab

/- The reference's formula in memory, as it is read. -/
namespace Go.Proofs.Ytjagijohfkffiab
open Go.RowKit
set_option linter.unusedVariables false

def bAt (bs : List Nat) (k : Nat) : Nat := bs.getD k 0

structure FR (w : World) (F gp cap : Nat) (ns : List Nd) (bs : List Nat) : Prop where
  c0 : w.cell? ⟨F, 0, none⟩ = some (.slice (some ⟨gp, 0, none⟩) ns.length cap)
  hcap : ns.length ≤ cap
  lt0 : F < w.heap.size
  ltp : gp < w.heap.size
  ptr : ∀ k, k < ns.length → w.cell? ⟨gp, k, none⟩ = some (.pointer (some ⟨bAt bs k, 0, none⟩))
  op : ∀ k, k < ns.length → w.cell? ⟨bAt bs k, 0, none⟩ = some (.int .u8 (ndAt ns k).op)
  lp : ∀ k, k < ns.length → leafB (ndAt ns k).op = false → w.cell? ⟨bAt bs k, 1, none⟩ = some (.pointer (some ⟨bAt bs (ndAt ns k).l, 0, none⟩))
  rp : ∀ k, k < ns.length → twoB (ndAt ns k).op = true → w.cell? ⟨bAt bs k, 2, none⟩ = some (.pointer (some ⟨bAt bs (ndAt ns k).r, 0, none⟩))
  nn : ∀ k, k < ns.length → w.cell? ⟨bAt bs k, 3, none⟩ = some (.int .i64 k)
  ltb : ∀ k, k < ns.length → bAt bs k < w.heap.size

theorem FR.below {w w' : World} {F gp cap : Nat} {ns : List Nd} {bs : List Nat} (h : FR w F gp cap ns bs) (hb : Below w.heap.size w w') : FR w' F gp cap ns bs :=
  ⟨(hb.cell (p := ⟨F, 0, none⟩) h.lt0).trans h.c0, h.hcap, Nat.lt_of_lt_of_le h.lt0 hb.size, Nat.lt_of_lt_of_le h.ltp hb.size, fun k hk => (hb.cell (p := ⟨gp, k, none⟩) h.ltp).trans (h.ptr k hk),
    fun k hk => (hb.cell (p := ⟨bAt bs k, 0, none⟩) (h.ltb k hk)).trans (h.op k hk), fun k hk e => (hb.cell (p := ⟨bAt bs k, 1, none⟩) (h.ltb k hk)).trans (h.lp k hk e), fun k hk e => (hb.cell (p := ⟨bAt bs k, 2, none⟩) (h.ltb k hk)).trans (h.rp k hk e),
    fun k hk => (hb.cell (p := ⟨bAt bs k, 3, none⟩) (h.ltb k hk)).trans (h.nn k hk), fun k hk => Nat.lt_of_lt_of_le (h.ltb k hk) hb.size⟩

theorem Rb.drewN {w : World} {g n : Nat} {f : Nat → Bool} (h : Rb w g n f) (m : Nat) : Rb (w.drewN m) g n f := ⟨h.lt, h.cell⟩
theorem FR.drewN {w : World} {F gp cap : Nat} {ns : List Nd} {bs : List Nat} (h : FR w F gp cap ns bs) (m : Nat) : FR (w.drewN m) F gp cap ns bs :=
  ⟨h.c0, h.hcap, h.lt0, h.ltp, h.ptr, h.op, h.lp, h.rp, h.nn, h.ltb⟩

/-- What can be asked of all nodes at once. -/
def allN (ns : List Nd) (p : Nd → Nat → Bool) : Bool := (List.range ns.length).all fun k => p (ndAt ns k) k
def folB (ns : List Nd) (S T : Nat → Bool) : Bool := allN ns fun nd k => folN nd k S T
end Go.Proofs.Ytjagijohfkffiab

/- A great loop, cut into declarations: its body, its frame. -/
namespace Go.Proofs.Ytjagijohfkffiab
open Go.RowKit
set_option linter.unusedVariables false

end Go.Proofs.Ytjagijohfkffiab

/- Rounds of the reference's fits, by operation. (By gen_great.py.) -/
namespace Go.Proofs.Ytjagijohfkffiab
open Go.RowKit
set_option linter.unusedVariables false

end Go.Proofs.Ytjagijohfkffiab

/- Rounds of the reference's fits, by operation. (By gen_great.py.) -/
namespace Go.Proofs.Ytjagijohfkffiab
open Go.RowKit
set_option linter.unusedVariables false

end Go.Proofs.Ytjagijohfkffiab

/- The walk of the reference's fits. (By gen_great.py.) -/
namespace Go.Proofs.Ytjagijohfkffiab
open Go.RowKit
set_option linter.unusedVariables false

section
variable (F gp cap g scap : Nat) (ns : List Nd) (bs : List Nat) (S : Nat → Bool) (w : World)

end

end Go.Proofs.Ytjagijohfkffiab

/- The walks of the reference's read and kept. -/
namespace Go.Proofs.Ytjagijohfkffiab
open Go.RowKit
set_option linter.unusedVariables false

section
variable (F gp cap g scap : Nat) (ns : List Nd) (bs : List Nat) (S : Nat → Bool) (w : World)

end

end Go.Proofs.Ytjagijohfkffiab

/- The walk of the reference's sets. -/
namespace Go.Proofs.Ytjagijohfkffiab
open Go.RowKit
set_option linter.unusedVariables false

def bitF (v : Nat) : Nat → Bool := fun k => v.testBit k
def setVal (n : Nat) (b : Nat) : Value := .slice (some ⟨b, 0, none⟩) n n
def atN (vs : List Nat) (i : Nat) : Nat := vs.getD i 0

/-- A list of sets, by their numbers. -/
def SetL (w : World) (B : Nat) (v : Value) (n : Nat) (vs : List Nat) : Prop :=
  ∃ b : Nat → Nat, w.ownsRow B 105 1 v vs.length ((List.range vs.length).map fun i => setVal n (b i)) ∧ ∀ i, i < vs.length → w.ownsRow B 4 1 (setVal n (b i)) n (outTo (bitF (atN vs i)) n n)

theorem SetL.keeps {w w' : World} {B : Nat} {v : Value} {n : Nat} {vs : List Nat} (h : SetL w B v n vs) (hb : Below w.heap.size w w') : SetL w' B v n vs := by
  obtain ⟨b, h1, h2⟩ := h
  exact ⟨b, own_keeps h1 hb, fun i hi => own_keeps (h2 i hi) hb⟩

end Go.Proofs.Ytjagijohfkffiab

/- Rounds of the reference's follows, by operation. (By gen_fol.py.) -/
namespace Go.Proofs.Ytjagijohfkffiab
open Go.RowKit
set_option linter.unusedVariables false

end Go.Proofs.Ytjagijohfkffiab

/- The walk of the reference's follows. (By gen_fol.py.) -/
namespace Go.Proofs.Ytjagijohfkffiab
open Go.RowKit
set_option linter.unusedVariables false

section
variable (F gp cap g h scap tcap : Nat) (ns : List Nd) (bs : List Nat) (S T : Nat → Bool) (w : World)

end

end Go.Proofs.Ytjagijohfkffiab

/- The reference's nets in memory; the walk of net. -/
namespace Go.Proofs.Ytjagijohfkffiab
open Go.RowKit
set_option linter.unusedVariables false

def nInts (l : List Nat) : List Value := l.map fun x => Value.int .i64 (x : Nat)

/-- The numbers of a list in memory. -/
def NR (w : World) (v : Value) (l : List Nat) : Prop :=
  ∃ ao cap, v = .slice ao l.length cap ∧ l.length ≤ cap ∧ (0 < l.length → ∃ g, ao = some ⟨g, 0, none⟩ ∧ g < w.heap.size ∧ ∀ i, i < l.length → w.cell? ⟨g, i, none⟩ = some (.int .i64 (atN l i : Nat)))

theorem NR.below {w w' : World} {v : Value} {l : List Nat} (h : NR w v l) (hb : Below w.heap.size w w') : NR w' v l := by
  obtain ⟨ao, cap, e, hc, h⟩ := h
  refine ⟨ao, cap, e, hc, fun h0 => ?_⟩
  obtain ⟨g, e2, hg, hcell⟩ := h h0
  exact ⟨g, e2, Nat.lt_of_lt_of_le hg hb.size, fun i hi => (hb.cell (p := ⟨g, i, none⟩) hg).trans (hcell i hi)⟩

/-- A slice of such lists. -/
def NRs (w : World) (v : Value) (N : Nat) (to : Nat → List Nat) : Prop :=
  ∃ ao cap, v = .slice ao N cap ∧ N ≤ cap ∧ (0 < N → ∃ g, ao = some ⟨g, 0, none⟩ ∧ g < w.heap.size ∧ ∀ i, i < N → ∃ r, w.cell? ⟨g, i, none⟩ = some r ∧ NR w r (to i))
/-- A slice of rows of bools. -/
def BRs (w : World) (v : Value) (K N : Nat) (kp : Nat → Nat → Bool) : Prop :=
  ∃ ao cap, v = .slice ao K cap ∧ K ≤ cap ∧ (0 < K → ∃ g, ao = some ⟨g, 0, none⟩ ∧ g < w.heap.size ∧ ∀ i, i < K → ∃ b, w.cell? ⟨g, i, none⟩ = some (.slice (some ⟨b, 0, none⟩) N N) ∧ Rb w b N (kp i))

/-- The same, with room behind each row. -/
def BRc (w : World) (v : Value) (K N : Nat) (kp : Nat → Nat → Bool) : Prop :=
  ∃ ao cap, v = .slice ao K cap ∧ K ≤ cap ∧ (0 < K → ∃ g, ao = some ⟨g, 0, none⟩ ∧ g < w.heap.size ∧ ∀ i, i < K → ∃ b c, w.cell? ⟨g, i, none⟩ = some (.slice (some ⟨b, 0, none⟩) N c) ∧ N ≤ c ∧ Rb w b N (kp i))
theorem BRc.below {w w' : World} {v : Value} {K N : Nat} {kp : Nat → Nat → Bool} (h : BRc w v K N kp) (hb : Below w.heap.size w w') : BRc w' v K N kp := by
  obtain ⟨ao, cap, e, hc, h⟩ := h
  refine ⟨ao, cap, e, hc, fun h0 => ?_⟩
  obtain ⟨g, e2, hg, hcell⟩ := h h0
  refine ⟨g, e2, Nat.lt_of_lt_of_le hg hb.size, fun i hi => ?_⟩
  obtain ⟨b, c, hr, hk, hn⟩ := hcell i hi
  exact ⟨b, c, (hb.cell (p := ⟨g, i, none⟩) hg).trans hr, hk, hn.below hb⟩

theorem NRs.below {w w' : World} {v : Value} {N : Nat} {to : Nat → List Nat} (h : NRs w v N to) (hb : Below w.heap.size w w') : NRs w' v N to := by
  obtain ⟨ao, cap, e, hc, h⟩ := h
  refine ⟨ao, cap, e, hc, fun h0 => ?_⟩
  obtain ⟨g, e2, hg, hcell⟩ := h h0
  refine ⟨g, e2, Nat.lt_of_lt_of_le hg hb.size, fun i hi => ?_⟩
  obtain ⟨r, hr, hn⟩ := hcell i hi
  exact ⟨r, (hb.cell (p := ⟨g, i, none⟩) hg).trans hr, hn.below hb⟩
theorem BRs.below {w w' : World} {v : Value} {K N : Nat} {kp : Nat → Nat → Bool} (h : BRs w v K N kp) (hb : Below w.heap.size w w') : BRs w' v K N kp := by
  obtain ⟨ao, cap, e, hc, h⟩ := h
  refine ⟨ao, cap, e, hc, fun h0 => ?_⟩
  obtain ⟨g, e2, hg, hcell⟩ := h h0
  refine ⟨g, e2, Nat.lt_of_lt_of_le hg hb.size, fun i hi => ?_⟩
  obtain ⟨b, hr, hn⟩ := hcell i hi
  exact ⟨b, (hb.cell (p := ⟨g, i, none⟩) hg).trans hr, hn.below hb⟩

/-- A net at block P: N places, where one goes, which promises are kept where. -/
structure NetM (w : World) (P N : Nat) (to : Nat → List Nat) (K : Nat) (kp : Nat → Nat → Bool) : Prop where
  lt : P < w.heap.size
  c0 : ∃ v, w.cell? ⟨P, 0, none⟩ = some v ∧ NRs w v N to
  c1 : ∃ v, w.cell? ⟨P, 1, none⟩ = some v ∧ BRc w v K N kp

theorem NetM.below {w w' : World} {P N K : Nat} {to : Nat → List Nat} {kp : Nat → Nat → Bool} (h : NetM w P N to K kp) (hb : Below w.heap.size w w') : NetM w' P N to K kp := by
  obtain ⟨v0, a0, b0⟩ := h.c0
  obtain ⟨v1, a1, b1⟩ := h.c1
  exact ⟨Nat.lt_of_lt_of_le h.lt hb.size, ⟨v0, (hb.cell (p := ⟨P, 0, none⟩) h.lt).trans a0, b0.below hb⟩, ⟨v1, (hb.cell (p := ⟨P, 1, none⟩) h.lt).trans a1, b1.below hb⟩⟩

/-- Rows that a call has made: an outer one of elements of type e, each a row of the call's own. -/
structure Rws (w : World) (B e e' : Nat) (v : Value) (j : Nat) (V : Nat → Value) (xs : Nat → List Value) : Prop where
  out : w.ownsRow B e 1 v j ((List.range j).map V)
  row : ∀ i, i < j → w.ownsRow B e' 1 (V i) (xs i).length (xs i)

theorem Rws.keeps {w w' : World} {B e e' j : Nat} {v : Value} {V : Nat → Value} {xs : Nat → List Value} (h : Rws w B e e' v j V xs) (hb : Below w.heap.size w w') : Rws w' B e e' v j V xs := ⟨own_keeps h.out hb, fun i hi => own_keeps (h.row i hi) hb⟩
theorem Rws.set {w : World} {B e e' j : Nat} {v : Value} {V : Nat → Value} {xs : Nat → List Value} (h : Rws w B e e' v j V xs) {k : Nat} (hk : k < B) (o : Nat) (u : Value) : Rws (w.setCell ⟨k, o, none⟩ u) B e e' v j V xs := ⟨own_set_other h.out hk o u, fun i hi => own_set_other (h.row i hi) hk o u⟩
/-- Another row of a third type has grown. -/
theorem Rws.grown {w w' : World} {B e e' j : Nat} {v : Value} {V : Nat → Value} {xs : Nat → List Value} (h : Rws w B e e' v j V xs) {B2 e2 s2 n2 : Nat} {v2 : Value} {ys : List Value} (h2 : w.ownsRow B2 e2 s2 v2 n2 ys) (hg : w.grownBy w' v2.ownBlock) (h1 : e ≠ e2) (h3 : e' ≠ e2) : Rws w' B e e' v j V xs :=
  ⟨h.out.kept hg (own_ne' h.out h2 h1), fun i hi => (h.row i hi).kept hg (own_ne' (h.row i hi) h2 h3)⟩
end Go.Proofs.Ytjagijohfkffiab

/- The walks of the reference's none and told. -/
namespace Go.Proofs.Ytjagijohfkffiab
open Go.RowKit
set_option linter.unusedVariables false

end Go.Proofs.Ytjagijohfkffiab

/- The walk of the reference's same. -/
namespace Go.Proofs.Ytjagijohfkffiab
open Go.RowKit
set_option linter.unusedVariables false

end Go.Proofs.Ytjagijohfkffiab

/- The walk of the reference's from: what one gets to. -/
namespace Go.Proofs.Ytjagijohfkffiab
open Go.RowKit
set_option linter.unusedVariables false

theorem outTo_upd (f : Nat → Bool) (N b : Nat) (v : Bool) : (outTo f N N).set b (.bool v) = outTo (upd f b v) N N := by
  unfold outTo
  apply List.ext_getElem
  · simp
  · intro i h1 h2
    simp at h1
    rw [List.getElem_set]
    simp only [List.getElem_map, List.getElem_range, upd, h1, if_true]
    by_cases e : b = i
    · rw [if_pos e, if_pos e.symm]
    · rw [if_neg e, if_neg (fun h => e h.symm)]

end Go.Proofs.Ytjagijohfkffiab

/- The walk of the reference's live: a place on a ring is left. -/
namespace Go.Proofs.Ytjagijohfkffiab
open Go.RowKit
set_option linter.unusedVariables false

/-- A row of bools of a call's own, at block g. -/
def BO (w : World) (B g N : Nat) (f : Nat → Bool) : Prop := w.ownsRow B 4 1 (.slice (some ⟨g, 0, none⟩) N N) N (outTo f N N)

theorem BO.fz {w : World} {B g N : Nat} {f : Nat → Bool} (h : BO w B g N f) (i : Nat) : w.frozen? ⟨g, i, none⟩ = false := World.ownsRow.frozenAt h i
theorem BO.set {w : World} {B g N : Nat} {f : Nat → Bool} (h : BO w B g N f) (b : Nat) (v : Bool) : BO (w.setCell ⟨g, b, none⟩ (.bool v)) B g N (upd f b v) := by
  have := (World.ownsRow.stored h b (.bool v)).1
  rw [outTo_upd] at this
  exact this
theorem BO.other {w : World} {B B2 g g2 N N2 : Nat} {f f2 : Nat → Bool} (h : BO w B g N f) (h2 : BO w B2 g2 N2 f2) (hne : g ≠ g2) (b : Nat) (u : Value) : BO (w.setCell ⟨g2, b, none⟩ u) B g N f :=
  World.ownsRow.kept h (World.ownsRow.stored h2 b u).2 (Or.inr (by simpa [Value.ownBlock] using hne))
theorem BO.grown {w w' : World} {B g N : Nat} {f : Nat → Bool} (h : BO w B g N f) (hg : w.grownBy w' none) : BO w' B g N f := World.ownsRow.kept h hg (Or.inr (by simp [Value.ownBlock]))
theorem BO.blk {w : World} {B g N : Nat} {f : Nat → Bool} (h : BO w B g N f) : B ≤ g ∧ g < w.heap.size := World.ownsRow.lt h _ rfl

end Go.Proofs.Ytjagijohfkffiab
