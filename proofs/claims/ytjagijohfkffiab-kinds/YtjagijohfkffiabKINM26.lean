import Derived.Test.YtjagijohfkffiabKINM23
import Derived.Test.YtjagijohfkffiabKINM24
import Derived.Test.YtjagijohfkffiabKINM25
import Derived.Laws.ResultCell

/- Settled: plain mathematics, judging, the walk. -/
namespace Go.Proofs.Ytjagijohfkffiab
open Go.RowKit
set_option linter.unusedVariables false

theorem begins_left {A B : List Nat} {x : Nat → Nat} (h : Begins (A ++ B) x) : Begins A x := fun i hi => by
  rw [h i (by rw [List.length_append]; omega), getD_app_left hi]
theorem letters_wordAt {A B : List Nat} (h : ∀ x ∈ A ++ B, x < 8) : Letters (wordAt A B) := fun t => by
  have gd : ∀ (l : List Nat) (i : Nat), (∀ x ∈ l, x < 8) → l.getD i 0 < 8 := fun l i hl => by
    rw [List.getD]
    cases e : l[i]? with
    | none => simp
    | some y => exact hl y (List.mem_of_getElem? e)
  unfold wordAt
  split
  · exact gd A _ (fun x hx => h x (by simp [hx]))
  · exact gd B _ (fun x hx => h x (by simp [hx]))

theorem settled_more {ns : List Nd} {A B : List Nat} {v u : Nat} (hab : ∀ x ∈ A ++ B, x < 8) (hv : Verdict ns A v) (hu : Verdict ns (A ++ B) u) : (v = 1 → u = 1) ∧ (v = 2 → u = 2) := by
  have d1 := verdict_doc (fun x hx => hab x (by simp [hx])) hv
  have d2 := verdict_doc hab hu
  exact ⟨fun h => d2.1.2 fun x h1 h2 => d1.1.1 h x h1 (begins_left h2), fun h => d2.2.2 fun x h1 h2 => d1.2.1 h x h1 (begins_left h2)⟩
theorem gp_parse : parseOf ⟨#[71, 112]⟩ = (0, [⟨112, 0, 0⟩, ⟨71, 0, 0⟩]) := by rfl
theorem gp_sem (x : Nat → Nat) : sem (fun i => i + 1) x [⟨112, 0, 0⟩, ⟨71, 0, 0⟩] 1 0 ↔ ∀ t, (x t).testBit 0 = true := by
  have e : ∀ s i, it (fun i => i + 1) s i = i + s := by
    intro s
    induction s with
    | zero => intro i; rfl
    | succ s ih => intro i; simp only [it]; rw [ih]; omega
  simp [sem, rows, den, e]
end Go.Proofs.Ytjagijohfkffiab

/- Plain mathematics: what evades means. -/
namespace Go.Proofs.Ytjagijohfkffiab
set_option linter.unusedVariables false

/-- The first k letters. -/
def pre (x : Nat → Nat) (k : Nat) : List Nat := (List.range k).map x
theorem pre_succ (x : Nat → Nat) (k : Nat) : pre x (k + 1) = pre x k ++ [x k] := by simp [pre, List.range_succ]
theorem pre_lt {x : Nat → Nat} (h : Letters x) (k : Nat) : ∀ y ∈ pre x k, y < 8 := fun y hy => by
  obtain ⟨i, _, rfl⟩ := List.mem_map.1 hy
  exact h i

/-- An endless word of which the formula holds (or does not), none of whose beginnings has this verdict. -/
def Evade (ns : List Nd) (vd : Nat) (hd : Bool) : Prop := ∃ x, Letters x ∧ (sem (fun i => i + 1) x ns (ns.length - 1) 0 ↔ hd = true) ∧ ∀ k, ¬ Verdict ns (pre x k) vd

theorem geq_symm {g h : Nat → Bool} (k : geq g h = true) : geq h g = true := geq_iff.2 fun j hj => (geq_iff.1 k j hj).symm
theorem geq_trans {g h i : Nat → Bool} (k : geq g h = true) (l : geq h i = true) : geq g i = true := geq_iff.2 fun j hj => (geq_iff.1 k j hj).trans (geq_iff.1 l j hj)
theorem geq_step {ns : List Nd} (h8 : ns.length ≤ 8) {liv g h : Nat → Bool} (k : geq g h = true) (l : Nat) : geq (stepG ns liv g l) (stepG ns liv h l) = true := geq_iff.2 fun j hj => by
  unfold stepG
  rw [geq_iff.1 k _ (bef_lt h8 l j)]
theorem geq_verd {liv g h : Nat → Bool} (k : geq g h = true) : verdG liv g = verdG liv h := by
  have e : ∀ i, geq g i = geq h i := fun i => by
    rw [Bool.eq_iff_iff]
    exact ⟨fun a => geq_trans (geq_symm k) a, fun a => geq_trans k a⟩
  unfold verdG
  rw [e, e]

section
variable {ns : List Nd} {liv : Nat → Bool} {us : List (List Nat)} {xs : List Nat}

/-- The state that the first k letters lead to tells their verdict. -/
theorem spot_tells (hg : Good ns) (hl : LivP ns (calmsTo ns ns.length) liv) (hE : Expl ns liv (begB ns liv) us xs) (hx : xs.length = 8 * us.length) {x : Nat → Nat} (hL : Letters x) {sp : Nat → Nat} (h0 : sp 0 = 0) (hs : ∀ t, sp (t + 1) = nxL xs (sp t) (x t)) :
    ∀ t, sp t < us.length ∧ geq (runG ns liv (begB ns liv) (us.getD (sp t) [])) (runG ns liv (begB ns liv) (pre x t)) = true
  | 0 => by
    have hp := (List.getElem?_eq_some_iff.1 hE.first).1
    rw [h0]
    refine ⟨hp, ?_⟩
    have : us.getD 0 [] = [] := by simp [List.getD, hE.first]
    rw [this]
    exact geq_iff.2 fun _ _ => rfl
  | t + 1 => by
    obtain ⟨h1, h2⟩ := spot_tells hg hl hE hx hL h0 hs t
    have h3 := hL t
    obtain ⟨u0, u1, e0, e1, hq⟩ := hE.ok (8 * sp t + x t) (by omega)
    rw [show (8 * sp t + x t) / 8 = sp t by omega] at e0
    rw [show (8 * sp t + x t) % 8 = x t by omega] at hq
    have hn : nxL xs (sp t) (x t) = xs.getD (8 * sp t + x t) 0 := rfl
    rw [hs, hn]
    refine ⟨(List.getElem?_eq_some_iff.1 e1).1, ?_⟩
    have a1 : us.getD (xs.getD (8 * sp t + x t) 0) [] = u1 := by simp only [List.getD] at e1 ⊢; rw [e1]; rfl
    have a0 : us.getD (sp t) [] = u0 := by simp [List.getD, e0]
    rw [a0] at h2
    rw [a1, pre_succ, runG_snoc]
    exact geq_trans hq (geq_step hg.le h2 _)

theorem spot_verdict (hg : Good ns) (hl : LivP ns (calmsTo ns ns.length) liv) (hE : Expl ns liv (begB ns liv) us xs) (hx : xs.length = 8 * us.length) {x : Nat → Nat} (hL : Letters x) {sp : Nat → Nat} (h0 : sp 0 = 0) (hs : ∀ t, sp (t + 1) = nxL xs (sp t) (x t)) (t : Nat) :
    Verdict ns (pre x t) (outU ns liv (begB ns liv) us (sp t)) := by
  unfold outU
  rw [geq_verd (spot_tells hg hl hE hx hL h0 hs t).2]
  exact verdG_verdict hg hl (pre_lt hL t)

theorem ew_parts {n : Nat} {tl : Nat → List (Nat × Nat)} {out : Nat → Nat} {nx : Nat → Nat → Nat} {vd : Nat} (h8 : ns.length ≤ 8) (hw : WoP out nx vd n 0 tl) {y a : Nat} : Ew n ns tl y a ↔ a < n * 256 ∧ ∃ i l, i < n ∧ l < 8 ∧ nx i l = a / 256 ∧ out (a / 256) ≠ vd ∧ y = i * 256 + bef ns l (a % 256) := by
  unfold Ew
  constructor
  · rintro ⟨ha, st, hs, rfl⟩
    obtain ⟨⟨h1, h2⟩, h3, h4⟩ := (hw.mem _ _).1 hs
    exact ⟨ha, st.1, st.2, by omega, h2, h3, h4, rfl⟩
  · rintro ⟨ha, i, l, h1, h2, h3, h4, rfl⟩
    exact ⟨ha, (i, l), (hw.mem _ _).2 ⟨⟨by simp only; omega, h2⟩, h3, h4⟩, rfl⟩

theorem evade_iff (hg : Good ns) (hl : LivP ns (calmsTo ns ns.length) liv) (hE : Expl ns liv (begB ns liv) us xs) (hx : xs.length = 8 * us.length) {vd : Nat} (hv : vd = 1 ∨ vd = 2) {hd b : Bool} (h : EvP ns (calmsTo ns ns.length) (begB ns liv) (outU ns liv (begB ns liv) us) (nxL xs) us.length vd hd b) : b = true ↔ Evade ns vd hd := by
  have h8 := hg.le
  have hpos := hg.pos
  obtain ⟨tl, hw, hb⟩ := h
  rw [hb]
  constructor
  · rintro ⟨v, hv256, ⟨q, hq0, hq, hm⟩, hbeg⟩
    have pt : ∀ t, ∃ l, l < 8 ∧ q (t + 1) / 256 = nxL xs (q t / 256) l ∧ outU ns liv (begB ns liv) us (q (t + 1) / 256) ≠ vd ∧ q t % 256 = bef ns l (q (t + 1) % 256) := fun t => by
      obtain ⟨_, i, l, h1, h2, h3, h4, h5⟩ := (ew_parts h8 hw).1 (hq t)
      have hbl := bef_lt h8 l (q (t + 1) % 256)
      refine ⟨l, h2, ?_, h4, ?_⟩
      · rw [← h3, h5, show (i * 256 + bef ns l (q (t + 1) % 256)) / 256 = i by omega]
      · omega
    let x : Nat → Nat := fun t => Classical.choose (pt t)
    have hxs : ∀ t, x t < 8 ∧ q (t + 1) / 256 = nxL xs (q t / 256) (x t) ∧ outU ns liv (begB ns liv) us (q (t + 1) / 256) ≠ vd ∧ q t % 256 = bef ns (x t) (q (t + 1) % 256) := fun t => Classical.choose_spec (pt t)
    have hL : Letters x := fun t => (hxs t).1
    have hv0 : q 0 % 256 = v := by rw [hq0]; omega
    have lives : Lives ns v := by
      refine ⟨fun t => q t % 256, hv0, fun t => ew_any.2 ⟨Nat.mod_lt _ (by omega), x t, (hxs t).1, (hxs t).2.2.2⟩, meets_of_all fun c hc t => ?_⟩
      obtain ⟨t', h1, h2⟩ := meets_all hm c hc t
      refine ⟨t', h1, ?_⟩
      obtain ⟨k, _, _, rfl⟩ := mem_spreads.1 hc
      unfold spread at h2 ⊢
      rw [Nat.mod_mod]
      exact h2
    have row : ERow ns x (fun t => tb (q t % 256)) := by
      refine ⟨fun t => ?_, fun k nd hn t => ?_⟩
      · have := bef_step hg (x t) (q (t + 1) % 256)
        rw [← (hxs t).2.2.2] at this
        exact this
      · obtain ⟨h1, h2, h3⟩ := wf2_lt hg.wf hn
        have hnd : ndAt ns k = nd := by have := ndAt_gets (ns := ns) h1; rw [hn] at this; exact (Option.some.inj this).symm
        cases hww : waitsB nd.op with
        | false => exact ⟨t, Nat.le_refl _, kept_else hww⟩
        | true =>
          obtain ⟨t', h4, h5⟩ := meets_all hm _ (mem_spreads.2 ⟨k, h1, by rw [hnd]; exact hww, rfl⟩) t
          refine ⟨t', h4, ?_⟩
          have hst := bef_step hg (x t') (q (t' + 1) % 256) k nd hn
          rw [← (hxs t').2.2.2] at hst
          rw [calm_kept hst hww]
          simp only [spread, calmB, hnd] at h5
          exact h5
    refine ⟨x, hL, ?_, fun k hk => ?_⟩
    · rw [← erow_sem hg.wf row _ (by omega)]
      show (q 0 % 256).testBit (ns.length - 1) = true ↔ _
      rw [hv0]
      unfold begB at hbeg
      rw [(hl v).2 lives, Bool.true_and] at hbeg
      rw [hbeg]
    · have sv := spot_verdict hg hl hE hx hL (sp := fun t => q t / 256) (by show q 0 / 256 = 0; rw [hq0]; omega) (fun t => (hxs t).2.1)
      cases k with
      | zero =>
        have h1 := sv 1
        have h2 := settled_more (A := pre x 0) (B := [x 0]) (v := vd) (fun y hy => pre_lt hL 1 y (by rw [pre_succ]; exact hy)) hk (u := outU ns liv (begB ns liv) us (q 1 / 256)) (by rw [← pre_succ]; exact h1)
        rcases hv with rfl | rfl
        · exact (hxs 0).2.2.1 (h2.1 rfl)
        · exact (hxs 0).2.2.1 (h2.2 rfl)
      | succ k => exact (hxs k).2.2.1 (verdict_fun (sv (k + 1)) hk)
  · rintro ⟨x, hL, hsem, hno⟩
    obtain ⟨S, hS, hR⟩ := erow_truth hg.wf x
    let sp : Nat → Nat := fun t => Nat.rec 0 (fun t s => nxL xs s (x t)) t
    have s0 : sp 0 = 0 := rfl
    have ss : ∀ t, sp (t + 1) = nxL xs (sp t) (x t) := fun t => rfl
    have stl := spot_tells hg hl hE hx hL s0 ss
    have sv := spot_verdict hg hl hE hx hL s0 ss
    have vl : ∀ t, cdTo (S t) ns.length < 256 := fun t => cdTo_lt _ _ h8
    have chn : chain ns [] (S 0) := ⟨x, S, hL, hR, EqOn.refl _ _⟩
    have lives := chain_live' hg chn
    refine ⟨cdTo (S 0) ns.length, vl 0, ⟨fun t => sp t * 256 + cdTo (S t) ns.length, by simp [s0], fun t => ?_, meets_of_all fun c hc t => ?_⟩, ?_⟩
    · have v1 := vl (t + 1)
      have d1 : (sp (t + 1) * 256 + cdTo (S (t + 1)) ns.length) / 256 = sp (t + 1) := by omega
      have d2 : (sp (t + 1) * 256 + cdTo (S (t + 1)) ns.length) % 256 = cdTo (S (t + 1)) ns.length := by omega
      have hlt := (stl (t + 1)).1
      refine (ew_parts h8 hw).2 ⟨by show sp (t + 1) * 256 + cdTo (S (t + 1)) ns.length < us.length * 256; omega, sp t, x t, (stl t).1, hL t, by rw [d1, ss], ?_, ?_⟩
      · rw [d1]
        intro e
        have := sv (t + 1)
        rw [e] at this
        exact hno _ this
      · rw [d2, bef_cd hg (hR.step t) (cd_eqOn hg _)]
    · obtain ⟨k, h1, h2, rfl⟩ := mem_spreads.1 hc
      have hn := ndAt_gets (ns := ns) h1
      obtain ⟨_, h3, h4⟩ := wf2_lt hg.wf hn
      obtain ⟨t', h5, h6⟩ := hR.kept k _ hn t
      refine ⟨t', h5, ?_⟩
      rw [calm_kept (hR.step t' k _ hn) h2] at h6
      have e1 := cd_eqOn hg (S t') k h1
      have hen : endN (ndAt ns k) < ns.length := by unfold endN; split <;> omega
      have e2 := cd_eqOn hg (S t') _ hen
      have v1 := vl t'
      have d2 : (sp t' * 256 + cdTo (S t') ns.length) % 256 = cdTo (S t') ns.length := by omega
      simp only [tb] at e1 e2
      simp only [spread, calmB, d2, e1, e2]
      exact h6
    · unfold begB
      rw [(hl _).2 lives, Bool.true_and]
      have e1 : (cdTo (S 0) ns.length).testBit (ns.length - 1) = S 0 (ns.length - 1) := cd_eqOn hg (S 0) (ns.length - 1) (by omega)
      rw [e1, Bool.eq_iff_iff, hS, hsem]
end

end Go.Proofs.Ytjagijohfkffiab

/- What Class tells; the walk of the program's Class. -/
namespace Go.Proofs.Ytjagijohfkffiab
open Go.RowKit
set_option linter.unusedVariables false

/-- Safe, cosafe, live. -/
structure Kind (ns : List Nd) (sf co lv : Bool) : Prop where
  safe : sf = true ↔ ¬ Evade ns 2 false
  cosafe : co = true ↔ ¬ Evade ns 1 true
  live : lv = true ↔ ∀ u, (∀ x ∈ u, x < 8) → ¬ Verdict ns u 2
/-- Each word leads to some state. -/
theorem word_spot {ns : List Nd} (hg : Good ns) {liv : Nat → Bool} {us : List (List Nat)} {xs : List Nat} (hl : LivP ns (calmsTo ns ns.length) liv) (hE : Expl ns liv (begB ns liv) us xs) (hx : xs.length = 8 * us.length) {u : List Nat} (hu : ∀ x ∈ u, x < 8) : ∃ i, i < us.length ∧ Verdict ns u (outU ns liv (begB ns liv) us i) := by
  let x : Nat → Nat := fun i => u.getD i 0
  have hL : Letters x := fun t => by
    show u.getD t 0 < 8
    rw [List.getD]
    cases e : u[t]? with
    | none => simp
    | some y => exact hu y (List.mem_of_getElem? e)
  let sp : Nat → Nat := fun t => Nat.rec 0 (fun t s => nxL xs s (x t)) t
  have e : pre x u.length = u := by
    unfold pre
    apply List.ext_getElem
    · simp
    · intro i h1 h2
      simp [x, List.getD, List.getElem?_eq_getElem h2]
  refine ⟨sp u.length, (spot_tells hg hl hE hx hL (sp := sp) rfl (fun t => rfl) u.length).1, ?_⟩
  have := spot_verdict hg hl hE hx hL (sp := sp) rfl (fun t => rfl) u.length
  rw [e] at this
  exact this

theorem class_kind {ns : List Nd} (hg : Good ns) {liv : Nat → Bool} (hl : LivP ns (calmsTo ns ns.length) liv) {sf co lv : Bool} (h : ClassP ns liv (begB ns liv) (calmsTo ns ns.length) sf co lv) : Kind ns sf co lv := by
  obtain ⟨us, xs, hE, hx, h1, h2, h3⟩ := h
  have e1 := evade_iff hg hl hE hx (Or.inr rfl) h1
  have e2 := evade_iff hg hl hE hx (Or.inl rfl) h2
  refine ⟨by rw [← e1]; cases sf <;> simp, by rw [← e2]; cases co <;> simp, ?_⟩
  constructor
  · intro hlv u hu hv
    obtain ⟨i, hi, h4⟩ := word_spot hg hl hE hx hu
    have := h3.2 ⟨i, hi, verdict_fun h4 hv⟩
    rw [hlv] at this
    cases this
  · intro hall
    cases e : lv with
    | true => rfl
    | false =>
      obtain ⟨i, hi, h4⟩ := h3.1 e
      exfalso
      have hm : us.getD i [] ∈ us := by simp [List.getD, List.getElem?_eq_getElem hi]
      refine hall _ (hE.let8 _ hm) ?_
      have := verdG_verdict hg hl (hE.let8 _ hm)
      unfold outU at h4
      rw [h4] at this
      exact this

/-- What Class answers. -/
def Classed (s : ByteArray) (w : World) (e : Ending) (w' : World) : Prop :=
  ∃ sf co lv : Bool, e = .returned (.tuple #[.agg #[.bool sf, .bool co, .bool lv], .int .i64 (parseOf s).1]) ∧ ((parseOf s).1 = 0 → Kind (parseOf s).2 sf co lv) ∧ ((parseOf s).1 ≠ 0 → sf = false ∧ co = false ∧ lv = false) ∧ Below w.heap.size w w'

/-- A small row and a number are handed back. -/
theorem ret_cells_tmp {fn : Func} {p q b : Nat} {ty : TypeId} {d : TypeDesc} {cs : List Value} {v : Value} {a : Act} {w : World} {R : Ending → World → Prop} (h : fn.results = #[.cell p ty, .tmp q]) (hd : a.defers = []) (hp : a.tmps.getD p undef = .pointer (some ⟨b, 0, none⟩)) (hq : a.tmps.getD q undef = v)
    (hg : w.rangeAt b 0 cs) (hu : Try.prog.underlying ty = some d) (hr : d.isRow = true) (hs : (Try.prog.info? ty).map (·.size) = some cs.length) (hR : R (.returned (.tuple #[.agg cs.toArray, v])) w) : bodyPost Try.prog fn R .ret a w := by
  refine bodyPost_ret (v := .tuple #[.agg cs.toArray, v]) ?_ hd hR
  rw [results_cell_tmp h, hp, hq]
  simp only [asAddr, Sem.run_pure, Result.andThen_ok]
  rw [run_loadVar_mid w b 0 _ cs d hg hu hr hs]
  rfl

section
variable (s : ByteArray) (w : World)

set_option maxHeartbeats 4000000 in
set_option maxRecDepth 100000 in
theorem class_no (hm : s.size ≤ maxLen) (h : (parseOf s).1 ≠ 0) : Calls Try.prog 13 #[.string s] w (Classed s w) := by
  have C := fun W => parse_any s W hm
  unfold Parsed at C
  unfold Classed
  generalize parseOf s = p at *
  have k : ((p.1 : Int) != 0) = true := by rw [bne_iff_ne]; omega
  go_enter Try.func13, Try.ntmps13
  go_wp2_with fail
  refine (C _).mono ?_
  rintro e w1 ⟨ao, cap, rfl, _, hb⟩
  have hsz : w.heap.size < w1.heap.size := by have := hb.size; simp at this; omega
  simp only [World.size_alloc] at hb
  have d0 : w1.cell? ⟨w.heap.size, 0, none⟩ = some (.bool false) := (hb.cell (p := ⟨w.heap.size, 0, none⟩) (by show w.heap.size < w.heap.size + 1; omega)).trans (by simp)
  have d1 : w1.cell? ⟨w.heap.size, 1, none⟩ = some (.bool false) := (hb.cell (p := ⟨w.heap.size, 1, none⟩) (by show w.heap.size < w.heap.size + 1; omega)).trans (by simp)
  have d2 : w1.cell? ⟨w.heap.size, 2, none⟩ = some (.bool false) := (hb.cell (p := ⟨w.heap.size, 2, none⟩) (by show w.heap.size < w.heap.size + 1; omega)).trans (by simp)
  have e0 : w1.frozen? ⟨w.heap.size, 0, none⟩ = false := (hb.frozen (p := ⟨w.heap.size, 0, none⟩) (by show w.heap.size < w.heap.size + 1; omega)).trans (by simp)
  have e1 : w1.frozen? ⟨w.heap.size, 1, none⟩ = false := (hb.frozen (p := ⟨w.heap.size, 1, none⟩) (by show w.heap.size < w.heap.size + 1; omega)).trans (by simp)
  have e2 : w1.frozen? ⟨w.heap.size, 2, none⟩ = false := (hb.frozen (p := ⟨w.heap.size, 2, none⟩) (by show w.heap.size < w.heap.size + 1; omega)).trans (by simp)
  have HB := hid (((Below.refl w.heap.size w).alloc (Nat.le_refl _) (.cells #[.bool false, .bool false, .bool false] 30)).trans (hb.mono (by omega)))
  clear C hb
  go_wp2_with fail
  refine ret_cells_tmp (cs := [.bool false, .bool false, .bool false]) (v := .int .i64 (p.1 : Nat)) (b := w.heap.size) Try.results13 ?_ ?_ ?_ ?_ Try.underlying30 rfl Try.classSize ?_
  · rfl
  · rfl
  · rfl
  · exact three_set d0 d1 d2 _ _ _
  · exact ⟨false, false, false, rfl, fun h0 => absurd h0 h, fun _ => ⟨rfl, rfl, rfl⟩, ((HB.out.setCell (p := ⟨w.heap.size, 0, none⟩) (Nat.le_refl _) _).setCell (p := ⟨w.heap.size, 1, none⟩) (Nat.le_refl _) _).setCell (p := ⟨w.heap.size, 2, none⟩) (Nat.le_refl _) _⟩
set_option maxHeartbeats 4000000 in
set_option maxRecDepth 100000 in
theorem class_yes (hm : s.size ≤ maxLen) (h : (parseOf s).1 = 0) : Calls Try.prog 13 #[.string s] w (Classed s w) := by
  have C := fun W => parse_any s W hm
  unfold Parsed at C
  have G := hid (parse_good h)
  have SG := hid (parse_seg h)
  unfold Classed
  generalize parseOf s = p at *
  obtain ⟨p1, ns⟩ := p
  dsimp only at *
  subst h
  have hpos := G.out.pos
  obtain ⟨m1', hlen⟩ : ∃ m1', ns.length = m1' + 1 := ⟨ns.length - 1, by omega⟩
  have HLN := hid hlen
  rw [hlen] at C
  clear hlen hpos
  have HOC := hid Try.outCells
  go_enter Try.func13, Try.ntmps13
  go_wp2_with fail
  refine (C _).mono ?_
  rintro e w1 ⟨ao, cap, rfl, own, hb⟩
  simp only [World.size_alloc] at hb
  obtain ⟨gn, rfl, _, hgn, _⟩ := own_at own (by omega)
  have ND := hid (ndM_of own HLN.out)
  have HB1 := hid hb
  clear C own hb
  go_wp2_with fail
  refine (look_any gn m1' cap ns _ ND.out G.out HLN.out).mono ?_
  rintro e w3 ⟨sl, liv, rfl, hlv, hcv, hon, hb3⟩
  have HLV := hid hlv
  have hs1 : w.heap.size < w1.heap.size := by have := HB1.out.size; simp at this; omega
  have HB3 := hid (HB1.out.trans (hb3.mono (by omega)))
  have hs3 : w.heap.size + 1 ≤ w3.heap.size := by have := hb3.size; omega
  have HCV := hid (hcv.below ((Below.refl w3.heap.size w3).alloc (Nat.le_refl _) (.cells Try.zeroCells71 71)))
  clear hlv hb3 hcv ND HB1
  have hth : (w3.alloc (.cells Try.zeroCells71 71)).there w3.heap.size 0 2561 := by
    have := raw_new w3 (outC (fun _ => 0) (.slice none 0 0) (fun _ => false) (fun _ => false)) 2561 71
    rw [← HOC.out] at this
    exact this.there 0 2561 (by omega)
  have HTH := hid hth
  clear hth
  go_wp2_with (refine wpList_store_raw rfl 71 (.tmp 6) (.tmp 17) rfl w3.heap.size 2561 (outC (befF ns) sl liv (begB ns liv)) rfl rfl HTH.out Try.outSize (outC_one _ _ _ hon) ?_)
  intro w4 S4
  have OM := hid (outM_of S4.at_)
  have bw4 : Below w3.heap.size w3 w4 := S4.bel _ _ (Nat.le_refl _) ((Below.refl _ _).alloc (Nat.le_refl _) _)
  have hcm : CalmM w4 w3.heap.size (calmsTo ns ns.length) := by
    obtain ⟨aoc, cpc, rfl, h2⟩ := HCV.out
    refine ⟨aoc, cpc, raw_sl S4.at_, fun h0 => ?_⟩
    obtain ⟨gc, h3, h4, h5⟩ := h2 h0
    have hne : gc ≠ w3.heap.size := fun e => by
      have c1 := (h5 0 _ (List.getElem?_eq_getElem h0)).c 0 (by omega)
      rw [e, Nat.zero_mul] at c1
      have c2 := raw_new w3 (outC (fun _ => 0) (.slice none 0 0) (fun _ => false) (fun _ => false)) 2561 71
      rw [← HOC.out] at c2
      have c3 := c2.c 0 (by omega)
      rw [Nat.zero_add] at c1
      rw [c1] at c3
      simp [outC] at c3
    refine ⟨gc, h3, by rw [S4.size]; exact h4, fun k c hk => ⟨fun j hj => ?_, fun j hj => ?_⟩⟩
    · rw [S4.cell ⟨gc, k * 256 + j, none⟩ hne]; exact (h5 k c hk).c j hj
    · rw [S4.fz]; exact (h5 k c hk).f j hj
  have HCM := hid hcm
  have HB4 := hid (HB3.out.trans (bw4.mono hs3))
  have hcl := calmsTo_len ns ns.length
  have h8 := G.out.le
  clear S4 HTH HB3 hcm bw4 HCV
  go_wp2_with fail
  refine (oclass_any w3.heap.size ns liv (begB ns liv) (calmsTo ns ns.length) w4 h8 (fun us xs hE => expl_few G.out SG.out HLV.out hE) OM.out HCM.out (by omega)).mono ?_
  rintro e w5 ⟨sf, co, lv, rfl, hcp, hb5⟩
  have HK := hid (class_kind G.out HLV.out hcp)
  have hs4 := HB4.out.size
  simp only [World.size_alloc] at hs4
  have bb := HB4.out.trans (hb5.mono (by omega))
  have d0 : w5.cell? ⟨w.heap.size, 0, none⟩ = some (.bool false) := (bb.cell (p := ⟨w.heap.size, 0, none⟩) (by show w.heap.size < w.heap.size + 1; omega)).trans (by simp)
  have d1 : w5.cell? ⟨w.heap.size, 1, none⟩ = some (.bool false) := (bb.cell (p := ⟨w.heap.size, 1, none⟩) (by show w.heap.size < w.heap.size + 1; omega)).trans (by simp)
  have d2 : w5.cell? ⟨w.heap.size, 2, none⟩ = some (.bool false) := (bb.cell (p := ⟨w.heap.size, 2, none⟩) (by show w.heap.size < w.heap.size + 1; omega)).trans (by simp)
  have e0 : w5.frozen? ⟨w.heap.size, 0, none⟩ = false := (bb.frozen (p := ⟨w.heap.size, 0, none⟩) (by show w.heap.size < w.heap.size + 1; omega)).trans (by simp)
  have e1 : w5.frozen? ⟨w.heap.size, 1, none⟩ = false := (bb.frozen (p := ⟨w.heap.size, 1, none⟩) (by show w.heap.size < w.heap.size + 1; omega)).trans (by simp)
  have e2 : w5.frozen? ⟨w.heap.size, 2, none⟩ = false := (bb.frozen (p := ⟨w.heap.size, 2, none⟩) (by show w.heap.size < w.heap.size + 1; omega)).trans (by simp)
  have HB5 := hid (((Below.refl w.heap.size w).alloc (Nat.le_refl _) (.cells #[.bool false, .bool false, .bool false] 30)).trans (bb.mono (by omega)))
  clear hcp hb5 bb HB4 OM HCM
  go_wp2_with fail
  refine ret_cells_tmp (cs := [.bool sf, .bool co, .bool lv]) (v := .int .i64 (0 : Nat)) (b := w.heap.size) Try.results13 ?_ ?_ ?_ ?_ Try.underlying30 rfl Try.classSize ?_
  · rfl
  · rfl
  · rfl
  · exact three_set d0 d1 d2 _ _ _
  · exact ⟨sf, co, lv, rfl, fun _ => HK.out, fun h0 => absurd rfl h0, ((HB5.out.setCell (p := ⟨w.heap.size, 0, none⟩) (Nat.le_refl _) _).setCell (p := ⟨w.heap.size, 1, none⟩) (Nat.le_refl _) _).setCell (p := ⟨w.heap.size, 2, none⟩) (Nat.le_refl _) _⟩

theorem class_any (hm : s.size ≤ maxLen) : Calls Try.prog 13 #[.string s] w (Classed s w) := by
  by_cases h : (parseOf s).1 = 0
  · exact class_yes s w hm h
  · exact class_no s w hm h
end

end Go.Proofs.Ytjagijohfkffiab

/- Plain mathematics: the machine of a formula. -/
namespace Go.Proofs.Ytjagijohfkffiab
set_option linter.unusedVariables false

theorem numbered_lt {n : Nat} {nx : Nat → Nat → Nat} (h : Numbered n nx) {i a : Nat} (hi : i < n) (ha : a < 8) : nx i a < n := by
  have h1 := met_mono nx (show 8 * i + a + 1 ≤ 8 * n by omega)
  simp only [met] at h1
  rw [h.2, show (8 * i + a) / 8 = i by omega, show (8 * i + a) % 8 = a by omega] at h1
  omega
theorem numbered_pos {n : Nat} {nx : Nat → Nat → Nat} (h : Numbered n nx) : 0 < n := by
  have := met_pos nx (8 * n)
  rw [h.2] at this
  exact this
theorem run_lt {n : Nat} {nx : Nat → Nat → Nat} (hc : ∀ i a, i < n → a < 8 → nx i a < n) : ∀ (w : List Nat) (i : Nat), i < n → LettersL w → runM nx i w < n
  | [], i, hi, _ => hi
  | a :: w, i, hi, hw => run_lt hc w (nx i a) (hc i a hi (hw a (List.mem_cons_self ..))) (fun x hx => hw x (List.mem_cons_of_mem _ hx))

/-- The machine of a formula: it tells the verdicts, has no state too many, and numbers them as they are met. -/
structure Mach (ns : List Nd) (n : Nat) (out : Nat → Nat) (nx : Nat → Nat → Nat) : Prop where
  num : Numbered n nx
  apart : Apart n out nx
  tells : ∀ w, LettersL w → Verdict ns w (out (runM nx 0 w))
theorem mach_fun {ns : List Nd} {n n' : Nat} {out out' : Nat → Nat} {nx nx' : Nat → Nat → Nat} (h : Mach ns n out nx) (k : Mach ns n' out' nx') : n = n' ∧ (∀ i, i < n → out i = out' i) ∧ ∀ i a, i < n → a < 8 → nx i a = nx' i a :=
  same_machine h.num k.num h.apart k.apart fun w hw => verdict_fun (h.tells w hw) (k.tells w hw)

/-- It has more states than there may be. -/
def Big (ns : List Nd) : Prop := ∀ n out nx, Mach ns n out nx → 8 < n
section
variable {ns : List Nd} {liv : Nat → Bool} {us : List (List Nat)} {xs : List Nat}

theorem expl_lt (hE : Expl ns liv (begB ns liv) us xs) (hx : xs.length = 8 * us.length) : ∀ i a, i < us.length → a < 8 → nxL xs i a < us.length := fun i a hi ha => by
  obtain ⟨_, u1, _, h1, _⟩ := hE.ok (8 * i + a) (by omega)
  exact (List.getElem?_eq_some_iff.1 h1).1

theorem base_verdict (hg : Good ns) (hl : LivP ns (calmsTo ns ns.length) liv) (hE : Expl ns liv (begB ns liv) us xs) (hx : xs.length = 8 * us.length) {w : List Nat} (hw : LettersL w) : Verdict ns w (outU ns liv (begB ns liv) us (runM (nxL xs) 0 w)) := by
  let x : Nat → Nat := fun i => w.getD i 0
  have hL : Letters x := fun t => by
    show w.getD t 0 < 8
    rw [List.getD]
    cases e : w[t]? with
    | none => simp
    | some y => exact hw y (List.mem_of_getElem? e)
  let sp : Nat → Nat := fun t => Nat.rec 0 (fun t s => nxL xs s (x t)) t
  have e : pre x w.length = w := by
    unfold pre
    apply List.ext_getElem
    · simp
    · intro i h1 h2
      simp [x, List.getD, List.getElem?_eq_getElem h2]
  have hsp : ∀ t, sp t = runM (nxL xs) 0 (pre x t) := fun t => by
    induction t with
    | zero => rfl
    | succ t ih =>
      rw [pre_succ, runM_app, ← ih]
      rfl
  have := spot_verdict hg hl hE hx hL (sp := sp) rfl (fun t => rfl) w.length
  rw [hsp, e] at this
  exact this

/-- The kinds of the states, when none is added: the machine of the formula. -/
theorem kinds_mach (hg : Good ns) (hl : LivP ns (calmsTo ns ns.length) liv) (hE : Expl ns liv (begB ns liv) us xs) (hx : xs.length = 8 * us.length) {kd out' : Nat → Nat} {nx' : Nat → Nat → Nat} (hf : Fo kd us.length)
    (hh : Hom us.length (outU ns liv (begB ns liv) us) (nxL xs) kd out' nx') (hk : ∀ i j, i < us.length → j < us.length → Like (outU ns liv (begB ns liv) us) (nxL xs) (outU ns liv (begB ns liv) us) (nxL xs) i j → kd i = kd j) : Mach ns (cntK kd us.length) out' nx' := by
  have hpos : 0 < us.length := (List.getElem?_eq_some_iff.1 hE.first).1
  have hc := expl_lt hE hx
  have k0 : kd 0 = 0 := by
    have := hf 0 hpos
    simp only [cntK] at this
    omega
  refine ⟨quot_numbered hpos (expl_numbered hE hx) hh hc hf, hom_apart hh hc hf hk, fun w hw => ?_⟩
  have h1 := hom_like hh hc hpos w hw
  rw [k0] at h1
  rw [← h1]
  exact base_verdict hg hl hE hx hw

/-- A word that leads to a state. -/
theorem expl_word (hE : Expl ns liv (begB ns liv) us xs) (hx : xs.length = 8 * us.length) : ∀ i, i < us.length → ∃ w, LettersL w ∧ runM (nxL xs) 0 w = i := by
  have hn := expl_numbered hE hx
  have key : ∀ p, p ≤ 8 * us.length → ∀ i, i < met (nxL xs) p → ∃ w, LettersL w ∧ runM (nxL xs) 0 w = i := by
    intro p
    induction p with
    | zero =>
      intro _ i hi
      simp only [met] at hi
      exact ⟨[], fun x hx => by simp at hx, by show 0 = i; omega⟩
    | succ p ih =>
      intro hp i hi
      by_cases c : i < met (nxL xs) p
      · exact ih (by omega) i c
      · simp only [met] at hi
        obtain ⟨h1, h2⟩ := hn.1 p (by omega)
        obtain ⟨w, h3, h4⟩ := ih (by omega) _ h1
        refine ⟨w ++ [p % 8], fun x hx => ?_, ?_⟩
        · rcases List.mem_append.1 hx with hx | hx
          · exact h3 x hx
          · simp at hx; omega
        · rw [runM_app, h4]
          show nxL xs (p / 8) (p % 8) = i
          omega
  intro i hi
  exact key (8 * us.length) (Nat.le_refl _) i (by rw [hn.2]; exact hi)

/-- More kinds than there may be: no machine is small enough. -/
theorem kinds_big (hg : Good ns) (hl : LivP ns (calmsTo ns ns.length) liv) (hE : Expl ns liv (begB ns liv) us xs) (hx : xs.length = 8 * us.length) {kd : Nat → Nat} (hf : Fo kd us.length)
    (hk : ∀ i j, i < us.length → j < us.length → Like (outU ns liv (begB ns liv) us) (nxL xs) (outU ns liv (begB ns liv) us) (nxL xs) i j → kd i = kd j) (h8 : 8 < cntK kd us.length) : Big ns := by
  intro n out nx hm
  have hc := expl_lt hE hx
  have hpos : 0 < us.length := (List.getElem?_eq_some_iff.1 hE.first).1
  have hn := numbered_pos hm.num
  have L0 : Like (outU ns liv (begB ns liv) us) (nxL xs) out nx 0 0 := fun w hw => verdict_fun (base_verdict hg hl hE hx hw) (hm.tells w hw)
  have ex : ∀ c, ∃ s r, c < cntK kd us.length → s < n ∧ r < us.length ∧ kd r = c ∧ Like (outU ns liv (begB ns liv) us) (nxL xs) out nx r s := fun c => by
    by_cases hc0 : c < cntK kd us.length
    · obtain ⟨r, h1, h2, _⟩ := rep_ex hf hc0
      obtain ⟨w, h3, h4⟩ := expl_word hE hx r h1
      refine ⟨runM nx 0 w, r, fun _ => ⟨run_lt (fun i a hi ha => numbered_lt hm.num hi ha) w 0 hn h3, h1, h2, fun v hv => ?_⟩⟩
      have := L0 (w ++ v) (fun x hx => by
        rcases List.mem_append.1 hx with hx | hx
        · exact h3 x hx
        · exact hv x hx)
      rw [runM_app, runM_app, h4] at this
      exact this
    · exact ⟨0, 0, fun h => absurd h hc0⟩
  let s : Nat → Nat := fun c => Classical.choose (ex c)
  have hs : ∀ c, ∃ r, c < cntK kd us.length → s c < n ∧ r < us.length ∧ kd r = c ∧ Like (outU ns liv (begB ns liv) us) (nxL xs) out nx r (s c) := fun c => Classical.choose_spec (ex c)
  have inj : ∀ c d, c < cntK kd us.length → d < cntK kd us.length → s c = s d → c = d := fun c d h1 h2 e => by
    obtain ⟨r, hr⟩ := hs c
    obtain ⟨q, hq⟩ := hs d
    obtain ⟨_, a1, a2, a3⟩ := hr h1
    obtain ⟨_, b1, b2, b3⟩ := hq h2
    rw [e] at a3
    rw [← a2, ← b2]
    exact hk r q a1 b1 (like_trans a3 (like_symm b3))
  have hnd : ((List.range (cntK kd us.length)).map s).Nodup := by
    rw [List.nodup_iff_pairwise_ne, List.pairwise_map]
    refine List.Pairwise.imp_of_mem ?_ (List.nodup_iff_pairwise_ne.1 List.nodup_range)
    intro a b ha hb hne e
    exact hne (inj a b (by simpa using ha) (by simpa using hb) e)
  have := nodup_le _ _ hnd (fun y hy => by
    obtain ⟨c, h1, rfl⟩ := List.mem_map.1 hy
    obtain ⟨r, hr⟩ := hs c
    exact (hr (by simpa using h1)).1)
  simp only [List.length_map, List.length_range] at this
  omega
end

/-! ### The reference's way: through what is met -/
section
variable (out : Nat → Nat) (nx : Nat → Nat → Nat)

end

section
variable {out : Nat → Nat} {nx : Nat → Nat → Nat} {K : Nat} {ms xs : List Nat}

end

end Go.Proofs.Ytjagijohfkffiab
