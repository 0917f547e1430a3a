import Derived.Test.YtjagijohfkffiaaJM05

/- The walk of the reference's parse. -/
namespace Go.Proofs.Ytjagijohfkffiaa
open Go.RowKit
set_option linter.unusedVariables false

theorem Try.infoPartPtr : (Try.prog.info? 114).map (fun i => (i.zero, i.size, i.bytes)) = some (some (.pointer none), 1, 8) := by kernel_rfl

/-- What the reference's parse leaves. -/
def Rff (o : Option (Nat × List Nd)) (F : Nat) (x : Int) (bs : List Nat) (w : World) (e : Ending) (w' : World) : Prop :=
  (o = none ∧ e = .returned (.tuple #[.pointer none, .int .i64 x, .bool false]) ∧ Below F w w') ∨
  (∃ a' ns' ext P, o = some (a', ns') ∧ e = .returned (.tuple #[.pointer (some ⟨P, 0, none⟩), .int .i64 (a' : Nat), .bool true]) ∧ Fm w' F ns' (bs ++ ext) ∧ (bs ++ ext)[ns'.length - 1]? = some P ∧ (∀ b ∈ ext, w.heap.size ≤ b) ∧ Below F w w' ∧ Kp F w w')

def RparseAt (k F : Nat) (s : ByteArray) : Prop :=
  ∀ (x : Int) (a : Nat) (ns : List Nd) (bs : List Nat) (w : World), x = (a : Int) → Fm w F ns bs → s.size < a + k → a ≤ s.size → ns.length ≤ a → Calls Try.prog 77 #[.pointer (some ⟨F, 0, none⟩), .string s, .int .i64 x] w (Rff (ps k s a ns) F x bs w)

theorem fin_push {W w1 : World} {F : Nat} {ns : List Nd} {bs : List Nat} (hf : Fm W F ns bs) {Q : Obj} {v v' : Value} {n0 : Nat} {xs : List Value} (own : W.ownsRow (F + 1) 114 1 v n0 xs) (hn0 : n0 = ns.length) (hxs : xs = bs.map ptrTo1)
    {P : Nat} (hPF : F < P) (n : Nd) (h1 : leafB n.op = false → n.l < ns.length) (h2 : twoB n.op = true → n.r < ns.length) (hP : W.heap[P]? = some (partObj bs ns.length n))
    (hown : w1.ownsRow (F + 1) 114 1 v' (n0 + 1) (xs ++ [ptrTo1 P])) (hg : (W.alloc Q).grownBy w1 v.ownBlock) :
    ∃ ao' cap', v' = .slice ao' (ns.length + 1) cap' ∧ Fm (w1.setCell ⟨F, 0, none⟩ (.slice ao' (ns.length + 1) cap')) F (ns ++ [n]) (bs ++ [P]) ∧ Kp F W w1 ∧ Below (F + 1) W w1 := by
  subst hn0
  subst hxs
  have hF := hf.ltF
  have hk : Kp F W w1 := (Kp.alloc F W Q).trans (Kp.grown (own.alloc Q) hg)
  have hb : Below (F + 1) W w1 := ((Below.refl _ _).alloc (by omega) _).grown hg (by simp; omega) (fun k h => (own.lt k h).1)
  obtain ⟨ao', cap', hv⟩ : ∃ ao' cap', v' = .slice ao' (ns.length + 1) cap' := by
    rcases hown.2 with ⟨h, h0⟩ | ⟨g, cap', _, h, _⟩
    · omega
    · exact ⟨_, cap', h⟩
  subst hv
  exact ⟨ao', cap', rfl, hf.push hk hb hPF n h1 h2 hP ao' cap' hown, hk, hb⟩

theorem leaf_part {W : World} {ns : List Nd} {bs : List Nat} {P : Nat} {b : Nat} (hb : leafB b = true) (h : W.heap[P]? = some (.cells #[.int .u8 b, .pointer none, .pointer none, .int .i64 ns.length] 165)) : W.heap[P]? = some (partObj bs ns.length ⟨b, 0, 0⟩) := by
  rw [h]
  simp [partObj, lptr, rptr, hb, leaf_not_two hb]

theorem last_snoc {bs : List Nat} {ns : List Nd} {n : Nd} {P : Nat} (h : bs.length = ns.length) : (bs ++ [P])[(ns ++ [n]).length - 1]? = some P := by
  simp [← h]

set_option maxHeartbeats 800000 in
set_option maxRecDepth 100000 in
theorem rparse_leaf (k F : Nat) (s : ByteArray) (hs : s.size ≤ 24) (a : Nat) (ns : List Nd) (bs : List Nat) (w : World) (hf : Fm w F ns bs) (hn : ns.length ≤ a) (hb : leafB (bt s a) = true) :
    Calls Try.prog 77 #[.pointer (some ⟨F, 0, none⟩), .string s, .int .i64 a] w (Rff (ps (k + 1) s a ns) F a bs w) := by
  have hlt := bt_lt (leaf_ne hb)
  have e1 := hid (ps_leaf (k := k) (ns := ns) hb)
  have hb2 : (s[a]'hlt).toNat = bt s a := (bt_in hlt).symm
  obtain ⟨ao, cap, c0, own⟩ := hf.c0
  have f0 := hf.f0
  have hF := hf.ltF
  obtain ⟨i0, hi, hz0, hz1, hz2⟩ := info_parts Try.infoPartPtr
  have hB := leaf_is hb
  have HB := hid hb
  clear hb
  generalize bt s a = b at *
  rcases hB with rfl | rfl | rfl | rfl | rfl
  all_goals
    go_enter Try.func77, Try.ntmps77
    go_wp2_with (at_builtin; refine wpList_append_own _ rfl (.tmp 160) (.tmp 162) 65 rfl (F + 1) 114 i0 (.pointer none) 1 8 Try.underlying65 hi hz0 hz1 hz2 rfl (by decide) _ _ _ rfl ((own.alloc _).alloc _) ⟨w.heap.size + 1, 0, none⟩ 1 1 [ptrTo1 w.heap.size] rfl rfl ?c1 ?c2 ?c3 ?c4 ?c5 ?_)
    case c1 => intro j u hj; match j, hj with | 0, hj => simp at hj; subst hj; simp [Addr.add, ptrTo1]
    case c2 => intro u hu; simp at hu; subst hu; rfl
    case c3 => unfold maxLen; omega
    case c4 => omega
    case c5 => simp; omega
    intro v' w1 hown hgrow _
    obtain ⟨ao', cap', hv, hf1, hk, hbl⟩ := fin_push (hf.alloc _) (own.alloc _) rfl rfl (P := w.heap.size) (by omega) ⟨_, 0, 0⟩ (fun h => absurd HB.out (by rw [h]; decide)) (fun h => absurd (leaf_not_two HB.out) (by rw [h]; decide)) (leaf_part HB.out (heap_alloc_new _ _)) hown hgrow
    subst hv
    have k0 := (hbl.cell (p := ⟨F, 0, none⟩) (Nat.lt_succ_self _)).trans ((World.cell?_alloc_past _ _ _ hF).trans c0)
    have g0 := (hbl.frozen (p := ⟨F, 0, none⟩) (Nat.lt_succ_self _)).trans ((World.frozen?_alloc_past _ _ _ hF).trans f0)
    have HF := hid hf1
    have B1 := hid ((((Below.refl F w).alloc (by omega) _).trans (hbl.mono (Nat.le_succ F))).setCell (p := ⟨F, 0, none⟩) (Nat.le_refl _) (.slice ao' (ns.length + 1) cap'))
    have K1 := hid (((Kp.alloc F w _).trans hk).set (P := F) (Or.inr rfl) 0 (.slice ao' (ns.length + 1) cap'))
    clear hf1 hown hgrow hbl hk c0 f0 own
    go_wp2
    go_ret3
    refine Or.inr ⟨_, _, [w.heap.size], w.heap.size, e1.out, rfl, HF.out, last_snoc hf.len, ?_, B1.out, K1.out⟩
    intro b hb; simp at hb; omega

end Go.Proofs.Ytjagijohfkffiaa

/- The walk of the reference's parse: a sign for one formula. -/
namespace Go.Proofs.Ytjagijohfkffiaa
open Go.RowKit
set_option linter.unusedVariables false

theorem part_cells {w : World} {P : Nat} {c0 c1 c2 c3 : Value} (h : w.heap[P]? = some (.cells #[c0, c1, c2, c3] 165 (0, 0))) :
    w.cell? ⟨P, 0, none⟩ = some c0 ∧ w.cell? ⟨P, 1, none⟩ = some c1 ∧ w.cell? ⟨P, 2, none⟩ = some c2 ∧ w.cell? ⟨P, 3, none⟩ = some c3 := by
  refine ⟨?_, ?_, ?_, ?_⟩ <;> (rw [cell_of_row w P _ _ _ _ h]; rfl)

theorem part_ne {c : Array Value} : ∀ c', (Obj.cells c 165 (0, 0)) ≠ .cells c' 114 (0, 0) := by intro c' h; simp at h

/-- A part with one part below it, its cells written. -/
theorem one_part {w1 : World} {F P L b : Nat} {n1 : List Nd} {bs : List Nat} (hf : Fm w1 F n1 bs) (hP : w1.heap[P]? = some (.cells #[.int .u8 b, .pointer none, .pointer none, .int .i64 0] 165 (0, 0)))
    (hPb : P ∉ bs) (hPF : P ≠ F) (hL : bs[n1.length - 1]? = some L) (hb : oneB b = true) :
    Fm ((w1.setCell ⟨P, 1, none⟩ (.pointer (some ⟨L, 0, none⟩))).setCell ⟨P, 3, none⟩ (.int .i64 n1.length)) F n1 bs ∧
    ((w1.setCell ⟨P, 1, none⟩ (.pointer (some ⟨L, 0, none⟩))).setCell ⟨P, 3, none⟩ (.int .i64 n1.length)).heap[P]? = some (partObj bs n1.length ⟨b, n1.length - 1, 0⟩) := by
  have h1 := heap_setCell_same w1 P 1 _ _ (.pointer (some ⟨L, 0, none⟩)) hP
  have h2 := heap_setCell_same _ P 3 _ _ (.int .i64 n1.length) h1
  have f1 := hf.set hPb hPF hP part_ne 1 (.pointer (some ⟨L, 0, none⟩))
  refine ⟨f1.set hPb hPF h1 part_ne 3 _, h2.trans ?_⟩
  simp [partObj, lptr, rptr, leaf_not_one hb, one_not_two hb, List.getD, hL]

set_option maxHeartbeats 800000 in
set_option maxRecDepth 100000 in
theorem rparse_one (k F : Nat) (s : ByteArray) (hs : s.size ≤ 24) (H : RparseAt k F s) (a : Nat) (ns : List Nd) (bs : List Nat) (w : World) (hf : Fm w F ns bs) (hk : s.size < a + (k + 1)) (hn : ns.length ≤ a) (hb : oneB (bt s a) = true) :
    Calls Try.prog 77 #[.pointer (some ⟨F, 0, none⟩), .string s, .int .i64 a] w (Rff (ps (k + 1) s a ns) F a bs w) := by
  have hlt := bt_lt (one_ne hb)
  have e1 := hid (ps_one (k := k) (ns := ns) hb)
  have hb2 : (s[a]'hlt).toNat = bt s a := (bt_in hlt).symm
  have hF := hf.ltF
  obtain ⟨i0, hi, hz0, hz1, hz2⟩ := info_parts Try.infoPartPtr
  have hB := one_is hb
  have HB := hid hb
  clear hb
  generalize bt s a = b at *
  have C := fun W (h : Fm W F ns bs) => H (a + 1) (a + 1) ns bs W (by omega) h (by omega) (by omega) (by omega)
  cases e0 : ps k s (a + 1) ns with
  | none =>
    have e2 : Hid (ps (k + 1) s a ns = none) := hid (by rw [e1.out]; simp [ps1, e0])
    have E0 := hid e0
    clear e0
    rcases hB with rfl | rfl | rfl | rfl
    all_goals
      go_enter Try.func77, Try.ntmps77
      go_wp2_with fail
      refine (C _ (hf.alloc _)).mono ?_
      rintro e w1 (⟨_, rfl, hbl⟩ | ⟨a', ns', _, _, h, _⟩)
      · go_wp2_with fail
        go_ret3
        exact Or.inl ⟨e2.out, rfl, ((Below.refl F w).alloc (by omega) _).trans hbl⟩
      · rw [E0.out] at h; cases h
  | some x =>
    obtain ⟨a1, n1⟩ := x
    have e2 : Hid (ps (k + 1) s a ns = some (a1, n1 ++ [⟨b, n1.length - 1, 0⟩])) := hid (by rw [e1.out]; simp [ps1, e0])
    have g1 := ps_grows k s _ ns a1 n1 e0
    have E0 := hid e0
    clear e0
    rcases hB with rfl | rfl | rfl | rfl
    all_goals
      go_enter Try.func77, Try.ntmps77
      go_wp2_with fail
      refine (C _ (hf.alloc _)).mono ?_
      rintro e w1 (⟨h, _⟩ | ⟨a', ns', ext, L, h, rfl, hf1, hL, hext, hbl, hkp⟩)
      · rw [E0.out] at h; cases h
      rw [E0.out] at h
      simp only [Option.some.injEq, Prod.mk.injEq] at h
      obtain ⟨rfl, rfl⟩ := h
      have hP := hkp w.heap.size _ _ (heap_alloc_new _ _) (by decide) (by omega)
      obtain ⟨p0, p1, p2, p3⟩ := part_cells hP
      have q : ∀ j, w1.frozen? ⟨w.heap.size, j, none⟩ = false := fun j => frozen_of_row _ _ _ _ _ hP
      have hPb : w.heap.size ∉ bs ++ ext := fun hm => (List.mem_append.1 hm).elim (fun h => by have := (hf.lt _ h).1; omega) (fun h => by have := hext _ h; simp at this; omega)
      obtain ⟨bs1, hbs⟩ : ∃ bs1, bs1 = bs ++ ext := ⟨_, rfl⟩
      rw [← hbs] at hf1 hL hPb
      have HBS := hid hbs
      clear hbs
      obtain ⟨hfW, hPW⟩ := one_part hf1 hP hPb (by omega) hL HB.out
      obtain ⟨ao, cap, c0, _⟩ := hf1.c0
      have f0 := hf1.f0
      have hsz : w.heap.size + 1 ≤ w1.heap.size := by have := hbl.size; simp at this; omega
      have hF1 := hf1.ltF
      have HW := hid hfW
      have own := (hf1.own c0).2
      have ownW := hid (own_set (own_set own hP part_ne 1 (.pointer (some ⟨L, 0, none⟩))) (heap_setCell_same w1 w.heap.size 1 _ _ (.pointer (some ⟨L, 0, none⟩)) hP) part_ne 3 (.int .i64 n1.length))
      have HPW := hid hPW
      have hlen := hf1.len
      clear hf1 hP hfW hPW own
      go_wp2_with (at_builtin; refine wpList_append_own _ rfl (.tmp 160) (.tmp 162) 65 rfl (F + 1) 114 i0 (.pointer none) 1 8 Try.underlying65 hi hz0 hz1 hz2 rfl (by decide) _ _ _ rfl (ownW.out.alloc _) ⟨w1.heap.size, 0, none⟩ 1 1 [ptrTo1 w.heap.size] rfl rfl ?c1 ?c2 ?c3 ?c4 ?c5 ?_)
      case c1 => intro j u hj; match j, hj with | 0, hj => simp at hj; subst hj; simp [Addr.add, ptrTo1, World.cell?_alloc_here]
      case c2 => intro u hu; simp at hu; subst hu; rfl
      case c3 => unfold maxLen; omega
      case c4 => omega
      case c5 => simp; omega
      intro v' w2 hown hgrow _
      obtain ⟨ao', cap', hv, hf2, hk2, hb2⟩ := fin_push HW.out ownW.out rfl rfl (P := w.heap.size) (by omega) ⟨_, n1.length - 1, 0⟩ (fun _ => by show n1.length - 1 < n1.length; omega) (fun h => absurd (one_not_two HB.out) (by rw [h]; decide)) HPW.out hown hgrow
      subst hv
      have k0 : w2.cell? ⟨F, 0, none⟩ = some (.slice ao n1.length cap) := (hb2.cell (p := ⟨F, 0, none⟩) (Nat.lt_succ_self _)).trans ((World.cell?_setCell_other _ _ _ _ (fun e => by have := congrArg Addr.block e; simp at this; omega)).trans ((World.cell?_setCell_other _ _ _ _ (fun e => by have := congrArg Addr.block e; simp at this; omega)).trans c0))
      have g0 : w2.frozen? ⟨F, 0, none⟩ = false := (hb2.frozen (p := ⟨F, 0, none⟩) (Nat.lt_succ_self _)).trans (by rw [World.frozen?_setCell, World.frozen?_setCell]; exact f0)
      have HF := hid hf2
      have B1 := hid (((((((Below.refl F w).alloc (by omega) _).trans hbl).setCell (p := ⟨w.heap.size, 1, none⟩) (by show F ≤ w.heap.size; omega) _).setCell (p := ⟨w.heap.size, 3, none⟩) (by show F ≤ w.heap.size; omega) _).trans (hb2.mono (Nat.le_succ F))).setCell (p := ⟨F, 0, none⟩) (Nat.le_refl _) (.slice ao' (n1.length + 1) cap'))
      have K1 := hid ((((((Kp.alloc F w _).trans hkp).set (P := w.heap.size) (Or.inl (Nat.le_refl _)) 1 _).set (P := w.heap.size) (Or.inl (Nat.le_refl _)) 3 _).trans hk2).set (P := F) (Or.inr rfl) 0 (.slice ao' (n1.length + 1) cap'))
      clear hf2 hown hgrow hb2 hk2 c0 f0 p0 p1 p2 p3 q
      go_wp2
      go_ret3
      refine Or.inr ⟨_, _, ext ++ [w.heap.size], w.heap.size, e2.out, rfl, ?_, ?_, ?_, B1.out, K1.out⟩
      · rw [← List.append_assoc, ← HBS.out]; exact HF.out
      · rw [← List.append_assoc, ← HBS.out]; exact last_snoc hlen
      · intro b hb
        rcases List.mem_append.1 hb with hb | hb
        · have := hext _ hb; simp at this; omega
        · simp at hb; omega

end Go.Proofs.Ytjagijohfkffiaa
