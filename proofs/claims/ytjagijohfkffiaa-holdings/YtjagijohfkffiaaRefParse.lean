/- The walk of the reference's parse. -/
import Derived.Test.YtjagijohfkffiaaRefMem
namespace Go.Proofs.Ytjagijohfkffiaa
open Go.RowKit
set_option linter.unusedVariables false

theorem Try.infoPartPtr : (Try.prog.info? 114).map (fun i => (i.zero, i.size, i.bytes)) = some (some (.pointer none), 1, 8) := by kernel_rfl

/-- What the reference's parse leaves. -/
def Rff (o : Option (Nat × List Nd)) (F : Nat) (x : Int) (bs : List Nat) (w : World) (e : Ending) (w' : World) : Prop :=
  (o = none ∧ e = .returned (.tuple #[.pointer none, .int .i64 x, .bool false]) ∧ Below F w w') ∨
  (∃ a' ns' ext P, o = some (a', ns') ∧ e = .returned (.tuple #[.pointer (some ⟨P, 0, none⟩), .int .i64 (a' : Nat), .bool true]) ∧ Fm w' F ns' (bs ++ ext) ∧ (bs ++ ext)[ns'.length - 1]? = some P ∧ (∀ b ∈ ext, w.heap.size ≤ b) ∧ Below F w w' ∧ Kp F w w')

def RparseAt (k F : Nat) (s : ByteArray) : Prop :=
  ∀ (x : Int) (a : Nat) (ns : List Nd) (bs : List Nat) (w : World), x = (a : Int) → Fm w F ns bs → s.size < a + k → a ≤ s.size → ns.length ≤ a → Calls Try.prog 77 #[.pointer (some ⟨F, 0, none⟩), .string s, .int .i64 x] w (Rff (ps k s a ns) F x bs w)

theorem fin_push {W w1 : World} {F : Nat} {ns : List Nd} {bs : List Nat} (hf : Fm W F ns bs) {Q : Obj} {v v' : Value} {n0 : Nat} {xs : List Value} (own : W.ownsRow (F + 1) 114 1 v n0 xs) (hn0 : n0 = ns.length) (hxs : xs = bs.map ptrTo1)
    {P : Nat} (hPF : F < P) (n : Nd) (h1 : leafB n.op = false → n.l < ns.length) (h2 : twoB n.op = true → n.r < ns.length) (hP : W.heap[P]? = some (partObj bs ns.length n))
    (hown : w1.ownsRow (F + 1) 114 1 v' (n0 + 1) (xs ++ [ptrTo1 P])) (hg : (W.alloc Q).grownBy w1 v.ownBlock) :
    ∃ ao' cap', v' = .slice ao' (ns.length + 1) cap' ∧ Fm (w1.setCell ⟨F, 0, none⟩ (.slice ao' (ns.length + 1) cap')) F (ns ++ [n]) (bs ++ [P]) ∧ Kp F W w1 ∧ Below (F + 1) W w1 := by
  subst hn0
  subst hxs
  have hF := hf.ltF
  have hk : Kp F W w1 := (Kp.alloc F W Q).trans (Kp.grown (own.alloc Q) hg)
  have hb : Below (F + 1) W w1 := ((Below.refl _ _).alloc (by omega) _).grown hg (by simp; omega) (fun k h => (own.lt k h).1)
  obtain ⟨ao', cap', hv⟩ : ∃ ao' cap', v' = .slice ao' (ns.length + 1) cap' := by
    rcases hown.2 with ⟨h, h0⟩ | ⟨g, cap', _, h, _⟩
    · omega
    · exact ⟨_, cap', h⟩
  subst hv
  exact ⟨ao', cap', rfl, hf.push hk hb hPF n h1 h2 hP ao' cap' hown, hk, hb⟩

theorem leaf_part {W : World} {ns : List Nd} {bs : List Nat} {P : Nat} {b : Nat} (hb : leafB b = true) (h : W.heap[P]? = some (.cells #[.int .u8 b, .pointer none, .pointer none, .int .i64 ns.length] 165)) : W.heap[P]? = some (partObj bs ns.length ⟨b, 0, 0⟩) := by
  rw [h]
  simp [partObj, lptr, rptr, hb, leaf_not_two hb]

theorem last_snoc {bs : List Nat} {ns : List Nd} {n : Nd} {P : Nat} (h : bs.length = ns.length) : (bs ++ [P])[(ns ++ [n]).length - 1]? = some P := by
  simp [← h]

set_option maxHeartbeats 800000 in
set_option maxRecDepth 100000 in
theorem rparse_leaf (k F : Nat) (s : ByteArray) (hs : s.size ≤ 24) (a : Nat) (ns : List Nd) (bs : List Nat) (w : World) (hf : Fm w F ns bs) (hn : ns.length ≤ a) (hb : leafB (bt s a) = true) :
    Calls Try.prog 77 #[.pointer (some ⟨F, 0, none⟩), .string s, .int .i64 a] w (Rff (ps (k + 1) s a ns) F a bs w) := by
  have hlt := bt_lt (leaf_ne hb)
  have e1 := hid (ps_leaf (k := k) (ns := ns) hb)
  have hb2 : (s[a]'hlt).toNat = bt s a := (bt_in hlt).symm
  obtain ⟨ao, cap, c0, own⟩ := hf.c0
  have f0 := hf.f0
  have hF := hf.ltF
  obtain ⟨i0, hi, hz0, hz1, hz2⟩ := info_parts Try.infoPartPtr
  have hB := leaf_is hb
  have HB := hid hb
  clear hb
  generalize bt s a = b at *
  rcases hB with rfl | rfl | rfl | rfl | rfl
  all_goals
    go_enter Try.func77, Try.ntmps77
    go_wp2_with (at_builtin; refine wpList_append_own _ rfl (.tmp 160) (.tmp 162) 65 rfl (F + 1) 114 i0 (.pointer none) 1 8 Try.underlying65 hi hz0 hz1 hz2 rfl (by decide) _ _ _ rfl ((own.alloc _).alloc _) ⟨w.heap.size + 1, 0, none⟩ 1 1 [ptrTo1 w.heap.size] rfl rfl ?c1 ?c2 ?c3 ?c4 ?c5 ?_)
    case c1 => intro j u hj; match j, hj with | 0, hj => simp at hj; subst hj; simp [Addr.add, ptrTo1]
    case c2 => intro u hu; simp at hu; subst hu; rfl
    case c3 => unfold maxLen; omega
    case c4 => omega
    case c5 => simp; omega
    intro v' w1 hown hgrow _
    obtain ⟨ao', cap', hv, hf1, hk, hbl⟩ := fin_push (hf.alloc _) (own.alloc _) rfl rfl (P := w.heap.size) (by omega) ⟨_, 0, 0⟩ (fun h => absurd HB.out (by rw [h]; decide)) (fun h => absurd (leaf_not_two HB.out) (by rw [h]; decide)) (leaf_part HB.out (heap_alloc_new _ _)) hown hgrow
    subst hv
    have k0 := (hbl.cell (p := ⟨F, 0, none⟩) (Nat.lt_succ_self _)).trans ((World.cell?_alloc_past _ _ _ hF).trans c0)
    have g0 := (hbl.frozen (p := ⟨F, 0, none⟩) (Nat.lt_succ_self _)).trans ((World.frozen?_alloc_past _ _ _ hF).trans f0)
    have HF := hid hf1
    have B1 := hid ((((Below.refl F w).alloc (by omega) _).trans (hbl.mono (Nat.le_succ F))).setCell (p := ⟨F, 0, none⟩) (Nat.le_refl _) (.slice ao' (ns.length + 1) cap'))
    have K1 := hid (((Kp.alloc F w _).trans hk).set (P := F) (Or.inr rfl) 0 (.slice ao' (ns.length + 1) cap'))
    clear hf1 hown hgrow hbl hk c0 f0 own
    go_wp2
    go_ret3
    refine Or.inr ⟨_, _, [w.heap.size], w.heap.size, e1.out, rfl, HF.out, last_snoc hf.len, ?_, B1.out, K1.out⟩
    intro b hb; simp at hb; omega

end Go.Proofs.Ytjagijohfkffiaa
