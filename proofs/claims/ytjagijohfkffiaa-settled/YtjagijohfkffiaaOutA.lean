/- The walks of Waits, End, before, settled. -/
import Derived.Test.YtjagijohfkffiaaGrp
import Derived.Test.YtjagijohfkffiaaGood
import Derived.Test.YtjagijohfkffiaaLaw
import Derived.Outline
namespace Go.Proofs.Ytjagijohfkffiaa
open Go.RowKit
set_option linter.unusedVariables false

/-- The nodes of a formula in memory. -/
structure NdM (w : World) (gn : Nat) (ns : List Nd) : Prop where
  lt : gn < w.heap.size
  c0 : ∀ i, i < ns.length → w.cell? ⟨gn, i * 3, none⟩ = some (.int .u8 (ndAt ns i).op)
  c1 : ∀ i, i < ns.length → w.cell? ⟨gn, i * 3 + 1, none⟩ = some (.int .i64 (ndAt ns i).l)
  c2 : ∀ i, i < ns.length → w.cell? ⟨gn, i * 3 + 2, none⟩ = some (.int .i64 (ndAt ns i).r)
theorem NdM.below {B : Nat} {w w' : World} {gn : Nat} {ns : List Nd} (h : NdM w gn ns) (hb : Below B w w') (hB : gn < B) : NdM w' gn ns :=
  ⟨Nat.lt_of_lt_of_le h.lt hb.size, fun i hi => (hb.cell (p := ⟨gn, i * 3, none⟩) hB).trans (h.c0 i hi), fun i hi => (hb.cell (p := ⟨gn, i * 3 + 1, none⟩) hB).trans (h.c1 i hi), fun i hi => (hb.cell (p := ⟨gn, i * 3 + 2, none⟩) hB).trans (h.c2 i hi)⟩

def waitsB (op : Nat) : Bool := op == 70 || op == 85 || lastsB op
def endN (n : Nd) : Nat := if n.op = 85 ∨ n.op = 82 then n.r else n.l

theorem waits_any (n : Nd) (w : World) : Calls Try.prog 83 #[ndV n] w fun e w' => e = .returned (.bool (waitsB n.op)) ∧ Below w.heap.size w w' := by
  obtain ⟨op, l, r⟩ := n
  have LW := fun W => lasts_any ⟨op, l, r⟩ W
  unfold ndV at *
  dsimp only at *
  by_cases h1 : op = 70
  · subst h1
    clear LW
    go_enter Try.func83, Try.ntmps83
    go_wp2_with fail
    go_ret
    exact ⟨rfl, (Below.refl _ _).alloc (Nat.le_refl _) _⟩
  by_cases h2 : op = 85
  · subst h2
    clear LW
    go_enter Try.func83, Try.ntmps83
    go_wp2_with fail
    go_ret
    exact ⟨rfl, (Below.refl _ _).alloc (Nat.le_refl _) _⟩
  have k1 : ((op : Int) == 70) = false := beq_eq_false_iff_ne.2 (by omega)
  have k2 : ((op : Int) == 85) = false := beq_eq_false_iff_ne.2 (by omega)
  have E : Hid (waitsB op = lastsB op) := hid (by simp [waitsB, h1, h2])
  go_enter Try.func83, Try.ntmps83
  go_wp2_with fail
  refine (LW _).mono ?_
  rintro e w' ⟨rfl, hb⟩
  go_wp2_with fail
  go_ret
  exact ⟨by rw [E.out]; rfl, ((Below.refl _ _).alloc (Nat.le_refl _) _).trans (hb.mono (by simp))⟩

theorem end_any (n : Nd) (w : World) : Calls Try.prog 111 #[ndV n] w fun e w' => e = .returned (.int .i64 (endN n : Nat)) ∧ Below w.heap.size w w' := by
  obtain ⟨op, l, r⟩ := n
  unfold ndV
  dsimp only at *
  by_cases h1 : op = 85
  · subst h1
    go_enter Try.func111, Try.ntmps111
    go_wp2_with fail
    go_ret
    exact ⟨by simp [endN], (Below.refl _ _).alloc (Nat.le_refl _) _⟩
  by_cases h2 : op = 82
  · subst h2
    go_enter Try.func111, Try.ntmps111
    go_wp2_with fail
    go_ret
    exact ⟨by simp [endN], (Below.refl _ _).alloc (Nat.le_refl _) _⟩
  have k1 : ((op : Int) == 85) = false := beq_eq_false_iff_ne.2 (by omega)
  have k2 : ((op : Int) == 82) = false := beq_eq_false_iff_ne.2 (by omega)
  have E : Hid (endN ⟨op, l, r⟩ = l) := hid (by simp [endN, h1, h2])
  go_enter Try.func111, Try.ntmps111
  go_wp2_with fail
  go_ret
  exact ⟨by rw [E.out]; rfl, (Below.refl _ _).alloc (Nat.le_refl _) _⟩

/-- The view before, node by node. -/
def befTo (ns : List Nd) (x N : Nat) : Nat → Nat
  | 0 => 0
  | k + 1 => wth (befTo ns x N k) k (lawB (ndAt ns k).op x ((befTo ns x N k).testBit (ndAt ns k).l) ((befTo ns x N k).testBit (ndAt ns k).r) (N.testBit k) (N.testBit (ndAt ns k).l))
def bef (ns : List Nd) (x N : Nat) : Nat := befTo ns x N ns.length
theorem befTo_lt (ns : List Nd) (x N : Nat) : ∀ k, k ≤ 8 → befTo ns x N k < 256
  | 0, _ => by simp [befTo]
  | k + 1, h => wth_lt (befTo_lt ns x N k (by omega)) (by omega)
theorem bef_lt {ns : List Nd} (h : ns.length ≤ 8) (x N : Nat) : bef ns x N < 256 := befTo_lt ns x N _ h
theorem ndAt_gets {ns : List Nd} {k : Nat} (h : k < ns.length) : ns[k]? = some (ndAt ns k) := by simp [ndAt, List.getD, List.getElem?_eq_getElem h]

set_option maxHeartbeats 1600000 in
set_option maxRecDepth 100000 in
theorem before_any (gn m ncap x N : Nat) (ns : List Nd) (w : World) (hm : NdM w gn ns) (hg : Good ns) (hlm : ns.length = m) (hx : x < 8) (hN : N < 256) :
    Calls Try.prog 82 #[.slice (some ⟨gn, 0, none⟩) m ncap, .int .i64 x, .int .i64 N] w fun e w' => e = .returned (.int .u8 (bef ns x N : Nat)) ∧ Below w.heap.size w w' := by
  have hle := hg.le
  have HG := hid hg
  have HM := hid hm
  have hgn := hm.lt
  have HE : Hid (befTo ns x N m = bef ns x N) := hid (by rw [← hlm]; rfl)
  have HL := hid hlm
  have hm8 : m ≤ 8 := by omega
  clear hm hg hle hlm
  go_enter Try.func82, Try.ntmps82
  go_wp2_with fail
  go_loopw [7, 13] (fun h i wq => ∃ k : Nat, k ≤ m ∧ i = .int .i64 k ∧ h = .int .i64 (befTo ns x N k : Nat) ∧ Below w.heap.size w wq) (fun _ i _ => m - (intOf i).toNat)
  case atStart => exact ⟨0, Nat.zero_le _, rfl, rfl, Below.refl _ _⟩
  case round =>
    obtain ⟨k, hk, rfl, rfl, hb⟩ := hrel
    by_cases hlk : k < m
    · have hk8 : k < 8 := by omega
      have hS := befTo_lt ns x N k (by omega)
      obtain ⟨h1, h2⟩ := Wf2.small HG.out.wf HG.out.le (ndAt_gets (ns := ns) (k := k) (by rw [HL.out]; exact hlk))
      have n0 := (hb.cell (p := ⟨gn, k * 3, none⟩) hgn).trans (HM.out.c0 k (by rw [HL.out]; exact hlk))
      have n1 := (hb.cell (p := ⟨gn, k * 3 + 1, none⟩) hgn).trans (HM.out.c1 k (by rw [HL.out]; exact hlk))
      have n2 := (hb.cell (p := ⟨gn, k * 3 + 2, none⟩) hgn).trans (HM.out.c2 k (by rw [HL.out]; exact hlk))
      have LW := fun W => law_any (ndAt ns k) k x (befTo ns x N k) N W h1 h2 hk8 hx hS hN
      have HS : Hid (befTo ns x N (k + 1) = wth (befTo ns x N k) k (lawB (ndAt ns k).op x ((befTo ns x N k).testBit (ndAt ns k).l) ((befTo ns x N k).testBit (ndAt ns k).r) (N.testBit k) (N.testBit (ndAt ns k).l))) := hid rfl
      unfold ndV at LW
      generalize ndAt ns k = nd at *
      generalize befTo ns x N k = S at *
      go_wp2_with fail
      refine (LW _).mono ?_
      rintro e w2 ⟨rfl, hb2⟩
      clear LW n0 n1 n2
      generalize lawB nd.op x (S.testBit nd.l) (S.testBit nd.r) (N.testBit k) (N.testBit nd.l) = v at *
      go_wp2_with fail
      refine (with_any S k v _ hS hk8).mono ?_
      rintro e w3 ⟨rfl, rfl⟩
      go_wp2_with fail
      go_roundw
      case rel => exact ⟨k + 1, by omega, by go_num, by rw [HS.out], (hb.alloc hb.size _).trans (hb2.mono (by have := hb.size; simp; omega))⟩
      case measure => simp [intOf]; omega
    · obtain rfl : k = m := by omega
      have hS := befTo_lt ns x N k (by omega)
      have e1 : IntKind.u8.wrap ((befTo ns x N k : Nat) : Int) = ((befTo ns x N k : Nat) : Int) := by
        rw [IntKind.wrap_u8]; omega
      go_wp2_with fail
      go_ret
      exact ⟨by rw [← HE.out]; rfl, hb⟩

end Go.Proofs.Ytjagijohfkffiaa
