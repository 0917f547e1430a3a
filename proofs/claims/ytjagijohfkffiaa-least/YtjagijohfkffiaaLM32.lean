import Derived.Test.YtjagijohfkffiaaLM19
import Derived.Test.YtjagijohfkffiaaLM30
import Derived.Test.YtjagijohfkffiaaLM31
import Derived.Deep.RegionHeld3
import Derived.BigQuiet

/- The walk of verdictkeep's apart, of a machine each two of whose states some word tells apart (laid by gen_kapart.py). -/
namespace Go.Proofs.Ytjagijohfkffiaa
open Go.RowKit
set_option linter.unusedVariables false

/-- The table, behind r rounds. -/
def TbI (out : Nat → Nat) (nx : Nat → Nat → Nat) (n r : Nat) (t : Nat → Bool) : Prop := ∀ x y, x < n → y < n → ¬ LikeTo out nx r x y → t (x * n + y) = true
/-- And as far as the pair i in the next one. -/
structure TbJ (out : Nat → Nat) (nx : Nat → Nat → Nat) (n r : Nat) (t : Nat → Bool) (i : Nat) : Prop where
  all : TbI out nx n r t
  more : ∀ x y, x < n → y < n → x * n + y < i → ¬ LikeTo out nx (r + 1) x y → t (x * n + y) = true
structure TbK (out : Nat → Nat) (nx : Nat → Nat → Nat) (n r : Nat) (t : Nat → Bool) (x y a : Nat) : Prop where
  j : TbJ out nx n r t (x * n + y)
  here : ∀ b, b < a → ¬ LikeTo out nx r (nx x b) (nx y b) → t (x * n + y) = true

section
variable {out : Nat → Nat} {nx : Nat → Nat → Nat} {n r : Nat} {t : Nat → Bool}
theorem tb_zero : TbI out nx n 0 (fun i => out (i / n) != out (i % n)) := fun x y hx hy h => by
  have e1 : (x * n + y) / n = x := by rw [Nat.mul_comm, Nat.mul_add_div (by omega), Nat.div_eq_of_lt hy]; omega
  have e2 : (x * n + y) % n = y := by rw [Nat.mul_comm, Nat.mul_add_mod, Nat.mod_eq_of_lt hy]
  show (out ((x * n + y) / n) != out ((x * n + y) % n)) = true
  rw [e1, e2, bne_iff_ne]
  exact fun e => h (likeTo_zero.2 e)
theorem tbj_start (h : TbI out nx n r t) : TbJ out nx n r t 0 := ⟨h, fun x y _ _ h0 => by omega⟩
theorem tbj_end (h : TbJ out nx n r t (n * n)) : TbI out nx n (r + 1) t := fun x y hx hy hl => h.more x y hx hy (by
  have : x * n + n ≤ n * n := by rw [← Nat.succ_mul]; exact Nat.mul_le_mul_right n hx
  omega) hl
theorem tbk_start {x y : Nat} (h : TbJ out nx n r t (x * n + y)) : TbK out nx n r t x y 0 := ⟨h, fun b hb => by omega⟩
theorem pair_inj {n x y x' y' : Nat} (hy : y < n) (hy' : y' < n) (h : x * n + y = x' * n + y') : x = x' ∧ y = y' := by
  have e1 : (x * n + y) / n = x := by rw [Nat.mul_comm, Nat.mul_add_div (by omega), Nat.div_eq_of_lt hy]; omega
  have e2 : (x' * n + y') / n = x' := by rw [Nat.mul_comm, Nat.mul_add_div (by omega), Nat.div_eq_of_lt hy']; omega
  rw [h, e2] at e1
  subst e1
  exact ⟨rfl, by omega⟩
theorem tbk_end {x y : Nat} (hx : x < n) (hy : y < n) (h : TbK out nx n r t x y 8) : TbJ out nx n r t (x * n + y + 1) := by
  refine ⟨h.j.all, fun x' y' hx' hy' hlt hl => ?_⟩
  by_cases e : x' * n + y' = x * n + y
  · obtain ⟨rfl, rfl⟩ := pair_inj hy' hy e
    apply Classical.byContradiction
    intro hf
    apply hl
    refine likeTo_succ.2 ⟨?_, fun a ha => ?_⟩
    · exact Classical.byContradiction fun c => hf (h.j.all x' y' hx' hy' c)
    · exact Classical.byContradiction fun c => hf (h.here a ha c)
  · exact h.j.more x' y' hx' hy' (by omega) hl
theorem tbk_step {x y a : Nat} (hc : ∀ i a, i < n → a < 8 → nx i a < n) (hx : x < n) (hy : y < n) (ha : a < 8) (h : TbK out nx n r t x y a) : TbK out nx n r (upd t (x * n + y) (t (x * n + y) || t (nx x a * n + nx y a))) x y (a + 1) := by
  have up : ∀ k, t k = true → upd t (x * n + y) (t (x * n + y) || t (nx x a * n + nx y a)) k = true := fun k hk => by
    unfold upd
    by_cases e : k = x * n + y
    · rw [if_pos e, ← e, hk]; rfl
    · rw [if_neg e]; exact hk
  refine ⟨⟨fun x' y' h1 h2 h3 => up _ (h.j.all x' y' h1 h2 h3), fun x' y' h1 h2 h3 h4 => up _ (h.j.more x' y' h1 h2 h3 h4)⟩, fun b hb hl => ?_⟩
  by_cases e : b = a
  · subst e
    unfold upd
    rw [if_pos rfl, h.j.all _ _ (hc x b hx ha) (hc y b hy ha) hl]
    simp
  · exact up _ (h.here b (by omega) hl)
end

set_option maxHeartbeats 4000000 in
set_option maxRecDepth 100000 in
theorem kapart_yes (b1 o1 b2 o2 n c1 c2 : Nat) (out : Nat → Nat) (nx : Nat → Nat → Nat) (w : World) (h : MaR w b1 o1 b2 o2 n out nx) (ha : Apart n out nx) (hc : ∀ i a, i < n → a < 8 → nx i a < n) (h0 : 0 < n) (h8 : n ≤ 8) (m1 : n ≤ c1) (m2 : c1 ≤ 9223372036854775807) (m3 : n ≤ c2) (m4 : c2 ≤ 9223372036854775807) :
    Calls Try.prog 43 #[.agg #[.slice (some ⟨b1, o1, none⟩) n c1, .slice (some ⟨b2, o2, none⟩) n c2]] w fun e w' => e = .returned (.bool true) ∧ Below w.heap.size w w' := by
  have T0 := two_new w (.slice (some ⟨b1, o1, none⟩) n c1) (.slice (some ⟨b2, o2, none⟩) n c2) 46
  have BA := (Below.refl w.heap.size w).alloc (Nat.le_refl _) (.cells #[.slice (some ⟨b1, o1, none⟩) n c1, .slice (some ⟨b2, o2, none⟩) n c2] 46)
  have H := hid (h.below BA)
  have HBA := hid BA
  have HA := hid (fun x y (hx : x < n) (hy : y < n) (hne : x ≠ y) (hl : LikeTo out nx n x y) => hne (ha x y hx hy (likeTo_all hc hx hy hl)))
  have HC := hid hc
  have hl1 := h.l1
  have hl2 := h.l2
  have x0 := T0.c0
  have x1 := T0.c1
  have hne : ¬ n = 0 := by omega
  have hni : ¬ (n : Int) = 0 := by omega
  obtain ⟨M, hM⟩ : ∃ M, M = n * n := ⟨_, rfl⟩
  have hMp : 0 < M := by rw [hM]; exact Nat.mul_pos h0 h0
  have hM64 : M ≤ 64 := by rw [hM]; exact Nat.mul_le_mul h8 h8
  have hnn : (n : Int) * (n : Int) = (M : Int) := by rw [hM]; push_cast; rfl
  have HM := hid hM
  have HXY : Hid (∀ i, i < M → ∃ x y, x < n ∧ y < n ∧ i = x * n + y ∧ (i : Int) / (n : Int) = (x : Int) ∧ (i : Int).tmod (n : Int) = (y : Int)) := hid (fun i hi => by
    refine ⟨i / n, i % n, Nat.div_lt_of_lt_mul (by rw [← hM]; exact hi), Nat.mod_lt _ h0, ?_, rfl, by rw [Int.tmod_eq_emod_of_nonneg (by omega)]; rfl⟩
    have := Nat.div_add_mod i n
    rw [Nat.mul_comm] at this
    omega)
  have HUV : Hid (∀ u v, u < n → v < n → ∃ un : Nat, (u : Int) * (n : Int) = (un : Int) ∧ un = u * n ∧ un + v < M) := hid (fun u v hu hv => by
    refine ⟨u * n, by push_cast; rfl, rfl, ?_⟩
    have : u * n + n ≤ n * n := by rw [← Nat.succ_mul]; exact Nat.mul_le_mul_right n hu
    omega)
  obtain ⟨i0, hi, hz0, hz1, hz2⟩ := info_parts Try.infoBool
  clear h T0 ha hc BA hM
  go_enter Try.func43, Try.ntmps43
  go_wp2_with (at_make; go_must (refine wpList_make_full _ rfl (.tmp 15) (.tmp 15) 36 rfl (w.heap.size + 1) 4 i0 (.bool false) 1 Try.underlying36 hi hz0 hz1 .i64 .i64 M M M rfl rfl rfl rfl ?m2 ?m3 ?m4 ?_))
  case m2 => rw [hz2]; omega
  case m3 => unfold maxLen; omega
  case m4 => simp
  intro w1 own1 grow1
  have eo : (madeCells #[Value.bool false] M).toList = List.replicate M (.bool false) := toList_madeCells_one _ _
  rw [eo, ← outTo_zero (fun i => out (i / n) != out (i % n))] at own1
  generalize hWE : (w.alloc (.cells #[.slice (some ⟨b1, o1, none⟩) n c1, .slice (some ⟨b2, o2, none⟩) n c2] 46)) = W at *
  have hWs : W.heap.size = w.heap.size + 1 := by rw [← hWE]; simp
  clear hWE
  have hb1 : Below W.heap.size W w1 := (Below.refl _ _).grown grow1 (Nat.le_refl _) (fun k h => by cases h)
  rw [hWs] at hb1
  have OS := hid own1
  have HB1 := hid hb1
  clear own1 grow1 eo hb1
  go_wp2_with fail
  go_loopw [5] (fun x wq => ∃ k : Nat, k ≤ M ∧ x = .int .i64 k ∧ Hid (wq.ownsRow (w.heap.size + 1) 4 1 (.slice (some ⟨w.heap.size + 1, 0, none⟩) M M) M (outTo (fun i => out (i / n) != out (i % n)) M k)) ∧ Hid (Below (w.heap.size + 1) W wq)) (fun x _ => M - (intOf x).toNat)
  case atStart => exact ⟨0, Nat.zero_le _, rfl, OS, HB1⟩
  case round =>
    obtain ⟨k, hk, rfl, HO, HB⟩ := hrel
    rename World => W1
    clear OS HB1
    by_cases hlk : k < M
    · obtain ⟨x, y, hx, hy, ek, hq, hr⟩ := HXY.out k hlk
      have p0 := (HB.out.cell (p := ⟨w.heap.size, 0, none⟩) (by show w.heap.size < w.heap.size + 1; omega)).trans x0
      have ox := (HB.out.cell (p := ⟨b1, o1 + x, none⟩) (by show b1 < w.heap.size + 1; omega)).trans (H.out.o x hx)
      have oy := (HB.out.cell (p := ⟨b1, o1 + y, none⟩) (by show b1 < w.heap.size + 1; omega)).trans (H.out.o y hy)
      have own := HO.out
      have q0 := own.frozenAt k
      have q1 : (W1.cell? ⟨w.heap.size + 1, k, none⟩).isSome = true := by
        rw [own.cellAt k (by omega)]
        simp [outTo, hlk]
      obtain ⟨qv, q2⟩ := Option.isSome_iff_exists.1 q1
      have hO := own.stored k (.bool (out (k / n) != out (k % n)))
      rw [outTo_set (fun i => out (i / n) != out (i % n))] at hO
      have exk : k / n = x := by have := hq; exact Int.ofNat.inj (by simpa using this)
      have eyk : k % n = y := by have h9 := hr; rw [Int.tmod_eq_emod_of_nonneg (by omega)] at h9; exact Int.ofNat.inj (by simpa using h9)
      rw [exk, eyk] at hO
      have HO2 := hid hO.1
      have HB2 := hid (HB.out.setCell (p := ⟨w.heap.size + 1, k, none⟩) (Nat.le_refl _) (.bool (out x != out y)))
      have hbe : ((out x : Int) != (out y : Int)) = (out x != out y) := by
        rw [Bool.eq_iff_iff, bne_iff_ne, bne_iff_ne]
        omega
      clear hO q1 own HO ek exk eyk
      have HBV := hid (show (out x != out y) = (out x != out y) from rfl)
      generalize (out x != out y) = bv at *
      clear HBV
      have KS : ∀ (b o : Nat) {v : Value}, b < w.heap.size + 1 → W1.cell? ⟨b, o, none⟩ = some v → (W1.setCell ⟨w.heap.size + 1, k, none⟩ (.bool bv)).drew.cell? ⟨b, o, none⟩ = some v := fun b o v hb hv => by
        show (W1.setCell ⟨w.heap.size + 1, k, none⟩ (.bool bv)).cell? ⟨b, o, none⟩ = some v
        rw [World.cell?_setCell_other _ _ _ _ (fun e => by have := congrArg Addr.block e; simp at this; omega)]
        exact hv
      have hwx : IntKind.i64.wrap (x : Int) = (x : Int) := IntWalk.i64_in _ ⟨by omega, by omega⟩
      have hwy : IntKind.i64.wrap (y : Int) = (y : Int) := IntWalk.i64_in _ ⟨by omega, by omega⟩
      have z1 : (0 : Int) ≤ (k : Int) := Int.natCast_nonneg _
      have z2 : (k : Int) < (M : Int) := by omega
      have z3 : (0 : Int) ≤ (x : Int) := Int.natCast_nonneg _
      have z4 : (x : Int) < (n : Int) := by omega
      have z5 : (0 : Int) ≤ (y : Int) := Int.natCast_nonneg _
      have z6 : (y : Int) < (n : Int) := by omega
      have s0 := KS _ 0 (show w.heap.size < w.heap.size + 1 by omega) p0
      have s1 := KS _ _ (show b1 < w.heap.size + 1 by omega) ox
      have s2 := KS _ _ (show b1 < w.heap.size + 1 by omega) oy
      clear KS
      go_wp2_with fail
      go_region_held3 (fun w' => w'.cell? ⟨w.heap.size, 0, none⟩ = some (.slice (some ⟨b1, o1, none⟩) n c1) ∧ w'.cell? ⟨b1, o1 + x, none⟩ = some (.int .i64 (out x : Nat)) ∧ w'.cell? ⟨b1, o1 + y, none⟩ = some (.int .i64 (out y : Nat)))
        (first
          | go_keep
          | exact ⟨s0, s1, s2⟩
          | exact ⟨s1, s2⟩)
        (fail)
      go_wp2_with fail
      go_roundw
      case rel => exact ⟨k + 1, by omega, by go_num, hid (own_keeps HO2.out (below_drewN (Below.refl _ _) 1)), hid (below_drewN HB2.out 1)⟩
      case measure => simp [intOf]; omega
    · obtain rfl : k = M := by omega
      have T0 : Hid (BO W1 (w.heap.size + 1) (w.heap.size + 1) k (fun i => out (i / n) != out (i % n))) := HO
      have TI0 : Hid (TbI out nx n 0 (fun i => out (i / n) != out (i % n))) := hid tb_zero
      generalize (fun i => out (i / n) != out (i % n)) = t0 at *
      clear HO
      go_wp2_with fail
      go_loopw [6] (fun x wq => ∃ (r : Nat) (t : Nat → Bool), r ≤ n ∧ x = .int .i64 r ∧ Hid (BO wq (w.heap.size + 1) (w.heap.size + 1) k t) ∧ Hid (TbI out nx n r t) ∧ Hid (Below (w.heap.size + 1) W wq)) (fun x _ => n - (intOf x).toNat)
      case atStart => exact ⟨0, t0, Nat.zero_le _, rfl, T0, TI0, HB⟩
      case round =>
        obtain ⟨r, t, hr, rfl, HT, HI, HB⟩ := hrel
        rename World => W2
        clear T0 TI0
        by_cases hlr : r < n
        · go_wp2_with fail
          go_loopw [7] (fun x wq => ∃ (i : Nat) (t : Nat → Bool), i ≤ k ∧ x = .int .i64 i ∧ Hid (BO wq (w.heap.size + 1) (w.heap.size + 1) k t) ∧ Hid (TbJ out nx n r t i) ∧ Hid (Below (w.heap.size + 1) W wq)) (fun x _ => k - (intOf x).toNat)
          case atStart => exact ⟨0, t, Nat.zero_le _, rfl, HT, hid (tbj_start HI.out), HB⟩
          case round =>
            obtain ⟨i, t, hik, rfl, HT, HJ, HB⟩ := hrel
            rename World => W3
            by_cases hli : i < k
            · obtain ⟨x, y, hx, hy, ek, hq, hrm⟩ := HXY.out i hli
              have HK0 : Hid (TbK out nx n r t x y 0) := hid (tbk_start (by rw [← ek]; exact HJ.out))
              have HEK := hid ek
              clear ek
              go_wp2_with fail
              go_loopw [8] (fun z wq => ∃ (a : Nat) (t : Nat → Bool), a ≤ 8 ∧ z = .int .i64 a ∧ Hid (BO wq (w.heap.size + 1) (w.heap.size + 1) k t) ∧ Hid (TbK out nx n r t x y a) ∧ Hid (Below (w.heap.size + 1) W wq)) (fun z _ => 8 - (intOf z).toNat)
              case atStart => exact ⟨0, t, Nat.zero_le _, rfl, HT, HK0, HB⟩
              case round =>
                obtain ⟨a, t, ha, rfl, HT, HK, HB⟩ := hrel
                rename World => W4
                clear HK0
                by_cases hla : a < 8
                · obtain ⟨rx, rxo, rxc, y1, y2, y3, y4, y5⟩ := H.out.x x hx
                  obtain ⟨ry, ryo, ryc, v1, v2, v3, v4, v5⟩ := H.out.x y hy
                  have hu := HC.out x a hx hla
                  have hv := HC.out y a hy hla
                  obtain ⟨un, hun, eun, hlt⟩ := HUV.out (nx x a) (nx y a) hu hv
                  have HK2 := hid (tbk_step HC.out hx hy hla HK.out)
                  rw [← eun, ← HEK.out] at HK2
                  rw [hWs] at y4 v4
                  have p1 := (HB.out.cell (p := ⟨w.heap.size, 1, none⟩) (by show w.heap.size < w.heap.size + 1; omega)).trans x1
                  have px := (HB.out.cell (p := ⟨b2, o2 + x, none⟩) (by show b2 < w.heap.size + 1; omega)).trans y1
                  have pxa := (HB.out.cell (p := ⟨rx, rxo + a, none⟩) y4).trans (y5 a hla)
                  have py := (HB.out.cell (p := ⟨b2, o2 + y, none⟩) (by show b2 < w.heap.size + 1; omega)).trans v1
                  have pya := (HB.out.cell (p := ⟨ry, ryo + a, none⟩) v4).trans (v5 a hla)
                  have ti := HT.out.get hli
                  have fi := HT.out.fz i
                  have tj := HT.out.get hlt
                  have HTS := hid (HT.out.set i (t i || t (un + nx y a)))
                  have HBS := hid (HB.out.setCell (p := ⟨w.heap.size + 1, i, none⟩) (Nat.le_refl _) (.bool (t i || t (un + nx y a))))
                  clear y1 y5 v1 v5 HK eun
                  generalize nx x a = u at *
                  generalize nx y a = v at *
                  have hwx : IntKind.i64.wrap (x : Int) = (x : Int) := IntWalk.i64_in _ ⟨by omega, by omega⟩
                  have hwy : IntKind.i64.wrap (y : Int) = (y : Int) := IntWalk.i64_in _ ⟨by omega, by omega⟩
                  have hwu : IntKind.i64.wrap (un : Int) = (un : Int) := IntWalk.i64_in _ ⟨by omega, by omega⟩
                  have hwv : IntKind.i64.wrap ((un : Int) + (v : Int)) = (un : Int) + (v : Int) := IntWalk.i64_in _ ⟨by omega, by omega⟩
                  have z1 : (0 : Int) ≤ (i : Int) := Int.natCast_nonneg _
                  have z2 : (i : Int) < (k : Int) := by omega
                  have z3 : (0 : Int) ≤ (x : Int) := Int.natCast_nonneg _
                  have z4 : (x : Int) < (n : Int) := by omega
                  have z5 : (0 : Int) ≤ (y : Int) := Int.natCast_nonneg _
                  have z6 : (y : Int) < (n : Int) := by omega
                  have z7 : (0 : Int) ≤ (a : Int) := Int.natCast_nonneg _
                  have z8 : (a : Int) < 8 := by omega
                  have z9 : (un : Int) + (v : Int) < (k : Int) := by omega
                  have z10 : (0 : Int) ≤ (un : Int) + (v : Int) := by omega
                  have KS : ∀ (b o : Nat) {u v : Value}, b < w.heap.size + 1 → W4.cell? ⟨b, o, none⟩ = some v → (W4.setCell ⟨w.heap.size + 1, i, none⟩ u).cell? ⟨b, o, none⟩ = some v := fun b o u v hb hv => by
                    rw [World.cell?_setCell_other _ _ _ _ (fun e => by have := congrArg Addr.block e; simp at this; omega)]
                    exact hv
                  cases hti : t i with
                  | true =>
                    rw [hti] at ti HTS HBS HK2
                    simp only [Bool.true_or] at HTS HBS HK2
                    clear hti tj
                    go_wp2_with fail
                    refine wp_region_held_drew (S := fun w' => w'.cell? ⟨w.heap.size, 1, none⟩ = some (.slice (some ⟨b2, o2, none⟩) n c2) ∧ w'.cell? ⟨b2, o2 + x, none⟩ = some (.slice (some ⟨rx, rxo, none⟩) 8 rxc) ∧ w'.cell? ⟨rx, rxo + a, none⟩ = some (.int .i64 (u : Nat)) ∧ w'.cell? ⟨b2, o2 + y, none⟩ = some (.slice (some ⟨ry, ryo, none⟩) 8 ryc) ∧ w'.cell? ⟨ry, ryo + a, none⟩ = some (.int .i64 (v : Nat))) (by kernel_rfl) ⟨p1, px, pxa, py, pya⟩ (fun hHeld => ?_)
                    refine wpAnyH_take (i := 0) (oi := { dst := some 58, op := Op.move (.tmp 4), type := _, pos := _, after := _, guard := none }) (v := (Value.slice (some ⟨w.heap.size + 1, 0, none⟩) k k)) rfl (by kernel_rfl) (by kernel_rfl) (by kernel_rfl) (fun _ _ _ h => h) (Or.inl ⟨by rfl, by intro w' hSw; (try dsimp only at hSw); go_simp⟩) (by assumption) ?_
                    simp only [Act.put, List.setIfInBounds_toArray, List.set_cons_zero, List.set_cons_succ]
                    refine wpAnyH_take (i := 1) (oi := { dst := some 59, op := Op.move (.tmp 7), type := _, pos := _, after := _, guard := none }) (v := (Value.int .i64 (i : Nat))) rfl (by kernel_rfl) (by kernel_rfl) (by kernel_rfl) (fun _ _ _ h => h) (Or.inl ⟨by rfl, by intro w' hSw; (try dsimp only at hSw); go_simp⟩) (by assumption) ?_
                    simp only [Act.put, List.setIfInBounds_toArray, List.set_cons_zero, List.set_cons_succ]
                    refine wpAnyH_take (i := 2) (oi := { dst := some 60, op := Op.move (.tmp 4), type := _, pos := _, after := _, guard := none }) (v := (Value.slice (some ⟨w.heap.size + 1, 0, none⟩) k k)) rfl (by kernel_rfl) (by kernel_rfl) (by kernel_rfl) (fun _ _ _ h => h) (Or.inl ⟨by rfl, by intro w' hSw; (try dsimp only at hSw); go_simp⟩) (by assumption) ?_
                    simp only [Act.put, List.setIfInBounds_toArray, List.set_cons_zero, List.set_cons_succ]
                    refine wpAnyH_take (i := 3) (oi := { dst := some 61, op := Op.move (.tmp 7), type := _, pos := _, after := _, guard := none }) (v := (Value.int .i64 (i : Nat))) rfl (by kernel_rfl) (by kernel_rfl) (by kernel_rfl) (fun _ _ _ h => h) (Or.inl ⟨by rfl, by intro w' hSw; (try dsimp only at hSw); go_simp⟩) (by assumption) ?_
                    simp only [Act.put, List.setIfInBounds_toArray, List.set_cons_zero, List.set_cons_succ]
                    refine wpAnyH_take (i := 4) (oi := { dst := some 62, op := Op.indexAddr _ (.tmp 60) (.tmp 61), type := _, pos := _, after := _, guard := none }) (v := (Value.pointer (some ⟨w.heap.size + 1, i, none⟩))) rfl (by kernel_rfl) (by kernel_rfl) (by kernel_rfl) (fun _ _ _ h => h) (Or.inl ⟨by rfl, by intro w' hSw; (try dsimp only at hSw); go_simp⟩) (by assumption) ?_
                    simp only [Act.put, List.setIfInBounds_toArray, List.set_cons_zero, List.set_cons_succ]
                    refine wpAnyH_ready (rs := [5]) (by kernel_rfl) (by simp) ?_
                    refine AllReadyH.cons rfl (fun K hK => ?_) AllReadyH.nil
                    go_simp
                    refine hK.out _ _ (by assumption) (fun hHeld => ?_)
                    clear hK K
                    (try simp only [Act.put, List.setIfInBounds_toArray, List.set_cons_zero, List.set_cons_succ])
                    refine wpAnyH_take (i := 6) (oi := { dst := some 64, op := Op.move (.tmp 63), type := _, pos := _, after := _, guard := none }) (v := (Value.bool true)) rfl (by kernel_rfl) (by kernel_rfl) (by kernel_rfl) (fun _ _ _ h => h) (Or.inl ⟨by rfl, by intro w' hSw; (try dsimp only at hSw); go_simp⟩) (by assumption) ?_
                    simp only [Act.put, List.setIfInBounds_toArray, List.set_cons_zero, List.set_cons_succ]
                    refine wpAnyH_take (i := 7) (oi := { dst := some 65, op := Op.move (.tmp 4), type := _, pos := _, after := _, guard := some (6, false) }) (v := undef) rfl (by kernel_rfl) (by kernel_rfl) (by kernel_rfl) (fun _ _ _ h => h) (Or.inr ⟨by rfl, rfl⟩) (by assumption) ?_
                    simp only [Act.put, List.setIfInBounds_toArray, List.set_cons_zero, List.set_cons_succ]
                    refine wpAnyH_take (i := 8) (oi := { dst := some 66, op := Op.fieldAddr _ (.tmp 1) 1, type := _, pos := _, after := _, guard := some (6, false) }) (v := undef) rfl (by kernel_rfl) (by kernel_rfl) (by kernel_rfl) (fun _ _ _ h => h) (Or.inr ⟨by rfl, rfl⟩) (by assumption) ?_
                    simp only [Act.put, List.setIfInBounds_toArray, List.set_cons_zero, List.set_cons_succ]
                    refine wpAnyH_take (i := 9) (oi := { dst := some 67, op := Op.load _ (.tmp 66), type := _, pos := _, after := _, guard := some (6, false) }) (v := undef) rfl (by kernel_rfl) (by kernel_rfl) (by kernel_rfl) (fun _ _ _ h => h) (Or.inr ⟨by rfl, rfl⟩) (by assumption) ?_
                    simp only [Act.put, List.setIfInBounds_toArray, List.set_cons_zero, List.set_cons_succ]
                    refine wpAnyH_take (i := 10) (oi := { dst := some 68, op := Op.move (.tmp 7), type := _, pos := _, after := _, guard := some (6, false) }) (v := undef) rfl (by kernel_rfl) (by kernel_rfl) (by kernel_rfl) (fun _ _ _ h => h) (Or.inr ⟨by rfl, rfl⟩) (by assumption) ?_
                    simp only [Act.put, List.setIfInBounds_toArray, List.set_cons_zero, List.set_cons_succ]
                    refine wpAnyH_take (i := 11) (oi := { dst := some 69, op := Op.move (.tmp 3), type := _, pos := _, after := _, guard := some (6, false) }) (v := undef) rfl (by kernel_rfl) (by kernel_rfl) (by kernel_rfl) (fun _ _ _ h => h) (Or.inr ⟨by rfl, rfl⟩) (by assumption) ?_
                    simp only [Act.put, List.setIfInBounds_toArray, List.set_cons_zero, List.set_cons_succ]
                    refine wpAnyH_take (i := 12) (oi := { dst := some 70, op := Op.binOp BinOp.quo _ (.tmp 68) (.tmp 69) _, type := _, pos := _, after := _, guard := some (6, false) }) (v := undef) rfl (by kernel_rfl) (by kernel_rfl) (by kernel_rfl) (fun _ _ _ h => h) (Or.inr ⟨by rfl, rfl⟩) (by assumption) ?_
                    simp only [Act.put, List.setIfInBounds_toArray, List.set_cons_zero, List.set_cons_succ]
                    refine wpAnyH_take (i := 13) (oi := { dst := some 71, op := Op.indexAddr _ (.tmp 67) (.tmp 70), type := _, pos := _, after := _, guard := some (6, false) }) (v := undef) rfl (by kernel_rfl) (by kernel_rfl) (by kernel_rfl) (fun _ _ _ h => h) (Or.inr ⟨by rfl, rfl⟩) (by assumption) ?_
                    simp only [Act.put, List.setIfInBounds_toArray, List.set_cons_zero, List.set_cons_succ]
                    refine wpAnyH_take (i := 14) (oi := { dst := some 72, op := Op.load _ (.tmp 71), type := _, pos := _, after := _, guard := some (6, false) }) (v := undef) rfl (by kernel_rfl) (by kernel_rfl) (by kernel_rfl) (fun _ _ _ h => h) (Or.inr ⟨by rfl, rfl⟩) (by assumption) ?_
                    simp only [Act.put, List.setIfInBounds_toArray, List.set_cons_zero, List.set_cons_succ]
                    refine wpAnyH_take (i := 15) (oi := { dst := some 73, op := Op.move (.tmp 8), type := _, pos := _, after := _, guard := some (6, false) }) (v := undef) rfl (by kernel_rfl) (by kernel_rfl) (by kernel_rfl) (fun _ _ _ h => h) (Or.inr ⟨by rfl, rfl⟩) (by assumption) ?_
                    simp only [Act.put, List.setIfInBounds_toArray, List.set_cons_zero, List.set_cons_succ]
                    refine wpAnyH_take (i := 16) (oi := { dst := some 74, op := Op.indexAddr _ (.tmp 72) (.tmp 73), type := _, pos := _, after := _, guard := some (6, false) }) (v := undef) rfl (by kernel_rfl) (by kernel_rfl) (by kernel_rfl) (fun _ _ _ h => h) (Or.inr ⟨by rfl, rfl⟩) (by assumption) ?_
                    simp only [Act.put, List.setIfInBounds_toArray, List.set_cons_zero, List.set_cons_succ]
                    refine wpAnyH_take (i := 17) (oi := { dst := some 75, op := Op.load _ (.tmp 74), type := _, pos := _, after := _, guard := some (6, false) }) (v := undef) rfl (by kernel_rfl) (by kernel_rfl) (by kernel_rfl) (fun _ _ _ h => h) (Or.inr ⟨by rfl, rfl⟩) (by assumption) ?_
                    simp only [Act.put, List.setIfInBounds_toArray, List.set_cons_zero, List.set_cons_succ]
                    refine wpAnyH_take (i := 18) (oi := { dst := some 76, op := Op.move (.tmp 3), type := _, pos := _, after := _, guard := some (6, false) }) (v := undef) rfl (by kernel_rfl) (by kernel_rfl) (by kernel_rfl) (fun _ _ _ h => h) (Or.inr ⟨by rfl, rfl⟩) (by assumption) ?_
                    simp only [Act.put, List.setIfInBounds_toArray, List.set_cons_zero, List.set_cons_succ]
                    refine wpAnyH_take (i := 19) (oi := { dst := some 77, op := Op.binOp BinOp.mul _ (.tmp 75) (.tmp 76) _, type := _, pos := _, after := _, guard := some (6, false) }) (v := undef) rfl (by kernel_rfl) (by kernel_rfl) (by kernel_rfl) (fun _ _ _ h => h) (Or.inr ⟨by rfl, rfl⟩) (by assumption) ?_
                    simp only [Act.put, List.setIfInBounds_toArray, List.set_cons_zero, List.set_cons_succ]
                    refine wpAnyH_take (i := 20) (oi := { dst := some 78, op := Op.fieldAddr _ (.tmp 1) 1, type := _, pos := _, after := _, guard := some (6, false) }) (v := undef) rfl (by kernel_rfl) (by kernel_rfl) (by kernel_rfl) (fun _ _ _ h => h) (Or.inr ⟨by rfl, rfl⟩) (by assumption) ?_
                    simp only [Act.put, List.setIfInBounds_toArray, List.set_cons_zero, List.set_cons_succ]
                    refine wpAnyH_take (i := 21) (oi := { dst := some 79, op := Op.load _ (.tmp 78), type := _, pos := _, after := _, guard := some (6, false) }) (v := undef) rfl (by kernel_rfl) (by kernel_rfl) (by kernel_rfl) (fun _ _ _ h => h) (Or.inr ⟨by rfl, rfl⟩) (by assumption) ?_
                    simp only [Act.put, List.setIfInBounds_toArray, List.set_cons_zero, List.set_cons_succ]
                    refine wpAnyH_take (i := 22) (oi := { dst := some 80, op := Op.move (.tmp 7), type := _, pos := _, after := _, guard := some (6, false) }) (v := undef) rfl (by kernel_rfl) (by kernel_rfl) (by kernel_rfl) (fun _ _ _ h => h) (Or.inr ⟨by rfl, rfl⟩) (by assumption) ?_
                    simp only [Act.put, List.setIfInBounds_toArray, List.set_cons_zero, List.set_cons_succ]
                    refine wpAnyH_take (i := 23) (oi := { dst := some 81, op := Op.move (.tmp 3), type := _, pos := _, after := _, guard := some (6, false) }) (v := undef) rfl (by kernel_rfl) (by kernel_rfl) (by kernel_rfl) (fun _ _ _ h => h) (Or.inr ⟨by rfl, rfl⟩) (by assumption) ?_
                    simp only [Act.put, List.setIfInBounds_toArray, List.set_cons_zero, List.set_cons_succ]
                    refine wpAnyH_take (i := 24) (oi := { dst := some 82, op := Op.binOp BinOp.rem _ (.tmp 80) (.tmp 81) _, type := _, pos := _, after := _, guard := some (6, false) }) (v := undef) rfl (by kernel_rfl) (by kernel_rfl) (by kernel_rfl) (fun _ _ _ h => h) (Or.inr ⟨by rfl, rfl⟩) (by assumption) ?_
                    simp only [Act.put, List.setIfInBounds_toArray, List.set_cons_zero, List.set_cons_succ]
                    refine wpAnyH_take (i := 25) (oi := { dst := some 83, op := Op.indexAddr _ (.tmp 79) (.tmp 82), type := _, pos := _, after := _, guard := some (6, false) }) (v := undef) rfl (by kernel_rfl) (by kernel_rfl) (by kernel_rfl) (fun _ _ _ h => h) (Or.inr ⟨by rfl, rfl⟩) (by assumption) ?_
                    simp only [Act.put, List.setIfInBounds_toArray, List.set_cons_zero, List.set_cons_succ]
                    refine wpAnyH_take (i := 26) (oi := { dst := some 84, op := Op.load _ (.tmp 83), type := _, pos := _, after := _, guard := some (6, false) }) (v := undef) rfl (by kernel_rfl) (by kernel_rfl) (by kernel_rfl) (fun _ _ _ h => h) (Or.inr ⟨by rfl, rfl⟩) (by assumption) ?_
                    simp only [Act.put, List.setIfInBounds_toArray, List.set_cons_zero, List.set_cons_succ]
                    refine wpAnyH_take (i := 27) (oi := { dst := some 85, op := Op.move (.tmp 8), type := _, pos := _, after := _, guard := some (6, false) }) (v := undef) rfl (by kernel_rfl) (by kernel_rfl) (by kernel_rfl) (fun _ _ _ h => h) (Or.inr ⟨by rfl, rfl⟩) (by assumption) ?_
                    simp only [Act.put, List.setIfInBounds_toArray, List.set_cons_zero, List.set_cons_succ]
                    refine wpAnyH_take (i := 28) (oi := { dst := some 86, op := Op.indexAddr _ (.tmp 84) (.tmp 85), type := _, pos := _, after := _, guard := some (6, false) }) (v := undef) rfl (by kernel_rfl) (by kernel_rfl) (by kernel_rfl) (fun _ _ _ h => h) (Or.inr ⟨by rfl, rfl⟩) (by assumption) ?_
                    simp only [Act.put, List.setIfInBounds_toArray, List.set_cons_zero, List.set_cons_succ]
                    refine wpAnyH_take (i := 29) (oi := { dst := some 87, op := Op.load _ (.tmp 86), type := _, pos := _, after := _, guard := some (6, false) }) (v := undef) rfl (by kernel_rfl) (by kernel_rfl) (by kernel_rfl) (fun _ _ _ h => h) (Or.inr ⟨by rfl, rfl⟩) (by assumption) ?_
                    simp only [Act.put, List.setIfInBounds_toArray, List.set_cons_zero, List.set_cons_succ]
                    refine wpAnyH_take (i := 30) (oi := { dst := some 88, op := Op.binOp BinOp.add _ (.tmp 77) (.tmp 87) _, type := _, pos := _, after := _, guard := some (6, false) }) (v := undef) rfl (by kernel_rfl) (by kernel_rfl) (by kernel_rfl) (fun _ _ _ h => h) (Or.inr ⟨by rfl, rfl⟩) (by assumption) ?_
                    simp only [Act.put, List.setIfInBounds_toArray, List.set_cons_zero, List.set_cons_succ]
                    refine wpAnyH_take (i := 31) (oi := { dst := some 89, op := Op.indexAddr _ (.tmp 65) (.tmp 88), type := _, pos := _, after := _, guard := some (6, false) }) (v := undef) rfl (by kernel_rfl) (by kernel_rfl) (by kernel_rfl) (fun _ _ _ h => h) (Or.inr ⟨by rfl, rfl⟩) (by assumption) ?_
                    simp only [Act.put, List.setIfInBounds_toArray, List.set_cons_zero, List.set_cons_succ]
                    refine wpAnyH_take (i := 32) (oi := { dst := some 90, op := Op.load _ (.tmp 89), type := _, pos := _, after := _, guard := some (6, false) }) (v := undef) rfl (by kernel_rfl) (by kernel_rfl) (by kernel_rfl) (fun _ _ _ h => h) (Or.inr ⟨by rfl, rfl⟩) (by assumption) ?_
                    simp only [Act.put, List.setIfInBounds_toArray, List.set_cons_zero, List.set_cons_succ]
                    refine wpAnyH_take (i := 33) (oi := { dst := some 91, op := Op.pick (.tmp 64) (Operand.const (Value.bool true)) (.tmp 90), type := _, pos := _, after := _, guard := none }) (v := (Value.bool true)) rfl (by kernel_rfl) (by kernel_rfl) (by kernel_rfl) (fun _ _ _ h => h) (Or.inl ⟨by rfl, by intro w' hSw; (try dsimp only at hSw); go_simp⟩) (by assumption) ?_
                    simp only [Act.put, List.setIfInBounds_toArray, List.set_cons_zero, List.set_cons_succ]
                    refine wpAnyH_take (i := 34) (oi := { dst := some 92, op := Op.indexAddr _ (.tmp 58) (.tmp 59), type := _, pos := _, after := _, guard := none }) (v := (Value.pointer (some ⟨w.heap.size + 1, i, none⟩))) rfl (by kernel_rfl) (by kernel_rfl) (by kernel_rfl) (fun _ _ _ h => h) (Or.inl ⟨by rfl, by intro w' hSw; (try dsimp only at hSw); go_simp⟩) (by assumption) ?_
                    simp only [Act.put, List.setIfInBounds_toArray, List.set_cons_zero, List.set_cons_succ]
                    refine wpAnyH_ready (rs := [35]) (by kernel_rfl) (by simp) ?_
                    refine AllReadyH.cons rfl (fun K hK => ?_) AllReadyH.nil
                    go_simp
                    refine hK.out _ _ ⟨KS _ _ (by omega) p1, KS _ _ (by omega) px, KS _ _ y4 pxa, KS _ _ (by omega) py, KS _ _ v4 pya⟩ (fun hHeld => ?_)
                    clear hK K
                    refine wpAnyH_done (by kernel_rfl) ?_ _
                    clear hHeld
                    go_wp2_with fail
                    go_roundw
                    case rel =>
                      have bq := below_drewN (Below.refl (W4.setCell ⟨w.heap.size + 1, i, none⟩ (.bool true)).heap.size (W4.setCell ⟨w.heap.size + 1, i, none⟩ (.bool true))) 1
                      exact ⟨a + 1, _, by omega, by go_num, hid (own_keeps HTS.out bq), HK2, hid (HBS.out.trans (bq.mono (by have := HBS.out.size; omega)))⟩
                    case measure => simp [intOf]; omega
                  | false =>
                    rw [hti] at ti HTS HBS HK2
                    simp only [Bool.false_or] at HTS HBS HK2
                    clear hti
                    generalize t (un + v) = tv at *
                    go_wp2_with fail
                    refine wp_region_held_drew (S := fun w' => w'.cell? ⟨w.heap.size, 1, none⟩ = some (.slice (some ⟨b2, o2, none⟩) n c2) ∧ w'.cell? ⟨b2, o2 + x, none⟩ = some (.slice (some ⟨rx, rxo, none⟩) 8 rxc) ∧ w'.cell? ⟨rx, rxo + a, none⟩ = some (.int .i64 (u : Nat)) ∧ w'.cell? ⟨b2, o2 + y, none⟩ = some (.slice (some ⟨ry, ryo, none⟩) 8 ryc) ∧ w'.cell? ⟨ry, ryo + a, none⟩ = some (.int .i64 (v : Nat))) (by kernel_rfl) ⟨p1, px, pxa, py, pya⟩ (fun hHeld => ?_)
                    refine wpAnyH_take (i := 0) (oi := { dst := some 58, op := Op.move (.tmp 4), type := _, pos := _, after := _, guard := none }) (v := (Value.slice (some ⟨w.heap.size + 1, 0, none⟩) k k)) rfl (by kernel_rfl) (by kernel_rfl) (by kernel_rfl) (fun _ _ _ h => h) (Or.inl ⟨by rfl, by intro w' hSw; (try dsimp only at hSw); go_simp⟩) (by assumption) ?_
                    simp only [Act.put, List.setIfInBounds_toArray, List.set_cons_zero, List.set_cons_succ]
                    refine wpAnyH_take (i := 1) (oi := { dst := some 59, op := Op.move (.tmp 7), type := _, pos := _, after := _, guard := none }) (v := (Value.int .i64 (i : Nat))) rfl (by kernel_rfl) (by kernel_rfl) (by kernel_rfl) (fun _ _ _ h => h) (Or.inl ⟨by rfl, by intro w' hSw; (try dsimp only at hSw); go_simp⟩) (by assumption) ?_
                    simp only [Act.put, List.setIfInBounds_toArray, List.set_cons_zero, List.set_cons_succ]
                    refine wpAnyH_take (i := 2) (oi := { dst := some 60, op := Op.move (.tmp 4), type := _, pos := _, after := _, guard := none }) (v := (Value.slice (some ⟨w.heap.size + 1, 0, none⟩) k k)) rfl (by kernel_rfl) (by kernel_rfl) (by kernel_rfl) (fun _ _ _ h => h) (Or.inl ⟨by rfl, by intro w' hSw; (try dsimp only at hSw); go_simp⟩) (by assumption) ?_
                    simp only [Act.put, List.setIfInBounds_toArray, List.set_cons_zero, List.set_cons_succ]
                    refine wpAnyH_take (i := 3) (oi := { dst := some 61, op := Op.move (.tmp 7), type := _, pos := _, after := _, guard := none }) (v := (Value.int .i64 (i : Nat))) rfl (by kernel_rfl) (by kernel_rfl) (by kernel_rfl) (fun _ _ _ h => h) (Or.inl ⟨by rfl, by intro w' hSw; (try dsimp only at hSw); go_simp⟩) (by assumption) ?_
                    simp only [Act.put, List.setIfInBounds_toArray, List.set_cons_zero, List.set_cons_succ]
                    refine wpAnyH_take (i := 4) (oi := { dst := some 62, op := Op.indexAddr _ (.tmp 60) (.tmp 61), type := _, pos := _, after := _, guard := none }) (v := (Value.pointer (some ⟨w.heap.size + 1, i, none⟩))) rfl (by kernel_rfl) (by kernel_rfl) (by kernel_rfl) (fun _ _ _ h => h) (Or.inl ⟨by rfl, by intro w' hSw; (try dsimp only at hSw); go_simp⟩) (by assumption) ?_
                    simp only [Act.put, List.setIfInBounds_toArray, List.set_cons_zero, List.set_cons_succ]
                    refine wpAnyH_ready (rs := [5]) (by kernel_rfl) (by simp) ?_
                    refine AllReadyH.cons rfl (fun K hK => ?_) AllReadyH.nil
                    go_simp
                    refine hK.out _ _ (by assumption) (fun hHeld => ?_)
                    clear hK K
                    (try simp only [Act.put, List.setIfInBounds_toArray, List.set_cons_zero, List.set_cons_succ])
                    refine wpAnyH_take (i := 6) (oi := { dst := some 64, op := Op.move (.tmp 63), type := _, pos := _, after := _, guard := none }) (v := (Value.bool false)) rfl (by kernel_rfl) (by kernel_rfl) (by kernel_rfl) (fun _ _ _ h => h) (Or.inl ⟨by rfl, by intro w' hSw; (try dsimp only at hSw); go_simp⟩) (by assumption) ?_
                    simp only [Act.put, List.setIfInBounds_toArray, List.set_cons_zero, List.set_cons_succ]
                    refine wpAnyH_take (i := 7) (oi := { dst := some 65, op := Op.move (.tmp 4), type := _, pos := _, after := _, guard := some (6, false) }) (v := (Value.slice (some ⟨w.heap.size + 1, 0, none⟩) k k)) rfl (by kernel_rfl) (by kernel_rfl) (by kernel_rfl) (fun _ _ _ h => h) (Or.inl ⟨by rfl, by intro w' hSw; (try dsimp only at hSw); go_simp⟩) (by assumption) ?_
                    simp only [Act.put, List.setIfInBounds_toArray, List.set_cons_zero, List.set_cons_succ]
                    refine wpAnyH_take (i := 8) (oi := { dst := some 66, op := Op.fieldAddr _ (.tmp 1) 1, type := _, pos := _, after := _, guard := some (6, false) }) (v := (Value.pointer (some ⟨w.heap.size, 1, none⟩))) rfl (by kernel_rfl) (by kernel_rfl) (by kernel_rfl) (fun _ _ _ h => h) (Or.inl ⟨by rfl, by intro w' hSw; (try dsimp only at hSw); go_simp⟩) (by assumption) ?_
                    simp only [Act.put, List.setIfInBounds_toArray, List.set_cons_zero, List.set_cons_succ]
                    refine wpAnyH_take (i := 9) (oi := { dst := some 67, op := Op.load _ (.tmp 66), type := _, pos := _, after := _, guard := some (6, false) }) (v := (Value.slice (some ⟨b2, o2, none⟩) n c2)) rfl (by kernel_rfl) (by kernel_rfl) (by kernel_rfl) (fun _ _ _ h => h) (Or.inl ⟨by rfl, by intro w' hSw; (try dsimp only at hSw); go_simp⟩) (by assumption) ?_
                    simp only [Act.put, List.setIfInBounds_toArray, List.set_cons_zero, List.set_cons_succ]
                    refine wpAnyH_take (i := 10) (oi := { dst := some 68, op := Op.move (.tmp 7), type := _, pos := _, after := _, guard := some (6, false) }) (v := (Value.int .i64 (i : Nat))) rfl (by kernel_rfl) (by kernel_rfl) (by kernel_rfl) (fun _ _ _ h => h) (Or.inl ⟨by rfl, by intro w' hSw; (try dsimp only at hSw); go_simp⟩) (by assumption) ?_
                    simp only [Act.put, List.setIfInBounds_toArray, List.set_cons_zero, List.set_cons_succ]
                    refine wpAnyH_take (i := 11) (oi := { dst := some 69, op := Op.move (.tmp 3), type := _, pos := _, after := _, guard := some (6, false) }) (v := (Value.int .i64 (n : Nat))) rfl (by kernel_rfl) (by kernel_rfl) (by kernel_rfl) (fun _ _ _ h => h) (Or.inl ⟨by rfl, by intro w' hSw; (try dsimp only at hSw); go_simp⟩) (by assumption) ?_
                    simp only [Act.put, List.setIfInBounds_toArray, List.set_cons_zero, List.set_cons_succ]
                    refine wpAnyH_take (i := 12) (oi := { dst := some 70, op := Op.binOp BinOp.quo _ (.tmp 68) (.tmp 69) _, type := _, pos := _, after := _, guard := some (6, false) }) (v := (Value.int .i64 (x : Nat))) rfl (by kernel_rfl) (by kernel_rfl) (by kernel_rfl) (fun _ _ _ h => h) (Or.inl ⟨by rfl, by intro w' hSw; (try dsimp only at hSw); go_simp⟩) (by assumption) ?_
                    simp only [Act.put, List.setIfInBounds_toArray, List.set_cons_zero, List.set_cons_succ]
                    refine wpAnyH_take (i := 13) (oi := { dst := some 71, op := Op.indexAddr _ (.tmp 67) (.tmp 70), type := _, pos := _, after := _, guard := some (6, false) }) (v := (Value.pointer (some ⟨b2, o2 + x, none⟩))) rfl (by kernel_rfl) (by kernel_rfl) (by kernel_rfl) (fun _ _ _ h => h) (Or.inl ⟨by rfl, by intro w' hSw; (try dsimp only at hSw); go_simp⟩) (by assumption) ?_
                    simp only [Act.put, List.setIfInBounds_toArray, List.set_cons_zero, List.set_cons_succ]
                    refine wpAnyH_take (i := 14) (oi := { dst := some 72, op := Op.load _ (.tmp 71), type := _, pos := _, after := _, guard := some (6, false) }) (v := (Value.slice (some ⟨rx, rxo, none⟩) 8 rxc)) rfl (by kernel_rfl) (by kernel_rfl) (by kernel_rfl) (fun _ _ _ h => h) (Or.inl ⟨by rfl, by intro w' hSw; (try dsimp only at hSw); go_simp⟩) (by assumption) ?_
                    simp only [Act.put, List.setIfInBounds_toArray, List.set_cons_zero, List.set_cons_succ]
                    refine wpAnyH_take (i := 15) (oi := { dst := some 73, op := Op.move (.tmp 8), type := _, pos := _, after := _, guard := some (6, false) }) (v := (Value.int .i64 (a : Nat))) rfl (by kernel_rfl) (by kernel_rfl) (by kernel_rfl) (fun _ _ _ h => h) (Or.inl ⟨by rfl, by intro w' hSw; (try dsimp only at hSw); go_simp⟩) (by assumption) ?_
                    simp only [Act.put, List.setIfInBounds_toArray, List.set_cons_zero, List.set_cons_succ]
                    refine wpAnyH_take (i := 16) (oi := { dst := some 74, op := Op.indexAddr _ (.tmp 72) (.tmp 73), type := _, pos := _, after := _, guard := some (6, false) }) (v := (Value.pointer (some ⟨rx, rxo + a, none⟩))) rfl (by kernel_rfl) (by kernel_rfl) (by kernel_rfl) (fun _ _ _ h => h) (Or.inl ⟨by rfl, by intro w' hSw; (try dsimp only at hSw); go_simp⟩) (by assumption) ?_
                    simp only [Act.put, List.setIfInBounds_toArray, List.set_cons_zero, List.set_cons_succ]
                    refine wpAnyH_take (i := 17) (oi := { dst := some 75, op := Op.load _ (.tmp 74), type := _, pos := _, after := _, guard := some (6, false) }) (v := (Value.int .i64 (u : Nat))) rfl (by kernel_rfl) (by kernel_rfl) (by kernel_rfl) (fun _ _ _ h => h) (Or.inl ⟨by rfl, by intro w' hSw; (try dsimp only at hSw); go_simp⟩) (by assumption) ?_
                    simp only [Act.put, List.setIfInBounds_toArray, List.set_cons_zero, List.set_cons_succ]
                    refine wpAnyH_take (i := 18) (oi := { dst := some 76, op := Op.move (.tmp 3), type := _, pos := _, after := _, guard := some (6, false) }) (v := (Value.int .i64 (n : Nat))) rfl (by kernel_rfl) (by kernel_rfl) (by kernel_rfl) (fun _ _ _ h => h) (Or.inl ⟨by rfl, by intro w' hSw; (try dsimp only at hSw); go_simp⟩) (by assumption) ?_
                    simp only [Act.put, List.setIfInBounds_toArray, List.set_cons_zero, List.set_cons_succ]
                    refine wpAnyH_take (i := 19) (oi := { dst := some 77, op := Op.binOp BinOp.mul _ (.tmp 75) (.tmp 76) _, type := _, pos := _, after := _, guard := some (6, false) }) (v := (Value.int .i64 (un : Nat))) rfl (by kernel_rfl) (by kernel_rfl) (by kernel_rfl) (fun _ _ _ h => h) (Or.inl ⟨by rfl, by intro w' hSw; (try dsimp only at hSw); go_simp⟩) (by assumption) ?_
                    simp only [Act.put, List.setIfInBounds_toArray, List.set_cons_zero, List.set_cons_succ]
                    refine wpAnyH_take (i := 20) (oi := { dst := some 78, op := Op.fieldAddr _ (.tmp 1) 1, type := _, pos := _, after := _, guard := some (6, false) }) (v := (Value.pointer (some ⟨w.heap.size, 1, none⟩))) rfl (by kernel_rfl) (by kernel_rfl) (by kernel_rfl) (fun _ _ _ h => h) (Or.inl ⟨by rfl, by intro w' hSw; (try dsimp only at hSw); go_simp⟩) (by assumption) ?_
                    simp only [Act.put, List.setIfInBounds_toArray, List.set_cons_zero, List.set_cons_succ]
                    refine wpAnyH_take (i := 21) (oi := { dst := some 79, op := Op.load _ (.tmp 78), type := _, pos := _, after := _, guard := some (6, false) }) (v := (Value.slice (some ⟨b2, o2, none⟩) n c2)) rfl (by kernel_rfl) (by kernel_rfl) (by kernel_rfl) (fun _ _ _ h => h) (Or.inl ⟨by rfl, by intro w' hSw; (try dsimp only at hSw); go_simp⟩) (by assumption) ?_
                    simp only [Act.put, List.setIfInBounds_toArray, List.set_cons_zero, List.set_cons_succ]
                    refine wpAnyH_take (i := 22) (oi := { dst := some 80, op := Op.move (.tmp 7), type := _, pos := _, after := _, guard := some (6, false) }) (v := (Value.int .i64 (i : Nat))) rfl (by kernel_rfl) (by kernel_rfl) (by kernel_rfl) (fun _ _ _ h => h) (Or.inl ⟨by rfl, by intro w' hSw; (try dsimp only at hSw); go_simp⟩) (by assumption) ?_
                    simp only [Act.put, List.setIfInBounds_toArray, List.set_cons_zero, List.set_cons_succ]
                    refine wpAnyH_take (i := 23) (oi := { dst := some 81, op := Op.move (.tmp 3), type := _, pos := _, after := _, guard := some (6, false) }) (v := (Value.int .i64 (n : Nat))) rfl (by kernel_rfl) (by kernel_rfl) (by kernel_rfl) (fun _ _ _ h => h) (Or.inl ⟨by rfl, by intro w' hSw; (try dsimp only at hSw); go_simp⟩) (by assumption) ?_
                    simp only [Act.put, List.setIfInBounds_toArray, List.set_cons_zero, List.set_cons_succ]
                    refine wpAnyH_take (i := 24) (oi := { dst := some 82, op := Op.binOp BinOp.rem _ (.tmp 80) (.tmp 81) _, type := _, pos := _, after := _, guard := some (6, false) }) (v := (Value.int .i64 (y : Nat))) rfl (by kernel_rfl) (by kernel_rfl) (by kernel_rfl) (fun _ _ _ h => h) (Or.inl ⟨by rfl, by intro w' hSw; (try dsimp only at hSw); go_simp⟩) (by assumption) ?_
                    simp only [Act.put, List.setIfInBounds_toArray, List.set_cons_zero, List.set_cons_succ]
                    refine wpAnyH_take (i := 25) (oi := { dst := some 83, op := Op.indexAddr _ (.tmp 79) (.tmp 82), type := _, pos := _, after := _, guard := some (6, false) }) (v := (Value.pointer (some ⟨b2, o2 + y, none⟩))) rfl (by kernel_rfl) (by kernel_rfl) (by kernel_rfl) (fun _ _ _ h => h) (Or.inl ⟨by rfl, by intro w' hSw; (try dsimp only at hSw); go_simp⟩) (by assumption) ?_
                    simp only [Act.put, List.setIfInBounds_toArray, List.set_cons_zero, List.set_cons_succ]
                    refine wpAnyH_take (i := 26) (oi := { dst := some 84, op := Op.load _ (.tmp 83), type := _, pos := _, after := _, guard := some (6, false) }) (v := (Value.slice (some ⟨ry, ryo, none⟩) 8 ryc)) rfl (by kernel_rfl) (by kernel_rfl) (by kernel_rfl) (fun _ _ _ h => h) (Or.inl ⟨by rfl, by intro w' hSw; (try dsimp only at hSw); go_simp⟩) (by assumption) ?_
                    simp only [Act.put, List.setIfInBounds_toArray, List.set_cons_zero, List.set_cons_succ]
                    refine wpAnyH_take (i := 27) (oi := { dst := some 85, op := Op.move (.tmp 8), type := _, pos := _, after := _, guard := some (6, false) }) (v := (Value.int .i64 (a : Nat))) rfl (by kernel_rfl) (by kernel_rfl) (by kernel_rfl) (fun _ _ _ h => h) (Or.inl ⟨by rfl, by intro w' hSw; (try dsimp only at hSw); go_simp⟩) (by assumption) ?_
                    simp only [Act.put, List.setIfInBounds_toArray, List.set_cons_zero, List.set_cons_succ]
                    refine wpAnyH_take (i := 28) (oi := { dst := some 86, op := Op.indexAddr _ (.tmp 84) (.tmp 85), type := _, pos := _, after := _, guard := some (6, false) }) (v := (Value.pointer (some ⟨ry, ryo + a, none⟩))) rfl (by kernel_rfl) (by kernel_rfl) (by kernel_rfl) (fun _ _ _ h => h) (Or.inl ⟨by rfl, by intro w' hSw; (try dsimp only at hSw); go_simp⟩) (by assumption) ?_
                    simp only [Act.put, List.setIfInBounds_toArray, List.set_cons_zero, List.set_cons_succ]
                    refine wpAnyH_take (i := 29) (oi := { dst := some 87, op := Op.load _ (.tmp 86), type := _, pos := _, after := _, guard := some (6, false) }) (v := (Value.int .i64 (v : Nat))) rfl (by kernel_rfl) (by kernel_rfl) (by kernel_rfl) (fun _ _ _ h => h) (Or.inl ⟨by rfl, by intro w' hSw; (try dsimp only at hSw); go_simp⟩) (by assumption) ?_
                    simp only [Act.put, List.setIfInBounds_toArray, List.set_cons_zero, List.set_cons_succ]
                    refine wpAnyH_take (i := 30) (oi := { dst := some 88, op := Op.binOp BinOp.add _ (.tmp 77) (.tmp 87) _, type := _, pos := _, after := _, guard := some (6, false) }) (v := (Value.int .i64 (un + v : Nat))) rfl (by kernel_rfl) (by kernel_rfl) (by kernel_rfl) (fun _ _ _ h => h) (Or.inl ⟨by rfl, by intro w' hSw; (try dsimp only at hSw); go_simp⟩) (by assumption) ?_
                    simp only [Act.put, List.setIfInBounds_toArray, List.set_cons_zero, List.set_cons_succ]
                    refine wpAnyH_take (i := 31) (oi := { dst := some 89, op := Op.indexAddr _ (.tmp 65) (.tmp 88), type := _, pos := _, after := _, guard := some (6, false) }) (v := (Value.pointer (some ⟨w.heap.size + 1, un + v, none⟩))) rfl (by kernel_rfl) (by kernel_rfl) (by kernel_rfl) (fun _ _ _ h => h) (Or.inl ⟨by rfl, by intro w' hSw; (try dsimp only at hSw); go_simp⟩) (by assumption) ?_
                    simp only [Act.put, List.setIfInBounds_toArray, List.set_cons_zero, List.set_cons_succ]
                    refine wpAnyH_ready (rs := [32]) (by kernel_rfl) (by simp) ?_
                    refine AllReadyH.cons rfl (fun K hK => ?_) AllReadyH.nil
                    go_simp
                    refine hK.out _ _ (by assumption) (fun hHeld => ?_)
                    clear hK K
                    (try simp only [Act.put, List.setIfInBounds_toArray, List.set_cons_zero, List.set_cons_succ])
                    refine wpAnyH_take (i := 33) (oi := { dst := some 91, op := Op.pick (.tmp 64) (Operand.const (Value.bool true)) (.tmp 90), type := _, pos := _, after := _, guard := none }) (v := (Value.bool tv)) rfl (by kernel_rfl) (by kernel_rfl) (by kernel_rfl) (fun _ _ _ h => h) (Or.inl ⟨by rfl, by intro w' hSw; (try dsimp only at hSw); go_simp⟩) (by assumption) ?_
                    simp only [Act.put, List.setIfInBounds_toArray, List.set_cons_zero, List.set_cons_succ]
                    refine wpAnyH_take (i := 34) (oi := { dst := some 92, op := Op.indexAddr _ (.tmp 58) (.tmp 59), type := _, pos := _, after := _, guard := none }) (v := (Value.pointer (some ⟨w.heap.size + 1, i, none⟩))) rfl (by kernel_rfl) (by kernel_rfl) (by kernel_rfl) (fun _ _ _ h => h) (Or.inl ⟨by rfl, by intro w' hSw; (try dsimp only at hSw); go_simp⟩) (by assumption) ?_
                    simp only [Act.put, List.setIfInBounds_toArray, List.set_cons_zero, List.set_cons_succ]
                    refine wpAnyH_ready (rs := [35]) (by kernel_rfl) (by simp) ?_
                    refine AllReadyH.cons rfl (fun K hK => ?_) AllReadyH.nil
                    go_simp
                    refine hK.out _ _ ⟨KS _ _ (by omega) p1, KS _ _ (by omega) px, KS _ _ y4 pxa, KS _ _ (by omega) py, KS _ _ v4 pya⟩ (fun hHeld => ?_)
                    clear hK K
                    refine wpAnyH_done (by kernel_rfl) ?_ _
                    clear hHeld
                    go_wp2_with fail
                    go_roundw
                    case rel =>
                      have bq := below_drewN (Below.refl (W4.setCell ⟨w.heap.size + 1, i, none⟩ (.bool tv)).heap.size (W4.setCell ⟨w.heap.size + 1, i, none⟩ (.bool tv))) 1
                      exact ⟨a + 1, _, by omega, by go_num, hid (own_keeps HTS.out bq), HK2, hid (HBS.out.trans (bq.mono (by have := HBS.out.size; omega)))⟩
                    case measure => simp [intOf]; omega
                · obtain rfl : a = 8 := by omega
                  have HJ2 := hid (tbk_end hx hy HK.out)
                  rw [← HEK.out] at HJ2
                  go_wp2_with fail
                  go_roundw
                  case rel => exact ⟨i + 1, t, by omega, by go_num, HT, HJ2, HB⟩
                  case measure => simp [intOf]; omega
            · obtain rfl : i = k := by omega
              have HI2 := HJ
              rw [HM.out] at HI2
              have HI3 := hid (tbj_end HI2.out)
              clear HI2
              go_wp2_with fail
              go_roundw
              case rel => exact ⟨r + 1, t, by omega, by go_num, HT, HI3, HB⟩
              case measure => simp [intOf]; omega
        · obtain rfl : r = n := by omega
          go_wp2_with fail
          go_loopw [9] (fun x wq => ∃ i : Nat, i ≤ k ∧ x = .int .i64 i ∧ Hid (BO wq (w.heap.size + 1) (w.heap.size + 1) k t) ∧ Hid (Below (w.heap.size + 1) W wq)) (fun x _ => k - (intOf x).toNat)
          case atStart => exact ⟨0, Nat.zero_le _, rfl, HT, HB⟩
          case round =>
            obtain ⟨i, hik, rfl, HT, HB⟩ := hrel
            rename World => W3
            by_cases hli : i < k
            · obtain ⟨x, y, hx, hy, ek, hq, hrm⟩ := HXY.out i hli
              have hwx : IntKind.i64.wrap (x : Int) = (x : Int) := IntWalk.i64_in _ ⟨by omega, by omega⟩
              have hwy : IntKind.i64.wrap (y : Int) = (y : Int) := IntWalk.i64_in _ ⟨by omega, by omega⟩
              have ti := HT.out.get hli
              by_cases hxy : x = y
              · have kxy : ((x : Int) != (y : Int)) = false := by simp [hxy]
                clear hxy ek
                go_wp2_with fail
                go_quiet (fail)
                go_wp2_with fail
                go_roundw
                case rel => exact ⟨i + 1, by omega, by go_num, hid (own_keeps HT.out (below_drewN (Below.refl _ _) nq)), hid (below_drewN HB.out nq)⟩
                case measure => simp [intOf]; omega
              · have kxy : ((x : Int) != (y : Int)) = true := bne_iff_ne.2 (by omega)
                have htt := HI.out x y hx hy (fun hl => HA.out x y hx hy hxy hl)
                rw [← ek] at htt
                rw [htt] at ti
                clear hxy ek htt
                go_wp2_with fail
                go_quiet (fail)
                go_wp2_with fail
                go_roundw
                case rel => exact ⟨i + 1, by omega, by go_num, hid (own_keeps HT.out (below_drewN (Below.refl _ _) nq)), hid (below_drewN HB.out nq)⟩
                case measure => simp [intOf]; omega
            · obtain rfl : i = k := by omega
              have BF := hid (HBA.out.trans (HB.out.mono (by omega)))
              go_wp2_with fail
              go_ret
              exact ⟨rfl, BF.out⟩

end Go.Proofs.Ytjagijohfkffiaa
