import Derived.Test.YtjagijohfkffiabFOUM01
import Derived.Test.YtjagijohfkffiabFOUM09

/- Rows of a call's own, and structs of two cells: what is kept, what lies apart. -/
namespace Go.Proofs.Ytjagijohfkffiab
open Go.RowKit
set_option linter.unusedVariables false

theorem own_keeps {B : Nat} {e : TypeId} {k : Nat} {v : Value} {n : Nat} {xs : List Value} {w w' : World} (h : w.ownsRow B e k v n xs) (hb : Below w.heap.size w w') : w'.ownsRow B e k v n xs :=
  h.kept (row := none) ⟨hb.os, hb.tape, hb.output, hb.size, fun j hj _ => hb.block j hj⟩ (by cases hv : v.ownBlock <;> simp)

/-- A row of the call's own that has something in it: where it lies. -/
theorem own_at' {w : World} {B e size n cap : Nat} {ao : Option Addr} {xs : List Value} (h : w.ownsRow B e size (.slice ao n cap) n xs) (hn : 0 < n) : ∃ g, ao = some ⟨g, 0, none⟩ ∧ B ≤ g ∧ g < w.heap.size ∧ n ≤ cap := by
  rcases h.2 with ⟨e, h0⟩ | ⟨g, cap', cur, e, hb, hh, hc, _⟩
  · omega
  · cases e
    exact ⟨g, rfl, hb, (Array.getElem?_eq_some_iff.1 hh).1, hc⟩

/-- Two rows of unlike elements lie apart. -/
theorem own_ne' {w : World} {B B' e e' size size' n n' : Nat} {v v' : Value} {xs xs' : List Value} (h : w.ownsRow B e size v n xs) (h' : w.ownsRow B' e' size' v' n' xs') (hne : e ≠ e') : v.ownBlock = none ∨ v.ownBlock ≠ v'.ownBlock := by
  rcases h.2 with ⟨rfl, _⟩ | ⟨g, cap, cur, rfl, _, hg, _⟩
  · exact Or.inl rfl
  · rcases h'.2 with ⟨rfl, _⟩ | ⟨g', cap', cur', rfl, _, hg', _⟩
    · exact Or.inr (by simp [Value.ownBlock])
    · refine Or.inr fun e => ?_
      simp [Value.ownBlock] at e
      subst e
      rw [hg] at hg'
      simp at hg'
      exact hne hg'.2

theorem own_set_other {w : World} {base : Nat} {e : TypeId} {size : Nat} {v : Value} {n : Nat} {xs : List Value} (h : w.ownsRow base e size v n xs) {k : Nat} (hk : k < base) (o : Nat) (u : Value) : (w.setCell ⟨k, o, none⟩ u).ownsRow base e size v n xs := ownsRow_setCell_below h (by simpa using hk) u

theorem own_slice {w : World} {B : Nat} {e : TypeId} {size : Nat} {v : Value} {n : Nat} {xs : List Value} (h : w.ownsRow B e size v n xs) : ∃ ao cap, v = .slice ao n cap := by
  rcases h.2 with ⟨rfl, rfl⟩ | ⟨g, cap, cur, rfl, _⟩
  · exact ⟨none, 0, rfl⟩
  · exact ⟨_, cap, rfl⟩

/-- A struct of two one-cell fields, in a block of its own. -/
structure Two (w : World) (b : Nat) (x y : Value) : Prop where
  c0 : w.cell? ⟨b, 0, none⟩ = some x
  c1 : w.cell? ⟨b, 1, none⟩ = some y
  f0 : w.frozen? ⟨b, 0, none⟩ = false
  f1 : w.frozen? ⟨b, 1, none⟩ = false

theorem Two.lt {w : World} {b : Nat} {x y : Value} (h : Two w b x y) : b < w.heap.size := World.block_lt_of_cell? w ⟨b, 0, none⟩ h.c0
theorem two_new (w : World) (x y : Value) (t : TypeId) : Two (w.alloc (.cells #[x, y] t)) w.heap.size x y := ⟨by simp, by simp, by simp, by simp⟩
theorem Two.below {B : Nat} {w w' : World} {b : Nat} {x y : Value} (h : Two w b x y) (hb : Below B w w') (hlt : b < B) : Two w' b x y :=
  ⟨(hb.cell (p := ⟨b, 0, none⟩) hlt).trans h.c0, (hb.cell (p := ⟨b, 1, none⟩) hlt).trans h.c1, (hb.frozen (p := ⟨b, 0, none⟩) hlt).trans h.f0, (hb.frozen (p := ⟨b, 1, none⟩) hlt).trans h.f1⟩
theorem Two.set0 {w : World} {b : Nat} {x y : Value} (h : Two w b x y) (v : Value) : Two (w.setCell ⟨b, 0, none⟩ v) b v y :=
  ⟨World.cell?_setCell_same _ _ _ h.c0, by rw [World.cell?_setCell_other _ _ _ _ (by simp)]; exact h.c1, by rw [World.frozen?_setCell]; exact h.f0, by rw [World.frozen?_setCell]; exact h.f1⟩
theorem Two.set1 {w : World} {b : Nat} {x y : Value} (h : Two w b x y) (v : Value) : Two (w.setCell ⟨b, 1, none⟩ v) b x v :=
  ⟨by rw [World.cell?_setCell_other _ _ _ _ (by simp)]; exact h.c0, World.cell?_setCell_same _ _ _ h.c1, by rw [World.frozen?_setCell]; exact h.f0, by rw [World.frozen?_setCell]; exact h.f1⟩
theorem Two.other {w : World} {b k o : Nat} {x y : Value} (h : Two w b x y) (hk : k ≠ b) (v : Value) : Two (w.setCell ⟨k, o, none⟩ v) b x y :=
  ⟨by rw [World.cell?_setCell_other _ _ _ _ (fun e => hk (congrArg Addr.block e))]; exact h.c0, by rw [World.cell?_setCell_other _ _ _ _ (fun e => hk (congrArg Addr.block e))]; exact h.c1, by rw [World.frozen?_setCell]; exact h.f0, by rw [World.frozen?_setCell]; exact h.f1⟩


end Go.Proofs.Ytjagijohfkffiab

/- The walks of same and list. -/
namespace Go.Proofs.Ytjagijohfkffiab
open Go.RowKit
set_option linter.unusedVariables false

set_option maxHeartbeats 4000000 in
set_option maxRecDepth 100000 in
theorem same_any (g1 g2 n c1 c2 : Nat) (f h : Nat → Bool) (w : World) (hn : n ≤ 1099511627776) (hf : FlatG w g1 (n * 256) f) (hh : FlatG w g2 (n * 256) h) (hg1 : g1 < w.heap.size) (hg2 : g2 < w.heap.size) :
    Calls Try.prog 114 #[.slice (some ⟨g1, 0, none⟩) n c1, .slice (some ⟨g2, 0, none⟩) n c2] w fun e w' => ∃ b : Bool, e = .returned (.bool b) ∧ (b = true ↔ ∀ i, i < n * 256 → f i = h i) ∧ Below w.heap.size w w' := by
  have HF := hid hf
  have HH := hid hh
  have EQ := fun g h W => run_equal_grp 9998 g h W
  clear hf hh
  go_enter Try.func114, Try.ntmps114
  go_wp2_with fail
  go_loopw [14] (fun i wq => ∃ t : Nat, t ≤ n ∧ i = .int .i64 t ∧ Hid (∀ i, i < t * 256 → f i = h i) ∧ Hid (Below w.heap.size w wq)) (fun i _ => n - (intOf i).toNat)
  case atStart => exact ⟨0, Nat.zero_le _, rfl, hid (fun i hi => by omega), hid (Below.refl _ _)⟩
  case round =>
    obtain ⟨t, ht, rfl, HA, HB⟩ := hrel
    rename World => W0
    by_cases hlt : t < n
    · have hsz := HB.out.size
      have GF := hid ((HF.out.below HB.out hg1).grp (t := t) (by omega))
      have GH := hid ((HH.out.below HB.out hg2).grp (t := t) (by omega))
      go_wp2_with (first | (refine wpList_load_grp rfl (.tmp 17) rfl g1 (t * 256) _ rfl GF.out ?_) | (refine wpList_store_grp rfl (.tmp 6) (.tmp 18) rfl W0.heap.size 0 (fun j => f (t * 256 + j)) rfl rfl (zero_new W0).there ?_))
      intro w2 S2
      have A6 := hid S2.at_
      have A2 := hid (S2.grp (GH.out.alloc (.cells Try.zeroCells69 69)) (Or.inl (by omega)))
      have AB := hid (S2.bel _ _ (by omega) (HB.out.alloc (by omega) (.cells Try.zeroCells69 69)))
      clear S2 GF GH
      go_wp2_with fail
      refine wp_region_held_drew (S := fun W => GrpAt W W0.heap.size 0 (fun j => f (t * 256 + j)) ∧ GrpAt W g2 (t * 256) (fun j => h (t * 256 + j))) (by kernel_rfl) ⟨A6.out.drew, A2.out.drew⟩ (fun hHeld => ?_)
      refine wpAnyH_take (i := 0) (oi := { dst := some 19, op := Op.load 69 (.tmp 6), type := _, pos := _, after := _, guard := none }) (v := (Value.agg (gv (fun j => f (t * 256 + j))).toArray)) rfl (by kernel_rfl) (by kernel_rfl) (by kernel_rfl) (fun _ _ _ h => h) (yieldsIf_load_mid (by rfl) 69 (.tmp 6) rfl W0.heap.size 0 rfl (gv (fun j => f (t * 256 + j))) _ (fun W h => h.1.rng) Try.groupUnder rfl (Try.groupSz _)) (by assumption) ?_
      simp only [Act.put, List.setIfInBounds_toArray, List.set_cons_zero, List.set_cons_succ]
      refine wpAnyH_take (i := 1) (oi := { dst := some 20, op := Op.move (.tmp 1), type := _, pos := _, after := _, guard := none }) (v := (Value.slice (some ⟨g2, 0, none⟩) n c2)) rfl (by kernel_rfl) (by kernel_rfl) (by kernel_rfl) (fun _ _ _ h => h) (Or.inl ⟨by rfl, by intro w' hSw; (try dsimp only at hSw); go_simp⟩) (by assumption) ?_
      simp only [Act.put, List.setIfInBounds_toArray, List.set_cons_zero, List.set_cons_succ]
      refine wpAnyH_take (i := 2) (oi := { dst := some 21, op := Op.move (.tmp 5), type := _, pos := _, after := _, guard := none }) (v := (Value.int .i64 (t : Nat))) rfl (by kernel_rfl) (by kernel_rfl) (by kernel_rfl) (fun _ _ _ h => h) (Or.inl ⟨by rfl, by intro w' hSw; (try dsimp only at hSw); go_simp⟩) (by assumption) ?_
      simp only [Act.put, List.setIfInBounds_toArray, List.set_cons_zero, List.set_cons_succ]
      refine wpAnyH_take (i := 3) (oi := { dst := some 22, op := Op.indexAddr _ (.tmp 20) (.tmp 21), type := _, pos := _, after := _, guard := none }) (v := (Value.pointer (some ⟨g2, t * 256, none⟩))) rfl (by kernel_rfl) (by kernel_rfl) (by kernel_rfl) (fun _ _ _ h => h) (Or.inl ⟨by rfl, by intro w' hSw; (try dsimp only at hSw); go_simp⟩) (by assumption) ?_
      simp only [Act.put, List.setIfInBounds_toArray, List.set_cons_zero, List.set_cons_succ]
      refine wpAnyH_take (i := 4) (oi := { dst := some 23, op := Op.load 69 (.tmp 22), type := _, pos := _, after := _, guard := none }) (v := (Value.agg (gv (fun j => h (t * 256 + j))).toArray)) rfl (by kernel_rfl) (by kernel_rfl) (by kernel_rfl) (fun _ _ _ h => h) (yieldsIf_load_mid (by rfl) 69 (.tmp 22) rfl g2 (t * 256) rfl (gv (fun j => h (t * 256 + j))) _ (fun W h => h.2.rng) Try.groupUnder rfl (Try.groupSz _)) (by assumption) ?_
      simp only [Act.put, List.setIfInBounds_toArray, List.set_cons_zero, List.set_cons_succ]
      refine wpAnyH_take (i := 5) (oi := { dst := some 24, op := Op.binOp BinOp.neq 69 (.tmp 19) (.tmp 23) 69, type := _, pos := _, after := _, guard := none }) (v := (Value.bool (!geq (fun j => f (t * 256 + j)) (fun j => h (t * 256 + j))))) rfl (by kernel_rfl) (by kernel_rfl) (by kernel_rfl) (fun _ _ _ h => h) (Or.inl ⟨by rfl, by intro w' hSw; go_simp⟩) (by assumption) ?_
      simp only [Act.put, List.setIfInBounds_toArray, List.set_cons_zero, List.set_cons_succ]
      refine wpAnyH_done (by kernel_rfl) ?_ _
      clear hHeld
      cases eq : geq (fun j => f (t * 256 + j)) (fun j => h (t * 256 + j)) with
      | true =>
        have HQ := hid (geq_iff.1 eq)
        clear eq
        go_wp2_with fail
        go_roundw
        case rel =>
          refine ⟨t + 1, by omega, by go_num, hid (fun i hi => ?_), hid AB.out.drew⟩
          by_cases hi2 : i < t * 256
          · exact HA.out i hi2
          · have := HQ.out (i - t * 256) (by omega)
            rwa [show t * 256 + (i - t * 256) = i by omega] at this
        case measure => simp [intOf]; omega
      | false =>
        have HN : Hid (¬ ∀ i, i < n * 256 → f i = h i) := hid (fun k => by
          have : geq (fun j => f (t * 256 + j)) (fun j => h (t * 256 + j)) = true := geq_iff.2 fun j hj => k _ (by omega)
          rw [eq] at this
          cases this)
        clear eq
        go_wp2_with fail
        go_ret
        exact ⟨false, rfl, by simpa using HN.out, AB.out.drew⟩
    · obtain rfl : t = n := by omega
      go_wp2_with fail
      go_ret
      exact ⟨true, rfl, by simpa using HA.out, HB.out⟩

def flatSd (xs : List Nat) : List Value := xs.flatMap fun x => [.int .i64 (x / 256 : Nat), .int .u8 (x % 256 : Nat)]
theorem flatSd_snoc (xs : List Nat) (x : Nat) : flatSd (xs ++ [x]) = flatSd xs ++ [.int .i64 (x / 256 : Nat), .int .u8 (x % 256 : Nat)] := by simp [flatSd]
theorem flatSd_get {xs : List Nat} {i x : Nat} (h : xs[i]? = some x) : (flatSd xs)[i * 2]? = some (.int .i64 (x / 256 : Nat)) ∧ (flatSd xs)[i * 2 + 1]? = some (.int .u8 (x % 256 : Nat)) := by
  induction xs generalizing i with
  | nil => simp at h
  | cons p ps ih =>
    cases i with
    | zero => simp at h; subst h; simp [flatSd]
    | succ i =>
      have := ih (by simpa using h)
      rw [show flatSd (p :: ps) = [.int .i64 (p / 256 : Nat), .int .u8 (p % 256 : Nat)] ++ flatSd ps by simp [flatSd]]
      rw [List.getElem?_append_right (by simp; omega), List.getElem?_append_right (by simp; omega)]
      simpa [show (i + 1) * 2 - 2 = i * 2 by omega, show (i + 1) * 2 + 1 - 2 = i * 2 + 1 by omega] using this

theorem Try.infoStand : (Try.prog.info? 162).map (fun i => (i.zero, i.size, i.bytes)) = some (some (.agg #[.int .i64 0, .int .u8 0]), 2, 16) := by kernel_rfl

theorem goals_le (f : Nat → Bool) (n : Nat) : (goalsTo f n).length ≤ n := by rw [goalsTo_len]; exact cntT_le f n

set_option maxHeartbeats 4000000 in
set_option maxRecDepth 100000 in
theorem list_any (g n cap : Nat) (f : Nat → Bool) (w : World) (hn : n ≤ 17179869184) (hf : FlatG w g (n * 256) f) (hg : g < w.heap.size) :
    Calls Try.prog 82 #[.slice (some ⟨g, 0, none⟩) n cap] w fun e w' => ∃ v, e = .returned v ∧ w'.ownsRow w.heap.size 162 2 v (goalsTo f (n * 256)).length (flatSd (goalsTo f (n * 256))) ∧ Below w.heap.size w w' := by
  have HF := hid hf
  clear hf
  obtain ⟨i0, hi, hz0, hz1, hz2⟩ := info_parts Try.infoStand
  go_enter Try.func82, Try.ntmps82
  go_wp2_with fail
  go_loopw [3, 10] (fun v i wq => ∃ t : Nat, t ≤ n ∧ i = .int .i64 t ∧ Hid (wq.ownsRow w.heap.size 162 2 v (goalsTo f (t * 256)).length (flatSd (goalsTo f (t * 256)))) ∧ Hid (Below w.heap.size w wq)) (fun _ i _ => n - (intOf i).toNat)
  case atStart => exact ⟨0, Nat.zero_le _, rfl, hid (World.ownsRow_nil _ _ _ _), hid (Below.refl _ _)⟩
  case round =>
    obtain ⟨t, ht, rfl, HO, HB⟩ := hrel
    rename World => W0
    rename Value => v0
    by_cases hlt : t < n
    · have hsz := HB.out.size
      have GF := hid ((HF.out.below HB.out hg).grp (t := t) (by omega))
      go_wp2_with (first | (refine wpList_load_grp rfl (.tmp 13) rfl g (t * 256) _ rfl GF.out ?_) | (refine wpList_store_grp rfl (.tmp 5) (.tmp 14) rfl W0.heap.size 0 (fun j => f (t * 256 + j)) rfl rfl (zero_new W0).there ?_))
      intro w2 S2
      have A5 := hid S2.at_
      have AB := hid (S2.bel _ _ (by omega) (HB.out.alloc (by omega) (.cells Try.zeroCells69 69)))
      have AO := hid (own_keeps HO.out (S2.bel W0.heap.size W0 (Nat.le_refl _) ((Below.refl _ _).alloc (Nat.le_refl _) (.cells Try.zeroCells69 69))))
      clear S2 GF
      go_wp2_with (refine wpList_load_grp rfl (.tmp 5) rfl W0.heap.size 0 _ rfl A5.out ?_)
      clear A5
      go_loopw [3, 16] (fun v i wq => ∃ j : Nat, j ≤ 256 ∧ i = .int .i64 j ∧ Hid (wq.ownsRow w.heap.size 162 2 v (goalsTo f (t * 256 + j)).length (flatSd (goalsTo f (t * 256 + j)))) ∧ Hid (Below w.heap.size w wq)) (fun _ i _ => 256 - (intOf i).toNat)
      case atStart => exact ⟨0, by omega, rfl, AO, AB⟩
      case round =>
        obtain ⟨j, hj, rfl, HO, HB⟩ := hrel
        rename World => W3
        rename Value => v3
        by_cases hlj : j < 256
        · have ix := fun W => run_index_grp (fun j => f (t * 256 + j)) hlj W
          have hgl := goals_le f (t * 256 + j)
          have HS := hid (goalsTo_succ f (t * 256 + j))
          have d1 : Hid ((t * 256 + j) / 256 = t) := hid (by omega)
          have d2 : Hid ((t * 256 + j) % 256 = j) := hid (by omega)
          have wr0 : IntKind.u8.wrap (j : Int) = j := by rw [IntKind.wrap_u8]; omega
          have hsz := HB.out.size
          generalize goalsTo f (t * 256 + j) = xs at *
          generalize f (t * 256 + j) = fv at *
          cases fv with
          | false =>
            go_wp2_with fail
            go_roundw
            case rel => exact ⟨j + 1, by omega, by go_num, by rw [show t * 256 + (j + 1) = t * 256 + j + 1 by omega, HS.out]; simpa using HO, HB⟩
            case measure => simp [intOf]; omega
          | true =>
            go_wp2_with (at_builtin; go_must (refine wpList_append_own _ rfl (.tmp 21) (.tmp 26) 159 rfl w.heap.size 162 i0 (.agg #[.int .i64 0, .int .u8 0]) 2 16 Try.underlying159 hi hz0 hz1 hz2 rfl (by decide) _ _ _ rfl (HO.out.alloc _) ⟨W3.heap.size, 0, none⟩ 1 1 [.int .i64 (t : Nat), .int .u8 (j : Nat)] rfl rfl ?c1 ?c2 ?c3 ?c4 ?c5 ?_))
            case c2 => exact ⟨rfl, rfl⟩
            case c3 => unfold maxLen; omega
            case c4 => omega
            case c5 => omega
            intro v4 w4 hown hgrow _
            have hb4 := hid ((HB.out.alloc hsz (.cells #[.int .i64 (t : Nat), .int .u8 (j : Nat)] 162)).grown hgrow (by simp; omega) (fun k h => (HO.out.lt k h).1))
            have HO4 : Hid (w4.ownsRow w.heap.size 162 2 v4 (goalsTo f (t * 256 + j + 1)).length (flatSd (goalsTo f (t * 256 + j + 1)))) := by
              rw [HS.out, if_pos (by trivial), List.length_append, flatSd_snoc, d1.out, d2.out]
              exact hid hown
            clear hown hgrow
            go_wp2_with fail
            go_roundw
            case rel => exact ⟨j + 1, by omega, by go_num, HO4, hb4⟩
            case measure => simp [intOf]; omega
        · obtain rfl : j = 256 := by omega
          go_wp2_with fail
          go_roundw
          case rel => exact ⟨t + 1, by omega, by go_num, by rw [show (t + 1) * 256 = t * 256 + 256 by omega]; exact HO, HB⟩
          case measure => simp [intOf]; omega
    · obtain rfl : t = n := by omega
      go_wp2_with fail
      go_ret
      exact ⟨_, rfl, HO.out, HB.out⟩

end Go.Proofs.Ytjagijohfkffiab

/- A struct of three cells. -/
namespace Go.Proofs.Ytjagijohfkffiab
open Go.RowKit
set_option linter.unusedVariables false

/-- A struct of three one-cell fields, in a block of its own. -/
structure Three (w : World) (b : Nat) (x y z : Value) : Prop where
  c0 : w.cell? ⟨b, 0, none⟩ = some x
  c1 : w.cell? ⟨b, 1, none⟩ = some y
  c2 : w.cell? ⟨b, 2, none⟩ = some z
  fz : ∀ o, o < 3 → w.frozen? ⟨b, o, none⟩ = false

theorem Three.lt {w : World} {b : Nat} {x y z : Value} (h : Three w b x y z) : b < w.heap.size := World.block_lt_of_cell? w ⟨b, 0, none⟩ h.c0
theorem three_new (w : World) (x y z : Value) (t : TypeId) : Three (w.alloc (.cells #[x, y, z] t)) w.heap.size x y z := ⟨by simp, by simp, by simp, fun o ho => by simp⟩
theorem Three.below {B : Nat} {w w' : World} {b : Nat} {x y z : Value} (h : Three w b x y z) (hb : Below B w w') (hlt : b < B) : Three w' b x y z :=
  ⟨(hb.cell (p := ⟨b, 0, none⟩) hlt).trans h.c0, (hb.cell (p := ⟨b, 1, none⟩) hlt).trans h.c1, (hb.cell (p := ⟨b, 2, none⟩) hlt).trans h.c2, fun o ho => (hb.frozen (p := ⟨b, o, none⟩) hlt).trans (h.fz o ho)⟩
theorem Three.set1 {w : World} {b : Nat} {x y z : Value} (h : Three w b x y z) (v : Value) : Three (w.setCell ⟨b, 1, none⟩ v) b x v z :=
  ⟨by rw [World.cell?_setCell_other _ _ _ _ (by simp)]; exact h.c0, World.cell?_setCell_same _ _ _ h.c1, by rw [World.cell?_setCell_other _ _ _ _ (by simp)]; exact h.c2, fun o ho => by rw [World.frozen?_setCell]; exact h.fz o ho⟩
theorem Three.set2 {w : World} {b : Nat} {x y z : Value} (h : Three w b x y z) (v : Value) : Three (w.setCell ⟨b, 2, none⟩ v) b x y v :=
  ⟨by rw [World.cell?_setCell_other _ _ _ _ (by simp)]; exact h.c0, by rw [World.cell?_setCell_other _ _ _ _ (by simp)]; exact h.c1, World.cell?_setCell_same _ _ _ h.c2, fun o ho => by rw [World.frozen?_setCell]; exact h.fz o ho⟩
theorem Three.set0 {w : World} {b : Nat} {x y z : Value} (h : Three w b x y z) (v : Value) : Three (w.setCell ⟨b, 0, none⟩ v) b v y z :=
  ⟨World.cell?_setCell_same _ _ _ h.c0, by rw [World.cell?_setCell_other _ _ _ _ (by simp)]; exact h.c1, by rw [World.cell?_setCell_other _ _ _ _ (by simp)]; exact h.c2, fun o ho => by rw [World.frozen?_setCell]; exact h.fz o ho⟩
theorem Three.other {w : World} {b k o : Nat} {x y z : Value} (h : Three w b x y z) (hk : k ≠ b) (v : Value) : Three (w.setCell ⟨k, o, none⟩ v) b x y z :=
  ⟨by rw [World.cell?_setCell_other _ _ _ _ (fun e => hk (congrArg Addr.block e))]; exact h.c0, by rw [World.cell?_setCell_other _ _ _ _ (fun e => hk (congrArg Addr.block e))]; exact h.c1, by rw [World.cell?_setCell_other _ _ _ _ (fun e => hk (congrArg Addr.block e))]; exact h.c2, fun q hq => by rw [World.frozen?_setCell]; exact h.fz q hq⟩

end Go.Proofs.Ytjagijohfkffiab
