/- The walk of the reference's Write; Writes' walk. -/
import Derived.Test.YtjagijohfkffiaaRefWrite
namespace Go.Proofs.Ytjagijohfkffiaa
open Go.RowKit
set_option linter.unusedVariables false

def strOf (l : List UInt8) : ByteArray := ⟨l.toArray⟩
theorem strOf_append (l m : List UInt8) : strOf l ++ strOf m = strOf (l ++ m) := by
  apply ByteArray.ext
  simp [strOf, ByteArray.data_append]
theorem strOf_size (l : List UInt8) : (strOf l).size = l.length := by simp [strOf, ByteArray.size]

theorem conv_one (W : World) (x : Int) (h0 : 0 ≤ x) (h1 : x < 256) : (convert 107 9 (.slice (some ⟨W.heap.size, 0, none⟩) 1 1)).run Try.prog (W.alloc (.cells #[.int .u8 x] 5)) = .ok (.string (strOf [byt x])) (W.alloc (.cells #[.int .u8 x] 5)) :=
  run_convert_bytes_back (P := Try.prog) _ 107 9 5 ⟨W.heap.size, 0, none⟩ 1 [byt x] Try.underlying107 Try.underlying5 Try.underlying9 (fun k hk => by
    obtain rfl : k = 0 := by simp at hk; omega
    rw [add_off]
    simp [byt_toNat h0 h1])

theorem add_one (l : List UInt8) (b : UInt8) (hl : l.length ≤ 1000) (W : World) : (Op.stringOp .add (strOf l) (strOf [b])).run Try.prog W = .ok (.string (strOf (l ++ [b]))) W := by
  exact (run_string_add_sum (P := Try.prog) (w := W) (strOf l) (strOf [b]) (by rw [strOf_size, strOf_size]; simp; omega)).trans (by rw [strOf_append])

section
variable (a1 a2 : Option Addr) (l1 c1 l2 c2 : Nat) (os : List Int) (ls : List (List Int)) (w : World)

theorem formed_any (h1 : Ints w a1 l1 c1 os) (h2 : Lists w a2 l2 c2 ls) : Calls Try.prog 71 #[.agg #[.slice a1 l1 c1, .slice a2 l2 c2]] w fun e w' => e = .returned (.bool (formedB os ls)) ∧ Below w.heap.size w w' := by
  by_cases h : l1 = 0 ∨ 8 < l1 ∨ l2 ≠ l1
  · exact formed_bad a1 a2 l1 c1 l2 c2 os ls w h1 h2 h
  · have e : l2 = l1 := by omega
    subst e
    exact formed_walk a1 a2 l2 c1 c2 os ls w h1 h2 (by omega) (by omega)

set_option maxHeartbeats 400000 in
theorem rwrite_no (h1 : Ints w a1 l1 c1 os) (h2 : Lists w a2 l2 c2 ls) (hf : formedB os ls = false) :
    Calls Try.prog 34 #[.agg #[.slice a1 l1 c1, .slice a2 l2 c2]] w fun e w' => e = .returned (.tuple #[.string (writeStr os ls), .int .i64 (writeErr os ls)]) ∧ Below w.heap.size w w' := by
  have T := fun W (b : Below w.heap.size w W) => formed_any a1 a2 l1 c1 l2 c2 os ls W (h1.below b) (h2.below b)
  have HE : Hid (writeStr os ls = ⟨#[]⟩ ∧ writeErr os ls = 8) := hid ⟨by simp [writeStr, hf], by simp [writeErr, hf]⟩
  rw [hf] at T
  clear hf
  go_enter Try.func34, Try.ntmps34
  go_wp2_with fail
  refine (T _ ((Below.refl _ _).alloc (Nat.le_refl _) _)).mono ?_
  rintro e w2 ⟨rfl, hb2⟩
  have B2 := hid (((Below.refl w.heap.size w).alloc (Nat.le_refl _) _).trans (hb2.mono (by simp)))
  clear hb2 T
  go_wp2_with fail
  go_ret2
  exact ⟨by rw [HE.out.1, HE.out.2]; rfl, B2.out⟩

set_option maxHeartbeats 4000000 in
set_option maxRecDepth 100000 in
theorem rwrite_yes (h1 : Ints w a1 l1 c1 os) (h2 : Lists w a2 l2 c2 ls) (hf : formedB os ls = true) :
    Calls Try.prog 34 #[.agg #[.slice a1 l1 c1, .slice a2 l2 c2]] w fun e w' => e = .returned (.tuple #[.string (writeStr os ls), .int .i64 (writeErr os ls)]) ∧ Below w.heap.size w w' := by
  have T := fun W (b : Below w.heap.size w W) => formed_any a1 a2 l1 c1 l2 c2 os ls W (h1.below b) (h2.below b)
  have HE : Hid (writeStr os ls = strOf (bytesOf (zipSt os ls)) ∧ writeErr os ls = 0) := hid ⟨by simp [writeStr, hf, strOf], by simp [writeErr, hf]⟩
  have hl := formed_len hf
  have h8 := (formed_mk hl.1 hl.2.1).2
  have hz := zip_len hl.1
  obtain ⟨hn1, hn8, hall⟩ := wfB_iff.1 hl.2.2
  rw [hz] at hn1 hn8 hall
  have L1 := h1.hlen
  have L2 := h2.hlen
  have hle := hl.1
  obtain rfl : l2 = l1 := by omega
  rw [hf] at T
  have HZ := hid (fun i (hi : i < os.length) => zip_at hl.1 hi)
  obtain ⟨b1, o1, rfl, hlt1, hc1⟩ := h1.hcell (by omega)
  obtain ⟨b2, o2, rfl, hlt2, hc2⟩ := h2.hcell (by omega)
  have m1 := h1.hmax
  have m3 := h1.hcap
  have m2 := h2.hmax
  have m4 := h2.hcap
  have CV := fun (W : World) (x : Int) => conv_one W x
  have wr0 : IntKind.u8.wrap (l2 : Int) = l2 := wrap_u8 (by omega) (by omega)
  have CV0 := fun (W : World) => conv_one W (l2 : Int) (by omega) (by omega)
  have HN0 : Hid (strOf [byt (l2 : Int)] = strOf (bytesTo (zipSt os ls) 0)) := hid (by simp [bytesTo, hz, L1])
  clear hf
  go_enter Try.func34, Try.ntmps34
  go_wp2_with fail
  refine (T _ ((Below.refl _ _).alloc (Nat.le_refl _) _)).mono ?_
  rintro e w2 ⟨rfl, hb2⟩
  have p0 := (hb2.cell (p := ⟨w.heap.size, 0, none⟩) (by simp)).trans (World.cell?_alloc_new w _ _ 0)
  have p1 := (hb2.cell (p := ⟨w.heap.size, 1, none⟩) (by simp)).trans (World.cell?_alloc_new w _ _ 1)
  simp at p0 p1
  have hbw2 := ((Below.refl w.heap.size w).alloc (Nat.le_refl _) _).trans (hb2.mono (by simp))
  have hs2 : w.heap.size < w2.heap.size := World.block_lt_of_cell? _ ⟨w.heap.size, 0, none⟩ p0
  have HB2 := hid hbw2
  have HBB := hid hb2
  clear hb2 T CV
  go_wp2_with fail
  rw [HN0.out]
  go_loopw [6, 5] (fun i s wr => ∃ (j : Nat), j ≤ l2 ∧ i = .int .i64 j ∧ s = .string (strOf (bytesTo (zipSt os ls) j)) ∧ Below w2.heap.size w2 wr) (fun i _ _ => l2 - (intOf i).toNat)
  case atStart => exact ⟨0, Nat.zero_le _, rfl, rfl, (Below.refl _ _).alloc (Nat.le_refl _) _⟩
  case round =>
    obtain ⟨j, hj, rfl, rfl, hb⟩ := hrel
    have p0q := (hb.cell (p := ⟨w.heap.size, 0, none⟩) hs2).trans p0
    have p1q := (hb.cell (p := ⟨w.heap.size, 1, none⟩) hs2).trans p1
    have hbw : Below w.heap.size w wr := HB2.out.trans (hb.mono (by omega))
    by_cases hlt : j < l2
    · obtain ⟨ra, rl, rc, cr, hr⟩ := hc2 j hlt
      have cr' := (hbw.cell (p := ⟨b2, o2 + j, none⟩) hlt2).trans cr
      have cO := (hbw.cell (p := ⟨b1, o1 + j, none⟩) hlt1).trans (hc1 j hlt)
      have hr8 : rl = 8 := by rw [← hr.hlen]; exact hl.2.1 j (by omega)
      subst hr8
      have rcap := hr.hcap
      have rmax := hr.hmax
      obtain ⟨b3, o3, rfl, hlt3, hc3⟩ := hr.hcell (by omega)
      have hsm := stB_small (hall j (by omega))
      have HLB := bytesTo_len h8 (j := j) (by omega)
      have HSU := hid (bytesTo_succ (ss := zipSt os ls) (j := j) (by omega))
      have hs8 := eight_at h8 (i := j) (by omega)
      rw [HZ.out j (by omega)] at hsm hs8 HSU
      have HR : Hid (∀ m, m < 8 → w.cell? ⟨b3, o3 + m, none⟩ = some (.int .i64 ((ls.getD j []).getD m 0))) := hid hc3
      have HCR := hid cr
      generalize ls.getD j [] = row at *
      generalize os.getD j 0 = o at *
      simp only at hsm hs8
      have s1 := hsm.1
      have s2 := hsm.2.1
      have HSM := hid hsm.2.2
      have HS8 := hid hs8
      have wro : IntKind.u8.wrap o = o := wrap_u8 s1 (by omega)
      have CVo := fun (W : World) => conv_one W o s1 (by omega)
      have AD := add_one (bytesTo (zipSt os ls) j) (byt o) (by omega)
      have HP0 : Hid (bytesTo (zipSt os ls) j ++ [byt o] = bytesTo (zipSt os ls) j ++ stPart ⟨o, row⟩ 0) := hid (by simp [stPart])
      clear hc1 hc2 hc3 cr hsm hs8 hr HZ hall
      generalize bytesTo (zipSt os ls) j = bs at *
      go_wp2_with fail
      rw [HP0.out]
      go_loopw [7, 5] (fun i s wq => ∃ (k : Nat), k ≤ 8 ∧ i = .int .i64 k ∧ s = .string (strOf (bs ++ stPart ⟨o, row⟩ k)) ∧ Below w2.heap.size w2 wq) (fun i _ _ => 8 - (intOf i).toNat)
      case atStart => exact ⟨0, Nat.zero_le _, rfl, rfl, hb.alloc hb.size _⟩
      case round =>
        obtain ⟨k, hk, rfl, rfl, hbq⟩ := hrel
        by_cases hlk : k < 8
        · have p0q := (hbq.cell (p := ⟨w.heap.size, 0, none⟩) hs2).trans p0
          have p1q := (hbq.cell (p := ⟨w.heap.size, 1, none⟩) hs2).trans p1
          have hbqw : Below w.heap.size w wr := HB2.out.trans (hbq.mono (by omega))
          have crq := (hbqw.cell (p := ⟨b2, o2 + j, none⟩) hlt2).trans HCR.out
          have cx := (hbqw.cell (p := ⟨b3, o3 + k, none⟩) hlt3).trans (HR.out k hlk)
          have hx := HSM.out k (by rw [HS8.out]; exact hlk)
          have HPS : Hid (bs ++ stPart ⟨o, row⟩ k ++ [byt (row.getD k 0)] = bs ++ stPart ⟨o, row⟩ (k + 1)) := hid (by
            rw [stPart_succ (by rw [HS8.out]; exact hlk), List.append_assoc])
          have hpl : (stPart ⟨o, row⟩ k).length = 1 + k := stPart_len (by rw [HS8.out]; omega)
          generalize stPart ⟨o, row⟩ k = sp at *
          generalize row.getD k 0 = x at *
          have wrx : IntKind.u8.wrap x = x := wrap_u8 hx.1 (by omega)
          have CVx := fun (W : World) => conv_one W x hx.1 (by omega)
          have ADx := add_one (bs ++ sp) (byt x) (by rw [List.length_append]; omega)
          clear CVo AD CV0
          go_wp2_with fail
          go_roundw
          case rel => exact ⟨k + 1, by omega, by go_num, by rw [← HPS.out, List.append_assoc], hbq.alloc hbq.size _⟩
          case measure => simp [intOf]; omega
        · obtain rfl : k = 8 := by omega
          have HP8 : Hid (bs ++ stPart ⟨o, row⟩ 8 = bytesTo (zipSt os ls) (j + 1)) := hid (by
            rw [show stPart ⟨o, row⟩ 8 = stBytes ⟨o, row⟩ by rw [← HS8.out]; exact stPart_all]; exact HSU.out.symm)
          go_wp2_with fail
          go_roundw
          case rel => exact ⟨j + 1, by omega, by go_num, by rw [HP8.out], hbq⟩
          case measure => simp [intOf]; omega
    · obtain rfl : j = l2 := by omega
      have HA : Hid (bytesTo (zipSt os ls) j = bytesOf (zipSt os ls)) := hid (by rw [← bytesTo_all, hz, L1])
      go_wp2_with fail
      go_ret2
      exact ⟨by rw [HE.out.1, HE.out.2, HA.out]; rfl, hbw⟩

theorem rwrite_any (h1 : Ints w a1 l1 c1 os) (h2 : Lists w a2 l2 c2 ls) :
    Calls Try.prog 34 #[.agg #[.slice a1 l1 c1, .slice a2 l2 c2]] w fun e w' => e = .returned (.tuple #[.string (writeStr os ls), .int .i64 (writeErr os ls)]) ∧ Below w.heap.size w w' := by
  cases hf : formedB os ls with
  | false => exact rwrite_no a1 a2 l1 c1 l2 c2 os ls w h1 h2 hf
  | true => exact rwrite_yes a1 a2 l1 c1 l2 c2 os ls w h1 h2 hf
end

end Go.Proofs.Ytjagijohfkffiaa
