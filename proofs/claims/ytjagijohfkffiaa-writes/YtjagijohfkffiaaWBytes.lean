/- The walks of machine.Bytes and Write. -/
import Derived.Test.YtjagijohfkffiaaTake
import Derived.Laws.IdiomStrings
import Derived.Laws.BitsLemmas
namespace Go.Proofs.Ytjagijohfkffiaa
open Go.RowKit
set_option linter.unusedVariables false

theorem Try.infoByte : (Try.prog.info? 5).map (fun i => (i.zero, i.size, i.bytes)) = some (some (.int .u8 0), 1, 1) := by kernel_rfl

def bcells (l : List UInt8) : List Value := l.map fun b => Value.int .u8 (b.toNat : Int)
theorem bcells_snoc (l : List UInt8) (b : UInt8) : bcells (l ++ [b]) = bcells l ++ [.int .u8 (b.toNat : Int)] := by simp [bcells]
theorem bcells_len (l : List UInt8) : (bcells l).length = l.length := by simp [bcells]

/-- A row of one that was just built. -/
theorem own_built (w : World) (base : Nat) (e : TypeId) (v : Value) (hb : base ≤ w.heap.size) : (w.alloc (.cells #[v] e)).ownsRow base e 1 (.slice (some ⟨w.heap.size, 0, none⟩) 1 1) 1 [v] :=
  ⟨rfl, Or.inr ⟨w.heap.size, 1, #[v], rfl, hb, heap_alloc_last w _, Nat.le_refl _, by unfold maxLen; omega, rfl, rfl⟩⟩

theorem cell_one_new (w : World) (a : Value) (t : TypeId) : ∀ j u, [a][j]? = some u → (w.alloc (.cells #[a] t)).cell? ((⟨w.heap.size, 0, none⟩ : Addr).add j) = some u := cell_nine_new w [a] t

theorem wrap_u8 {x : Int} (h0 : 0 ≤ x) (h1 : x < 256) : IntKind.u8.wrap x = x := by
  rw [IntKind.wrap_u8]; omega

def bytesTo (ss : List St) (j : Nat) : List UInt8 := byt (ss.length : Int) :: (ss.take j).flatMap stBytes
theorem stBytes_len {s : St} (h : s.next.length = 8) : (stBytes s).length = 9 := by simp [stBytes, h]
theorem bytesTo_len {ss : List St} (h : Eight ss) {j : Nat} (hj : j ≤ ss.length) : (bytesTo ss j).length = 1 + j * 9 := by
  unfold bytesTo
  rw [List.length_cons]
  have : ∀ (l : List St), Eight l → (l.flatMap stBytes).length = l.length * 9 := by
    intro l hl
    induction l with
    | nil => rfl
    | cons s l ih =>
      rw [List.flatMap_cons, List.length_append, ih (fun x hx => hl x (by simp [hx])), stBytes_len (hl s (by simp)), List.length_cons]
      omega
  rw [this _ (fun s hs => h s (List.mem_of_mem_take hs)), List.length_take]
  omega
theorem bytesTo_succ {ss : List St} {j : Nat} (hj : j < ss.length) : bytesTo ss (j + 1) = bytesTo ss j ++ stBytes (stAt ss j) := by
  unfold bytesTo
  rw [List.take_succ_eq_append_getElem hj, List.flatMap_append]
  simp [stAt, List.getD, List.getElem?_eq_getElem hj]
theorem bytesTo_all (ss : List St) : bytesTo ss ss.length = bytesOf ss := by unfold bytesTo bytesOf; rw [List.take_length]

/-- The bytes of a state up to letter k. -/
def stPart (s : St) (k : Nat) : List UInt8 := byt s.out :: (s.next.take k).map byt
theorem stPart_succ {s : St} {k : Nat} (hk : k < s.next.length) : stPart s (k + 1) = stPart s k ++ [byt (s.next.getD k 0)] := by
  unfold stPart
  rw [List.take_succ_eq_append_getElem hk, List.map_append, ← List.cons_append]
  simp [List.getD, List.getElem?_eq_getElem hk]
theorem stPart_all {s : St} : stPart s s.next.length = stBytes s := by unfold stPart stBytes; rw [List.take_length]
theorem stPart_len {s : St} {k : Nat} (hk : k ≤ s.next.length) : (stPart s k).length = 1 + k := by simp [stPart]; omega

theorem stB_small {n i : Nat} {s : St} (h : stB n i s = true) : 0 ≤ s.out ∧ s.out ≤ 2 ∧ ∀ k, k < s.next.length → 0 ≤ s.next.getD k 0 ∧ s.next.getD k 0 < n := by
  unfold stB finB at h
  simp only [Bool.and_eq_true, Bool.or_eq_true, decide_eq_true_eq, List.all_eq_true] at h
  refine ⟨by omega, by omega, fun k hk => ?_⟩
  have := goes_iff.1 (h.2 s.next[k] (List.getElem_mem hk))
  simp [List.getD, List.getElem?_eq_getElem hk]
  exact ⟨this.1, this.2.1⟩

set_option maxHeartbeats 4000000 in
set_option maxRecDepth 100000 in
theorem bytes_any (g n cap B : Nat) (ss : List St) (w : World) (hr : w.ownsRow B 150 9 (.slice (some ⟨g, 0, none⟩) n cap) n (flatS ss)) (h8 : Eight ss) (hl : ss.length = n) (hw : wfB ss = true) (hg : g < w.heap.size) (hcap : n ≤ cap) :
    Calls Try.prog 70 #[.slice (some ⟨g, 0, none⟩) n cap] w fun e w' => e = .returned (.string ⟨(bytesOf ss).toArray⟩) ∧ Below w.heap.size w w' := by
  obtain ⟨hn1, hn8, hall⟩ := wfB_iff.1 hw
  rw [hl] at hn1 hn8 hall
  have HR := hid hr
  clear hr
  obtain ⟨i0, hi, hz0, hz1, hz2⟩ := info_parts Try.infoByte
  have wr0 : IntKind.u8.wrap (n : Int) = n := wrap_u8 (by omega) (by omega)
  have HN0 : Hid ([Value.int .u8 (n : Int)] = bcells (bytesTo ss 0)) := hid (by
    simp [bytesTo, bcells]
    rw [hl, byt_toNat (by omega) (by omega)])
  go_enter Try.func70, Try.ntmps70
  go_wp2_with fail
  go_loopw [14, 3] (fun i s wr => ∃ (j : Nat), j ≤ n ∧ i = .int .i64 j ∧ Below w.heap.size w wr ∧ Hid (wr.ownsRow w.heap.size 5 1 s (1 + j * 9) (bcells (bytesTo ss j)))) (fun i _ _ => n - (intOf i).toNat)
  case atStart => exact ⟨0, Nat.zero_le _, rfl, (Below.refl _ _).alloc (Nat.le_refl _) _, hid (by rw [← HN0.out]; exact own_built w w.heap.size 5 _ (Nat.le_refl _))⟩
  case round =>
    obtain ⟨j, hj, rfl, hb, HO⟩ := hrel
    by_cases hlt : j < n
    · have S := own_state HR.out h8 hl hlt
      have hs8 := eight_at h8 (i := j) (by omega)
      obtain ⟨a0, a1, a2, a3, a4, a5, a6, a7, ea, HX⟩ := st_lit (stAt ss j).out hs8
      rw [show (⟨(stAt ss j).out, (stAt ss j).next⟩ : St) = stAt ss j from rfl] at ea
      have ec : stCells (stAt ss j) = [.int .i64 (stAt ss j).out, .int .i64 a0, .int .i64 a1, .int .i64 a2, .int .i64 a3, .int .i64 a4, .int .i64 a5, .int .i64 a6, .int .i64 a7] := by
        have := congrArg Array.toList ea
        simpa [stArr] using this
      rw [ec] at S
      have hsm := stB_small (hall j hlt)
      have HLB := hid (bytesTo_len h8 (j := j) (by omega))
      have HSU := hid (bytesTo_succ (ss := ss) (j := j) (by omega))
      have HP0 : Hid (bcells (bytesTo ss j) ++ [.int .u8 (stAt ss j).out] = bcells (bytesTo ss j ++ stPart (stAt ss j) 0)) := hid (by
        rw [show stPart (stAt ss j) 0 = [byt (stAt ss j).out] by simp [stPart], bcells_snoc, byt_toNat hsm.1 (by omega)])
      have HS8 := hid hs8
      have HSM := hid hsm.2.2
      have s1 := hsm.1
      have s2 := hsm.2.1
      generalize hst : stAt ss j = st at *
      generalize st.out = o at *
      have c0 := (hb.cell (p := ⟨g, j * 9, none⟩) hg).trans (S 0 (by decide))
      have c1 := (hb.cell (p := ⟨g, j * 9 + 1, none⟩) hg).trans (S 1 (by decide))
      have c2 := (hb.cell (p := ⟨g, j * 9 + 2, none⟩) hg).trans (S 2 (by decide))
      have c3 := (hb.cell (p := ⟨g, j * 9 + 3, none⟩) hg).trans (S 3 (by decide))
      have c4 := (hb.cell (p := ⟨g, j * 9 + 4, none⟩) hg).trans (S 4 (by decide))
      have c5 := (hb.cell (p := ⟨g, j * 9 + 5, none⟩) hg).trans (S 5 (by decide))
      have c6 := (hb.cell (p := ⟨g, j * 9 + 6, none⟩) hg).trans (S 6 (by decide))
      have c7 := (hb.cell (p := ⟨g, j * 9 + 7, none⟩) hg).trans (S 7 (by decide))
      have c8 := (hb.cell (p := ⟨g, j * 9 + 8, none⟩) hg).trans (S 8 (by decide))
      simp only [List.getElem?_cons_succ, List.getElem?_cons_zero] at c0 c1 c2 c3 c4 c5 c6 c7 c8
      clear S ea ec hs8 hsm hst
      have wro : IntKind.u8.wrap o = o := wrap_u8 s1 (by omega)
      have own := HO.out
      have hsz := hb.size
      go_wp2_with (at_builtin; go_must (refine wpList_append_own _ rfl (.tmp 18) (.tmp 22) 107 rfl w.heap.size 5 i0 (.int .u8 0) 1 1 Try.underlying107 hi hz0 hz1 hz2 rfl (by decide) _ _ _ rfl ((own.alloc _).alloc _) ⟨wr.heap.size + 1, 0, none⟩ 1 1 [.int .u8 o] rfl rfl ?c1 ?c2 ?c3 ?c4 ?c5 ?_))
      case c1 => have := cell_one_new (wr.alloc (.cells #[.int .i64 o, .int .i64 a0, .int .i64 a1, .int .i64 a2, .int .i64 a3, .int .i64 a4, .int .i64 a5, .int .i64 a6, .int .i64 a7] 150)) (.int .u8 o) 5; simpa using this
      case c2 => intro u hu; simp at hu; subst hu; rfl
      case c3 => unfold maxLen; omega
      case c4 => omega
      case c5 => simp; omega
      intro v1 w1 hown hgrow _
      have nb : ∀ i v, ((wr.alloc (.cells #[.int .i64 o, .int .i64 a0, .int .i64 a1, .int .i64 a2, .int .i64 a3, .int .i64 a4, .int .i64 a5, .int .i64 a6, .int .i64 a7] 150)).alloc (.cells #[.int .u8 o] 5)).cell? ⟨wr.heap.size, i, none⟩ = some v → w1.cell? ⟨wr.heap.size, i, none⟩ = some v := fun i v h => hgrow.cell h (fun e => by
        have := (own.lt _ e.symm).2
        exact absurd this (Nat.lt_irrefl _))
      have k1 := nb 1 (.int .i64 a0) (by simp)
      have k2 := nb 2 (.int .i64 a1) (by simp)
      have k3 := nb 3 (.int .i64 a2) (by simp)
      have k4 := nb 4 (.int .i64 a3) (by simp)
      have k5 := nb 5 (.int .i64 a4) (by simp)
      have k6 := nb 6 (.int .i64 a5) (by simp)
      have k7 := nb 7 (.int .i64 a6) (by simp)
      have k8 := nb 8 (.int .i64 a7) (by simp)
      have hbel : Below w.heap.size wr w1 := (((Below.refl _ _).alloc hsz _).alloc (by simp; omega) _).grown hgrow (by simp; omega) (fun k h => (own.lt k h).1)
      rw [HP0.out] at hown
      have O1 := hid hown
      have B1 := hid (hb.trans hbel)
      clear hown hgrow hbel own nb c0 c1 c2 c3 c4 c5 c6 c7 c8 HO
      go_wp2_with fail
      generalize (#[Value.int .i64 a0, .int .i64 a1, .int .i64 a2, .int .i64 a3, .int .i64 a4, .int .i64 a5, .int .i64 a6, .int .i64 a7] : Array Value) = X at *
      go_loopw [26, 3] (fun i s wr => ∃ (k : Nat), k ≤ 8 ∧ i = .int .i64 k ∧ Below w.heap.size w wr ∧ Hid (wr.ownsRow w.heap.size 5 1 s (1 + j * 9 + 1 + k) (bcells (bytesTo ss j ++ stPart st k)))) (fun i _ _ => 8 - (intOf i).toNat)
      case atStart => exact ⟨0, Nat.zero_le _, rfl, B1.out, O1⟩
      case round =>
        obtain ⟨k, hk, rfl, hbq, HO⟩ := hrel
        by_cases hlk : k < 8
        · have IX := fun W => run_index_one (P := Try.prog) W Try.underlying148 (run_isAgg_int Try.underlying3) (by kernel_rfl) hlk (HX.out k hlk)
          have hx := HSM.out k (by rw [HS8.out]; exact hlk)
          have HPS : Hid (bcells (bytesTo ss j ++ stPart st k) ++ [.int .u8 (st.next.getD k 0)] = bcells (bytesTo ss j ++ stPart st (k + 1))) := hid (by
            rw [stPart_succ (by rw [HS8.out]; exact hlk), ← List.append_assoc, bcells_snoc, byt_toNat hx.1 (by omega)])
          generalize st.next.getD k 0 = x at *
          have wrx : IntKind.u8.wrap x = x := wrap_u8 hx.1 (by omega)
          have own := HO.out
          have hsz := hbq.size
          go_wp2_with (at_builtin; go_must (refine wpList_append_own _ rfl (.tmp 29) (.tmp 32) 107 rfl w.heap.size 5 i0 (.int .u8 0) 1 1 Try.underlying107 hi hz0 hz1 hz2 rfl (by decide) _ _ _ rfl (own.alloc _) ⟨wr.heap.size, 0, none⟩ 1 1 [.int .u8 x] rfl rfl ?c1 ?c2 ?c3 ?c4 ?c5 ?_))
          case c1 => exact cell_one_new _ _ _
          case c2 => intro u hu; simp at hu; subst hu; rfl
          case c3 => unfold maxLen; omega
          case c4 => omega
          case c5 => simp; omega
          intro v2 w2 hown hgrow _
          have hbel : Below w.heap.size wr w2 := ((Below.refl _ _).alloc hsz _).grown hgrow (by simp; omega) (fun k h => (own.lt k h).1)
          rw [HPS.out] at hown
          have O2 := hid hown
          have B2 := hid (hbq.trans hbel)
          clear hown hgrow hbel own HO IX
          go_wp2_with fail
          go_roundw
          case rel => exact ⟨k + 1, by omega, by go_num, B2.out, O2⟩
          case measure => simp [intOf]; omega
        · obtain rfl : k = 8 := by omega
          have O3 := HO.out
          rw [show stPart st 8 = stBytes st by rw [← HS8.out]; exact stPart_all, ← HSU.out, show 1 + j * 9 + 1 + 8 = 1 + (j + 1) * 9 by omega] at O3
          have O4 := hid O3
          clear O3 HO
          go_wp2_with fail
          go_roundw
          case rel => exact ⟨j + 1, by omega, by go_num, hbq, O4⟩
          case measure => simp [intOf]; omega
    · obtain rfl : j = n := by omega
      have own := HO.out
      have HL := bytesTo_len h8 (j := j) (by omega)
      rw [show bytesTo ss j = bytesOf ss by rw [← hl]; exact bytesTo_all ss] at own HL
      obtain ⟨gb, bcap, hv, _⟩ : ∃ gb bcap, u3 = .slice (some ⟨gb, 0, none⟩) (1 + j * 9) bcap ∧ True := by
        rcases own.2 with ⟨h, h0⟩ | ⟨g, cap', _, h, _⟩
        · omega
        · exact ⟨g, cap', h, trivial⟩
      subst hv
      have CV := run_convert_bytes_back (P := Try.prog) wr 107 9 5 ⟨gb, 0, none⟩ bcap (bytesOf ss) Try.underlying107 Try.underlying5 Try.underlying9 (fun k hk => by
        rw [add_off, Nat.zero_add, own.cellAt k (by omega)]
        simp [bcells, List.getElem?_eq_getElem hk])
      rw [HL] at CV
      clear own HO HL
      go_wp2_with fail
      go_ret
      exact ⟨rfl, hb⟩

section
variable (a1 a2 : Option Addr) (l1 c1 l2 c2 : Nat) (os : List Int) (ls : List (List Int)) (w : World)

set_option maxHeartbeats 1000000 in
set_option maxRecDepth 100000 in
theorem write_any (h1 : Ints w a1 l1 c1 os) (h2 : Lists w a2 l2 c2 ls) :
    Calls Try.prog 33 #[.agg #[.slice a1 l1 c1, .slice a2 l2 c2]] w fun e w' => e = .returned (.tuple #[.string (writeStr os ls), .int .i64 (writeErr os ls)]) ∧ Below w.heap.size w w' := by
  have T := fun W (b : Below w.heap.size w W) => mtake_any a1 a2 l1 c1 l2 c2 os ls W (h1.below b) (h2.below b)
  cases ef : formedB os ls with
  | false =>
    have HE : Hid (writeStr os ls = ⟨#[]⟩ ∧ writeErr os ls = 8) := hid ⟨by simp [writeStr, ef], by simp [writeErr, ef]⟩
    have HF := hid ef
    clear ef
    go_enter Try.func33, Try.ntmps33
    go_wp2_with fail
    refine (T _ ((Below.refl _ _).alloc (Nat.le_refl _) _)).mono ?_
    rintro e w2 ⟨hb2, ⟨_, rfl⟩ | ⟨hx, _⟩⟩
    · have B2 := hid (((Below.refl w.heap.size w).alloc (Nat.le_refl _) _).trans (hb2.mono (by simp)))
      clear hb2 T
      go_wp2_with fail
      go_ret2
      exact ⟨by rw [HE.out.1, HE.out.2]; rfl, B2.out⟩
    · rw [HF.out] at hx; cases hx
  | true =>
    have HE : Hid (writeStr os ls = ⟨(bytesOf (zipSt os ls)).toArray⟩ ∧ writeErr os ls = 0) := hid ⟨by simp [writeStr, ef], by simp [writeErr, ef]⟩
    have HF := hid ef
    have hl := formed_len ef
    have h8 := (formed_mk hl.1 hl.2.1).2
    clear ef
    go_enter Try.func33, Try.ntmps33
    go_wp2_with fail
    refine (T _ ((Below.refl _ _).alloc (Nat.le_refl _) _)).mono ?_
    rintro e w2 ⟨hb2, ⟨hx, _⟩ | ⟨_, g, cap, rfl, own⟩⟩
    · rw [HF.out] at hx; cases hx
    · have hpos := (wfB_iff.1 hl.2.2).1
      rw [zip_len hl.1] at hpos
      obtain ⟨g', eg, hg0, hg1, hg2⟩ := own_at' own (by omega)
      cases eg
      have F := bytes_any g os.length cap _ (zipSt os ls) w2 own h8 (zip_len hl.1) hl.2.2 hg1 hg2
      have B2 := hid (((Below.refl w.heap.size w).alloc (Nat.le_refl _) _).trans (hb2.mono (by simp)))
      clear hb2 T own hl h8
      go_wp2_with fail
      refine F.mono ?_
      rintro e w3 ⟨rfl, hb3⟩
      have B3 := hid (B2.out.trans (hb3.mono B2.out.size))
      clear hb3 F
      go_wp2_with fail
      go_ret2
      exact ⟨by rw [HE.out.1, HE.out.2]; rfl, B3.out⟩
end

end Go.Proofs.Ytjagijohfkffiaa
