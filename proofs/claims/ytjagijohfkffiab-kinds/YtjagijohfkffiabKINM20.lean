import Derived.Test.YtjagijohfkffiabKINM01
import Derived.Test.YtjagijohfkffiabKINM02
import Derived.Test.YtjagijohfkffiabKINM06
import Derived.Test.YtjagijohfkffiabKINM15
import Derived.Test.YtjagijohfkffiabKINM16
import Derived.Test.YtjagijohfkffiabKINM19
import Derived.Deep.QuietTactic
import Derived.BigQuiet
import Derived.Deep.AppendLies

/- The walk of States. -/
namespace Go.Proofs.Ytjagijohfkffiab
open Go.RowKit
set_option linter.unusedVariables false

theorem eight_nats {l : List Nat} (h : l.length = 8) : ∃ a0 a1 a2 a3 a4 a5 a6 a7, l = [a0, a1, a2, a3, a4, a5, a6, a7] := by
  match l, h with
  | [a0, a1, a2, a3, a4, a5, a6, a7], _ => exact ⟨_, _, _, _, _, _, _, _, rfl⟩
theorem cells_new (w : World) (cs : List Value) (t : TypeId) : ∀ j u, cs[j]? = some u → (w.alloc (.cells cs.toArray t)).cell? ((⟨w.heap.size, 0, none⟩ : Addr).add j) = some u := fun j u hj => by
  rw [Addr.add_mid, cell_of_row (w.alloc (.cells cs.toArray t)) w.heap.size (0 + j) cs.toArray t (0, 0) (heap_alloc_last w _)]
  simpa using hj

def StatesMade (ns : List Nd) (liv beg : Nat → Bool) (w : World) (e : Ending) (w' : World) : Prop :=
  ∃ us xs SS v, e = .returned v ∧ Expl ns liv beg us xs ∧ xs.length = 8 * us.length ∧ SS.length = us.length ∧ StOk ns liv beg us xs SS ∧ w'.ownsRow w.heap.size 137 9 v us.length (flatS SS) ∧ Below w.heap.size w w'

set_option maxHeartbeats 8000000 in
set_option maxRecDepth 100000 in
theorem states_any (P : Nat) (ns : List Nd) (liv beg : Nat → Bool) (w : World) (h8 : ns.length ≤ 8) (hfew : ∀ us xs, Expl ns liv beg us xs → us.length ≤ 796594185) (ho : OutM w P ns liv beg) :
    Calls Try.prog 39 #[.pointer (some ⟨P, 0, none⟩)] w (StatesMade ns liv beg w) := by
  have hP := ho.lt
  have HO := hid ho
  have HFEW := hid hfew
  obtain ⟨i0, hi, hz0, hz1, hz2⟩ := info_parts Try.infoSt9
  clear ho hfew
  unfold StatesMade
  go_enter Try.func39, Try.ntmps39
  go_wp2_with fail
  refine (begin_any P beg _ HO.out.beg).mono ?_
  rintro e w1 ⟨rfl, hb1⟩
  have hs1 := hb1.size
  go_wp2_with (refine wpList_store_grp rfl (.tmp 3) (.tmp 12) rfl w1.heap.size 0 beg rfl rfl (zero_new w1).there ?_)
  intro w2 S2
  have G3 := hid S2.at_
  have HB2 : Hid (Below w.heap.size w w2) := hid (S2.bel _ _ hs1 (hb1.alloc hs1 _))
  have hs2 : w.heap.size < w2.heap.size := by rw [S2.size, size_alloc]; omega
  clear S2 hb1
  have EX0 : Hid (ExM ((w2.alloc (.cells (gv beg).toArray 69)).alloc (.cells #[.slice (some ⟨w2.heap.size, 0, none⟩) 1 1] 134)) w2.heap.size (w2.heap.size + 1) (.slice (some ⟨w2.heap.size, 0, none⟩) 1 1) ([[]].map (runG ns liv beg))) := hid ⟨by simp, by simp, by
      have := (own_new (w := w2) (cs := (gv beg).toArray) (t := 69) (n := 1) (size := 256) (by simp [gv_len]) (by unfold maxLen; omega)).alloc (.cells #[.slice (some ⟨w2.heap.size, 0, none⟩) 1 1] 134)
      simpa [flatC, runG] using this, by simp [Value.ownBlock]⟩
  have HB4 := hid ((HB2.out.alloc (by omega) (.cells (gv beg).toArray 69)).alloc (by simp; omega) (.cells #[.slice (some ⟨w2.heap.size, 0, none⟩) 1 1] 134))
  go_wp2_with (first | (refine wpList_load_grp rfl (.tmp 3) rfl w1.heap.size 0 beg rfl G3.out ?_) | (refine wpList_build_grp rfl (.tmp 13) rfl beg rfl ?_))
  generalize hBE : w2.heap.size = B at *
  go_loopw [5, 6] (fun vs i wq => ∃ (k : Nat) (us : List (List Nat)) (xs : List Nat) (v : Value) (SS : List St), i = .int .i64 k ∧ k ≤ us.length ∧ xs.length = 8 * k ∧ SS.length = k ∧ Hid (Expl ns liv beg us xs) ∧ Hid (StOk ns liv beg us xs SS) ∧ Hid (ExM wq B (B + 1) v (us.map (runG ns liv beg))) ∧ Hid (wq.ownsRow w.heap.size 137 9 vs k (flatS SS)) ∧ Hid (vs.ownBlock ≠ some (B + 1)) ∧ Hid (Below w.heap.size w wq) ∧ B + 1 < wq.heap.size) (fun _ i _ => 796594190 - (intOf i).toNat)
  case atStart => exact ⟨0, [[]], [], _, [], rfl, by simp, rfl, rfl, hid expl_start, hid (fun i s h => by simp at h), EX0, hid (World.ownsRow_nil _ _ _ _), hid (by simp [Value.ownBlock]), HB4, by simp; omega⟩
  case round =>
    obtain ⟨k, us, xs, v, SS, rfl, hk, hxl, hSl, HE, HS, HX, HOS, HNV, HB, hsz⟩ := hrel
    rename World => W0
    have hfw := HFEW.out us xs HE.out
    have cT := HX.out.c
    obtain ⟨ao, cp, rfl⟩ := own_slice HX.out.own
    rw [List.length_map] at *
    by_cases hlk : k < us.length
    · obtain ⟨u0, hu0⟩ : ∃ u0, us[k]? = some u0 := ⟨us[k], List.getElem?_eq_getElem hlk⟩
      obtain ⟨ao2, cap2, e2, hgc⟩ := calmV_own HX.out.own
      simp only [Value.slice.injEq, List.length_map] at e2
      obtain ⟨rfl, _, rfl⟩ := e2
      obtain ⟨gc, e3, hgcl, hgrp⟩ := hgc (by rw [List.length_map]; omega)
      subst e3
      have GK := hid (hgrp k (runG ns liv beg u0) (by rw [List.getElem?_map, hu0]; rfl))
      have HU0 := hid hu0
      clear hgrp hgc hu0
      have HVB := hid (fun q (h : (Value.slice (some ⟨gc, 0, none⟩) us.length cp).ownBlock = some q) => (HX.out.own.lt q h).2)
      have HSB := hid (fun q h => (HOS.out.lt q h).2)
      go_wp2_with (first | (refine wpList_load_grp rfl (.tmp 26) rfl gc (k * 256) _ rfl GK.out ?_) | (refine wpList_store_grp rfl (.tmp 7) (.tmp 27) rfl W0.heap.size 0 (runG ns liv beg u0) rfl rfl (zero_new W0).there ?_))
      intro w2' S2
      have bw2 : Below W0.heap.size W0 w2' := S2.bel _ _ (Nat.le_refl _) ((Below.refl _ _).alloc (Nat.le_refl _) _)
      have A7 := hid S2.at_
      have HX2 := hid (HX.out.below bw2)
      have HOS2 := hid (own_keeps HOS.out bw2)
      have HB2' := hid (HB.out.trans (bw2.mono (by omega)))
      have hsz2 : w2'.heap.size = W0.heap.size + 1 := by rw [S2.size, size_alloc]
      clear S2 bw2 GK HX HOS HB
      go_wp2_with (refine wpList_load_grp rfl (.tmp 7) rfl W0.heap.size 0 _ rfl A7.out ?_)
      refine (verdict_any P ns liv beg _ w2' (HO.out.below HB2'.out hP)).mono ?_
      rintro e w3 ⟨rfl, hb3⟩
      have A7 := hid (A7.out.below hb3 (by omega))
      have HX3 := hid (HX2.out.below hb3)
      have HOS3 := hid (own_keeps HOS2.out hb3)
      have HB3 := hid (HB2'.out.trans (hb3.mono (by omega)))
      have hs3 := hb3.size
      clear hb3 HX2 HOS2 HB2'
      generalize hout : verdG liv (runG ns liv beg u0) = out at *
      have HOUT := hid hout
      clear hout
      have ba := (Below.refl w3.heap.size w3).alloc (Nat.le_refl _) (.cells #[.int .i64 (out : Nat), .int .i64 0, .int .i64 0, .int .i64 0, .int .i64 0, .int .i64 0, .int .i64 0, .int .i64 0, .int .i64 0] 137)
      have N4 := hid (nine_new w3 out 137)
      have A74 := hid (A7.out.below ba (by omega))
      have HX4 := hid (HX3.out.below ba)
      have HOS4 := hid (own_keeps HOS3.out ba)
      have HB4' := hid (HB3.out.trans (ba.mono (by omega)))
      clear ba A7 HX3 HOS3 HB3
      go_wp2_with fail
      go_loopw [9] (fun i wq => ∃ (l : Nat) (us : List (List Nat)) (xs : List Nat) (v : Value), i = .int .i64 l ∧ l ≤ 8 ∧ xs.length = 8 * k + l ∧ Hid (us[k]? = some u0) ∧ Hid (Expl ns liv beg us xs) ∧ Hid (StOk ns liv beg us xs SS) ∧ Hid (ExM wq B (B + 1) v (us.map (runG ns liv beg))) ∧ Hid (v.ownBlock ≠ some W0.heap.size) ∧ Hid (v.ownBlock ≠ some w3.heap.size) ∧ Hid (GrpAt wq W0.heap.size 0 (runG ns liv beg u0)) ∧ Hid (NineM wq w3.heap.size out (xs.drop (8 * k))) ∧ Hid (wq.ownsRow w.heap.size 137 9 u5 k (flatS SS)) ∧ Hid (Below w.heap.size w wq) ∧ w3.heap.size < wq.heap.size) (fun i _ => 8 - (intOf i).toNat)
      case atStart => exact ⟨0, us, xs, _, rfl, by omega, by omega, HU0, HE, HS, HX4, hid (fun e => by have := HVB.out _ e; omega), hid (fun e => by have := HVB.out _ e; omega), A74, by rw [List.drop_of_length_le (by omega)]; exact N4, HOS4, HB4', by simp⟩
      case round =>
        obtain ⟨l, us, xs, v, rfl, hl8, hxl, HU0, HE, HS, HX, HV7, HV8, H7, HN, HOS, HB, hsW⟩ := hrel
        rename World => W3
        by_cases hll : l < 8
        · have ST := fun W (h : OutM W P ns liv beg) => step_any P l ns liv beg (runG ns liv beg u0) W hll h8 h
          go_wp2_with (refine wpList_load_grp rfl (.tmp 7) rfl W0.heap.size 0 _ rfl H7.out ?_)
          refine (ST _ (HO.out.below HB.out hP)).mono ?_
          rintro e w5 ⟨rfl, hb5⟩
          have hs5 := hb5.size
          clear ST
          go_wp2_with (refine wpList_store_grp rfl (.tmp 10) (.tmp 39) rfl w5.heap.size 0 (stepG ns liv (runG ns liv beg u0) l) rfl rfl (zero_new w5).there ?_)
          intro w6 S6
          have bw6 : Below W3.heap.size W3 w6 := S6.bel _ _ hs5 (hb5.alloc hs5 _)
          have A10 := hid S6.at_
          have hs6 : w6.heap.size = w5.heap.size + 1 := by rw [S6.size, size_alloc]
          have HX6 := hid (HX.out.below bw6)
          have H76 := hid (H7.out.below bw6 (by omega))
          have HN6 := hid (HN.out.below bw6)
          have HOS6 := hid (own_keeps HOS.out bw6)
          have HB6 := hid (HB.out.trans (bw6.mono (by omega)))
          have hvlt := hid (fun q (h : v.ownBlock = some q) => (HX.out.own.lt q h))
          clear S6 bw6 hb5 HX H7 HN HOS HB
          have hfw := HFEW.out us xs HE.out
          go_wp2_with (refine wpList_load_grp rfl (.tmp 10) rfl w5.heap.size 0 _ rfl A10.out ?_)
          refine (number_any B (B + 1) v (us.map (runG ns liv beg)) (stepG ns liv (runG ns liv beg u0) l) w6 HX6.out (by omega) (by rw [List.length_map]; omega)).mono ?_
          rintro e w7 ⟨j, v7, gs7, rfl, hEX, hNF, hcase⟩
          have hpk : xs.length / 8 = k ∧ xs.length % 8 = l := by omega
          obtain ⟨us7, rfl, hE7, hU7, hS7, hv7⟩ : ∃ us7, gs7 = us7.map (runG ns liv beg) ∧ Expl ns liv beg us7 (xs ++ [j]) ∧ us7[k]? = some u0 ∧ StOk ns liv beg us7 (xs ++ [j]) SS ∧ (v7.ownBlock = v.ownBlock ∨ ∃ q, v7.ownBlock = some q ∧ w6.heap.size ≤ q) := by
            rcases hcase with ⟨rfl, rfl, g0, h1, h2⟩ | ⟨rfl, rfl, h1, h2⟩
            · rw [List.getElem?_map, Option.map_eq_some_iff] at h1
              obtain ⟨u1, h3, rfl⟩ := h1
              have h4 := stOk_more (vs := []) (ys := [j]) HS.out
              rw [List.append_nil] at h4
              exact ⟨us, rfl, expl_old HE.out (by rw [hpk.1]; exact HU0.out) h3 (by rw [hpk.2]; exact h2), HU0.out, h4, Or.inl rfl⟩
            · refine ⟨us ++ [u0 ++ [l]], by rw [List.map_append, List.map_singleton, runG_snoc], ?_, ?_, stOk_more HS.out, h1⟩
              · have := expl_new HE.out (u0 := u0) (by rw [hpk.1]; exact HU0.out) (fun u hu => by rw [hpk.2]; exact h2 _ (List.mem_map.2 ⟨u, hu, rfl⟩))
                rw [hpk.2] at this
                rw [List.length_map]
                exact this
              · rw [List.getElem?_append_left (List.getElem?_eq_some_iff.1 HU0.out).1]; exact HU0.out
          have hrow : ∀ q, v.ownBlock = some q → B ≤ q := fun q h => (hvlt.out q h).1
          have H77 := hid (H76.out.num hNF (by omega) HV7.out)
          have HN7 := hid (HN6.out.num hNF (by omega) HV8.out)
          have hos8 : u5.ownBlock ≠ some w3.heap.size := fun e => by have := HSB.out _ e; omega
          have HOS7 := hid (own_num HOS6.out hNF HNV.out (own_ne' HOS6.out HX6.out.own (by decide)))
          have HB7 := hid (below_num HB6.out hNF (by omega) (by omega) (fun q h => by have := hrow q h; omega))
          have hs7 := hNF.size
          have hv77 : v7.ownBlock ≠ some W0.heap.size := by
            rcases hv7 with h | ⟨q, h, hq⟩
            · rw [h]; exact HV7.out
            · rw [h]; intro e; cases e; omega
          have hv78 : v7.ownBlock ≠ some w3.heap.size := by
            rcases hv7 with h | ⟨q, h, hq⟩
            · rw [h]; exact HV8.out
            · rw [h]; intro e; cases e; omega
          have hdl : (xs.drop (8 * k)).length = l := by rw [List.length_drop]; omega
          have n1 := HN7.out.c l hll
          have n2 := HN7.out.f (1 + l) (by omega)
          have D8 := hid (HN7.out.set (j := j) (by rw [hdl]; exact hll))
          rw [hdl, show xs.drop (8 * k) ++ [j] = (xs ++ [j]).drop (8 * k) by rw [List.drop_append_of_le_length (by omega)]] at D8
          have D7 := hid (H77.out.other ⟨w3.heap.size, 1 + l, none⟩ (.int .i64 (j : Nat)) (Or.inl (by show w3.heap.size ≠ W0.heap.size; omega)))
          have DX := hid (hEX.set ⟨w3.heap.size, 1 + l, none⟩ (.int .i64 (j : Nat)) (by show w3.heap.size ≠ B + 1; omega) hv78)
          have DOS := hid (own_setx HOS7.out ⟨w3.heap.size, 1 + l, none⟩ (.int .i64 (j : Nat)) hos8)
          have DB := hid (HB7.out.setCell (p := ⟨w3.heap.size, 1 + l, none⟩) (by show w.heap.size ≤ w3.heap.size; omega) (.int .i64 (j : Nat)))
          have HV77 := hid hv77
          have HV78 := hid hv78
          have HE7 := hid hE7
          have HU7 := hid hU7
          have HS7 := hid hS7
          clear hcase hEX hNF hv7 hv77 hv78 hE7 hU7 hS7 hrow hos8 H76 HN6 HOS6 HB6 HX6 H77 HN7 HOS7 HB7 HE HU0 HS HV7 HV8 A10
          generalize (xs.drop (8 * k)).getD l 0 = ov at *
          go_wp2_with fail
          go_roundw
          case rel => exact ⟨l + 1, us7, xs ++ [j], v7, by go_num, by omega, by rw [List.length_append, List.length_singleton]; omega, HU7, HE7, HS7, DX, HV77, HV78, D7, D8, DOS, DB, by simp; omega⟩
          case measure => simp [intOf]; omega
        · obtain rfl : l = 8 := by omega
          obtain ⟨y0, y1, y2, y3, y4, y5, y6, y7, hys⟩ := eight_nats (show (xs.drop (8 * k)).length = 8 by rw [List.length_drop]; omega)
          have hgd : ∀ l, xs.getD (8 * k + l) 0 = (xs.drop (8 * k)).getD l 0 := fun l => by simp [List.getD, List.getElem?_drop]
          have HSN : Hid (StOk ns liv beg us xs (SS ++ [⟨(out : Nat), [(y0 : Int), y1, y2, y3, y4, y5, y6, y7]⟩])) := hid (fun i s hi => by
            by_cases e : i < SS.length
            · rw [List.getElem?_append_left e] at hi
              exact HS.out i s hi
            · rw [List.getElem?_append_right (by omega)] at hi
              have e2 : i = k := by
                have := (List.getElem?_eq_some_iff.1 hi).1
                simp at this; omega
              subst e2
              rw [hSl, Nat.sub_self] at hi
              simp at hi
              refine ⟨u0, HU0.out, by omega, ?_⟩
              rw [← hi, HOUT.out]
              congr 1
              rw [show (fun l => ((xs.getD (8 * i + l) 0 : Nat) : Int)) = fun l => (([y0, y1, y2, y3, y4, y5, y6, y7].getD l 0 : Nat) : Int) by funext l; rw [hgd, hys]]
              rfl)
          have HN := HN.out
          rw [hys] at HN
          have q0 := HN.c0
          have q1 : W3.cell? ⟨w3.heap.size, 1, none⟩ = some (.int .i64 (y0 : Nat)) := HN.c 0 (by omega)
          have q2 : W3.cell? ⟨w3.heap.size, 2, none⟩ = some (.int .i64 (y1 : Nat)) := HN.c 1 (by omega)
          have q3 : W3.cell? ⟨w3.heap.size, 3, none⟩ = some (.int .i64 (y2 : Nat)) := HN.c 2 (by omega)
          have q4 : W3.cell? ⟨w3.heap.size, 4, none⟩ = some (.int .i64 (y3 : Nat)) := HN.c 3 (by omega)
          have q5 : W3.cell? ⟨w3.heap.size, 5, none⟩ = some (.int .i64 (y4 : Nat)) := HN.c 4 (by omega)
          have q6 : W3.cell? ⟨w3.heap.size, 6, none⟩ = some (.int .i64 (y5 : Nat)) := HN.c 5 (by omega)
          have q7 : W3.cell? ⟨w3.heap.size, 7, none⟩ = some (.int .i64 (y6 : Nat)) := HN.c 6 (by omega)
          have q8 : W3.cell? ⟨w3.heap.size, 8, none⟩ = some (.int .i64 (y7 : Nat)) := HN.c 7 (by omega)
          have hfw := HFEW.out us xs HE.out
          have hku := (List.getElem?_eq_some_iff.1 HU0.out).1
          clear HN hgd hys
          go_wp2_with (at_builtin; go_must (refine wpList_append_lies _ rfl (.tmp 45) (.tmp 47) 75 rfl w.heap.size 137 i0 (.agg #[.int .i64 0, .int .i64 0, .int .i64 0, .int .i64 0, .int .i64 0, .int .i64 0, .int .i64 0, .int .i64 0, .int .i64 0]) 9 72 Try.underlying75 hi hz0 hz1 hz2 rfl (by decide) _ k (flatS SS) rfl (HOS.out.alloc _) ⟨W3.heap.size, 0, none⟩ 1 1 [.int .i64 (out : Nat), .int .i64 (y0 : Nat), .int .i64 (y1 : Nat), .int .i64 (y2 : Nat), .int .i64 (y3 : Nat), .int .i64 (y4 : Nat), .int .i64 (y5 : Nat), .int .i64 (y6 : Nat), .int .i64 (y7 : Nat)] rfl rfl (cells_new W3 _ _) (by intro y hy; simp at hy; rcases hy with rfl | rfl | rfl | rfl | rfl | rfl | rfl | rfl | rfl <;> rfl) (by decide) (by unfold maxLen; omega) (by omega) (by simp; omega) (W3.heap.size + 1) (by simp) ?_))
          intro gg cc w9 hown hgrow hat hlt9
          have HX9 := hid ((HX.out.below ((Below.refl W3.heap.size W3).alloc (Nat.le_refl _) (.cells #[.int .i64 (out : Nat), .int .i64 (y0 : Nat), .int .i64 (y1 : Nat), .int .i64 (y2 : Nat), .int .i64 (y3 : Nat), .int .i64 (y4 : Nat), .int .i64 (y5 : Nat), .int .i64 (y6 : Nat), .int .i64 (y7 : Nat)] 137))).grown hgrow HNV.out (own_ne' HX.out.own HOS.out (by decide)))
          have HB9 := hid ((HB.out.alloc (by omega) (.cells #[.int .i64 (out : Nat), .int .i64 (y0 : Nat), .int .i64 (y1 : Nat), .int .i64 (y2 : Nat), .int .i64 (y3 : Nat), .int .i64 (y4 : Nat), .int .i64 (y5 : Nat), .int .i64 (y6 : Nat), .int .i64 (y7 : Nat)] 137)).grown hgrow (by simp; omega) (fun q h => (HOS.out.lt q h).1))
          have HO9 : Hid (w9.ownsRow w.heap.size 137 9 (.slice (some ⟨gg, 0, none⟩) (k + 1) cc) (k + 1) (flatS (SS ++ [⟨(out : Nat), [(y0 : Int), y1, y2, y3, y4, y5, y6, y7]⟩]))) := hid (by
            rw [flatS_snoc]
            exact hown)
          have HNV9 : Hid ((Value.slice (some ⟨gg, 0, none⟩) (k + 1) cc).ownBlock ≠ some (B + 1)) := hid (by
            rcases hat with h | h
            · have h2 := HNV.out
              rw [h] at h2
              exact h2
            · subst h
              simp [Value.ownBlock]; omega)
          have hs9 : W3.heap.size < w9.heap.size := by
            have h4 := hgrow.size
            simp at h4
            omega
          clear hown hgrow hat q0 q1 q2 q3 q4 q5 q6 q7 q8
          go_wp2_with fail
          go_roundw
          case rel => exact ⟨k + 1, us, xs, v, _, by go_num, by omega, by omega, by simp [hSl], HE, HSN, HX9, HO9, HNV9, HB9, by omega⟩
          case measure => simp [intOf]; omega
    · obtain rfl : k = us.length := by omega
      go_wp2_with fail
      go_ret
      exact ⟨us, xs, SS, _, rfl, HE.out, hxl, hSl, HS.out, HOS.out, HB.out⟩

end Go.Proofs.Ytjagijohfkffiab

/- Plain mathematics: sets of nodes as the reference looks at them, and its nets of sets. -/
namespace Go.Proofs.Ytjagijohfkffiab

end Go.Proofs.Ytjagijohfkffiab

/- The reference's formula in memory, as it is read. -/
namespace Go.Proofs.Ytjagijohfkffiab
open Go.RowKit
set_option linter.unusedVariables false

def bAt (bs : List Nat) (k : Nat) : Nat := bs.getD k 0

structure FR (w : World) (F gp cap : Nat) (ns : List Nd) (bs : List Nat) : Prop where
  c0 : w.cell? ⟨F, 0, none⟩ = some (.slice (some ⟨gp, 0, none⟩) ns.length cap)
  hcap : ns.length ≤ cap
  lt0 : F < w.heap.size
  ltp : gp < w.heap.size
  ptr : ∀ k, k < ns.length → w.cell? ⟨gp, k, none⟩ = some (.pointer (some ⟨bAt bs k, 0, none⟩))
  op : ∀ k, k < ns.length → w.cell? ⟨bAt bs k, 0, none⟩ = some (.int .u8 (ndAt ns k).op)
  lp : ∀ k, k < ns.length → leafB (ndAt ns k).op = false → w.cell? ⟨bAt bs k, 1, none⟩ = some (.pointer (some ⟨bAt bs (ndAt ns k).l, 0, none⟩))
  rp : ∀ k, k < ns.length → twoB (ndAt ns k).op = true → w.cell? ⟨bAt bs k, 2, none⟩ = some (.pointer (some ⟨bAt bs (ndAt ns k).r, 0, none⟩))
  nn : ∀ k, k < ns.length → w.cell? ⟨bAt bs k, 3, none⟩ = some (.int .i64 k)
  ltb : ∀ k, k < ns.length → bAt bs k < w.heap.size

theorem FR.below {w w' : World} {F gp cap : Nat} {ns : List Nd} {bs : List Nat} (h : FR w F gp cap ns bs) (hb : Below w.heap.size w w') : FR w' F gp cap ns bs :=
  ⟨(hb.cell (p := ⟨F, 0, none⟩) h.lt0).trans h.c0, h.hcap, Nat.lt_of_lt_of_le h.lt0 hb.size, Nat.lt_of_lt_of_le h.ltp hb.size, fun k hk => (hb.cell (p := ⟨gp, k, none⟩) h.ltp).trans (h.ptr k hk),
    fun k hk => (hb.cell (p := ⟨bAt bs k, 0, none⟩) (h.ltb k hk)).trans (h.op k hk), fun k hk e => (hb.cell (p := ⟨bAt bs k, 1, none⟩) (h.ltb k hk)).trans (h.lp k hk e), fun k hk e => (hb.cell (p := ⟨bAt bs k, 2, none⟩) (h.ltb k hk)).trans (h.rp k hk e),
    fun k hk => (hb.cell (p := ⟨bAt bs k, 3, none⟩) (h.ltb k hk)).trans (h.nn k hk), fun k hk => Nat.lt_of_lt_of_le (h.ltb k hk) hb.size⟩

theorem Rb.drewN {w : World} {g n : Nat} {f : Nat → Bool} (h : Rb w g n f) (m : Nat) : Rb (w.drewN m) g n f := ⟨h.lt, h.cell⟩
theorem FR.drewN {w : World} {F gp cap : Nat} {ns : List Nd} {bs : List Nat} (h : FR w F gp cap ns bs) (m : Nat) : FR (w.drewN m) F gp cap ns bs :=
  ⟨h.c0, h.hcap, h.lt0, h.ltp, h.ptr, h.op, h.lp, h.rp, h.nn, h.ltb⟩

end Go.Proofs.Ytjagijohfkffiab

/- A great loop, cut into declarations: its body, its frame. -/
namespace Go.Proofs.Ytjagijohfkffiab
open Go.RowKit
set_option linter.unusedVariables false

end Go.Proofs.Ytjagijohfkffiab

/- Rounds of the reference's fits, by operation. (By gen_great.py.) -/
namespace Go.Proofs.Ytjagijohfkffiab
open Go.RowKit
set_option linter.unusedVariables false

end Go.Proofs.Ytjagijohfkffiab

/- Rounds of the reference's fits, by operation. (By gen_great.py.) -/
namespace Go.Proofs.Ytjagijohfkffiab
open Go.RowKit
set_option linter.unusedVariables false

end Go.Proofs.Ytjagijohfkffiab

/- The walk of the reference's fits. (By gen_great.py.) -/
namespace Go.Proofs.Ytjagijohfkffiab
open Go.RowKit
set_option linter.unusedVariables false

section
variable (F gp cap g scap : Nat) (ns : List Nd) (bs : List Nat) (S : Nat → Bool) (w : World)

end

end Go.Proofs.Ytjagijohfkffiab

/- The walks of the reference's read and kept. -/
namespace Go.Proofs.Ytjagijohfkffiab
open Go.RowKit
set_option linter.unusedVariables false

section
variable (F gp cap g scap : Nat) (ns : List Nd) (bs : List Nat) (S : Nat → Bool) (w : World)

end

end Go.Proofs.Ytjagijohfkffiab

/- The walk of the reference's sets. -/
namespace Go.Proofs.Ytjagijohfkffiab
open Go.RowKit
set_option linter.unusedVariables false

def bitF (v : Nat) : Nat → Bool := fun k => v.testBit k
def setVal (n : Nat) (b : Nat) : Value := .slice (some ⟨b, 0, none⟩) n n
def atN (vs : List Nat) (i : Nat) : Nat := vs.getD i 0

/-- A list of sets, by their numbers. -/
def SetL (w : World) (B : Nat) (v : Value) (n : Nat) (vs : List Nat) : Prop :=
  ∃ b : Nat → Nat, w.ownsRow B 105 1 v vs.length ((List.range vs.length).map fun i => setVal n (b i)) ∧ ∀ i, i < vs.length → w.ownsRow B 4 1 (setVal n (b i)) n (outTo (bitF (atN vs i)) n n)

theorem SetL.keeps {w w' : World} {B : Nat} {v : Value} {n : Nat} {vs : List Nat} (h : SetL w B v n vs) (hb : Below w.heap.size w w') : SetL w' B v n vs := by
  obtain ⟨b, h1, h2⟩ := h
  exact ⟨b, own_keeps h1 hb, fun i hi => own_keeps (h2 i hi) hb⟩

end Go.Proofs.Ytjagijohfkffiab

/- Rounds of the reference's follows, by operation. (By gen_fol.py.) -/
namespace Go.Proofs.Ytjagijohfkffiab
open Go.RowKit
set_option linter.unusedVariables false

end Go.Proofs.Ytjagijohfkffiab

/- The walk of the reference's follows. (By gen_fol.py.) -/
namespace Go.Proofs.Ytjagijohfkffiab
open Go.RowKit
set_option linter.unusedVariables false

section
variable (F gp cap g h scap tcap : Nat) (ns : List Nd) (bs : List Nat) (S T : Nat → Bool) (w : World)

end

end Go.Proofs.Ytjagijohfkffiab

/- The reference's nets in memory; the walk of net. -/
namespace Go.Proofs.Ytjagijohfkffiab
open Go.RowKit
set_option linter.unusedVariables false

theorem Try.infoIntE : (Try.prog.info? 3).map (fun i => (i.zero, i.size, i.bytes)) = some (some (.int .i64 0), 1, 8) := by kernel_rfl
def nInts (l : List Nat) : List Value := l.map fun x => Value.int .i64 (x : Nat)

/-- The numbers of a list in memory. -/
def NR (w : World) (v : Value) (l : List Nat) : Prop :=
  ∃ ao cap, v = .slice ao l.length cap ∧ l.length ≤ cap ∧ (0 < l.length → ∃ g, ao = some ⟨g, 0, none⟩ ∧ g < w.heap.size ∧ ∀ i, i < l.length → w.cell? ⟨g, i, none⟩ = some (.int .i64 (atN l i : Nat)))

theorem NR.below {w w' : World} {v : Value} {l : List Nat} (h : NR w v l) (hb : Below w.heap.size w w') : NR w' v l := by
  obtain ⟨ao, cap, e, hc, h⟩ := h
  refine ⟨ao, cap, e, hc, fun h0 => ?_⟩
  obtain ⟨g, e2, hg, hcell⟩ := h h0
  exact ⟨g, e2, Nat.lt_of_lt_of_le hg hb.size, fun i hi => (hb.cell (p := ⟨g, i, none⟩) hg).trans (hcell i hi)⟩

theorem own_nr {w : World} {B : Nat} {v : Value} {l : List Nat} (h : w.ownsRow B 3 1 v l.length (nInts l)) : NR w v l := by
  rcases h.2 with ⟨rfl, h0⟩ | ⟨g, cap, cur, rfl, hb, hh, hc, hm, _⟩
  · exact ⟨none, 0, by rw [h0], by omega, fun h => by omega⟩
  · refine ⟨_, cap, rfl, hc, fun _ => ⟨g, rfl, heap_lt hh, fun i hi => ?_⟩⟩
    rw [h.cellAt i (by omega)]
    simp [nInts, atN, List.getD, List.getElem?_eq_getElem hi]

/-- A slice of such lists. -/
def NRs (w : World) (v : Value) (N : Nat) (to : Nat → List Nat) : Prop :=
  ∃ ao cap, v = .slice ao N cap ∧ N ≤ cap ∧ (0 < N → ∃ g, ao = some ⟨g, 0, none⟩ ∧ g < w.heap.size ∧ ∀ i, i < N → ∃ r, w.cell? ⟨g, i, none⟩ = some r ∧ NR w r (to i))
/-- A slice of rows of bools. -/
def BRs (w : World) (v : Value) (K N : Nat) (kp : Nat → Nat → Bool) : Prop :=
  ∃ ao cap, v = .slice ao K cap ∧ K ≤ cap ∧ (0 < K → ∃ g, ao = some ⟨g, 0, none⟩ ∧ g < w.heap.size ∧ ∀ i, i < K → ∃ b, w.cell? ⟨g, i, none⟩ = some (.slice (some ⟨b, 0, none⟩) N N) ∧ Rb w b N (kp i))

/-- The same, with room behind each row. -/
def BRc (w : World) (v : Value) (K N : Nat) (kp : Nat → Nat → Bool) : Prop :=
  ∃ ao cap, v = .slice ao K cap ∧ K ≤ cap ∧ (0 < K → ∃ g, ao = some ⟨g, 0, none⟩ ∧ g < w.heap.size ∧ ∀ i, i < K → ∃ b c, w.cell? ⟨g, i, none⟩ = some (.slice (some ⟨b, 0, none⟩) N c) ∧ N ≤ c ∧ Rb w b N (kp i))
theorem BRc.below {w w' : World} {v : Value} {K N : Nat} {kp : Nat → Nat → Bool} (h : BRc w v K N kp) (hb : Below w.heap.size w w') : BRc w' v K N kp := by
  obtain ⟨ao, cap, e, hc, h⟩ := h
  refine ⟨ao, cap, e, hc, fun h0 => ?_⟩
  obtain ⟨g, e2, hg, hcell⟩ := h h0
  refine ⟨g, e2, Nat.lt_of_lt_of_le hg hb.size, fun i hi => ?_⟩
  obtain ⟨b, c, hr, hk, hn⟩ := hcell i hi
  exact ⟨b, c, (hb.cell (p := ⟨g, i, none⟩) hg).trans hr, hk, hn.below hb⟩

theorem NRs.below {w w' : World} {v : Value} {N : Nat} {to : Nat → List Nat} (h : NRs w v N to) (hb : Below w.heap.size w w') : NRs w' v N to := by
  obtain ⟨ao, cap, e, hc, h⟩ := h
  refine ⟨ao, cap, e, hc, fun h0 => ?_⟩
  obtain ⟨g, e2, hg, hcell⟩ := h h0
  refine ⟨g, e2, Nat.lt_of_lt_of_le hg hb.size, fun i hi => ?_⟩
  obtain ⟨r, hr, hn⟩ := hcell i hi
  exact ⟨r, (hb.cell (p := ⟨g, i, none⟩) hg).trans hr, hn.below hb⟩
theorem BRs.below {w w' : World} {v : Value} {K N : Nat} {kp : Nat → Nat → Bool} (h : BRs w v K N kp) (hb : Below w.heap.size w w') : BRs w' v K N kp := by
  obtain ⟨ao, cap, e, hc, h⟩ := h
  refine ⟨ao, cap, e, hc, fun h0 => ?_⟩
  obtain ⟨g, e2, hg, hcell⟩ := h h0
  refine ⟨g, e2, Nat.lt_of_lt_of_le hg hb.size, fun i hi => ?_⟩
  obtain ⟨b, hr, hn⟩ := hcell i hi
  exact ⟨b, (hb.cell (p := ⟨g, i, none⟩) hg).trans hr, hn.below hb⟩

/-- A net at block P: N places, where one goes, which promises are kept where. -/
structure NetM (w : World) (P N : Nat) (to : Nat → List Nat) (K : Nat) (kp : Nat → Nat → Bool) : Prop where
  lt : P < w.heap.size
  c0 : ∃ v, w.cell? ⟨P, 0, none⟩ = some v ∧ NRs w v N to
  c1 : ∃ v, w.cell? ⟨P, 1, none⟩ = some v ∧ BRc w v K N kp

theorem NetM.below {w w' : World} {P N K : Nat} {to : Nat → List Nat} {kp : Nat → Nat → Bool} (h : NetM w P N to K kp) (hb : Below w.heap.size w w') : NetM w' P N to K kp := by
  obtain ⟨v0, a0, b0⟩ := h.c0
  obtain ⟨v1, a1, b1⟩ := h.c1
  exact ⟨Nat.lt_of_lt_of_le h.lt hb.size, ⟨v0, (hb.cell (p := ⟨P, 0, none⟩) h.lt).trans a0, b0.below hb⟩, ⟨v1, (hb.cell (p := ⟨P, 1, none⟩) h.lt).trans a1, b1.below hb⟩⟩

/-- Rows that a call has made: an outer one of elements of type e, each a row of the call's own. -/
structure Rws (w : World) (B e e' : Nat) (v : Value) (j : Nat) (V : Nat → Value) (xs : Nat → List Value) : Prop where
  out : w.ownsRow B e 1 v j ((List.range j).map V)
  row : ∀ i, i < j → w.ownsRow B e' 1 (V i) (xs i).length (xs i)

theorem Rws.keeps {w w' : World} {B e e' j : Nat} {v : Value} {V : Nat → Value} {xs : Nat → List Value} (h : Rws w B e e' v j V xs) (hb : Below w.heap.size w w') : Rws w' B e e' v j V xs := ⟨own_keeps h.out hb, fun i hi => own_keeps (h.row i hi) hb⟩
theorem Rws.set {w : World} {B e e' j : Nat} {v : Value} {V : Nat → Value} {xs : Nat → List Value} (h : Rws w B e e' v j V xs) {k : Nat} (hk : k < B) (o : Nat) (u : Value) : Rws (w.setCell ⟨k, o, none⟩ u) B e e' v j V xs := ⟨own_set_other h.out hk o u, fun i hi => own_set_other (h.row i hi) hk o u⟩
/-- Another row of a third type has grown. -/
theorem Rws.grown {w w' : World} {B e e' j : Nat} {v : Value} {V : Nat → Value} {xs : Nat → List Value} (h : Rws w B e e' v j V xs) {B2 e2 s2 n2 : Nat} {v2 : Value} {ys : List Value} (h2 : w.ownsRow B2 e2 s2 v2 n2 ys) (hg : w.grownBy w' v2.ownBlock) (h1 : e ≠ e2) (h3 : e' ≠ e2) : Rws w' B e e' v j V xs :=
  ⟨h.out.kept hg (own_ne' h.out h2 h1), fun i hi => (h.row i hi).kept hg (own_ne' (h.row i hi) h2 h3)⟩
end Go.Proofs.Ytjagijohfkffiab

/- The walks of the reference's none and told. -/
namespace Go.Proofs.Ytjagijohfkffiab
open Go.RowKit
set_option linter.unusedVariables false

end Go.Proofs.Ytjagijohfkffiab

/- The walk of the reference's same. -/
namespace Go.Proofs.Ytjagijohfkffiab
open Go.RowKit
set_option linter.unusedVariables false

end Go.Proofs.Ytjagijohfkffiab

/- The walk of the reference's from: what one gets to. -/
namespace Go.Proofs.Ytjagijohfkffiab
open Go.RowKit
set_option linter.unusedVariables false

theorem outTo_upd (f : Nat → Bool) (N b : Nat) (v : Bool) : (outTo f N N).set b (.bool v) = outTo (upd f b v) N N := by
  unfold outTo
  apply List.ext_getElem
  · simp
  · intro i h1 h2
    simp at h1
    rw [List.getElem_set]
    simp only [List.getElem_map, List.getElem_range, upd, h1, if_true]
    by_cases e : b = i
    · rw [if_pos e, if_pos e.symm]
    · rw [if_neg e, if_neg (fun h => e h.symm)]

end Go.Proofs.Ytjagijohfkffiab
