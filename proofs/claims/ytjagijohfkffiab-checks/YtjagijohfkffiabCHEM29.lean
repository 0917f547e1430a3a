import Derived.Test.YtjagijohfkffiabCHEM28

/- The walk of the reference's parse: a sign for one formula. -/
namespace Go.Proofs.Ytjagijohfkffiab
open Go.RowKit
set_option linter.unusedVariables false

theorem part_cells {w : World} {P : Nat} {c0 c1 c2 c3 : Value} (h : w.heap[P]? = some (.cells #[c0, c1, c2, c3] 181 (0, 0))) :
    w.cell? ⟨P, 0, none⟩ = some c0 ∧ w.cell? ⟨P, 1, none⟩ = some c1 ∧ w.cell? ⟨P, 2, none⟩ = some c2 ∧ w.cell? ⟨P, 3, none⟩ = some c3 := by
  refine ⟨?_, ?_, ?_, ?_⟩ <;> (rw [cell_of_row w P _ _ _ _ h]; rfl)

theorem part_ne {c : Array Value} : ∀ c', (Obj.cells c 181 (0, 0)) ≠ .cells c' 175 (0, 0) := by intro c' h; simp at h

/-- A part with one part below it, its cells written. -/
theorem one_part {w1 : World} {F P L b : Nat} {n1 : List Nd} {bs : List Nat} (hf : Fm w1 F n1 bs) (hP : w1.heap[P]? = some (.cells #[.int .u8 b, .pointer none, .pointer none, .int .i64 0] 181 (0, 0)))
    (hPb : P ∉ bs) (hPF : P ≠ F) (hL : bs[n1.length - 1]? = some L) (hb : oneB b = true) :
    Fm ((w1.setCell ⟨P, 1, none⟩ (.pointer (some ⟨L, 0, none⟩))).setCell ⟨P, 3, none⟩ (.int .i64 n1.length)) F n1 bs ∧
    ((w1.setCell ⟨P, 1, none⟩ (.pointer (some ⟨L, 0, none⟩))).setCell ⟨P, 3, none⟩ (.int .i64 n1.length)).heap[P]? = some (partObj bs n1.length ⟨b, n1.length - 1, 0⟩) := by
  have h1 := heap_setCell_same w1 P 1 _ _ (.pointer (some ⟨L, 0, none⟩)) hP
  have h2 := heap_setCell_same _ P 3 _ _ (.int .i64 n1.length) h1
  have f1 := hf.set hPb hPF hP part_ne 1 (.pointer (some ⟨L, 0, none⟩))
  refine ⟨f1.set hPb hPF h1 part_ne 3 _, h2.trans ?_⟩
  simp [partObj, lptr, rptr, leaf_not_one hb, one_not_two hb, List.getD, hL]

set_option maxHeartbeats 800000 in
set_option maxRecDepth 100000 in
theorem rparse_one (k F : Nat) (s : ByteArray) (hs : s.size ≤ 24) (H : RparseAt k F s) (a : Nat) (ns : List Nd) (bs : List Nat) (w : World) (hf : Fm w F ns bs) (hk : s.size < a + (k + 1)) (hn : ns.length ≤ a) (hb : oneB (bt s a) = true) :
    Calls Try.prog 91 #[.pointer (some ⟨F, 0, none⟩), .string s, .int .i64 a] w (Rff (ps (k + 1) s a ns) F a bs w) := by
  have hlt := bt_lt (one_ne hb)
  have e1 := hid (ps_one (k := k) (ns := ns) hb)
  have hb2 : (s[a]'hlt).toNat = bt s a := (bt_in hlt).symm
  have hF := hf.ltF
  obtain ⟨i0, hi, hz0, hz1, hz2⟩ := info_parts Try.infoPartPtr
  have hB := one_is hb
  have HB := hid hb
  clear hb
  generalize bt s a = b at *
  have C := fun W (h : Fm W F ns bs) => H (a + 1) (a + 1) ns bs W (by omega) h (by omega) (by omega) (by omega)
  cases e0 : ps k s (a + 1) ns with
  | none =>
    have e2 : Hid (ps (k + 1) s a ns = none) := hid (by rw [e1.out]; simp [ps1, e0])
    have E0 := hid e0
    clear e0
    rcases hB with rfl | rfl | rfl | rfl
    all_goals
      go_enter Try.func91, Try.ntmps91
      go_wp2_with fail
      refine (C _ (hf.alloc _)).mono ?_
      rintro e w1 (⟨_, rfl, hbl⟩ | ⟨a', ns', _, _, h, _⟩)
      · go_wp2_with fail
        go_ret3
        exact Or.inl ⟨e2.out, rfl, ((Below.refl F w).alloc (by omega) _).trans hbl⟩
      · rw [E0.out] at h; cases h
  | some x =>
    obtain ⟨a1, n1⟩ := x
    have e2 : Hid (ps (k + 1) s a ns = some (a1, n1 ++ [⟨b, n1.length - 1, 0⟩])) := hid (by rw [e1.out]; simp [ps1, e0])
    have g1 := ps_grows k s _ ns a1 n1 e0
    have E0 := hid e0
    clear e0
    rcases hB with rfl | rfl | rfl | rfl
    all_goals
      go_enter Try.func91, Try.ntmps91
      go_wp2_with fail
      refine (C _ (hf.alloc _)).mono ?_
      rintro e w1 (⟨h, _⟩ | ⟨a', ns', ext, L, h, rfl, hf1, hL, hext, hbl, hkp⟩)
      · rw [E0.out] at h; cases h
      rw [E0.out] at h
      simp only [Option.some.injEq, Prod.mk.injEq] at h
      obtain ⟨rfl, rfl⟩ := h
      have hP := hkp w.heap.size _ _ (heap_alloc_new _ _) (by decide) (by omega)
      obtain ⟨p0, p1, p2, p3⟩ := part_cells hP
      have q : ∀ j, w1.frozen? ⟨w.heap.size, j, none⟩ = false := fun j => frozen_of_row _ _ _ _ _ hP
      have hPb : w.heap.size ∉ bs ++ ext := fun hm => (List.mem_append.1 hm).elim (fun h => by have := (hf.lt _ h).1; omega) (fun h => by have := hext _ h; simp at this; omega)
      obtain ⟨bs1, hbs⟩ : ∃ bs1, bs1 = bs ++ ext := ⟨_, rfl⟩
      rw [← hbs] at hf1 hL hPb
      have HBS := hid hbs
      clear hbs
      obtain ⟨hfW, hPW⟩ := one_part hf1 hP hPb (by omega) hL HB.out
      obtain ⟨ao, cap, c0, _⟩ := hf1.c0
      have f0 := hf1.f0
      have hsz : w.heap.size + 1 ≤ w1.heap.size := by have := hbl.size; simp at this; omega
      have hF1 := hf1.ltF
      have HW := hid hfW
      have own := (hf1.own c0).2
      have ownW := hid (own_set (own_set own hP part_ne 1 (.pointer (some ⟨L, 0, none⟩))) (heap_setCell_same w1 w.heap.size 1 _ _ (.pointer (some ⟨L, 0, none⟩)) hP) part_ne 3 (.int .i64 n1.length))
      have HPW := hid hPW
      have hlen := hf1.len
      clear hf1 hP hfW hPW own
      go_wp2_with (at_builtin; refine wpList_append_own _ rfl (.tmp 160) (.tmp 162) 107 rfl (F + 1) 175 i0 (.pointer none) 1 8 Try.underlying107 hi hz0 hz1 hz2 rfl (by decide) _ _ _ rfl (ownW.out.alloc _) ⟨w1.heap.size, 0, none⟩ 1 1 [ptrTo1 w.heap.size] rfl rfl ?c1 ?c2 ?c3 ?c4 ?c5 ?_)
      case c1 => intro j u hj; match j, hj with | 0, hj => simp at hj; subst hj; simp [Addr.add, ptrTo1, World.cell?_alloc_here]
      case c2 => intro u hu; simp at hu; subst hu; rfl
      case c3 => unfold maxLen; omega
      case c4 => omega
      case c5 => simp; omega
      intro v' w2 hown hgrow _
      obtain ⟨ao', cap', hv, hf2, hk2, hb2⟩ := fin_push HW.out ownW.out rfl rfl (P := w.heap.size) (by omega) ⟨_, n1.length - 1, 0⟩ (fun _ => by show n1.length - 1 < n1.length; omega) (fun h => absurd (one_not_two HB.out) (by rw [h]; decide)) HPW.out hown hgrow
      subst hv
      have k0 : w2.cell? ⟨F, 0, none⟩ = some (.slice ao n1.length cap) := (hb2.cell (p := ⟨F, 0, none⟩) (Nat.lt_succ_self _)).trans ((World.cell?_setCell_other _ _ _ _ (fun e => by have := congrArg Addr.block e; simp at this; omega)).trans ((World.cell?_setCell_other _ _ _ _ (fun e => by have := congrArg Addr.block e; simp at this; omega)).trans c0))
      have g0 : w2.frozen? ⟨F, 0, none⟩ = false := (hb2.frozen (p := ⟨F, 0, none⟩) (Nat.lt_succ_self _)).trans (by rw [World.frozen?_setCell, World.frozen?_setCell]; exact f0)
      have HF := hid hf2
      have B1 := hid (((((((Below.refl F w).alloc (by omega) _).trans hbl).setCell (p := ⟨w.heap.size, 1, none⟩) (by show F ≤ w.heap.size; omega) _).setCell (p := ⟨w.heap.size, 3, none⟩) (by show F ≤ w.heap.size; omega) _).trans (hb2.mono (Nat.le_succ F))).setCell (p := ⟨F, 0, none⟩) (Nat.le_refl _) (.slice ao' (n1.length + 1) cap'))
      have K1 := hid ((((((Kp.alloc F w _).trans hkp).set (P := w.heap.size) (Or.inl (Nat.le_refl _)) 1 _).set (P := w.heap.size) (Or.inl (Nat.le_refl _)) 3 _).trans hk2).set (P := F) (Or.inr rfl) 0 (.slice ao' (n1.length + 1) cap'))
      clear hf2 hown hgrow hb2 hk2 c0 f0 p0 p1 p2 p3 q
      go_wp2
      go_ret3
      refine Or.inr ⟨_, _, ext ++ [w.heap.size], w.heap.size, e2.out, rfl, ?_, ?_, ?_, B1.out, K1.out⟩
      · rw [← List.append_assoc, ← HBS.out]; exact HF.out
      · rw [← List.append_assoc, ← HBS.out]; exact last_snoc hlen
      · intro b hb
        rcases List.mem_append.1 hb with hb | hb
        · have := hext _ hb; simp at this; omega
        · simp at hb; omega

end Go.Proofs.Ytjagijohfkffiab

/- The walk of the reference's parse: a bracket. -/
namespace Go.Proofs.Ytjagijohfkffiab
open Go.RowKit
set_option linter.unusedVariables false

/-- A part with two parts below it, its cells written. -/
theorem two_part {w1 : World} {F P L R b c k : Nat} {n1 : List Nd} {bs : List Nat} (hf : Fm w1 F n1 bs) (hP : w1.heap[P]? = some (.cells #[.int .u8 c, .pointer none, .pointer none, .int .i64 0] 181 (0, 0)))
    (hPb : P ∉ bs) (hPF : P ≠ F) (hL : bs[k]? = some L) (hR : bs[n1.length - 1]? = some R) (hb : twoB b = true) :
    Fm ((((w1.setCell ⟨P, 0, none⟩ (.int .u8 b)).setCell ⟨P, 1, none⟩ (.pointer (some ⟨L, 0, none⟩))).setCell ⟨P, 2, none⟩ (.pointer (some ⟨R, 0, none⟩))).setCell ⟨P, 3, none⟩ (.int .i64 n1.length)) F n1 bs ∧
    ((((w1.setCell ⟨P, 0, none⟩ (.int .u8 b)).setCell ⟨P, 1, none⟩ (.pointer (some ⟨L, 0, none⟩))).setCell ⟨P, 2, none⟩ (.pointer (some ⟨R, 0, none⟩))).setCell ⟨P, 3, none⟩ (.int .i64 n1.length)).heap[P]? = some (partObj bs n1.length ⟨b, k, n1.length - 1⟩) ∧
    ∀ v n xs, w1.ownsRow (F + 1) 175 1 v n xs → ((((w1.setCell ⟨P, 0, none⟩ (.int .u8 b)).setCell ⟨P, 1, none⟩ (.pointer (some ⟨L, 0, none⟩))).setCell ⟨P, 2, none⟩ (.pointer (some ⟨R, 0, none⟩))).setCell ⟨P, 3, none⟩ (.int .i64 n1.length)).ownsRow (F + 1) 175 1 v n xs := by
  have h0 := heap_setCell_same w1 P 0 _ _ (.int .u8 b) hP
  have h1 := heap_setCell_same _ P 1 _ _ (.pointer (some ⟨L, 0, none⟩)) h0
  have h2 := heap_setCell_same _ P 2 _ _ (.pointer (some ⟨R, 0, none⟩)) h1
  have h3 := heap_setCell_same _ P 3 _ _ (.int .i64 n1.length) h2
  have f0 := hf.set hPb hPF hP part_ne 0 (.int .u8 b)
  have f1 := f0.set hPb hPF h0 part_ne 1 (.pointer (some ⟨L, 0, none⟩))
  have f2 := f1.set hPb hPF h1 part_ne 2 (.pointer (some ⟨R, 0, none⟩))
  refine ⟨f2.set hPb hPF h2 part_ne 3 _, h3.trans ?_, ?_⟩
  · simp [partObj, lptr, rptr, two_not_leaf hb, hb, List.getD, hL, hR]
  · intro v n xs own
    exact own_set (own_set (own_set (own_set own hP part_ne 0 _) h0 part_ne 1 _) h1 part_ne 2 _) h2 part_ne 3 _

set_option maxHeartbeats 1600000 in
set_option maxRecDepth 100000 in
theorem rparse_two_none (k F : Nat) (s : ByteArray) (hs : s.size ≤ 24) (H : RparseAt k F s) (a : Nat) (ns : List Nd) (bs : List Nat) (w : World) (hf : Fm w F ns bs) (hk : s.size < a + (k + 1)) (hn : ns.length ≤ a) (hb : bt s a = 40) (e0 : ps k s (a + 1) ns = none) : Calls Try.prog 91 #[.pointer (some ⟨F, 0, none⟩), .string s, .int .i64 a] w (Rff (ps (k + 1) s a ns) F a bs w) := by
      have hlt := bt_lt (s := s) (i := a) (by omega)
      have e1 := hid (ps_two (k := k) (ns := ns) hb)
      have hb2 : (s[a]'hlt).toNat = 40 := (bt_in hlt).symm.trans hb
      have hF := hf.ltF
      have C := fun W (h : Fm W F ns bs) => H (a + 1) (a + 1) ns bs W (by omega) h (by omega) (by omega) (by omega)
      have e2 : Hid (ps (k + 1) s a ns = none) := hid (by rw [e1.out]; simp [ps2, e0])
      have E0 := hid e0
      clear e0 hb
      go_enter Try.func91, Try.ntmps91
      go_wp2_with fail
      refine (C _ (hf.alloc _)).mono ?_
      rintro e w1 (⟨_, rfl, hbl⟩ | ⟨a', ns', _, _, h, _⟩)
      · go_wp2_with fail
        go_ret3
        exact Or.inl ⟨e2.out, rfl, ((Below.refl F w).alloc (by omega) _).trans hbl⟩
      · rw [E0.out] at h; cases h

set_option maxHeartbeats 1600000 in
set_option maxRecDepth 100000 in
theorem rparse_two_noop (k F : Nat) (s : ByteArray) (hs : s.size ≤ 24) (H : RparseAt k F s) (a : Nat) (ns : List Nd) (bs : List Nat) (w : World) (hf : Fm w F ns bs) (hk : s.size < a + (k + 1)) (hn : ns.length ≤ a) (hb : bt s a = 40) (a1 : Nat) (n1 : List Nd) (e0 : ps k s (a + 1) ns = some (a1, n1)) (b4 : twoB (bt s a1) = false) : Calls Try.prog 91 #[.pointer (some ⟨F, 0, none⟩), .string s, .int .i64 a] w (Rff (ps (k + 1) s a ns) F a bs w) := by
      have hlt := bt_lt (s := s) (i := a) (by omega)
      have e1 := hid (ps_two (k := k) (ns := ns) hb)
      have hb2 : (s[a]'hlt).toNat = 40 := (bt_in hlt).symm.trans hb
      have hF := hf.ltF
      have g1 := ps_grows k s _ ns a1 n1 e0
      have C := fun W (h : Fm W F ns bs) => H (a + 1) (a + 1) ns bs W (by omega) h (by omega) (by omega) (by omega)
      have e2 : Hid (ps (k + 1) s a ns = none) := hid (by rw [e1.out]; simp [ps2, e0, b4])
      have E0 := hid e0
      clear e0 hb
      by_cases hl : a1 < s.size
      · have hx := bt_in hl
        have k38 : (((s[a1]'hl).toNat : Int) != 38) = true := by rw [bne_iff_ne]; intro h; rw [hx, show (s[a1]'hl).toNat = 38 by omega] at b4; revert b4; decide
        have k124 : (((s[a1]'hl).toNat : Int) != 124) = true := by rw [bne_iff_ne]; intro h; rw [hx, show (s[a1]'hl).toNat = 124 by omega] at b4; revert b4; decide
        have k85 : (((s[a1]'hl).toNat : Int) != 85) = true := by rw [bne_iff_ne]; intro h; rw [hx, show (s[a1]'hl).toNat = 85 by omega] at b4; revert b4; decide
        have k82 : (((s[a1]'hl).toNat : Int) != 82) = true := by rw [bne_iff_ne]; intro h; rw [hx, show (s[a1]'hl).toNat = 82 by omega] at b4; revert b4; decide
        have hd : decide ((s.size : Int) ≤ (a1 : Int)) = false := by simp; omega
        clear hx b4
        go_enter Try.func91, Try.ntmps91
        go_wp2_with fail
        refine (C _ (hf.alloc _)).mono ?_
        rintro e w1 (⟨h, _⟩ | ⟨a', ns', ext, L, h, rfl, hf1, hL, hext, hbl, hkp⟩)
        · rw [E0.out] at h; cases h
        rw [E0.out] at h
        simp only [Option.some.injEq, Prod.mk.injEq] at h
        obtain ⟨rfl, rfl⟩ := h
        go_wp2_with fail
        go_ret3
        exact Or.inl ⟨e2.out, rfl, ((Below.refl F w).alloc (by omega) _).trans hbl⟩
      · have hd : decide ((s.size : Int) ≤ (a1 : Int)) = true := by simp; omega
        clear b4
        go_enter Try.func91, Try.ntmps91
        go_wp2_with fail
        refine (C _ (hf.alloc _)).mono ?_
        rintro e w1 (⟨h, _⟩ | ⟨a', ns', ext, L, h, rfl, hf1, hL, hext, hbl, hkp⟩)
        · rw [E0.out] at h; cases h
        rw [E0.out] at h
        simp only [Option.some.injEq, Prod.mk.injEq] at h
        obtain ⟨rfl, rfl⟩ := h
        go_wp2_with fail
        go_ret3
        exact Or.inl ⟨e2.out, rfl, ((Below.refl F w).alloc (by omega) _).trans hbl⟩

set_option maxHeartbeats 1600000 in
set_option maxRecDepth 100000 in
theorem rparse_two_none2 (k F : Nat) (s : ByteArray) (hs : s.size ≤ 24) (H : RparseAt k F s) (a : Nat) (ns : List Nd) (bs : List Nat) (w : World) (hf : Fm w F ns bs) (hk : s.size < a + (k + 1)) (hn : ns.length ≤ a) (hb : bt s a = 40) (a1 : Nat) (n1 : List Nd) (e0 : ps k s (a + 1) ns = some (a1, n1)) (b4 : twoB (bt s a1) = true) (e3 : ps k s (a1 + 1) n1 = none) : Calls Try.prog 91 #[.pointer (some ⟨F, 0, none⟩), .string s, .int .i64 a] w (Rff (ps (k + 1) s a ns) F a bs w) := by
    have hlt := bt_lt (s := s) (i := a) (by omega)
    have hlt1 := bt_lt (two_ne b4)
    have hd : decide ((s.size : Int) ≤ (a1 : Int)) = false := by simp; omega
    have e1 := hid (ps_two (k := k) (ns := ns) hb)
    have hb2 : (s[a]'hlt).toNat = 40 := (bt_in hlt).symm.trans hb
    have hb4 : (s[a1]'hlt1).toNat = bt s a1 := (bt_in hlt1).symm
    have hF := hf.ltF
    have g1 := ps_grows k s _ ns a1 n1 e0
    have C := fun W (h : Fm W F ns bs) => H (a + 1) (a + 1) ns bs W (by omega) h (by omega) (by omega) (by omega)
    have e2 : Hid (ps (k + 1) s a ns = none) := hid (by rw [e1.out]; simp [ps2, e0, b4, e3])
    have E0 := hid e0
    have E3 := hid e3
    have hB := two_is b4
    clear e0 hb b4 e3
    generalize bt s a1 = b at *
    rcases hB with rfl | rfl | rfl | rfl
    all_goals
      go_enter Try.func91, Try.ntmps91
      go_wp2_with fail
      refine (C _ (hf.alloc _)).mono ?_
      rintro e w1 (⟨h, _⟩ | ⟨a', ns', ext, L, h, rfl, hf1, hL, hext, hbl, hkp⟩)
      · rw [E0.out] at h; cases h
      rw [E0.out] at h
      simp only [Option.some.injEq, Prod.mk.injEq] at h
      obtain ⟨rfl, rfl⟩ := h
      obtain ⟨bs1, hbs⟩ : ∃ bs1, bs1 = bs ++ ext := ⟨_, rfl⟩
      rw [← hbs] at hf1 hL
      have HBS := hid hbs
      clear hbs
      have C2 := H (a1 + 1) (a1 + 1) n1 bs1 w1 (by omega) hf1 (by omega) (by omega) (by omega)
      go_wp2_with fail
      refine C2.mono ?_
      rintro e w2 (⟨_, rfl, hbl2⟩ | ⟨a', ns', _, _, h, _⟩)
      · go_wp2_with fail
        go_ret3
        exact Or.inl ⟨e2.out, rfl, (((Below.refl F w).alloc (by omega) _).trans hbl).trans hbl2⟩
      · rw [E3.out] at h; cases h

set_option maxHeartbeats 1600000 in
set_option maxRecDepth 100000 in
theorem rparse_two_open (k F : Nat) (s : ByteArray) (hs : s.size ≤ 24) (H : RparseAt k F s) (a : Nat) (ns : List Nd) (bs : List Nat) (w : World) (hf : Fm w F ns bs) (hk : s.size < a + (k + 1)) (hn : ns.length ≤ a) (hb : bt s a = 40) (a1 a2 : Nat) (n1 n2 : List Nd) (e0 : ps k s (a + 1) ns = some (a1, n1)) (b4 : twoB (bt s a1) = true) (e3 : ps k s (a1 + 1) n1 = some (a2, n2)) (b5 : ¬ bt s a2 = 41) (hl : a2 < s.size) : Calls Try.prog 91 #[.pointer (some ⟨F, 0, none⟩), .string s, .int .i64 a] w (Rff (ps (k + 1) s a ns) F a bs w) := by
    have hlt := bt_lt (s := s) (i := a) (by omega)
    have hlt1 := bt_lt (two_ne b4)
    have hd : decide ((s.size : Int) ≤ (a1 : Int)) = false := by simp; omega
    have e1 := hid (ps_two (k := k) (ns := ns) hb)
    have hb2 : (s[a]'hlt).toNat = 40 := (bt_in hlt).symm.trans hb
    have hb4 : (s[a1]'hlt1).toNat = bt s a1 := (bt_in hlt1).symm
    have hF := hf.ltF
    have g1 := ps_grows k s _ ns a1 n1 e0
    have g2 := ps_grows k s _ n1 a2 n2 e3
    have C := fun W (h : Fm W F ns bs) => H (a + 1) (a + 1) ns bs W (by omega) h (by omega) (by omega) (by omega)
    have e2 : Hid (ps (k + 1) s a ns = none) := hid (by rw [e1.out]; simp [ps2, e0, b4, e3, b5])
    have E0 := hid e0
    have E3 := hid e3
    have hB := two_is b4
    have hb5 : a2 < s.size → bt s a2 ≠ 41 := fun _ => b5
    clear e0 hb b4 e3 b5
    generalize bt s a1 = b at *
    have hx := bt_in hl
    have k41 : (((s[a2]'hl).toNat : Int) != 41) = true := by rw [bne_iff_ne]; have := hb5 hl; omega
    have hd2 : decide ((s.size : Int) ≤ (a2 : Int)) = false := by simp; omega
    clear hx hb5
    rcases hB with rfl | rfl | rfl | rfl
    all_goals
      go_enter Try.func91, Try.ntmps91
      go_wp2_with fail
      refine (C _ (hf.alloc _)).mono ?_
      rintro e w1 (⟨h, _⟩ | ⟨a', ns', ext, L, h, rfl, hf1, hL, hext, hbl, hkp⟩)
      · rw [E0.out] at h; cases h
      rw [E0.out] at h
      simp only [Option.some.injEq, Prod.mk.injEq] at h
      obtain ⟨rfl, rfl⟩ := h
      obtain ⟨bs1, hbs⟩ : ∃ bs1, bs1 = bs ++ ext := ⟨_, rfl⟩
      rw [← hbs] at hf1 hL
      have HBS := hid hbs
      clear hbs
      have C2 := H (a1 + 1) (a1 + 1) n1 bs1 w1 (by omega) hf1 (by omega) (by omega) (by omega)
      go_wp2_with fail
      refine C2.mono ?_
      rintro e w2 (⟨h, _⟩ | ⟨a', ns', ext2, R, h, rfl, hf2, hR, hext2, hbl2, hkp2⟩)
      · rw [E3.out] at h; cases h
      rw [E3.out] at h
      simp only [Option.some.injEq, Prod.mk.injEq] at h
      obtain ⟨rfl, rfl⟩ := h
      go_wp2_with fail
      go_ret3
      exact Or.inl ⟨e2.out, rfl, (((Below.refl F w).alloc (by omega) _).trans hbl).trans hbl2⟩
set_option maxHeartbeats 1600000 in
set_option maxRecDepth 100000 in
theorem rparse_two_end (k F : Nat) (s : ByteArray) (hs : s.size ≤ 24) (H : RparseAt k F s) (a : Nat) (ns : List Nd) (bs : List Nat) (w : World) (hf : Fm w F ns bs) (hk : s.size < a + (k + 1)) (hn : ns.length ≤ a) (hb : bt s a = 40) (a1 a2 : Nat) (n1 n2 : List Nd) (e0 : ps k s (a + 1) ns = some (a1, n1)) (b4 : twoB (bt s a1) = true) (e3 : ps k s (a1 + 1) n1 = some (a2, n2)) (b5 : ¬ bt s a2 = 41) (hl : ¬ a2 < s.size) : Calls Try.prog 91 #[.pointer (some ⟨F, 0, none⟩), .string s, .int .i64 a] w (Rff (ps (k + 1) s a ns) F a bs w) := by
    have hlt := bt_lt (s := s) (i := a) (by omega)
    have hlt1 := bt_lt (two_ne b4)
    have hd : decide ((s.size : Int) ≤ (a1 : Int)) = false := by simp; omega
    have e1 := hid (ps_two (k := k) (ns := ns) hb)
    have hb2 : (s[a]'hlt).toNat = 40 := (bt_in hlt).symm.trans hb
    have hb4 : (s[a1]'hlt1).toNat = bt s a1 := (bt_in hlt1).symm
    have hF := hf.ltF
    have g1 := ps_grows k s _ ns a1 n1 e0
    have g2 := ps_grows k s _ n1 a2 n2 e3
    have C := fun W (h : Fm W F ns bs) => H (a + 1) (a + 1) ns bs W (by omega) h (by omega) (by omega) (by omega)
    have e2 : Hid (ps (k + 1) s a ns = none) := hid (by rw [e1.out]; simp [ps2, e0, b4, e3, b5])
    have E0 := hid e0
    have E3 := hid e3
    have hB := two_is b4
    have hb5 : a2 < s.size → bt s a2 ≠ 41 := fun _ => b5
    clear e0 hb b4 e3 b5
    generalize bt s a1 = b at *
    have hd2 : decide ((s.size : Int) ≤ (a2 : Int)) = true := by simp; omega
    clear hb5
    rcases hB with rfl | rfl | rfl | rfl
    all_goals
      go_enter Try.func91, Try.ntmps91
      go_wp2_with fail
      refine (C _ (hf.alloc _)).mono ?_
      rintro e w1 (⟨h, _⟩ | ⟨a', ns', ext, L, h, rfl, hf1, hL, hext, hbl, hkp⟩)
      · rw [E0.out] at h; cases h
      rw [E0.out] at h
      simp only [Option.some.injEq, Prod.mk.injEq] at h
      obtain ⟨rfl, rfl⟩ := h
      obtain ⟨bs1, hbs⟩ : ∃ bs1, bs1 = bs ++ ext := ⟨_, rfl⟩
      rw [← hbs] at hf1 hL
      have HBS := hid hbs
      clear hbs
      have C2 := H (a1 + 1) (a1 + 1) n1 bs1 w1 (by omega) hf1 (by omega) (by omega) (by omega)
      go_wp2_with fail
      refine C2.mono ?_
      rintro e w2 (⟨h, _⟩ | ⟨a', ns', ext2, R, h, rfl, hf2, hR, hext2, hbl2, hkp2⟩)
      · rw [E3.out] at h; cases h
      rw [E3.out] at h
      simp only [Option.some.injEq, Prod.mk.injEq] at h
      obtain ⟨rfl, rfl⟩ := h
      go_wp2_with fail
      go_ret3
      exact Or.inl ⟨e2.out, rfl, (((Below.refl F w).alloc (by omega) _).trans hbl).trans hbl2⟩

set_option maxHeartbeats 1600000 in
set_option maxRecDepth 100000 in
theorem rparse_two_yes (k F : Nat) (s : ByteArray) (hs : s.size ≤ 24) (H : RparseAt k F s) (a : Nat) (ns : List Nd) (bs : List Nat) (w : World) (hf : Fm w F ns bs) (hk : s.size < a + (k + 1)) (hn : ns.length ≤ a) (hb : bt s a = 40) (a1 a2 : Nat) (n1 n2 : List Nd) (e0 : ps k s (a + 1) ns = some (a1, n1)) (b4 : twoB (bt s a1) = true) (e3 : ps k s (a1 + 1) n1 = some (a2, n2)) (b5 : bt s a2 = 41) : Calls Try.prog 91 #[.pointer (some ⟨F, 0, none⟩), .string s, .int .i64 a] w (Rff (ps (k + 1) s a ns) F a bs w) := by
    have hlt := bt_lt (s := s) (i := a) (by omega)
    have hlt1 := bt_lt (two_ne b4)
    have hlt2 := bt_lt (s := s) (i := a2) (by omega)
    have hd : decide ((s.size : Int) ≤ (a1 : Int)) = false := by simp; omega
    have hd2 : decide ((s.size : Int) ≤ (a2 : Int)) = false := by simp; omega
    have e1 := hid (ps_two (k := k) (ns := ns) hb)
    have hb2 : (s[a]'hlt).toNat = 40 := (bt_in hlt).symm.trans hb
    have hb4 : (s[a1]'hlt1).toNat = bt s a1 := (bt_in hlt1).symm
    have hb5 : (s[a2]'hlt2).toNat = 41 := (bt_in hlt2).symm.trans b5
    have hF := hf.ltF
    have g1 := ps_grows k s _ ns a1 n1 e0
    have g2 := ps_grows k s _ n1 a2 n2 e3
    have C := fun W (h : Fm W F ns bs) => H (a + 1) (a + 1) ns bs W (by omega) h (by omega) (by omega) (by omega)
    have e2 : Hid (ps (k + 1) s a ns = some (a2 + 1, n2 ++ [⟨bt s a1, n1.length - 1, n2.length - 1⟩])) := hid (by rw [e1.out]; simp [ps2, e0, b4, e3, b5])
    have E0 := hid e0
    have E3 := hid e3
    have hB := two_is b4
    have HB := hid b4
    obtain ⟨i0, hi, hz0, hz1, hz2⟩ := info_parts Try.infoPartPtr
    clear e0 hb b4 e3 b5
    generalize bt s a1 = b at *
    rcases hB with rfl | rfl | rfl | rfl
    all_goals
      go_enter Try.func91, Try.ntmps91
      go_wp2_with fail
      refine (C _ (hf.alloc _)).mono ?_
      rintro e w1 (⟨h, _⟩ | ⟨a', ns', ext, L, h, rfl, hf1, hL, hext, hbl, hkp⟩)
      · rw [E0.out] at h; cases h
      rw [E0.out] at h
      simp only [Option.some.injEq, Prod.mk.injEq] at h
      obtain ⟨rfl, rfl⟩ := h
      have hP0 := hkp w.heap.size _ _ (heap_alloc_new _ _) (by decide) (by omega)
      have hsz : w.heap.size + 1 ≤ w1.heap.size := by have := hbl.size; simp at this; omega
      have hPb0 : w.heap.size ∉ bs ++ ext := fun hm => (List.mem_append.1 hm).elim (fun h => by have := (hf.lt _ h).1; omega) (fun h => by have := hext _ h; simp at this; omega)
      obtain ⟨bs1, hbs⟩ : ∃ bs1, bs1 = bs ++ ext := ⟨_, rfl⟩
      rw [← hbs] at hf1 hL hPb0
      have HBS := hid hbs
      clear hbs
      have C2 := H (a1 + 1) (a1 + 1) n1 bs1 w1 (by omega) hf1 (by omega) (by omega) (by omega)
      go_wp2_with fail
      refine C2.mono ?_
      rintro e w2 (⟨h, _⟩ | ⟨a', ns', ext2, R, h, rfl, hf2, hR, hext2, hbl2, hkp2⟩)
      · rw [E3.out] at h; cases h
      rw [E3.out] at h
      simp only [Option.some.injEq, Prod.mk.injEq] at h
      obtain ⟨rfl, rfl⟩ := h
      have hP := hkp2 w.heap.size _ _ hP0 (by decide) (by omega)
      have hPb : w.heap.size ∉ bs1 ++ ext2 := fun hm => (List.mem_append.1 hm).elim hPb0 (fun h => by have := hext2 _ h; omega)
      have hL2 : (bs1 ++ ext2)[n1.length - 1]? = some L := by rw [List.getElem?_append_left (by rw [hf1.len]; omega)]; exact hL
      obtain ⟨bs2, hbs2⟩ : ∃ bs2, bs2 = bs1 ++ ext2 := ⟨_, rfl⟩
      rw [← hbs2] at hf2 hR hPb hL2
      have HBS2 := hid hbs2
      clear hbs2 hP0
      obtain ⟨hfW, hPW, hoW⟩ := two_part hf2 hP hPb (by omega) hL2 hR HB.out
      obtain ⟨p0, p1, p2, p3⟩ := part_cells hP
      have q : ∀ j, w2.frozen? ⟨w.heap.size, j, none⟩ = false := fun j => frozen_of_row _ _ _ _ _ hP
      obtain ⟨ao, cap, c0, _⟩ := hf2.c0
      have f0 := hf2.f0
      have hsz2 : w1.heap.size ≤ w2.heap.size := hbl2.size
      have hF2 := hf2.ltF
      have HW := hid hfW
      have own := (hf2.own c0).2
      have ownW := hid (hoW _ _ _ own)
      have HPW := hid hPW
      have hlen := hf2.len
      clear hf1 hf2 hP hfW hPW own hL hL2 hR hoW
      go_wp2_with (at_builtin; refine wpList_append_own _ rfl (.tmp 160) (.tmp 162) 107 rfl (F + 1) 175 i0 (.pointer none) 1 8 Try.underlying107 hi hz0 hz1 hz2 rfl (by decide) _ _ _ rfl (ownW.out.alloc _) ⟨w2.heap.size, 0, none⟩ 1 1 [ptrTo1 w.heap.size] rfl rfl ?c1 ?c2 ?c3 ?c4 ?c5 ?_)
      case c1 => intro j u hj; match j, hj with | 0, hj => simp at hj; subst hj; simp [Addr.add, ptrTo1, World.cell?_alloc_here]
      case c2 => intro u hu; simp at hu; subst hu; rfl
      case c3 => unfold maxLen; omega
      case c4 => omega
      case c5 => simp; omega
      intro v' w3 hown hgrow _
      obtain ⟨ao', cap', hv, hf3, hk3, hb3⟩ := fin_push HW.out ownW.out rfl rfl (P := w.heap.size) (by omega) ⟨_, n1.length - 1, n2.length - 1⟩ (fun _ => by show n1.length - 1 < n2.length; omega) (fun _ => by show n2.length - 1 < n2.length; omega) HPW.out hown hgrow
      subst hv
      have ne : ∀ j, (⟨w.heap.size, j, none⟩ : Addr) ≠ ⟨F, 0, none⟩ := fun j e => by have := congrArg Addr.block e; simp at this; omega
      have k0 : w3.cell? ⟨F, 0, none⟩ = some (.slice ao n2.length cap) := (hb3.cell (p := ⟨F, 0, none⟩) (Nat.lt_succ_self _)).trans (by rw [World.cell?_setCell_other _ _ _ _ (ne _), World.cell?_setCell_other _ _ _ _ (ne _), World.cell?_setCell_other _ _ _ _ (ne _), World.cell?_setCell_other _ _ _ _ (ne _)]; exact c0)
      have g0 : w3.frozen? ⟨F, 0, none⟩ = false := (hb3.frozen (p := ⟨F, 0, none⟩) (Nat.lt_succ_self _)).trans (by rw [World.frozen?_setCell, World.frozen?_setCell, World.frozen?_setCell, World.frozen?_setCell]; exact f0)
      have HF := hid hf3
      have bP : F ≤ w.heap.size := by omega
      have B1 := hid (((((((((Below.refl F w).alloc (by omega) _).trans hbl).trans hbl2).setCell (p := ⟨w.heap.size, 0, none⟩) bP _).setCell (p := ⟨w.heap.size, 1, none⟩) bP _).setCell (p := ⟨w.heap.size, 2, none⟩) bP _).setCell (p := ⟨w.heap.size, 3, none⟩) bP _).trans (hb3.mono (Nat.le_succ F)) |>.setCell (p := ⟨F, 0, none⟩) (Nat.le_refl _) (.slice ao' (n2.length + 1) cap'))
      have K1 := hid ((((((((Kp.alloc F w _).trans hkp).trans hkp2).set (P := w.heap.size) (Or.inl (Nat.le_refl _)) 0 _).set (P := w.heap.size) (Or.inl (Nat.le_refl _)) 1 _).set (P := w.heap.size) (Or.inl (Nat.le_refl _)) 2 _).set (P := w.heap.size) (Or.inl (Nat.le_refl _)) 3 _).trans hk3 |>.set (P := F) (Or.inr rfl) 0 (.slice ao' (n2.length + 1) cap'))
      clear hf3 hown hgrow hb3 hk3 c0 f0 p0 p1 p2 p3 q ne
      go_wp2
      go_ret3
      refine Or.inr ⟨_, _, ext ++ (ext2 ++ [w.heap.size]), w.heap.size, e2.out, rfl, ?_, ?_, ?_, B1.out, K1.out⟩
      · rw [← List.append_assoc, ← List.append_assoc, ← HBS.out, ← HBS2.out]; exact HF.out
      · rw [← List.append_assoc, ← List.append_assoc, ← HBS.out, ← HBS2.out]; exact last_snoc hlen
      · intro b hb
        rcases List.mem_append.1 hb with hb | hb
        · have := hext _ hb; simp at this; omega
        · rcases List.mem_append.1 hb with hb | hb
          · have := hext2 _ hb; omega
          · simp at hb; omega

end Go.Proofs.Ytjagijohfkffiab
