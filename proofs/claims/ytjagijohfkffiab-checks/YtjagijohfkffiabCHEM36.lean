import Derived.Test.YtjagijohfkffiabCHEM34
import Derived.Test.YtjagijohfkffiabCHEM35
import Derived.BigQuiet

/- The walk of the reference's follows. (By gen_fol.py.) -/
namespace Go.Proofs.Ytjagijohfkffiab
open Go.RowKit
set_option linter.unusedVariables false

theorem sfol_48 (S T : Nat → Bool) {k : Nat} {nd : Nd} (h : nd.op = 48) : folN nd k S T = true := by simp [folN, h]
theorem sfol_49 (S T : Nat → Bool) {k : Nat} {nd : Nd} (h : nd.op = 49) : folN nd k S T = true := by simp [folN, h]
theorem sfol_112 (S T : Nat → Bool) {k : Nat} {nd : Nd} (h : nd.op = 112) : folN nd k S T = true := by simp [folN, h]
theorem sfol_113 (S T : Nat → Bool) {k : Nat} {nd : Nd} (h : nd.op = 113) : folN nd k S T = true := by simp [folN, h]
theorem sfol_114 (S T : Nat → Bool) {k : Nat} {nd : Nd} (h : nd.op = 114) : folN nd k S T = true := by simp [folN, h]
theorem sfol_33 (S T : Nat → Bool) {k : Nat} {nd : Nd} (h : nd.op = 33) : folN nd k S T = true := by simp [folN, h]
theorem sfol_88 (S T : Nat → Bool) {k : Nat} {nd : Nd} (h : nd.op = 88) : folN nd k S T = (S k == T nd.l) := by simp [folN, h]
theorem sfol_70 (S T : Nat → Bool) {k : Nat} {nd : Nd} (h : nd.op = 70) : folN nd k S T = (S k == (S nd.l || T k)) := by simp [folN, h]
theorem sfol_71 (S T : Nat → Bool) {k : Nat} {nd : Nd} (h : nd.op = 71) : folN nd k S T = (S k == (S nd.l && T k)) := by simp [folN, h]
theorem sfol_38 (S T : Nat → Bool) {k : Nat} {nd : Nd} (h : nd.op = 38) : folN nd k S T = true := by simp [folN, h]
theorem sfol_124 (S T : Nat → Bool) {k : Nat} {nd : Nd} (h : nd.op = 124) : folN nd k S T = true := by simp [folN, h]
theorem sfol_85 (S T : Nat → Bool) {k : Nat} {nd : Nd} (h : nd.op = 85) : folN nd k S T = (S k == (S nd.r || (S nd.l && T k))) := by simp [folN, h]
theorem sfol_82 (S T : Nat → Bool) {k : Nat} {nd : Nd} (h : nd.op = 82) : folN nd k S T = (S k == (S nd.r && (S nd.l || T k))) := by simp [folN, h]

set_option maxRecDepth 1000000 in
theorem fol_frame {a : Act} (h0 : a.defers = []) (h1 : a.tmps.size = 165) : ∃ u : Nat → Value, (∀ i, u i = a.tmps.getD i undef) ∧ a = ⟨#[u 0, u 1, u 2, u 3, u 4, u 5, u 6, u 7, u 8, u 9, u 10, u 11, u 12, u 13, u 14, u 15, u 16, u 17, u 18, u 19, u 20, u 21, u 22, u 23, u 24, u 25, u 26, u 27, u 28, u 29, u 30, u 31, u 32, u 33, u 34, u 35, u 36, u 37, u 38, u 39, u 40, u 41, u 42, u 43, u 44, u 45, u 46, u 47, u 48, u 49, u 50, u 51, u 52, u 53, u 54, u 55, u 56, u 57, u 58, u 59, u 60, u 61, u 62, u 63, u 64, u 65, u 66, u 67, u 68, u 69, u 70, u 71, u 72, u 73, u 74, u 75, u 76, u 77, u 78, u 79, u 80, u 81, u 82, u 83, u 84, u 85, u 86, u 87, u 88, u 89, u 90, u 91, u 92, u 93, u 94, u 95, u 96, u 97, u 98, u 99, u 100, u 101, u 102, u 103, u 104, u 105, u 106, u 107, u 108, u 109, u 110, u 111, u 112, u 113, u 114, u 115, u 116, u 117, u 118, u 119, u 120, u 121, u 122, u 123, u 124, u 125, u 126, u 127, u 128, u 129, u 130, u 131, u 132, u 133, u 134, u 135, u 136, u 137, u 138, u 139, u 140, u 141, u 142, u 143, u 144, u 145, u 146, u 147, u 148, u 149, u 150, u 151, u 152, u 153, u 154, u 155, u 156, u 157, u 158, u 159, u 160, u 161, u 162, u 163, u 164], []⟩ := by
  refine ⟨fun i => a.tmps.getD i undef, fun _ => rfl, ?_⟩
  obtain ⟨t, d⟩ := a
  simp only at h0 h1
  subst h0
  have := arr_range h1
  exact congrArg (fun x => (⟨x, []⟩ : Act)) this

section
variable (F gp cap g h scap tcap : Nat) (ns : List Nd) (bs : List Nat) (S T : Nat → Bool) (w : World)

def FolP (j : Nat) : Prop := ∀ k, k < j → folN (ndAt ns k) k S T = true

theorem fol_loop (hf : FR w F gp cap ns bs) (hs : Rb w g ns.length S) (ht : Rb w h ns.length T) (hg : Good ns) (hc : ns.length ≤ scap) (hd : ns.length ≤ tcap) (Q0 : Exit → Act → World → Prop)
    (hx : folB ns S T = true → ∀ a' w'', a'.defers = [] → a'.tmps.size = 165 → (∃ m, w'' = w.drewN m) → Q0 (.exit 0) a' w'')
    (hr : folB ns S T = false → ∀ a' w'', a'.defers = [] → a'.tmps.size = 165 → a'.tmps.getD 6 undef = .bool false → (∃ m, w'' = w.drewN m) → Q0 .ret a' w'')
    (a : Act) (w' : World) (hI : GI 165 [(0, .pointer (some ⟨F, 0, none⟩)), (1, .slice (some ⟨g, 0, none⟩) ns.length scap), (2, .slice (some ⟨h, 0, none⟩) ns.length tcap)] 7 ns.length (FolP ns S T) w a w') : Code.wp Try.prog (Code.loop (bodyOf Try.f121)) Q0 a w' := by
  refine wp_loop (GI 165 [(0, .pointer (some ⟨F, 0, none⟩)), (1, .slice (some ⟨g, 0, none⟩) ns.length scap), (2, .slice (some ⟨h, 0, none⟩) ns.length tcap)] 7 ns.length (FolP ns S T) w) (GM 7 ns.length) hI ?_
  intro a w1 hI
  obtain ⟨d0, d1, d2, j, hj, d5, hP, m, rfl⟩ := hI
  have e0 := d2 _ (List.mem_cons_self ..)
  have e1 := d2 _ (List.mem_cons_of_mem _ (List.mem_cons_self ..))
  have e2 := d2 _ (List.mem_cons_of_mem _ (List.mem_cons_of_mem _ (List.mem_cons_self ..)))
  have hM : GM 7 ns.length a (w.drewN m) = ns.length - j := by unfold GM; rw [d5]; simp [intOf]
  rw [hM]
  obtain ⟨u, hu, ea⟩ := fol_frame d0 d1
  simp only at e0 e1 e2
  rw [← hu] at e0 e1 e2 d5
  rw [ea, e0, e1, e2, d5]
  have hle := hg.le
  have k0 := hf.c0
  have kc := hf.hcap
  by_cases hlt : j < ns.length
  · have c1 := hf.ptr j hlt
    have c2 := hf.op j hlt
    have sj := hs.cell j hlt
    have tj := ht.cell j hlt
    have hcl := hg.wf j _ (ndAt_some hlt)
    have HLN : ∀ k, k < j → w.cell? ⟨bAt bs k, 3, none⟩ = some (.int .i64 k) ∧ w.cell? ⟨g, k, none⟩ = some (.bool (S k)) ∧ w.cell? ⟨h, k, none⟩ = some (.bool (T k)) := fun k hk => ⟨hf.nn k (by omega), hs.cell k (by omega), ht.cell k (by omega)⟩
    have HY : folN (ndAt ns j) j S T = true → FolP ns S T (j + 1) := fun h k hk => by
      by_cases e : k < j
      · exact hP k e
      · rw [show k = j by omega]; exact h
    have HN : folN (ndAt ns j) j S T = false → ∀ a' w'', a'.defers = [] → a'.tmps.size = 165 → a'.tmps.getD 6 undef = .bool false → (∃ m, w'' = w.drewN m) → Q0 .ret a' w'' := fun h => hr (allN_no hlt h)
    have lp := hf.lp j hlt
    have rp := hf.rp j hlt
    rcases hcl with ⟨hop, _, _⟩ | ⟨hop, hl, _⟩ | ⟨hop, hl, hr2⟩
    · rcases leaf_is hop with e | e | e | e | e
      · rw [sfol_48 S T e] at HY HN
        rw [e] at c2
        exact fol_round_48 F gp cap g h scap tcap ns.length j (bAt bs j) u (FolP ns S T) Q0 w m hc hd hle kc hlt k0 c1 c2 (hid (HY rfl))
      · rw [sfol_49 S T e] at HY HN
        rw [e] at c2
        exact fol_round_49 F gp cap g h scap tcap ns.length j (bAt bs j) u (FolP ns S T) Q0 w m hc hd hle kc hlt k0 c1 c2 (hid (HY rfl))
      · rw [sfol_112 S T e] at HY HN
        rw [e] at c2
        exact fol_round_112 F gp cap g h scap tcap ns.length j (bAt bs j) u (FolP ns S T) Q0 w m hc hd hle kc hlt k0 c1 c2 (hid (HY rfl))
      · rw [sfol_113 S T e] at HY HN
        rw [e] at c2
        exact fol_round_113 F gp cap g h scap tcap ns.length j (bAt bs j) u (FolP ns S T) Q0 w m hc hd hle kc hlt k0 c1 c2 (hid (HY rfl))
      · rw [sfol_114 S T e] at HY HN
        rw [e] at c2
        exact fol_round_114 F gp cap g h scap tcap ns.length j (bAt bs j) u (FolP ns S T) Q0 w m hc hd hle kc hlt k0 c1 c2 (hid (HY rfl))
    · rcases one_is hop with e | e | e | e
      · rw [sfol_33 S T e] at HY HN
        rw [e] at c2
        exact fol_round_33 F gp cap g h scap tcap ns.length j (bAt bs j) u (FolP ns S T) Q0 w m hc hd hle kc hlt k0 c1 c2 (hid (HY rfl))
      · rw [sfol_88 S T e] at HY HN
        rw [e] at c2
        exact fol_round_88 F gp cap g h scap tcap ns.length j (bAt bs j) (ndAt ns j).l (bAt bs (ndAt ns j).l) (S j) (S (ndAt ns j).l) (T (ndAt ns j).l) (T j) u (FolP ns S T) Q0 w m hc hd hle kc hlt hl k0 c1 c2 sj tj (lp (by rw [e]; rfl)) (HLN _ hl).1 (HLN _ hl).2.1 (HLN _ hl).2.2 (hid HY) (hid HN)
      · rw [sfol_70 S T e] at HY HN
        rw [e] at c2
        exact fol_round_70 F gp cap g h scap tcap ns.length j (bAt bs j) (ndAt ns j).l (bAt bs (ndAt ns j).l) (S j) (S (ndAt ns j).l) (T (ndAt ns j).l) (T j) u (FolP ns S T) Q0 w m hc hd hle kc hlt hl k0 c1 c2 sj tj (lp (by rw [e]; rfl)) (HLN _ hl).1 (HLN _ hl).2.1 (HLN _ hl).2.2 (hid HY) (hid HN)
      · rw [sfol_71 S T e] at HY HN
        rw [e] at c2
        exact fol_round_71 F gp cap g h scap tcap ns.length j (bAt bs j) (ndAt ns j).l (bAt bs (ndAt ns j).l) (S j) (S (ndAt ns j).l) (T (ndAt ns j).l) (T j) u (FolP ns S T) Q0 w m hc hd hle kc hlt hl k0 c1 c2 sj tj (lp (by rw [e]; rfl)) (HLN _ hl).1 (HLN _ hl).2.1 (HLN _ hl).2.2 (hid HY) (hid HN)
    · rcases two_is hop with e | e | e | e
      · rw [sfol_38 S T e] at HY HN
        rw [e] at c2
        exact fol_round_38 F gp cap g h scap tcap ns.length j (bAt bs j) u (FolP ns S T) Q0 w m hc hd hle kc hlt k0 c1 c2 (hid (HY rfl))
      · rw [sfol_124 S T e] at HY HN
        rw [e] at c2
        exact fol_round_124 F gp cap g h scap tcap ns.length j (bAt bs j) u (FolP ns S T) Q0 w m hc hd hle kc hlt k0 c1 c2 (hid (HY rfl))
      · rw [sfol_85 S T e] at HY HN
        rw [e] at c2
        exact fol_round_85 F gp cap g h scap tcap ns.length j (bAt bs j) (ndAt ns j).l (bAt bs (ndAt ns j).l) (ndAt ns j).r (bAt bs (ndAt ns j).r) (S j) (S (ndAt ns j).l) (T (ndAt ns j).l) (T j) (S (ndAt ns j).r) u (FolP ns S T) Q0 w m hc hd hle kc hlt hl hr2 k0 c1 c2 sj tj (lp (by rw [e]; rfl)) (HLN _ hl).1 (HLN _ hl).2.1 (HLN _ hl).2.2 (rp (by rw [e]; rfl)) (HLN _ hr2).1 (HLN _ hr2).2.1 (hid HY) (hid HN)
      · rw [sfol_82 S T e] at HY HN
        rw [e] at c2
        exact fol_round_82 F gp cap g h scap tcap ns.length j (bAt bs j) (ndAt ns j).l (bAt bs (ndAt ns j).l) (ndAt ns j).r (bAt bs (ndAt ns j).r) (S j) (S (ndAt ns j).l) (T (ndAt ns j).l) (T j) (S (ndAt ns j).r) u (FolP ns S T) Q0 w m hc hd hle kc hlt hl hr2 k0 c1 c2 sj tj (lp (by rw [e]; rfl)) (HLN _ hl).1 (HLN _ hl).2.1 (HLN _ hl).2.2 (rp (by rw [e]; rfl)) (HLN _ hr2).1 (HLN _ hr2).2.1 (hid HY) (hid HN)
  · obtain rfl : j = ns.length := by omega
    exact fol_end F gp cap g h scap tcap ns.length u _ Q0 w m hle kc k0 (hx (allN_iff.2 hP))

set_option maxHeartbeats 8000000 in
set_option maxRecDepth 1000000 in
theorem follows_set (hf : FR w F gp cap ns bs) (hs : Rb w g ns.length S) (ht : Rb w h ns.length T) (hg : Good ns) (hc : ns.length ≤ scap) (hd : ns.length ≤ tcap) :
    Calls Try.prog 121 #[.pointer (some ⟨F, 0, none⟩), .slice (some ⟨g, 0, none⟩) ns.length scap, .slice (some ⟨h, 0, none⟩) ns.length tcap] w fun e w' => e = .returned (.bool (folB ns S T)) ∧ ∃ m, w' = w.drewN m := by
  have L := fol_loop F gp cap g h scap tcap ns bs S T w hf hs ht hg hc hd
  have HL := hid L
  clear L hf hs ht hg hc hd
  generalize ns.length = n at *
  go_enter Try.func121, Try.ntmps121
  go_wp2_with fail
  refine HL.out _ ?_ ?_ _ _ ?_
  · intro h a' w'' d0 d1 hm
    obtain ⟨m, rfl⟩ := hm
    obtain ⟨u, _, rfl⟩ := fol_frame d0 d1
    have H := hid h
    clear h HL d0 d1
    go_wp2_with fail
    go_ret
    exact ⟨by rw [H.out]; rfl, m, rfl⟩
  · intro h a' w'' d0 d1 h4 hm
    obtain ⟨m, rfl⟩ := hm
    obtain ⟨u, _, rfl⟩ := fol_frame d0 d1
    have H := hid h
    have h5 : u 6 = .bool false := h4
    have H5 := hid h5
    clear h HL d0 d1 h4 h5
    go_wp2_with fail
    go_ret
    exact ⟨by rw [H.out]; exact congrArg Ending.returned H5.out, m, rfl⟩
  · exact ⟨rfl, rfl, by simp, 0, Nat.zero_le _, rfl, fun k hk => by omega, 0, rfl⟩
end

end Go.Proofs.Ytjagijohfkffiab

/- The reference's nets in memory; the walk of net. -/
namespace Go.Proofs.Ytjagijohfkffiab
open Go.RowKit
set_option linter.unusedVariables false

theorem Try.infoIntE : (Try.prog.info? 3).map (fun i => (i.zero, i.size, i.bytes)) = some (some (.int .i64 0), 1, 8) := by kernel_rfl
theorem Try.infoIntL : (Try.prog.info? 22).map (fun i => (i.zero, i.size, i.bytes)) = some (some (.slice none 0 0), 1, 24) := by kernel_rfl
theorem Try.infoBoolL : (Try.prog.info? 104).map (fun i => (i.zero, i.size, i.bytes)) = some (some (.slice none 0 0), 1, 24) := by kernel_rfl

def nInts (l : List Nat) : List Value := l.map fun x => Value.int .i64 (x : Nat)

/-- The numbers of a list in memory. -/
def NR (w : World) (v : Value) (l : List Nat) : Prop :=
  ∃ ao cap, v = .slice ao l.length cap ∧ l.length ≤ cap ∧ (0 < l.length → ∃ g, ao = some ⟨g, 0, none⟩ ∧ g < w.heap.size ∧ ∀ i, i < l.length → w.cell? ⟨g, i, none⟩ = some (.int .i64 (atN l i : Nat)))

theorem NR.below {w w' : World} {v : Value} {l : List Nat} (h : NR w v l) (hb : Below w.heap.size w w') : NR w' v l := by
  obtain ⟨ao, cap, e, hc, h⟩ := h
  refine ⟨ao, cap, e, hc, fun h0 => ?_⟩
  obtain ⟨g, e2, hg, hcell⟩ := h h0
  exact ⟨g, e2, Nat.lt_of_lt_of_le hg hb.size, fun i hi => (hb.cell (p := ⟨g, i, none⟩) hg).trans (hcell i hi)⟩

theorem own_nr {w : World} {B : Nat} {v : Value} {l : List Nat} (h : w.ownsRow B 3 1 v l.length (nInts l)) : NR w v l := by
  rcases h.2 with ⟨rfl, h0⟩ | ⟨g, cap, cur, rfl, hb, hh, hc, hm, _⟩
  · exact ⟨none, 0, by rw [h0], by omega, fun h => by omega⟩
  · refine ⟨_, cap, rfl, hc, fun _ => ⟨g, rfl, heap_lt hh, fun i hi => ?_⟩⟩
    rw [h.cellAt i (by omega)]
    simp [nInts, atN, List.getD, List.getElem?_eq_getElem hi]

/-- A slice of such lists. -/
def NRs (w : World) (v : Value) (N : Nat) (to : Nat → List Nat) : Prop :=
  ∃ ao cap, v = .slice ao N cap ∧ N ≤ cap ∧ (0 < N → ∃ g, ao = some ⟨g, 0, none⟩ ∧ g < w.heap.size ∧ ∀ i, i < N → ∃ r, w.cell? ⟨g, i, none⟩ = some r ∧ NR w r (to i))
/-- A slice of rows of bools. -/
def BRs (w : World) (v : Value) (K N : Nat) (kp : Nat → Nat → Bool) : Prop :=
  ∃ ao cap, v = .slice ao K cap ∧ K ≤ cap ∧ (0 < K → ∃ g, ao = some ⟨g, 0, none⟩ ∧ g < w.heap.size ∧ ∀ i, i < K → ∃ b, w.cell? ⟨g, i, none⟩ = some (.slice (some ⟨b, 0, none⟩) N N) ∧ Rb w b N (kp i))

/-- The same, with room behind each row. -/
def BRc (w : World) (v : Value) (K N : Nat) (kp : Nat → Nat → Bool) : Prop :=
  ∃ ao cap, v = .slice ao K cap ∧ K ≤ cap ∧ (0 < K → ∃ g, ao = some ⟨g, 0, none⟩ ∧ g < w.heap.size ∧ ∀ i, i < K → ∃ b c, w.cell? ⟨g, i, none⟩ = some (.slice (some ⟨b, 0, none⟩) N c) ∧ N ≤ c ∧ Rb w b N (kp i))
theorem BRs.brc {w : World} {v : Value} {K N : Nat} {kp : Nat → Nat → Bool} (h : BRs w v K N kp) : BRc w v K N kp := by
  obtain ⟨ao, cap, e, hc, h⟩ := h
  refine ⟨ao, cap, e, hc, fun h0 => ?_⟩
  obtain ⟨g, e2, hg, hcell⟩ := h h0
  refine ⟨g, e2, hg, fun i hi => ?_⟩
  obtain ⟨b, h1, h2⟩ := hcell i hi
  exact ⟨b, N, h1, Nat.le_refl _, h2⟩
theorem BRc.below {w w' : World} {v : Value} {K N : Nat} {kp : Nat → Nat → Bool} (h : BRc w v K N kp) (hb : Below w.heap.size w w') : BRc w' v K N kp := by
  obtain ⟨ao, cap, e, hc, h⟩ := h
  refine ⟨ao, cap, e, hc, fun h0 => ?_⟩
  obtain ⟨g, e2, hg, hcell⟩ := h h0
  refine ⟨g, e2, Nat.lt_of_lt_of_le hg hb.size, fun i hi => ?_⟩
  obtain ⟨b, c, hr, hk, hn⟩ := hcell i hi
  exact ⟨b, c, (hb.cell (p := ⟨g, i, none⟩) hg).trans hr, hk, hn.below hb⟩

theorem NRs.below {w w' : World} {v : Value} {N : Nat} {to : Nat → List Nat} (h : NRs w v N to) (hb : Below w.heap.size w w') : NRs w' v N to := by
  obtain ⟨ao, cap, e, hc, h⟩ := h
  refine ⟨ao, cap, e, hc, fun h0 => ?_⟩
  obtain ⟨g, e2, hg, hcell⟩ := h h0
  refine ⟨g, e2, Nat.lt_of_lt_of_le hg hb.size, fun i hi => ?_⟩
  obtain ⟨r, hr, hn⟩ := hcell i hi
  exact ⟨r, (hb.cell (p := ⟨g, i, none⟩) hg).trans hr, hn.below hb⟩
theorem BRs.below {w w' : World} {v : Value} {K N : Nat} {kp : Nat → Nat → Bool} (h : BRs w v K N kp) (hb : Below w.heap.size w w') : BRs w' v K N kp := by
  obtain ⟨ao, cap, e, hc, h⟩ := h
  refine ⟨ao, cap, e, hc, fun h0 => ?_⟩
  obtain ⟨g, e2, hg, hcell⟩ := h h0
  refine ⟨g, e2, Nat.lt_of_lt_of_le hg hb.size, fun i hi => ?_⟩
  obtain ⟨b, hr, hn⟩ := hcell i hi
  exact ⟨b, (hb.cell (p := ⟨g, i, none⟩) hg).trans hr, hn.below hb⟩

/-- A net at block P: N places, where one goes, which promises are kept where. -/
structure NetM (w : World) (P N : Nat) (to : Nat → List Nat) (K : Nat) (kp : Nat → Nat → Bool) : Prop where
  lt : P < w.heap.size
  c0 : ∃ v, w.cell? ⟨P, 0, none⟩ = some v ∧ NRs w v N to
  c1 : ∃ v, w.cell? ⟨P, 1, none⟩ = some v ∧ BRc w v K N kp

theorem NetM.below {w w' : World} {P N K : Nat} {to : Nat → List Nat} {kp : Nat → Nat → Bool} (h : NetM w P N to K kp) (hb : Below w.heap.size w w') : NetM w' P N to K kp := by
  obtain ⟨v0, a0, b0⟩ := h.c0
  obtain ⟨v1, a1, b1⟩ := h.c1
  exact ⟨Nat.lt_of_lt_of_le h.lt hb.size, ⟨v0, (hb.cell (p := ⟨P, 0, none⟩) h.lt).trans a0, b0.below hb⟩, ⟨v1, (hb.cell (p := ⟨P, 1, none⟩) h.lt).trans a1, b1.below hb⟩⟩

/-- Rows that a call has made: an outer one of elements of type e, each a row of the call's own. -/
structure Rws (w : World) (B e e' : Nat) (v : Value) (j : Nat) (V : Nat → Value) (xs : Nat → List Value) : Prop where
  out : w.ownsRow B e 1 v j ((List.range j).map V)
  row : ∀ i, i < j → w.ownsRow B e' 1 (V i) (xs i).length (xs i)

theorem rws_nil (w : World) (B e e' : Nat) (V : Nat → Value) (xs : Nat → List Value) : Rws w B e e' (.slice none 0 0) 0 V xs := ⟨World.ownsRow_nil _ _ _ _, fun i h => by omega⟩
theorem Rws.keeps {w w' : World} {B e e' j : Nat} {v : Value} {V : Nat → Value} {xs : Nat → List Value} (h : Rws w B e e' v j V xs) (hb : Below w.heap.size w w') : Rws w' B e e' v j V xs := ⟨own_keeps h.out hb, fun i hi => own_keeps (h.row i hi) hb⟩
theorem Rws.set {w : World} {B e e' j : Nat} {v : Value} {V : Nat → Value} {xs : Nat → List Value} (h : Rws w B e e' v j V xs) {k : Nat} (hk : k < B) (o : Nat) (u : Value) : Rws (w.setCell ⟨k, o, none⟩ u) B e e' v j V xs := ⟨own_set_other h.out hk o u, fun i hi => own_set_other (h.row i hi) hk o u⟩
/-- Another row of a third type has grown. -/
theorem Rws.grown {w w' : World} {B e e' j : Nat} {v : Value} {V : Nat → Value} {xs : Nat → List Value} (h : Rws w B e e' v j V xs) {B2 e2 s2 n2 : Nat} {v2 : Value} {ys : List Value} (h2 : w.ownsRow B2 e2 s2 v2 n2 ys) (hg : w.grownBy w' v2.ownBlock) (h1 : e ≠ e2) (h3 : e' ≠ e2) : Rws w' B e e' v j V xs :=
  ⟨h.out.kept hg (own_ne' h.out h2 h1), fun i hi => (h.row i hi).kept hg (own_ne' (h.row i hi) h2 h3)⟩
/-- One row more. -/
theorem rws_push {w w1 : World} {B e e' j : Nat} {v v' : Value} {V : Nat → Value} {xs : Nat → List Value} {x : Value} (h : Rws w B e e' v j V xs) (hx : w.ownsRow B e' 1 x (xs j).length (xs j)) (hne : e' ≠ e) (hg : w.grownBy w1 v.ownBlock)
    (hown : w1.ownsRow B e 1 v' (j + 1) ((List.range j).map V ++ [x])) : Rws w1 B e e' v' (j + 1) (fun i => if i = j then x else V i) xs := by
  refine ⟨?_, fun i hi => ?_⟩
  · rw [List.range_succ, List.map_append]
    rw [show (List.range j).map (fun i => if i = j then x else V i) = (List.range j).map V from List.map_congr_left (fun i hi => by rw [List.mem_range] at hi; rw [if_neg (by omega)])]
    simpa using hown
  · by_cases e : i = j
    · subst e; simp only [if_true]; exact hx.kept hg (own_ne' hx h.out hne)
    · simp only [if_neg e]; exact (h.row i (by omega)).kept hg (own_ne' (h.row i (by omega)) h.out hne)

end Go.Proofs.Ytjagijohfkffiab

/- The walks of the reference's none and told. -/
namespace Go.Proofs.Ytjagijohfkffiab
open Go.RowKit
set_option linter.unusedVariables false

end Go.Proofs.Ytjagijohfkffiab

/- The walk of the reference's same. -/
namespace Go.Proofs.Ytjagijohfkffiab
open Go.RowKit
set_option linter.unusedVariables false

end Go.Proofs.Ytjagijohfkffiab
