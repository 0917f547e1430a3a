import Derived.Test.YtjagijohfkffiabFOUM04
import Derived.Test.YtjagijohfkffiabFOUM05
import Derived.Test.YtjagijohfkffiabFOUM14
import Derived.Deep.AppendLies

/- The walk of Look. -/
namespace Go.Proofs.Ytjagijohfkffiab
open Go.RowKit
set_option linter.unusedVariables false

def upToN (f : Nat → Nat) (k : Nat) : Nat → Nat := fun i => if i < k then f i else 0
theorem upToN_step (f : Nat → Nat) (k : Nat) : updN (upToN f k) k (f k) = upToN f (k + 1) := by
  funext j
  unfold updN upToN
  by_cases e : j = k
  · subst e; simp
  · by_cases h : j < k
    · rw [if_neg e, if_pos h, if_pos (by omega)]
    · rw [if_neg e, if_neg h, if_neg (by omega)]
theorem upToN_zero (f : Nat → Nat) : upToN f 0 = fun _ => 0 := by funext j; simp [upToN]

/-- The calm groups of the first k nodes. -/
def calmsTo (ns : List Nd) (k : Nat) : List (Nat → Bool) := ((List.range k).filter fun i => waitsB (ndAt ns i).op).map fun i => calmB i (endN (ndAt ns i))
theorem calmsTo_succ (ns : List Nd) (k : Nat) : calmsTo ns (k + 1) = calmsTo ns k ++ (if waitsB (ndAt ns k).op = true then [calmB k (endN (ndAt ns k))] else []) := by
  unfold calmsTo
  rw [List.range_succ, List.filter_append, List.map_append]
  cases e : waitsB (ndAt ns k).op <;> simp [e]
theorem calmsTo_len (ns : List Nd) : ∀ k, (calmsTo ns k).length ≤ k
  | 0 => by simp [calmsTo]
  | k + 1 => by
    have := calmsTo_len ns k
    rw [calmsTo_succ, List.length_append]
    split <;> simp <;> omega
theorem flatC_snoc (cs : List (Nat → Bool)) (c : Nat → Bool) : flatC (cs ++ [c]) = flatC cs ++ gv c := by simp [flatC]

theorem NdM.drew {w : World} {gn : Nat} {ns : List Nd} (h : NdM w gn ns) : NdM w.drew gn ns := ⟨h.lt, h.c0, h.c1, h.c2⟩
theorem RawAt.drew {w : World} {b N : Nat} {c : Nat → Value} (h : RawAt w b N c) : RawAt w.drew b N c := ⟨h.c, h.f⟩
theorem there_drew' {w : World} {b o n : Nat} (h : w.there b o n) : w.drew.there b o n := h

theorem grp_news (w : World) (g : Nat → Bool) (t : TypeId) : ∀ j u, (gv g)[j]? = some u → (w.alloc (.cells (gv g).toArray t)).cell? ((⟨w.heap.size, 0, none⟩ : Addr).add j) = some u := fun j u hj => by
  rw [Addr.add_mid]
  exact (grp_new w g t).rng j u hj

/-- The calm groups, in blocks from B on. -/
def CalmN (w : World) (B : Nat) (sl : Value) (cs : List (Nat → Bool)) : Prop := ∃ ao cap, sl = .slice ao cs.length cap ∧ (0 < cs.length → ∃ gc, ao = some ⟨gc, 0, none⟩ ∧ B ≤ gc ∧ gc < w.heap.size ∧ ∀ k c, cs[k]? = some c → GrpAt w gc (k * 256) c)
theorem calmN_own {w : World} {B : Nat} {sl : Value} {cs : List (Nat → Bool)} (h : w.ownsRow B 69 256 sl cs.length (flatC cs)) : CalmN w B sl cs := by
  obtain ⟨ao, cap, e, h2⟩ := calmV_own h
  refine ⟨ao, cap, e, fun h0 => ?_⟩
  obtain ⟨gc, h3, h4, h5⟩ := h2 h0
  subst h3
  subst e
  exact ⟨gc, rfl, (h.lt _ rfl).1, h4, h5⟩
theorem CalmN.v {w : World} {B : Nat} {sl : Value} {cs : List (Nat → Bool)} (h : CalmN w B sl cs) : CalmV w sl cs := by
  obtain ⟨ao, cap, e, h2⟩ := h
  exact ⟨ao, cap, e, fun h0 => (h2 h0).imp fun gc ⟨a, _, b, c⟩ => ⟨a, b, c⟩⟩
theorem CalmN.one {w : World} {B : Nat} {sl : Value} {cs : List (Nat → Bool)} (h : CalmN w B sl cs) : sl.oneCell' = true := by
  obtain ⟨ao, cap, rfl, _⟩ := h
  rfl
theorem CalmN.below {w w' : World} {B : Nat} {sl : Value} {cs : List (Nat → Bool)} (h : CalmN w B sl cs) (hb : Below w.heap.size w w') : CalmN w' B sl cs := by
  obtain ⟨ao, cap, h1, h2⟩ := h
  refine ⟨ao, cap, h1, fun h0 => ?_⟩
  obtain ⟨gc, h3, h6, h4, h5⟩ := h2 h0
  exact ⟨gc, h3, h6, Nat.lt_of_lt_of_le h4 hb.size, fun k c hk => (h5 k c hk).below hb h4⟩
theorem CalmN.stored {w w1 : World} {B b o : Nat} {sl : Value} {cs : List (Nat → Bool)} {g : Nat → Bool} (h : CalmN w B sl cs) (s : StoredG w b o g w1) (hb : b < B) : CalmN w1 B sl cs := by
  obtain ⟨ao, cap, h1, h2⟩ := h
  refine ⟨ao, cap, h1, fun h0 => ?_⟩
  obtain ⟨gc, h3, h6, h4, h5⟩ := h2 h0
  exact ⟨gc, h3, h6, by rw [s.size]; exact h4, fun k c hk => s.grp (h5 k c hk) (Or.inl (by omega))⟩
theorem CalmN.storedR {w w1 : World} {B b N : Nat} {sl : Value} {cs : List (Nat → Bool)} {r : Nat → Value} (h : CalmN w B sl cs) (s : StoredR w b N r w1) (hb : b < B) : CalmN w1 B sl cs := by
  obtain ⟨ao, cap, h1, h2⟩ := h
  refine ⟨ao, cap, h1, fun h0 => ?_⟩
  obtain ⟨gc, h3, h6, h4, h5⟩ := h2 h0
  exact ⟨gc, h3, h6, by rw [s.size]; exact h4, fun k c hk => ⟨fun j hj => by rw [s.cell ⟨gc, k * 256 + j, none⟩ (by show gc ≠ b; omega)]; exact (h5 k c hk).c j hj, fun j hj => by rw [s.fz]; exact (h5 k c hk).f j hj⟩⟩
theorem CalmN.set {w : World} {B : Nat} {sl : Value} {cs : List (Nat → Bool)} (h : CalmN w B sl cs) (p : Addr) (v : Value) (hb : p.block < B) : CalmN (w.setCell p v) B sl cs := by
  obtain ⟨ao, cap, h1, h2⟩ := h
  refine ⟨ao, cap, h1, fun h0 => ?_⟩
  obtain ⟨gc, h3, h6, h4, h5⟩ := h2 h0
  exact ⟨gc, h3, h6, by rw [World.size_setCell]; exact h4, fun k c hk => (h5 k c hk).other p v (Or.inl (by omega))⟩

/-- An outlook is handed back through a cell. -/
theorem ret_raw {fn : Func} {p b N : Nat} {ty : TypeId} {d : TypeDesc} {c : Nat → Value} {a : Act} {w : World} {R : Ending → World → Prop} (h : fn.results = #[.cell p ty]) (hd : a.defers = []) (hp : a.tmps.getD p undef = .pointer (some ⟨b, 0, none⟩))
    (hg : RawAt w b N c) (hu : Try.prog.underlying ty = some d) (hr : d.isRow = true) (hs : (Try.prog.info? ty).map (·.size) = some N) (hR : R (.returned (.agg (rv c N).toArray)) w) : bodyPost Try.prog fn R .ret a w := by
  refine bodyPost_ret (v := .agg (rv c N).toArray) ?_ hd hR
  rw [results_one_cell h, hp]
  simp only [asAddr, Sem.run_pure, Result.andThen_ok]
  exact run_loadVar_mid w b 0 _ (rv c N) d hg.rng hu hr (by rw [rv_len]; exact hs)

def begB (ns : List Nd) (liv : Nat → Bool) : Nat → Bool := fun v => liv v && v.testBit (ns.length - 1)

theorem Try.outUnder : ∃ d, Try.prog.underlying 71 = some d ∧ d.isRow = true := ⟨_, Try.underlying71, rfl⟩

set_option maxHeartbeats 8000000 in
set_option maxRecDepth 100000 in
theorem look_any (gn m1 ncap : Nat) (ns : List Nd) (w : World) (hm : NdM w gn ns) (hg : Good ns) (hlm : ns.length = m1 + 1) :
    Calls Try.prog 36 #[.slice (some ⟨gn, 0, none⟩) (m1 + 1) ncap] w fun e w' => ∃ sl liv, e = .returned (.agg (rv (outC (befF ns) sl liv (begB ns liv)) 2561).toArray) ∧ LivP ns (calmsTo ns ns.length) liv ∧ CalmV w' sl (calmsTo ns ns.length) ∧ sl.oneCell' = true ∧ Below w.heap.size w w' := by
  have h8 := hg.le
  have HG := hid hg
  have HM := hid hm
  have hgn := hm.lt
  have HLM := hid hlm
  have hm8 : m1 + 1 ≤ 8 := by omega
  obtain ⟨od, hod, hor⟩ := Try.outUnder
  have HOD := hid (And.intro hod hor)
  have HOC := hid Try.outCells
  have HZC : Hid ((Value.agg (gv fun _ => false).toArray).cells.size = 256) := hid (by show (gv fun _ => false).toArray.size = 256; rw [List.size_toArray, gv_len])
  obtain ⟨i0, hi, hz0, hz1, hz2⟩ := info_parts Try.infoGroup
  clear hg hm hlm hod hor
  go_enter Try.func36, Try.ntmps36
  go_wp2_with (refine wpList_store_raw rfl 71 (.tmp 3) (.tmp 11) rfl (w.heap.size + 1) 2561 (outC (fun _ => 0) (.slice none 0 0) (fun _ => false) (fun _ => false)) rfl (congrArg Value.agg HOC.out) ?t1 Try.outSize (outC_one _ _ _ rfl) ?_)
  case t1 =>
    have := raw_new (w.alloc (.cells Try.zeroCells71 71)) (outC (fun _ => 0) (.slice none 0 0) (fun _ => false) (fun _ => false)) 2561 71
    rw [← HOC.out, size_alloc] at this
    exact this.there 0 2561 (by omega)
  intro w1 S1
  have R3 := hid S1.at_
  have R2 : Hid (RawAt w1 w.heap.size 2561 (outC (fun _ => 0) (.slice none 0 0) (fun _ => false) (fun _ => false))) := by
    have := raw_new w (outC (fun _ => 0) (.slice none 0 0) (fun _ => false) (fun _ => false)) 2561 71
    rw [← HOC.out] at this
    exact hid (S1.raw (this.below ((Below.refl (w.heap.size + 1) _).alloc (by simp) (.cells Try.zeroCells71 71)) (by omega)) (by omega))
  have HB1 : Hid (Below w.heap.size w w1) := hid (S1.bel _ _ (by omega) (((Below.refl _ _).alloc (Nat.le_refl _) _).alloc (by simp) _))
  have hs1 : w.heap.size + 1 < w1.heap.size := by rw [S1.size]; simp
  have R2 := hid (R2.out.there 0 2561 (by omega))
  clear S1
  go_wp2_with fail
  go_loopw [12] (fun i wq => ∃ x : Nat, x ≤ 8 ∧ i = .int .i64 x ∧ Hid (RawAt wq (w.heap.size + 1) 2561 (outC (upToN (befF ns) (x * 256)) (.slice none 0 0) (fun _ => false) (fun _ => false))) ∧ Hid (wq.there w.heap.size 0 2561) ∧ w.heap.size + 1 < wq.heap.size ∧ Hid (Below w.heap.size w wq)) (fun i _ => 8 - (intOf i).toNat)
  case atStart => exact ⟨0, by omega, rfl, by rw [Nat.zero_mul, upToN_zero]; exact R3, R2, hs1, HB1⟩
  case round =>
    obtain ⟨x, hx, rfl, H3, H2, hz, HB⟩ := hrel
    rename World => W0
    by_cases hlx : x < 8
    · go_wp2_with fail
      go_loopw [15] (fun i wq => ∃ N : Nat, N ≤ 256 ∧ i = .int .i64 N ∧ Hid (RawAt wq (w.heap.size + 1) 2561 (outC (upToN (befF ns) (x * 256 + N)) (.slice none 0 0) (fun _ => false) (fun _ => false))) ∧ Hid (wq.there w.heap.size 0 2561) ∧ w.heap.size + 1 < wq.heap.size ∧ Hid (Below w.heap.size w wq)) (fun i _ => 256 - (intOf i).toNat)
      case atStart => exact ⟨0, by omega, rfl, H3, H2, hz, HB⟩
      case round =>
        obtain ⟨N, hN, rfl, H3, H2, hz, HB⟩ := hrel
        rename World => W3
        by_cases hlN : N < 256
        · have BF := fun W (h : NdM W gn ns) => before_any gn (m1 + 1) ncap x N ns W h HG.out HLM.out hlx hlN
          have HND := hid (HM.out.below HB.out hgn).drew
          have H3 := hid H3.out.drew
          have H2 := hid (there_drew' H2.out)
          have HB := hid HB.out.drew
          have hz' : w.heap.size + 1 < W3.drew.heap.size := hz
          have HE : Hid (befF ns (x * 256 + N) = bef ns x N) := hid (by unfold befF; rw [show (x * 256 + N) / 256 = x by omega, show (x * 256 + N) % 256 = N by omega])
          go_wp2_with fail
          go_region_held3 (fun _ => True) (trivial) ((go_at_call 64; refine (BF _ (by exact HND.out)).mono ?_; rintro e w9 ⟨rfl, hb9⟩; have q0 := (H3.out.below hb9 hz').f (x * 256 + N) (by omega); have q1 := (H3.out.below hb9 hz').c (x * 256 + N) (by omega)))
          have D3 := hid ((H3.out.below hb9 hz').set (x * 256 + N) (.int .u8 (bef ns x N : Nat)))
          rw [outC_bef _ _ _ _ (by omega), ← HE.out, upToN_step, HE.out] at D3
          have D2 : Hid ((w9.setCell ⟨w.heap.size + 1, x * 256 + N, none⟩ (.int .u8 (bef ns x N : Nat))).there w.heap.size 0 2561) := hid (fun j hj => by
            obtain ⟨a1, a2⟩ := H2.out j hj
            rw [World.frozen?_setCell, World.cell?_setCell_other _ _ _ _ (fun e => by have := congrArg Addr.block e; simp at this), hb9.cell (p := ⟨w.heap.size, 0 + j, none⟩) (by show w.heap.size < W3.drew.heap.size; omega), hb9.frozen (p := ⟨w.heap.size, 0 + j, none⟩) (by show w.heap.size < W3.drew.heap.size; omega)]
            exact ⟨a1, a2⟩)
          have DB := hid ((HB.out.trans (hb9.mono (by have := HB.out.size; omega))).setCell (p := ⟨w.heap.size + 1, x * 256 + N, none⟩) (by show w.heap.size ≤ w.heap.size + 1; omega) (.int .u8 (bef ns x N : Nat)))
          have hz9 : w.heap.size + 1 < w9.heap.size := Nat.lt_of_lt_of_le hz' hb9.size
          clear hb9 q0 q1 H3 H2 HB BF
          go_wp2_with fail
          go_roundw
          case rel => exact ⟨N + 1, by omega, by go_num, D3, D2, by simp; omega, DB⟩
          case measure => simp [intOf]; omega
        · obtain rfl : N = 256 := by omega
          go_wp2_with fail
          go_roundw
          case rel => exact ⟨x + 1, by omega, by go_num, by rw [show (x + 1) * 256 = x * 256 + 256 by omega]; exact H3, H2, hz, HB⟩
          case measure => simp [intOf]; omega
    · obtain rfl : x = 8 := by omega
      have H3 := hid (H3.out.congr (d := outC (befF ns) (.slice none 0 0) (fun _ => false) (fun _ => false)) (fun j hj => by
        unfold outC upToN
        by_cases h1 : j < 2048
        · rw [if_pos h1, if_pos h1, if_pos (by omega)]
        · rw [if_neg h1, if_neg h1]))
      go_wp2_with fail
      go_loopw [31] (fun i wq => ∃ (k : Nat) (sl : Value), k ≤ m1 + 1 ∧ i = .int .i64 k ∧ Hid (RawAt wq (w.heap.size + 1) 2561 (outC (befF ns) sl (fun _ => false) (fun _ => false))) ∧ Hid (wq.ownsRow (w.heap.size + 2) 69 256 sl (calmsTo ns k).length (flatC (calmsTo ns k))) ∧ Hid (wq.there w.heap.size 0 2561) ∧ w.heap.size + 1 < wq.heap.size ∧ Hid (Below w.heap.size w wq)) (fun i _ => m1 + 1 - (intOf i).toNat)
      case atStart => exact ⟨0, _, by omega, rfl, H3, hid (World.ownsRow_nil _ _ _ _), H2, hz, HB⟩
      case round =>
        obtain ⟨k, sl, hk, rfl, H3, HO, H2, hz, HB⟩ := hrel
        rename World => W4
        by_cases hlk : k < m1 + 1
        · have hk8 : k < 8 := by omega
          obtain ⟨h1, h2⟩ := Wf2.small HG.out.wf HG.out.le (ndAt_gets (ns := ns) (k := k) (by rw [HLM.out]; exact hlk))
          have n0 := (HB.out.cell (p := ⟨gn, k * 3, none⟩) hgn).trans (HM.out.c0 k (by rw [HLM.out]; exact hlk))
          have n1 := (HB.out.cell (p := ⟨gn, k * 3 + 1, none⟩) hgn).trans (HM.out.c1 k (by rw [HLM.out]; exact hlk))
          have n2 := (HB.out.cell (p := ⟨gn, k * 3 + 2, none⟩) hgn).trans (HM.out.c2 k (by rw [HLM.out]; exact hlk))
          have HS := hid (calmsTo_succ ns k)
          have hcl := calmsTo_len ns k
          have LW := fun W => waits_any (ndAt ns k) W
          have LS := fun W => settled_any (ndAt ns k) k W hk8 h1 h2
          unfold ndV at LW LS
          generalize ndAt ns k = nd at *
          generalize calmsTo ns k = cs at *
          go_wp2_with fail
          refine (LW _).mono ?_
          rintro e w5 ⟨rfl, hb5⟩
          have bw5 : Below W4.heap.size W4 w5 := ((Below.refl _ _).alloc (Nat.le_refl _) (.cells #[.int .u8 nd.op, .int .i64 nd.l, .int .i64 nd.r] 124)).trans (hb5.mono (by simp))
          have H35 := hid (H3.out.below bw5 hz)
          have HO5 := hid (own_keeps HO.out bw5)
          have H25 : Hid (w5.there w.heap.size 0 2561) := hid (fun j hj => by
            rw [bw5.cell (p := ⟨w.heap.size, 0 + j, none⟩) (by show w.heap.size < _; omega), bw5.frozen (p := ⟨w.heap.size, 0 + j, none⟩) (by show w.heap.size < _; omega)]
            exact H2.out j hj)
          have HB5 := hid (HB.out.trans (bw5.mono (by omega)))
          have hs5 := bw5.size
          have b0 : w5.cell? ⟨W4.heap.size, 0, none⟩ = some (.int .u8 nd.op) := (hb5.cell (p := ⟨W4.heap.size, 0, none⟩) (by simp)).trans (by simp)
          have b1 : w5.cell? ⟨W4.heap.size, 1, none⟩ = some (.int .i64 nd.l) := (hb5.cell (p := ⟨W4.heap.size, 1, none⟩) (by simp)).trans (by simp)
          have b2 : w5.cell? ⟨W4.heap.size, 2, none⟩ = some (.int .i64 nd.r) := (hb5.cell (p := ⟨W4.heap.size, 2, none⟩) (by simp)).trans (by simp)
          clear hb5 bw5 H3 HO H2 HB n0 n1 n2 LW
          cases hwv : waitsB nd.op with
          | false =>
            rw [hwv] at HS
            clear hwv
            go_wp2_with fail
            go_roundw
            case rel => exact ⟨k + 1, sl, by omega, by go_num, H35, by rw [HS.out]; simpa using HO5, H25, by omega, HB5⟩
            case measure => simp [intOf]; omega
          | true =>
            rw [hwv] at HS
            clear hwv
            go_wp2_with fail
            refine (LS _).mono ?_
            rintro e w6 ⟨rfl, hb6⟩
            have hs6 := hb6.size
            clear LS b0 b1 b2
            go_wp2_with (refine wpList_store_grp rfl (.tmp 8) (.tmp 40) rfl w6.heap.size 0 (calmB k (endN nd)) rfl rfl (zero_new w6).there ?_)
            intro w7 S7
            have bw7 : Below w5.heap.size w5 w7 := S7.bel _ _ hs6 (hb6.alloc hs6 _)
            have H37 := hid (H35.out.below bw7 (by omega))
            have HO7 := hid (own_keeps HO5.out bw7)
            have H27 : Hid (w7.there w.heap.size 0 2561) := hid (fun j hj => by
              rw [bw7.cell (p := ⟨w.heap.size, 0 + j, none⟩) (by show w.heap.size < _; omega), bw7.frozen (p := ⟨w.heap.size, 0 + j, none⟩) (by show w.heap.size < _; omega)]
              exact H25.out j hj)
            have HB7 := hid (HB5.out.trans (bw7.mono (by omega)))
            have A8 := hid S7.at_
            have hs7 : w7.heap.size = w6.heap.size + 1 := by rw [S7.size]; simp
            have csl := raw_sl H37.out
            have cfz := H37.out.f 2048 (by omega)
            clear S7 bw7 hb6 H35 HO5 H25 HB5
            generalize hgc : calmB k (endN nd) = gc at *
            go_wp2_with (first | (refine wpList_load_grp rfl (.tmp 8) rfl w6.heap.size 0 gc rfl A8.out ?_) | (refine wpList_build_grp rfl (.tmp 43) rfl gc rfl ?_) | (at_builtin; go_must (refine wpList_append_own _ rfl (.tmp 42) (.tmp 44) 67 rfl (w.heap.size + 2) 69 i0 (.agg (gv fun _ => false).toArray) 256 256 Try.underlying67 hi hz0 hz1 hz2 HZC.out (by decide) _ _ _ rfl (HO7.out.alloc _) ⟨w7.heap.size, 0, none⟩ 1 1 (gv gc) rfl (by rw [gv_len]) (grp_news w7 gc _) (gv_one gc) (by unfold maxLen; omega) (by omega) (by simp; omega) ?_)))
            intro v8 w8 hown hgrow _
            have bs : Below (w.heap.size + 2) w7 w8 := ((Below.refl _ _).alloc (by omega) _).grown hgrow (by simp; omega) (fun k h => (HO7.out.lt k h).1)
            obtain ⟨ao8, cap8, rfl⟩ := own_slice hown
            have H38 := H37.out.below bs (by omega)
            have csl8 := raw_sl H38
            have cfz8 := H38.f 2048 (by omega)
            have D3 := hid (H38.set 2048 (.slice ao8 (cs.length + 1) cap8))
            rw [outC_sl] at D3
            have DO : Hid ((w8.setCell ⟨w.heap.size + 1, 2048, none⟩ (.slice ao8 (cs.length + 1) cap8)).ownsRow (w.heap.size + 2) 69 256 (.slice ao8 (cs.length + 1) cap8) (calmsTo ns (k + 1)).length (flatC (calmsTo ns (k + 1)))) := hid (by
              rw [HS.out, if_pos (by trivial), List.length_append, flatC_snoc]
              exact own_set_other hown (k := w.heap.size + 1) (by omega) 2048 _)
            have D2 : Hid ((w8.setCell ⟨w.heap.size + 1, 2048, none⟩ (.slice ao8 (cs.length + 1) cap8)).there w.heap.size 0 2561) := hid (fun j hj => by
              obtain ⟨a1, a2⟩ := H27.out j hj
              rw [World.frozen?_setCell, World.cell?_setCell_other _ _ _ _ (fun e => by have := congrArg Addr.block e; simp at this), bs.cell (p := ⟨w.heap.size, 0 + j, none⟩) (by show w.heap.size < _; omega), bs.frozen (p := ⟨w.heap.size, 0 + j, none⟩) (by show w.heap.size < _; omega)]
              exact ⟨a1, a2⟩)
            have DB := hid ((HB7.out.trans (bs.mono (by omega))).setCell (p := ⟨w.heap.size + 1, 2048, none⟩) (by show w.heap.size ≤ w.heap.size + 1; omega) (.slice ao8 (cs.length + 1) cap8))
            have hz8 : w.heap.size + 1 < w8.heap.size := by have := bs.size; omega
            clear hown hgrow bs H38 H37 HO7 H27 HB7 csl cfz
            go_wp2_with fail
            go_roundw
            case rel => exact ⟨k + 1, _, by omega, by go_num, D3, DO, D2, by simp; omega, DB⟩
            case measure => simp [intOf]; omega
        · obtain rfl : k = m1 + 1 := by omega
          have hcl := calmsTo_len ns (m1 + 1)
          have CN := hid (calmN_own HO.out)
          clear HO
          go_wp2_with fail
          refine (findLiving_any (w.heap.size + 1) ns (calmsTo ns (m1 + 1)) W4 h8 (raw_befM H3.out) hz (calmM_of H3.out CN.out.v) (by omega)).mono ?_
          rintro e w5 ⟨liv, rfl, hlv, hb5⟩
          have HLV := hid hlv
          have H35 := hid (H3.out.below hb5 hz)
          have CN5 := hid (CN.out.below hb5)
          have H25 : Hid (w5.there w.heap.size 0 2561) := hid (fun j hj => by
            rw [hb5.cell (p := ⟨w.heap.size, 0 + j, none⟩) (by show w.heap.size < _; omega), hb5.frozen (p := ⟨w.heap.size, 0 + j, none⟩) (by show w.heap.size < _; omega)]
            exact H2.out j hj)
          have HB5 := hid (HB.out.trans (hb5.mono (by omega)))
          have hz5 : w.heap.size + 1 < w5.heap.size := Nat.lt_of_lt_of_le hz hb5.size
          clear hb5 hlv H3 H2 HB CN
          go_wp2_with (refine wpList_store_grp rfl (.tmp 49) (.tmp 48) rfl (w.heap.size + 1) 2049 liv rfl rfl (H35.out.there 2049 256 (by omega)) ?_)
          intro w6 S6
          have H36 := hid (raw_liv H35.out S6)
          have CN6 := hid (CN5.out.stored S6 (by omega))
          have H26 : Hid (w6.there w.heap.size 0 2561) := hid (fun j hj => by
            rw [S6.cell ⟨w.heap.size, 0 + j, none⟩ (Or.inl (by show w.heap.size ≠ w.heap.size + 1; omega)), S6.fz]
            exact H25.out j hj)
          have HB6 := hid (S6.bel _ _ (by omega) HB5.out)
          have hz6 : w.heap.size + 1 < w6.heap.size := by rw [S6.size]; exact hz5
          clear S6 H35 CN5 H25 HB5
          go_wp2_with fail
          go_loopw [50] (fun i wq => ∃ v : Nat, v ≤ 256 ∧ i = .int .i64 v ∧ Hid (RawAt wq (w.heap.size + 1) 2561 (outC (befF ns) sl liv (upTo (begB ns liv) v))) ∧ Hid (CalmN wq (w.heap.size + 2) sl (calmsTo ns (m1 + 1))) ∧ Hid (wq.there w.heap.size 0 2561) ∧ w.heap.size + 1 < wq.heap.size ∧ Hid (Below w.heap.size w wq)) (fun i _ => 256 - (intOf i).toNat)
          case atStart => exact ⟨0, by omega, rfl, by rw [upTo_zero]; exact H36, CN6, H26, hz6, HB6⟩
          case round =>
            obtain ⟨v, hv, rfl, H3, CN, H2, hz, HB⟩ := hrel
            rename World => W7
            by_cases hlv : v < 256
            · have HA := fun W => has_any v m1 W hlv (by omega)
              have c1 := (raw_livAt H3.out).c v hlv
              have q0 := H3.out.f (2305 + v) (by omega)
              have q1 := H3.out.c (2305 + v) (by omega)
              have hbg : begB ns liv v = (liv v && v.testBit m1) := by unfold begB; rw [HLM.out]; rfl
              have D3 := hid (H3.out.set (2305 + v) (.bool (begB ns liv v)))
              rw [outC_beg _ _ _ _ hlv, upTo_step] at D3
              have DN := hid (CN.out.set ⟨w.heap.size + 1, 2305 + v, none⟩ (.bool (begB ns liv v)) (by show w.heap.size + 1 < w.heap.size + 2; omega))
              have D2 : Hid ((W7.setCell ⟨w.heap.size + 1, 2305 + v, none⟩ (.bool (begB ns liv v))).there w.heap.size 0 2561) := hid (fun j hj => by
                rw [World.frozen?_setCell, World.cell?_setCell_other _ _ _ _ (fun e => by have := congrArg Addr.block e; simp at this)]
                exact H2.out j hj)
              have DB := hid (HB.out.setCell (p := ⟨w.heap.size + 1, 2305 + v, none⟩) (by show w.heap.size ≤ w.heap.size + 1; omega) (.bool (begB ns liv v)))
              rw [hbg] at DN D2 DB
              have D3 : Hid (RawAt (W7.setCell ⟨w.heap.size + 1, 2305 + v, none⟩ (.bool (liv v && v.testBit m1))) (w.heap.size + 1) 2561 (outC (befF ns) sl liv (upTo (begB ns liv) (v + 1)))) := by rw [← hbg]; exact D3
              clear hbg
              generalize outC (befF ns) sl liv (upTo (begB ns liv) v) (2305 + v) = ov at *
              generalize hlvv : liv v = lv at *
              generalize hbit : v.testBit m1 = bv at *
              clear hlvv hbit
              cases lv with
              | false =>
                simp only [Bool.false_and] at D3 DN D2 DB
                go_wp2_with fail
                refine (HA _).mono ?_
                rintro e w8 ⟨rfl, rfl⟩
                clear HA
                go_wp2_with fail
                go_roundw
                case rel => exact ⟨v + 1, by omega, by go_num, D3, DN, D2, by simp; omega, DB⟩
                case measure => simp [intOf]; omega
              | true =>
                simp only [Bool.true_and] at D3 DN D2 DB
                go_wp2_with fail
                refine (HA _).mono ?_
                rintro e w8 ⟨rfl, rfl⟩
                clear HA
                go_wp2_with fail
                go_roundw
                case rel => exact ⟨v + 1, by omega, by go_num, D3, DN, D2, by simp; omega, DB⟩
                case measure => simp [intOf]; omega
            · obtain rfl : v = 256 := by omega
              have H3 := hid (H3.out.congr (d := outC (befF ns) sl liv (begB ns liv)) (fun j hj => by
                unfold outC
                by_cases h1 : j < 2048
                · rw [if_pos h1, if_pos h1]
                · rw [if_neg h1, if_neg h1]
                  by_cases h2 : j = 2048
                  · rw [if_pos h2, if_pos h2]
                  · rw [if_neg h2, if_neg h2]
                    by_cases h3 : j < 2305
                    · rw [if_pos h3, if_pos h3]
                    · rw [if_neg h3, if_neg h3, upTo_all _ (by omega)]))
              have hon := CN.out.one
              go_wp2_with (first | (refine wpList_load_raw rfl 71 (.tmp 3) rfl (w.heap.size + 1) 2561 (outC (befF ns) sl liv (begB ns liv)) od rfl H3.out HOD.out.1 HOD.out.2 Try.outSize ?_) | (refine wpList_store_raw rfl 71 (.tmp 2) (.tmp 69) rfl w.heap.size 2561 (outC (befF ns) sl liv (begB ns liv)) rfl rfl H2.out Try.outSize (outC_one _ _ _ hon) ?_))
              intro w9 S9
              have CN9 := hid (CN.out.storedR S9 (by omega))
              have HB9 := hid (S9.bel _ _ (Nat.le_refl _) HB.out)
              have R9 := hid S9.at_
              clear S9
              go_wp2_with fail
              refine ret_raw Try.results36 ?_ ?_ R9.out HOD.out.1 HOD.out.2 Try.outSize ?_
              · rfl
              · rfl
              · exact ⟨sl, liv, rfl, by rw [HLM.out]; exact HLV.out, by rw [HLM.out]; exact CN9.out.v, hon, HB9.out⟩

end Go.Proofs.Ytjagijohfkffiab

/- The walk of the explorer's number (laid by gen_number.py). -/
namespace Go.Proofs.Ytjagijohfkffiab
open Go.RowKit
set_option linter.unusedVariables false

/-- The groups that were met, in memory. -/
structure ExM (w : World) (B T : Nat) (v : Value) (gs : List (Nat → Bool)) : Prop where
  c : w.cell? ⟨T, 0, none⟩ = some v
  f : w.frozen? ⟨T, 0, none⟩ = false
  own : w.ownsRow B 69 256 v gs.length (flatC gs)
  ne : v.ownBlock ≠ some T
theorem ExM.lt {w : World} {B T : Nat} {v : Value} {gs : List (Nat → Bool)} (h : ExM w B T v gs) : T < w.heap.size := World.block_lt_of_cell? w ⟨T, 0, none⟩ h.c
theorem ExM.below {w w' : World} {B T : Nat} {v : Value} {gs : List (Nat → Bool)} (h : ExM w B T v gs) (hb : Below w.heap.size w w') : ExM w' B T v gs :=
  ⟨(hb.cell (p := ⟨T, 0, none⟩) h.lt).trans h.c, (hb.frozen (p := ⟨T, 0, none⟩) h.lt).trans h.f, own_keeps h.own hb, h.ne⟩

/-- All blocks but T and the row's are as they were. -/
structure NumF (w w' : World) (T : Nat) (row : Option Nat) : Prop where
  os : w'.os = w.os
  tape : w'.tape = w.tape
  output : w'.output = w.output
  size : w.heap.size ≤ w'.heap.size
  block : ∀ k, k < w.heap.size → k ≠ T → some k ≠ row → w'.heap[k]? = w.heap[k]?
theorem NumF.of_below {w w' : World} {T : Nat} {row : Option Nat} (h : Below w.heap.size w w') : NumF w w' T row := ⟨h.os, h.tape, h.output, h.size, fun k hk _ _ => h.block k hk⟩
theorem NumF.cell {w w' : World} {T : Nat} {row : Option Nat} (h : NumF w w' T row) {p : Addr} (hp : p.block < w.heap.size) (h1 : p.block ≠ T) (h2 : some p.block ≠ row) : w'.cell? p = w.cell? p := World.cell?_of_block (h.block _ hp h1 h2)
theorem NumF.frozen {w w' : World} {T : Nat} {row : Option Nat} (h : NumF w w' T row) {p : Addr} (hp : p.block < w.heap.size) (h1 : p.block ≠ T) (h2 : some p.block ≠ row) : w'.frozen? p = w.frozen? p := World.frozen?_of_block (h.block _ hp h1 h2)

end Go.Proofs.Ytjagijohfkffiab

/- The walks of the reference's says and along. -/
namespace Go.Proofs.Ytjagijohfkffiab
open Go.RowKit
set_option linter.unusedVariables false

/-- A row of bools in memory. -/
structure Rb (w : World) (g n : Nat) (f : Nat → Bool) : Prop where
  lt : g < w.heap.size
  cell : ∀ i, i < n → w.cell? ⟨g, i, none⟩ = some (.bool (f i))

theorem Rb.below {w w' : World} {g n : Nat} {f : Nat → Bool} (h : Rb w g n f) (hb : Below w.heap.size w w') : Rb w' g n f :=
  ⟨Nat.lt_of_lt_of_le h.lt hb.size, fun i hi => by rw [hb.cell (p := ⟨g, i, none⟩) h.lt]; exact h.cell i hi⟩

/-- So many steps on. -/
def al (op : Nat) (L R : Nat → Bool) (nx : Nat → Nat) : Nat → Nat → Bool
  | 0, _ => op == 71 || op == 82
  | s + 1, k =>
    if op = 70 then (if L k then true else al op L R nx s (nx k))
    else if op = 71 then (if L k then al op L R nx s (nx k) else false)
    else if op = 85 then (if R k then true else if L k then al op L R nx s (nx k) else false)
    else (if R k then (if L k then true else al op L R nx s (nx k)) else false)

end Go.Proofs.Ytjagijohfkffiab
