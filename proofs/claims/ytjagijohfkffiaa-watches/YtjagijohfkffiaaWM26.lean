import Derived.Test.YtjagijohfkffiaaWM02
import Derived.Test.YtjagijohfkffiaaWM25

/- The walk of the reference's from: what one gets to. -/
namespace Go.Proofs.Ytjagijohfkffiaa
open Go.RowKit
set_option linter.unusedVariables false

/-- One goes from a to b. -/
def Ed (N : Nat) (to : Nat → List Nat) (a b : Nat) : Prop := a < N ∧ b ∈ to a

theorem outTo_upd (f : Nat → Bool) (N b : Nat) (v : Bool) : (outTo f N N).set b (.bool v) = outTo (upd f b v) N N := by
  unfold outTo
  apply List.ext_getElem
  · simp
  · intro i h1 h2
    simp at h1
    rw [List.getElem_set]
    simp only [List.getElem_map, List.getElem_range, upd, h1, if_true]
    by_cases e : b = i
    · rw [if_pos e, if_pos e.symm]
    · rw [if_neg e, if_neg (fun h => e h.symm)]

theorem outTo_congr {f g : Nat → Bool} {N : Nat} (h : ∀ i, i < N → f i = g i) : outTo f N N = outTo g N N := by
  unfold outTo
  apply List.map_congr_left
  intro i hi
  rw [List.mem_range] at hi
  simp [hi, h i hi]

theorem atN_mem {l : List Nat} {i : Nat} (h : i < l.length) : atN l i ∈ l := by simp [atN, List.getD, List.getElem?_eq_getElem h]
theorem mem_atN {l : List Nat} {x : Nat} (h : x ∈ l) : ∃ i, i < l.length ∧ atN l i = x := by
  obtain ⟨i, hi, e⟩ := List.getElem_of_mem h
  exact ⟨i, hi, by simp [atN, List.getD, List.getElem?_eq_getElem hi, e]⟩
theorem atN_snoc {l : List Nat} {i x : Nat} (h : i < l.length) : atN (l ++ [x]) i = atN l i := by simp [atN, List.getD, List.getElem?_append_left h]

/-- Up to place i of todo all that one goes to has been seen. -/
def Done (N : Nat) (to : Nat → List Nat) (todo : List Nat) (seen : Nat → Bool) (i : Nat) : Prop := ∀ q, q < i → ∀ b, b ∈ to (atN todo q) → seen b = true

theorem done_push {N : Nat} {to : Nat → List Nat} {td : List Nat} {sn : Nat → Bool} {q b : Nat} (h : Done N to td sn q) (hq : q ≤ td.length) : Done N to (td ++ [b]) (upd sn b true) q := fun x hx c hc => by
  rw [atN_snoc (by omega)] at hc
  unfold upd
  by_cases e : c = b
  · rw [if_pos e]
  · rw [if_neg e]; exact h x hx c hc

set_option maxHeartbeats 4000000 in
set_option maxRecDepth 100000 in
theorem from_net (P N K at0 : Nat) (to : Nat → List Nat) (kp : Nat → Nat → Bool) (w : World) (hn : NetM w P N to K kp) (hto : ∀ a, a < N → ∀ b ∈ to a, b < N) (hlen : ∀ a, a < N → (to a).length ≤ 4398046511104) (ha : at0 < N) (hN : N ≤ 1099511627776) :
    Calls Try.prog 118 #[.pointer (some ⟨P, 0, none⟩), .int .i64 at0] w fun e w' => ∃ g seen, e = .returned (.slice (some ⟨g, 0, none⟩) N N) ∧ w.heap.size ≤ g ∧ w'.ownsRow w.heap.size 4 1 (.slice (some ⟨g, 0, none⟩) N N) N (outTo seen N N) ∧ (∀ b, seen b = true ↔ reach (Ed N to) at0 b) ∧ Below w.heap.size w w' := by
  obtain ⟨v0, c0, ao, cap, rfl, hcap, hrow⟩ := hn.c0
  obtain ⟨g, rfl, hg, hcell⟩ := hrow (by omega)
  have hP := hn.lt
  have HC := hid hcell
  obtain ⟨i0, hi, hz0, hz1, hz2⟩ := info_parts Try.infoBool
  obtain ⟨i1, hi1, hz01, hz11, hz21⟩ := info_parts Try.infoIntE
  have HTO := hid hto
  clear hcell hrow hn hto
  go_enter Try.func118, Try.ntmps118
  go_wp2_with (at_make; go_must (refine wpList_make_full _ rfl (.tmp 14) (.tmp 14) 36 rfl w.heap.size 4 i0 (.bool false) 1 Try.underlying36 hi hz0 hz1 .i64 .i64 N N N rfl rfl rfl rfl ?m2 ?m3 (Nat.le_refl _) ?_))
  case m2 => rw [hz2]; omega
  case m3 => unfold maxLen; omega
  intro w1 own1 grow1
  have eo : (madeCells #[Value.bool false] N).toList = List.replicate N (.bool false) := toList_madeCells_one _ _
  rw [eo, ← outTo_zero (fun _ => false), show outTo (fun _ => false) N 0 = outTo (fun _ => false) N N by simp [outTo]] at own1
  have hb1 : Below w.heap.size w w1 := (Below.refl _ _).grown grow1 (Nat.le_refl _) (fun k h => by cases h)
  have hs1 : w.heap.size < w1.heap.size := (own1.lt _ rfl).2
  have O1 := hid own1
  have HB1 := hid hb1
  clear own1 grow1 eo hb1
  go_wp2_with fail
  go_loopw [7, 6] (fun i v wr => ∃ (q : Nat) (todo : List Nat) (seen : Nat → Bool), i = .int .i64 q ∧ q ≤ todo.length ∧ Hid (Bfs (Ed N to) N at0 todo seen) ∧ Hid (Done N to todo seen q) ∧ Hid (wr.ownsRow (w.heap.size + 1) 3 1 v todo.length (nInts todo)) ∧
      Hid (wr.ownsRow w.heap.size 4 1 (.slice (some ⟨w.heap.size, 0, none⟩) N N) N (outTo seen N N)) ∧ Below w.heap.size w wr) (fun i _ _ => N + 1 - (intOf i).toNat)
  case atStart =>
    refine ⟨0, [at0], fun _ => false, rfl, Nat.zero_le _, hid (bfs_start _ _ _), hid (fun q hq => by omega), hid ?_, hid (O1.out.alloc _), HB1.out.alloc HB1.out.size _⟩
    exact ⟨rfl, Or.inr ⟨w1.heap.size, 1, #[.int .i64 at0], rfl, by omega, by show (w1.heap.push _)[w1.heap.size]? = _; simp, Nat.le_refl _, by unfold maxLen; omega, rfl, rfl⟩⟩
  case round =>
    obtain ⟨q, todo, seen, rfl, hq, HBF, HD, HT, HS, hb⟩ := hrel
    rename World => W0
    obtain ⟨aot, tcap, hv⟩ := own_slice HT.out
    subst hv
    have htl := HBF.out.len
    have c0' := (hb.cell (p := ⟨P, 0, none⟩) hP).trans c0
    by_cases hlt : q < todo.length
    · obtain ⟨gt, e, hgt0, hgt, htc⟩ := own_at' HT.out (by omega)
      subst e
      have ct : W0.cell? ⟨gt, q, none⟩ = some (.int .i64 (atN todo q : Nat)) := by
        rw [HT.out.cellAt q (by omega)]
        simp [nInts, atN, List.getD, List.getElem?_eq_getElem hlt]
      have haN : atN todo q < N := by
        rcases HBF.out.mem (atN_mem hlt) with e | e
        · rw [e]; exact ha
        · exact e.2
      obtain ⟨r, cr, hnr⟩ := HC.out (atN todo q) haN
      have cr' := (hb.cell (p := ⟨g, atN todo q, none⟩) hg).trans cr
      obtain ⟨aor, rcap, rfl, hrc, hrr⟩ := hnr
      have HRR := hid hrr
      have HQ : Hid (atN todo q ∈ todo) := hid (atN_mem hlt)
      have HTA := hid (HTO.out (atN todo q) haN)
      have hll := hlen (atN todo q) haN
      generalize hA : atN todo q = a at *
      have HAQ := hid hA
      generalize hlnE : (to a).length = ln at *
      have HLN := hid hlnE
      generalize htnE : todo.length = tn at *
      have HTN := hid htnE
      clear hrr cr hlnE hA htnE
      have kd : decide ((q : Int) < (tn : Int)) = true := by simp; omega
      go_wp2_with fail
      go_quiet (fail)
      have HBD := hid (below_drewN hb nq)
      have HT2 := hid (own_keeps HT.out (below_drewN (Below.refl W0.heap.size W0) nq))
      have HS2 := hid (own_keeps HS.out (below_drewN (Below.refl W0.heap.size W0) nq))
      clear HT HS c0' cr' ct hgt kd hb
      generalize W0.drewN nq = W1 at *
      go_wp2_with fail
      go_loopw [9, 6] (fun i v wr => ∃ (k : Nat) (td : List Nat) (sn : Nat → Bool), k ≤ ln ∧ i = .int .i64 k ∧ Hid (Bfs (Ed N to) N at0 td sn) ∧ Hid (q < td.length ∧ atN td q = a) ∧ Hid (Done N to td sn q) ∧ Hid (∀ x, x < k → sn (atN (to a) x) = true) ∧ Hid (wr.ownsRow (w.heap.size + 1) 3 1 v td.length (nInts td)) ∧
          Hid (wr.ownsRow w.heap.size 4 1 (.slice (some ⟨w.heap.size, 0, none⟩) N N) N (outTo sn N N)) ∧ Below w.heap.size w wr) (fun i _ _ => ln - (intOf i).toNat)
      case atStart => exact ⟨0, todo, seen, Nat.zero_le _, rfl, HBF, hid ⟨by rw [HTN.out]; exact hlt, HAQ.out⟩, HD, hid (fun x hx => by omega), by rw [HTN.out]; exact HT2, HS2, HBD.out⟩
      case round =>
        obtain ⟨k, td, sn, hk, rfl, HBF2, HQ2, HD2, HK, HT3, HS3, hbr⟩ := hrel
        obtain ⟨aot, tcap, hv⟩ := own_slice HT3.out
        subst hv
        have htl2 := HBF2.out.len
        have hsz := hbr.size
        by_cases hlk : k < ln
        · obtain ⟨gr, e, hgr, crr⟩ := HRR.out (by omega)
          subst e
          have cb := (hbr.cell (p := ⟨gr, k, none⟩) hgr).trans (crr k hlk)
          have hbN : atN (to a) k < N := HTA.out _ (atN_mem (by rw [HLN.out]; exact hlk))
          have HED : Hid (Ed N to a (atN (to a) k)) := hid ⟨haN, atN_mem (by rw [HLN.out]; exact hlk)⟩
          have sb : wr.cell? ⟨w.heap.size, atN (to a) k, none⟩ = some (.bool (sn (atN (to a) k))) := by
            rw [HS3.out.cellAt _ (by omega)]
            exact outTo_get sn N _ hbN
          have sf := HS3.out.frozenAt (atN (to a) k)
          have HKS : Hid (sn (atN (to a) k) = true → ∀ x, x < k + 1 → sn (atN (to a) x) = true) := hid (fun h x hx => by
            by_cases e : x < k
            · exact HK.out x e
            · rw [show x = k by omega]; exact h)
          have HKU : Hid (∀ x, x < k + 1 → upd sn (atN (to a) k) true (atN (to a) x) = true) := hid (fun x hx => by
            unfold upd
            by_cases e : atN (to a) x = atN (to a) k
            · rw [if_pos e]
            · rw [if_neg e]
              by_cases e2 : x < k
              · exact HK.out x e2
              · exact absurd (by rw [show x = k by omega]) e)
          have HST := hid (HS3.out.stored (atN (to a) k) (.bool true))
          generalize hbb : atN (to a) k = b at *
          have HBB := hid hbb
          clear hbb crr
          cases hsv : sn b with
          | true =>
            rw [hsv] at sb
            have HSV := hid hsv
            clear hsv
            go_wp2_with fail
            go_roundw
            case rel => exact ⟨k + 1, td, sn, by omega, by go_num, HBF2, HQ2, HD2, hid (HKS.out HSV.out), HT3, HS3, hbr⟩
            case measure => simp [intOf]; omega
          | false =>
            rw [hsv] at sb
            have HSV := hid hsv
            clear hsv
            have BA := hid (bfs_add HBF2.out (by rw [← HQ2.out.2]; exact atN_mem HQ2.out.1) HED.out hbN HSV.out)
            have hst := HST.out
            rw [outTo_upd] at hst
            have HO5 := hid hst.1
            have HB5 := hid (hbr.setCell (p := ⟨w.heap.size, b, none⟩) (Nat.le_refl _) (.bool true))
            have t5 := own_set_other HT3.out (k := w.heap.size) (Nat.lt_succ_self _) b (.bool true)
            have cb5 : (wr.setCell ⟨w.heap.size, b, none⟩ (.bool true)).cell? ⟨gr, k, none⟩ = some (.int .i64 (b : Nat)) := by
              rw [World.cell?_setCell_other _ _ _ _ (fun e => by have := congrArg Addr.block e; simp at this; omega)]
              exact cb
            have hs5 : (wr.setCell ⟨w.heap.size, b, none⟩ (.bool true)).heap.size = wr.heap.size := World.size_setCell _ _ _
            have HDP := hid (done_push (b := b) HD2.out (by have := HQ2.out.1; omega))
            have HQP : Hid (q < (td ++ [b]).length ∧ atN (td ++ [b]) q = a) := hid ⟨by have := HQ2.out.1; rw [List.length_append]; omega, by rw [atN_snoc HQ2.out.1]; exact HQ2.out.2⟩
            have HLT : Hid (nInts td ++ [.int .i64 (b : Nat)] = nInts (td ++ [b]) ∧ td.length + 1 = (td ++ [b]).length) := hid ⟨by simp [nInts], by simp⟩
            clear hst HST HS3 HT3 HBF2 HD2 HQ2
            have hl5 : td.length ≤ N + 1 := htl2
            go_wp2_with (at_builtin; go_must (refine wpList_append_own _ rfl (.tmp 54) (.tmp 59) 27 rfl (w.heap.size + 1) 3 i1 (.int .i64 0) 1 8 Try.underlying27 hi1 hz01 hz11 hz21 rfl (by decide) _ _ _ rfl (t5.alloc _) ⟨wr.heap.size, 0, none⟩ 1 1 [.int .i64 b] rfl rfl ?c1 ?c2 ?c3 ?c4 ?c5 ?_))
            case c1 => exact fun z u hz => by have := World.cell?_alloc_here (wr.setCell ⟨w.heap.size, b, none⟩ (.bool true)) #[.int .i64 (b : Nat)] 3 wr.heap.size z hs5.symm; rw [add_off, Nat.zero_add, this]; simpa using hz
            case c2 => intro u hu; simp at hu; subst hu; rfl
            case c3 => unfold maxLen; omega
            case c4 => omega
            case c5 => simp; omega
            intro v' w2 hown hgrow _
            have B6 := hid ((HB5.out.alloc (by rw [hs5]; exact hsz) _).grown hgrow (by rw [World.size_alloc, hs5]; omega) (fun k h => Nat.le_trans (Nat.le_succ _) (t5.lt k h).1))
            have S6 := hid ((HO5.out.alloc (.cells #[.int .i64 (b : Nat)] 3)).kept hgrow (own_ne' (HO5.out.alloc (.cells #[.int .i64 (b : Nat)] 3)) (t5.alloc (.cells #[.int .i64 (b : Nat)] 3)) (by decide)))
            rw [HLT.out.1, HLT.out.2] at hown
            have O6 := hid hown
            clear hown hgrow t5 cb5 HB5 HO5 sb sf cb
            go_wp2_with fail
            go_roundw
            case rel => exact ⟨k + 1, td ++ [b], upd sn b true, by omega, by go_num, BA, HQP, HDP, HKU, O6, S6, B6.out⟩
            case measure => simp [intOf]; omega
        · obtain rfl : k = ln := by omega
          have HDN : Hid (Done N to td sn (q + 1)) := hid (fun x hx c hc => by
            by_cases e : x < q
            · exact HD2.out x e c hc
            · rw [show x = q by omega, HQ2.out.2] at hc
              obtain ⟨y, hy, rfl⟩ := mem_atN hc
              exact HK.out y (by rw [HLN.out] at hy; exact hy))
          have hq1 : q + 1 ≤ td.length := HQ2.out.1
          go_wp2_with fail
          go_roundw
          case rel => exact ⟨q + 1, td, sn, by go_num, hq1, HBF2, HDN, HT3, HS3, hbr⟩
          case measure => simp [intOf]; omega
    · have HALL : Hid (∀ b, seen b = true ↔ reach (Ed N to) at0 b) := hid (bfs_done HBF.out (fun a hm b he => by
        obtain ⟨x, hx, rfl⟩ := mem_atN hm
        exact HD.out x (by omega) b he.2))
      generalize todo.length = tn at *
      have kd : decide ((q : Int) < (tn : Int)) = false := by simp; omega
      go_wp2_with fail
      go_ret
      exact ⟨w.heap.size, seen, rfl, Nat.le_refl _, HS.out, HALL.out, hb⟩

end Go.Proofs.Ytjagijohfkffiaa

/- The walk of the reference's live: a place on a ring is left. -/
namespace Go.Proofs.Ytjagijohfkffiaa
open Go.RowKit
set_option linter.unusedVariables false

/-- A row of bools of a call's own, at block g. -/
def BO (w : World) (B g N : Nat) (f : Nat → Bool) : Prop := w.ownsRow B 4 1 (.slice (some ⟨g, 0, none⟩) N N) N (outTo f N N)

theorem BO.get {w : World} {B g N : Nat} {f : Nat → Bool} (h : BO w B g N f) {i : Nat} (hi : i < N) : w.cell? ⟨g, i, none⟩ = some (.bool (f i)) := by
  rw [World.ownsRow.cellAt h i (by omega)]
  exact outTo_get f N i hi
theorem BO.fz {w : World} {B g N : Nat} {f : Nat → Bool} (h : BO w B g N f) (i : Nat) : w.frozen? ⟨g, i, none⟩ = false := World.ownsRow.frozenAt h i
theorem BO.set {w : World} {B g N : Nat} {f : Nat → Bool} (h : BO w B g N f) (b : Nat) (v : Bool) : BO (w.setCell ⟨g, b, none⟩ (.bool v)) B g N (upd f b v) := by
  have := (World.ownsRow.stored h b (.bool v)).1
  rw [outTo_upd] at this
  exact this
theorem BO.other {w : World} {B B2 g g2 N N2 : Nat} {f f2 : Nat → Bool} (h : BO w B g N f) (h2 : BO w B2 g2 N2 f2) (hne : g ≠ g2) (b : Nat) (u : Value) : BO (w.setCell ⟨g2, b, none⟩ u) B g N f :=
  World.ownsRow.kept h (World.ownsRow.stored h2 b u).2 (Or.inr (by simpa [Value.ownBlock] using hne))
theorem BO.grown {w w' : World} {B g N : Nat} {f : Nat → Bool} (h : BO w B g N f) (hg : w.grownBy w' none) : BO w' B g N f := World.ownsRow.kept h hg (Or.inr (by simp [Value.ownBlock]))
theorem BO.blk {w : World} {B g N : Nat} {f : Nat → Bool} (h : BO w B g N f) : B ≤ g ∧ g < w.heap.size := World.ownsRow.lt h _ rfl

def cnt (f : Nat → Bool) : Nat → Nat
  | 0 => 0
  | n + 1 => cnt f n + (if f n = true then 1 else 0)
theorem cnt_congr {f g : Nat → Bool} : ∀ n, (∀ i, i < n → f i = g i) → cnt f n = cnt g n
  | 0, _ => rfl
  | n + 1, h => by rw [cnt, cnt, cnt_congr n (fun i hi => h i (by omega)), h n (by omega)]
theorem cnt_upd {f : Nat → Bool} {b : Nat} (hf : f b = true) : ∀ n, b < n → cnt (upd f b false) n + 1 = cnt f n
  | 0, h => by omega
  | n + 1, h => by
    by_cases e : b = n
    · subst e
      rw [cnt, cnt, cnt_congr (f := upd f b false) (g := f) b (fun i hi => by unfold upd; rw [if_neg (by omega)])]
      simp [upd, hf]
    · rw [cnt, cnt]
      have := cnt_upd hf n (by omega)
      have e2 : upd f b false n = f n := by unfold upd; rw [if_neg (fun h => e h.symm)]
      rw [e2]
      omega

/-- How many cells of a block say true. -/
def trues (w : World) (g : Nat) : Nat → Nat
  | 0 => 0
  | n + 1 => trues w g n + (match w.cell? ⟨g, n, none⟩ with | some (.bool true) => 1 | _ => 0)
theorem trues_eq {w : World} {B g N : Nat} {f : Nat → Bool} (h : BO w B g N f) : ∀ n, n ≤ N → trues w g n = cnt f n
  | 0, _ => rfl
  | n + 1, hn => by
    rw [trues, cnt, trues_eq h n (by omega), h.get (by omega)]
    cases f n <;> simp
def moreOf : Value → Nat
  | .bool true => 1
  | _ => 0

def LvP (N : Nat) (to : Nat → List Nat) (out : Nat → Bool) : Prop := ∀ c, reach (Ed N to) c c → out c = true
def InP (to : Nat → List Nat) (out inn ah : Nat → Bool) (q k : Nat) : Prop := ∀ i x, (i < q ∧ x < (to i).length ∨ i = q ∧ x < k) → out i = true → inn (atN (to i) x) = true ∧ (out (atN (to i) x) = true → ah i = true)

theorem in_start (to : Nat → List Nat) (out inn ah : Nat → Bool) : InP to out inn ah 0 0 := fun i x h => by omega
theorem upd_true {f : Nat → Bool} {b y : Nat} {v : Bool} (h : f y = true) (hv : f b = true → v = true) : upd f b v y = true := by
  unfold upd
  by_cases e : y = b
  · rw [if_pos e]; exact hv (e ▸ h)
  · rw [if_neg e]; exact h
theorem upd_here (f : Nat → Bool) (b : Nat) (v : Bool) : upd f b v b = v := by simp [upd]
theorem in_step {to : Nat → List Nat} {out inn ah : Nat → Bool} {q k : Nat} (h : InP to out inn ah q k) : InP to out (upd inn (atN (to q) k) true) (upd ah q (ah q || out (atN (to q) k))) q (k + 1) := fun i x hx ho => by
  by_cases e : i = q ∧ x = k
  · obtain ⟨rfl, rfl⟩ := e
    exact ⟨upd_here _ _ _, fun hb => by rw [upd_here, hb]; simp⟩
  · obtain ⟨h1, h2⟩ := h i x (by omega) ho
    exact ⟨upd_true h1 (fun _ => rfl), fun hb => upd_true (h2 hb) (fun h => by rw [h]; rfl)⟩
theorem in_next {to : Nat → List Nat} {out inn ah : Nat → Bool} {q k : Nat} (h : InP to out inn ah q k) (hk : k = (to q).length ∨ out q = false) : InP to out inn ah (q + 1) 0 := fun i x hx ho => by
  rcases hk with hk | hk
  · by_cases e : i = q
    · subst e; exact h i x (by omega) ho
    · exact h i x (by omega) ho
  · by_cases e : i = q
    · subst e; rw [hk] at ho; cases ho
    · exact h i x (by omega) ho
theorem in_all {N : Nat} {to : Nat → List Nat} {out inn ah : Nat → Bool} (h : InP to out inn ah N 0) (hl : LvP N to out) {c : Nat} (hc : reach (Ed N to) c c) : inn c = true ∧ ah c = true := by
  obtain ⟨⟨d, hd, hdd⟩, e, he, hee⟩ := ring_next hc
  obtain ⟨x, hx, ex⟩ := mem_atN hd.2
  obtain ⟨y, hy, ey⟩ := mem_atN he.2
  have a1 := h c x (Or.inl ⟨hd.1, hx⟩) (hl c hc)
  have a2 := h e y (Or.inl ⟨he.1, hy⟩) (hl e hee)
  rw [ex] at a1
  rw [ey] at a2
  exact ⟨a2.1, a1.2 (hl d hdd)⟩
theorem lv_drop {N : Nat} {to : Nat → List Nat} {out inn ah o2 : Nat → Bool} (h : InP to out inn ah N 0) (hl : LvP N to out) (h2 : LvP N to o2) {q : Nat} (hq : inn q = false ∨ ah q = false) : LvP N to (upd o2 q false) := fun c hc => by
  unfold upd
  by_cases e : c = q
  · subst e
    obtain ⟨h3, h4⟩ := in_all h hl hc
    rcases hq with hq | hq
    · rw [hq] at h3; cases h3
    · rw [hq] at h4; cases h4
  · rw [if_neg e]; exact h2 c hc

set_option maxHeartbeats 8000000 in
set_option maxRecDepth 100000 in
theorem live_net (P N K : Nat) (to : Nat → List Nat) (kp : Nat → Nat → Bool) (w : World) (hn : NetM w P N to K kp) (hto : ∀ a, a < N → ∀ b ∈ to a, b < N) (hlen : ∀ a, a < N → (to a).length ≤ 4398046511104) (hN : N ≤ 1099511627776) :
    Calls Try.prog 127 #[.pointer (some ⟨P, 0, none⟩)] w fun e w' => ∃ g out, e = .returned (.slice (some ⟨g, 0, none⟩) N N) ∧ w.heap.size ≤ g ∧ BO w' w.heap.size g N out ∧ LvP N to out ∧ Below w.heap.size w w' := by
  obtain ⟨v0, c0, ao, cap, rfl, hcap, hrow⟩ := hn.c0
  have hP := hn.lt
  have HROW := hid hrow
  obtain ⟨i0, hi, hz0, hz1, hz2⟩ := info_parts Try.infoBool
  have HTO := hid hto
  have HLE := hid hlen
  clear hrow hn hto hlen
  go_enter Try.func127, Try.ntmps127
  go_wp2_with (at_make; go_must (refine wpList_make_full _ rfl (.tmp 18) (.tmp 18) 36 rfl w.heap.size 4 i0 (.bool false) 1 Try.underlying36 hi hz0 hz1 .i64 .i64 N N N rfl rfl rfl rfl ?m2 ?m3 (Nat.le_refl _) ?_))
  case m2 => rw [hz2]; omega
  case m3 => unfold maxLen; omega
  intro w1 own1 grow1
  have eo : (madeCells #[Value.bool false] N).toList = List.replicate N (.bool false) := toList_madeCells_one _ _
  rw [eo, ← outTo_zero (fun _ => true)] at own1
  have hb1 : Below w.heap.size w w1 := (Below.refl _ _).grown grow1 (Nat.le_refl _) (fun k h => by cases h)
  have OS := hid own1
  have HB1 := hid hb1
  clear own1 grow1 eo hb1
  go_wp2_with fail
  go_loopw [5] (fun i wq => ∃ k : Nat, k ≤ N ∧ i = .int .i64 k ∧ Hid (wq.ownsRow w.heap.size 4 1 (.slice (some ⟨w.heap.size, 0, none⟩) N N) N (outTo (fun _ => true) N k)) ∧ Below w.heap.size w wq) (fun i _ => N - (intOf i).toNat)
  case atStart => exact ⟨0, Nat.zero_le _, rfl, OS, HB1.out⟩
  case round =>
    obtain ⟨k, hk, rfl, HO, hbq⟩ := hrel
    rename World => Wa
    by_cases hlk : k < N
    · have own := HO.out
      have q0 := own.frozenAt k
      have q1 : (Wa.cell? ⟨w.heap.size, k, none⟩).isSome = true := by
        rw [own.cellAt k (by omega)]
        simp [outTo, hlk]
      obtain ⟨qv, q2⟩ := Option.isSome_iff_exists.1 q1
      have hO := own.stored k (.bool true)
      rw [outTo_set (fun _ => true)] at hO
      have HO2 := hid hO.1
      have HB2 := hid (hbq.setCell (p := ⟨w.heap.size, k, none⟩) (Nat.le_refl _) (.bool true))
      clear hO q1 own HO
      go_wp2_with fail
      go_roundw
      case rel => exact ⟨k + 1, by omega, by go_num, HO2, HB2.out⟩
      case measure => simp [intOf]; omega
    · obtain rfl : k = N := by omega
      have HB0 : Hid (BO Wa w.heap.size w.heap.size k (fun _ => true)) := HO
      clear HO OS
      go_wp2_with fail
      go_loopw [6] (fun m wq => ∃ (mb : Bool) (out : Nat → Bool), m = .bool mb ∧ Hid (LvP k to out) ∧ Hid (BO wq w.heap.size w.heap.size k out) ∧ Below w.heap.size w wq) (fun m wq => trues wq w.heap.size k + moreOf m)
      case atStart => exact ⟨true, fun _ => true, rfl, hid (fun _ _ => rfl), HB0, hbq⟩
      case round =>
        obtain ⟨mb, out, rfl, HL, HO, hb⟩ := hrel
        rename World => W0
        cases mb with
        | false =>
          go_wp2_with fail
          go_ret
          exact ⟨w.heap.size, out, rfl, Nat.le_refl _, HO.out, HL.out, hb⟩
        | true =>
          have hsz := hb.size
          go_wp2_with (at_make; go_must (refine wpList_make_full _ rfl (.tmp 29) (.tmp 29) 36 rfl w.heap.size 4 i0 (.bool false) 1 Try.underlying36 hi hz0 hz1 .i64 .i64 k k k rfl rfl rfl rfl ?m2 ?m3 hsz ?_))
          case m2 => rw [hz2]; omega
          case m3 => unfold maxLen; omega
          intro w2 own2 grow2
          have eo : (madeCells #[Value.bool false] k).toList = List.replicate k (.bool false) := toList_madeCells_one _ _
          rw [eo, ← outTo_zero (fun _ => false), show outTo (fun _ => false) k 0 = outTo (fun _ => false) k k by simp [outTo]] at own2
          have hb2 : Below w.heap.size w w2 := hb.grown grow2 hsz (fun k h => by cases h)
          have OI : Hid (BO w2 w.heap.size W0.heap.size k (fun _ => false)) := hid own2
          have OO := hid (HO.out.grown grow2)
          have HB2 := hid hb2
          have hsz2 := hb2.size
          have hlt2 := OI.out.blk.2
          have hlt0 := HO.out.blk.2
          clear own2 grow2 eo hb2
          go_wp2_with (at_make; go_must (refine wpList_make_full _ rfl (.tmp 31) (.tmp 31) 36 rfl w.heap.size 4 i0 (.bool false) 1 Try.underlying36 hi hz0 hz1 .i64 .i64 k k k rfl rfl rfl rfl ?m2 ?m3 hsz2 ?_))
          case m2 => rw [hz2]; omega
          case m3 => unfold maxLen; omega
          intro w3 own3 grow3
          have eo : (madeCells #[Value.bool false] k).toList = List.replicate k (.bool false) := toList_madeCells_one _ _
          rw [eo, ← outTo_zero (fun _ => false), show outTo (fun _ => false) k 0 = outTo (fun _ => false) k k by simp [outTo]] at own3
          have OA : Hid (BO w3 w.heap.size w2.heap.size k (fun _ => false)) := hid own3
          have OI3 := hid (OI.out.grown grow3)
          have OO3 := hid (OO.out.grown grow3)
          have HB3 := hid (HB2.out.grown grow3 hsz2 (fun k h => by cases h))
          have HTR := hid (trues_eq HO.out k (Nat.le_refl _))
          clear own3 grow3 eo OI OO HO HB0
          generalize hgi : W0.heap.size = gi at *
          generalize hga : w2.heap.size = ga at *
          go_wp2_with fail
          go_loopw [9] (fun i wq => ∃ (q : Nat) (inn ah : Nat → Bool), q ≤ k ∧ i = .int .i64 q ∧ Hid (InP to out inn ah q 0) ∧ Hid (BO wq w.heap.size w.heap.size k out) ∧ Hid (BO wq w.heap.size gi k inn) ∧ Hid (BO wq w.heap.size ga k ah) ∧ Below w.heap.size w wq) (fun i _ => k - (intOf i).toNat)
          case atStart => exact ⟨0, _, _, Nat.zero_le _, rfl, hid (in_start _ _ _ _), OO3, OI3, OA, HB3.out⟩
          case round =>
            obtain ⟨q, inn, ah, hq, rfl, HI, HO1, HO2, HO3, hb4⟩ := hrel
            rename World => W4
            by_cases hlq : q < k
            · obtain ⟨g, e, hg, hcell⟩ := HROW.out (by omega)
              subst e
              obtain ⟨r, cr, aor, rcap, rfl, hrc, hrr⟩ := hcell q hlq
              have HRR := hid hrr
              have HCR := hid cr
              have hll := HLE.out q hlq
              have HTQ := hid (HTO.out q hlq)
              generalize hlnE : (to q).length = ln at *
              have HLN := hid hlnE
              clear hrr hlnE cr hcell
              go_wp2_with fail
              go_loopw [10] (fun i wq => ∃ (y : Nat) (inn ah : Nat → Bool), y ≤ ln ∧ i = .int .i64 y ∧ Hid (InP to out inn ah q y) ∧ Hid (BO wq w.heap.size w.heap.size k out) ∧ Hid (BO wq w.heap.size gi k inn) ∧ Hid (BO wq w.heap.size ga k ah) ∧ Below w.heap.size w wq) (fun i _ => ln - (intOf i).toNat)
              case atStart => exact ⟨0, inn, ah, Nat.zero_le _, rfl, HI, HO1, HO2, HO3, hb4⟩
              case round =>
                obtain ⟨y, inn, ah, hy, rfl, HI, HO1, HO2, HO3, hb5⟩ := hrel
                have c05 := (hb5.cell (p := ⟨P, 0, none⟩) hP).trans c0
                have cr5 := (hb5.cell (p := ⟨g, q, none⟩) hg).trans HCR.out
                by_cases hly : y < ln
                · have co := HO1.out.get hlq
                  cases hoq : out q with
                  | false =>
                    rw [hoq] at co
                    have HNX := hid (in_next HI.out (Or.inr hoq))
                    clear hoq
                    go_wp2_with fail
                    go_roundw
                    case rel => exact ⟨q + 1, inn, ah, by omega, by go_num, HNX, HO1, HO2, HO3, hb5⟩
                    case measure => simp [intOf]; omega
                  | true =>
                    rw [hoq] at co
                    obtain ⟨gr, e, hgr, crr⟩ := HRR.out (by omega)
                    subst e
                    have cb := (hb5.cell (p := ⟨gr, y, none⟩) hgr).trans (crr y hly)
                    have hbN : atN (to q) y < k := HTQ.out _ (atN_mem (by rw [HLN.out]; exact hly))
                    have HST := hid (in_step HI.out)
                    have n1 : w.heap.size ≠ gi := by omega
                    have n2 : w.heap.size ≠ ga := by omega
                    have n3 : ga ≠ gi := by omega
                    generalize atN (to q) y = b at *
                    have s1 := HO2.out.fz b
                    have s2 := HO2.out.get hbN
                    have A1 := HO1.out.other HO2.out n1 b (.bool true)
                    have A2 := HO2.out.set b true
                    have A3 := HO3.out.other HO2.out n3 b (.bool true)
                    have t1 := A3.fz q
                    have t2 := A3.get hlq
                    have t3 := A1.get hbN
                    have D1 := hid (A1.other A3 n2 q (.bool (ah q || out b)))
                    have D2 := hid (A2.other A3 n3.symm q (.bool (ah q || out b)))
                    have D3 := hid (A3.set q (ah q || out b))
                    have HB6 := hid ((hb5.setCell (p := ⟨gi, b, none⟩) (by show w.heap.size ≤ gi; omega) (.bool true)).setCell (p := ⟨ga, q, none⟩) (by show w.heap.size ≤ ga; omega) (.bool (ah q || out b)))
                    clear A1 A2 A3 crr hoq HO1 HO2 HO3 HI
                    generalize inn b = iv at *
                    generalize hav : ah q = av at *
                    generalize hov : out b = ov at *
                    clear hav hov
                    cases av with
                    | true =>
                      go_wp2_with fail
                      go_roundw
                      case rel => exact ⟨y + 1, _, _, by omega, by go_num, HST, D1, D2, D3, HB6.out⟩
                      case measure => simp [intOf]; omega
                    | false =>
                      rw [Bool.false_or] at HST D1 D2 D3 HB6
                      go_wp2_with fail
                      go_roundw
                      case rel => exact ⟨y + 1, _, _, by omega, by go_num, HST, D1, D2, D3, HB6.out⟩
                      case measure => simp [intOf]; omega
                · obtain rfl : y = ln := by omega
                  have HNX := hid (in_next HI.out (Or.inl HLN.out.symm))
                  go_wp2_with fail
                  go_roundw
                  case rel => exact ⟨q + 1, inn, ah, by omega, by go_num, HNX, HO1, HO2, HO3, hb5⟩
                  case measure => simp [intOf]; omega
            · obtain rfl : q = k := by omega
              go_wp2_with fail
              go_loopw [12, 6] (fun i m wq => ∃ (x : Nat) (mb : Bool) (o2 : Nat → Bool), x ≤ q ∧ i = .int .i64 x ∧ m = .bool mb ∧ Hid (LvP q to o2) ∧ Hid (cnt o2 q + moreOf (.bool mb) ≤ cnt out q) ∧ Hid (BO wq w.heap.size w.heap.size q o2) ∧ Hid (BO wq w.heap.size gi q inn) ∧ Hid (BO wq w.heap.size ga q ah) ∧ Below w.heap.size w wq) (fun i _ _ => q - (intOf i).toNat)
              case atStart => exact ⟨0, false, out, Nat.zero_le _, rfl, rfl, HL, hid (by simp [moreOf]), HO1, HO2, HO3, hb4⟩
              case round =>
                obtain ⟨x, mb, o2, hx, rfl, rfl, HL2, HC, HP1, HP2, HP3, hb5⟩ := hrel
                by_cases hlx : x < q
                · have s1 := HP1.out.get hlx
                  have s2 := HP2.out.get hlx
                  have s3 := HP3.out.get hlx
                  have s4 := HP1.out.fz x
                  have n1 : gi ≠ w.heap.size := by omega
                  have n2 : ga ≠ w.heap.size := by omega
                  have D1 := hid (HP1.out.set x false)
                  have D2 := hid (HP2.out.other HP1.out n1 x (.bool false))
                  have D3 := hid (HP3.out.other HP1.out n2 x (.bool false))
                  have HB6 := hid (hb5.setCell (p := ⟨w.heap.size, x, none⟩) (Nat.le_refl _) (.bool false))
                  have HDR := hid (fun h => lv_drop HI.out HL.out HL2.out (q := x) h)
                  have HCU : Hid (o2 x = true → cnt (upd o2 x false) q + moreOf (.bool true) ≤ cnt out q) := hid (fun h => by have := cnt_upd h q hlx; have := HC.out; simp [moreOf] at *; omega)
                  generalize o2 x = ov at *
                  generalize inn x = iv at *
                  generalize ah x = av at *
                  cases ov with
                  | false =>
                    go_wp2_with fail
                    go_roundw
                    case rel => exact ⟨x + 1, mb, o2, by omega, by go_num, rfl, HL2, HC, HP1, HP2, HP3, hb5⟩
                    case measure => simp [intOf]; omega
                  | true =>
                    have HC2 := hid (HCU.out rfl)
                    clear HCU
                    cases iv with
                    | false =>
                      have HL3 := hid (HDR.out (Or.inl rfl))
                      clear HDR
                      go_wp2_with fail
                      go_roundw
                      case rel => exact ⟨x + 1, true, _, by omega, by go_num, rfl, HL3, HC2, D1, D2, D3, HB6.out⟩
                      case measure => simp [intOf]; omega
                    | true =>
                      cases av with
                      | false =>
                        have HL3 := hid (HDR.out (Or.inr rfl))
                        clear HDR
                        go_wp2_with fail
                        go_roundw
                        case rel => exact ⟨x + 1, true, _, by omega, by go_num, rfl, HL3, HC2, D1, D2, D3, HB6.out⟩
                        case measure => simp [intOf]; omega
                      | true =>
                        clear HDR
                        go_wp2_with fail
                        go_roundw
                        case rel => exact ⟨x + 1, mb, o2, by omega, by go_num, rfl, HL2, HC, HP1, HP2, HP3, hb5⟩
                        case measure => simp [intOf]; omega
                · obtain rfl : x = q := by omega
                  go_wp2_with fail
                  go_roundw
                  case rel => exact ⟨mb, o2, rfl, HL2, HP1, hb5⟩
                  case measure =>
                    have h1 := trues_eq HP1.out x (Nat.le_refl _)
                    have h2 := HC.out
                    have h3 := HTR.out
                    simp only [moreOf] at *
                    omega

end Go.Proofs.Ytjagijohfkffiaa
