import Derived.Test.YtjagijohfkffiabCHEM08
import Derived.Test.YtjagijohfkffiabCHEM36
import Derived.Test.YtjagijohfkffiabCHEM37
import Derived.Deep.AppendLies
import Derived.Deep.RegionHeld3
import Derived.Deep.MidRow
import Derived.Deep.WholeRow

/- The walk of the reference's live: a place on a ring is left. -/
namespace Go.Proofs.Ytjagijohfkffiab
open Go.RowKit
set_option linter.unusedVariables false

/-- A row of bools of a call's own, at block g. -/
def BO (w : World) (B g N : Nat) (f : Nat → Bool) : Prop := w.ownsRow B 4 1 (.slice (some ⟨g, 0, none⟩) N N) N (outTo f N N)

theorem BO.get {w : World} {B g N : Nat} {f : Nat → Bool} (h : BO w B g N f) {i : Nat} (hi : i < N) : w.cell? ⟨g, i, none⟩ = some (.bool (f i)) := by
  rw [World.ownsRow.cellAt h i (by omega)]
  exact outTo_get f N i hi
theorem BO.fz {w : World} {B g N : Nat} {f : Nat → Bool} (h : BO w B g N f) (i : Nat) : w.frozen? ⟨g, i, none⟩ = false := World.ownsRow.frozenAt h i
theorem BO.set {w : World} {B g N : Nat} {f : Nat → Bool} (h : BO w B g N f) (b : Nat) (v : Bool) : BO (w.setCell ⟨g, b, none⟩ (.bool v)) B g N (upd f b v) := by
  have := (World.ownsRow.stored h b (.bool v)).1
  rw [outTo_upd] at this
  exact this
theorem BO.other {w : World} {B B2 g g2 N N2 : Nat} {f f2 : Nat → Bool} (h : BO w B g N f) (h2 : BO w B2 g2 N2 f2) (hne : g ≠ g2) (b : Nat) (u : Value) : BO (w.setCell ⟨g2, b, none⟩ u) B g N f :=
  World.ownsRow.kept h (World.ownsRow.stored h2 b u).2 (Or.inr (by simpa [Value.ownBlock] using hne))
theorem BO.grown {w w' : World} {B g N : Nat} {f : Nat → Bool} (h : BO w B g N f) (hg : w.grownBy w' none) : BO w' B g N f := World.ownsRow.kept h hg (Or.inr (by simp [Value.ownBlock]))
theorem BO.blk {w : World} {B g N : Nat} {f : Nat → Bool} (h : BO w B g N f) : B ≤ g ∧ g < w.heap.size := World.ownsRow.lt h _ rfl

def cnt (f : Nat → Bool) : Nat → Nat
  | 0 => 0
  | n + 1 => cnt f n + (if f n = true then 1 else 0)
theorem cnt_congr {f g : Nat → Bool} : ∀ n, (∀ i, i < n → f i = g i) → cnt f n = cnt g n
  | 0, _ => rfl
  | n + 1, h => by rw [cnt, cnt, cnt_congr n (fun i hi => h i (by omega)), h n (by omega)]
theorem cnt_upd {f : Nat → Bool} {b : Nat} (hf : f b = true) : ∀ n, b < n → cnt (upd f b false) n + 1 = cnt f n
  | 0, h => by omega
  | n + 1, h => by
    by_cases e : b = n
    · subst e
      rw [cnt, cnt, cnt_congr (f := upd f b false) (g := f) b (fun i hi => by unfold upd; rw [if_neg (by omega)])]
      simp [upd, hf]
    · rw [cnt, cnt]
      have := cnt_upd hf n (by omega)
      have e2 : upd f b false n = f n := by unfold upd; rw [if_neg (fun h => e h.symm)]
      rw [e2]
      omega

/-- How many cells of a block say true. -/
def trues (w : World) (g : Nat) : Nat → Nat
  | 0 => 0
  | n + 1 => trues w g n + (match w.cell? ⟨g, n, none⟩ with | some (.bool true) => 1 | _ => 0)
theorem trues_eq {w : World} {B g N : Nat} {f : Nat → Bool} (h : BO w B g N f) : ∀ n, n ≤ N → trues w g n = cnt f n
  | 0, _ => rfl
  | n + 1, hn => by
    rw [trues, cnt, trues_eq h n (by omega), h.get (by omega)]
    cases f n <;> simp
def moreOf : Value → Nat
  | .bool true => 1
  | _ => 0

def LvP (N : Nat) (to : Nat → List Nat) (out : Nat → Bool) : Prop := ∀ c, reach (Ed N to) c c → out c = true
def InP (to : Nat → List Nat) (out inn ah : Nat → Bool) (q k : Nat) : Prop := ∀ i x, (i < q ∧ x < (to i).length ∨ i = q ∧ x < k) → out i = true → inn (atN (to i) x) = true ∧ (out (atN (to i) x) = true → ah i = true)

theorem in_start (to : Nat → List Nat) (out inn ah : Nat → Bool) : InP to out inn ah 0 0 := fun i x h => by omega
theorem upd_true {f : Nat → Bool} {b y : Nat} {v : Bool} (h : f y = true) (hv : f b = true → v = true) : upd f b v y = true := by
  unfold upd
  by_cases e : y = b
  · rw [if_pos e]; exact hv (e ▸ h)
  · rw [if_neg e]; exact h
theorem upd_here (f : Nat → Bool) (b : Nat) (v : Bool) : upd f b v b = v := by simp [upd]
theorem in_step {to : Nat → List Nat} {out inn ah : Nat → Bool} {q k : Nat} (h : InP to out inn ah q k) : InP to out (upd inn (atN (to q) k) true) (upd ah q (ah q || out (atN (to q) k))) q (k + 1) := fun i x hx ho => by
  by_cases e : i = q ∧ x = k
  · obtain ⟨rfl, rfl⟩ := e
    exact ⟨upd_here _ _ _, fun hb => by rw [upd_here, hb]; simp⟩
  · obtain ⟨h1, h2⟩ := h i x (by omega) ho
    exact ⟨upd_true h1 (fun _ => rfl), fun hb => upd_true (h2 hb) (fun h => by rw [h]; rfl)⟩
theorem in_next {to : Nat → List Nat} {out inn ah : Nat → Bool} {q k : Nat} (h : InP to out inn ah q k) (hk : k = (to q).length ∨ out q = false) : InP to out inn ah (q + 1) 0 := fun i x hx ho => by
  rcases hk with hk | hk
  · by_cases e : i = q
    · subst e; exact h i x (by omega) ho
    · exact h i x (by omega) ho
  · by_cases e : i = q
    · subst e; rw [hk] at ho; cases ho
    · exact h i x (by omega) ho
theorem in_all {N : Nat} {to : Nat → List Nat} {out inn ah : Nat → Bool} (h : InP to out inn ah N 0) (hl : LvP N to out) {c : Nat} (hc : reach (Ed N to) c c) : inn c = true ∧ ah c = true := by
  obtain ⟨⟨d, hd, hdd⟩, e, he, hee⟩ := ring_next hc
  obtain ⟨x, hx, ex⟩ := mem_atN hd.2
  obtain ⟨y, hy, ey⟩ := mem_atN he.2
  have a1 := h c x (Or.inl ⟨hd.1, hx⟩) (hl c hc)
  have a2 := h e y (Or.inl ⟨he.1, hy⟩) (hl e hee)
  rw [ex] at a1
  rw [ey] at a2
  exact ⟨a2.1, a1.2 (hl d hdd)⟩
theorem lv_drop {N : Nat} {to : Nat → List Nat} {out inn ah o2 : Nat → Bool} (h : InP to out inn ah N 0) (hl : LvP N to out) (h2 : LvP N to o2) {q : Nat} (hq : inn q = false ∨ ah q = false) : LvP N to (upd o2 q false) := fun c hc => by
  unfold upd
  by_cases e : c = q
  · subst e
    obtain ⟨h3, h4⟩ := in_all h hl hc
    rcases hq with hq | hq
    · rw [hq] at h3; cases h3
    · rw [hq] at h4; cases h4
  · rw [if_neg e]; exact h2 c hc

set_option maxHeartbeats 8000000 in
set_option maxRecDepth 100000 in
theorem live_net (P N K : Nat) (to : Nat → List Nat) (kp : Nat → Nat → Bool) (w : World) (hn : NetM w P N to K kp) (hto : ∀ a, a < N → ∀ b ∈ to a, b < N) (hlen : ∀ a, a < N → (to a).length ≤ 4398046511104) (hN : N ≤ 1099511627776) :
    Calls Try.prog 122 #[.pointer (some ⟨P, 0, none⟩)] w fun e w' => ∃ g out, e = .returned (.slice (some ⟨g, 0, none⟩) N N) ∧ w.heap.size ≤ g ∧ BO w' w.heap.size g N out ∧ LvP N to out ∧ Below w.heap.size w w' := by
  obtain ⟨v0, c0, ao, cap, rfl, hcap, hrow⟩ := hn.c0
  have hP := hn.lt
  have HROW := hid hrow
  obtain ⟨i0, hi, hz0, hz1, hz2⟩ := info_parts Try.infoBool
  have HTO := hid hto
  have HLE := hid hlen
  clear hrow hn hto hlen
  go_enter Try.func122, Try.ntmps122
  go_wp2_with (at_make; go_must (refine wpList_make_full _ rfl (.tmp 18) (.tmp 18) 104 rfl w.heap.size 4 i0 (.bool false) 1 Try.underlying104 hi hz0 hz1 .i64 .i64 N N N rfl rfl rfl rfl ?m2 ?m3 (Nat.le_refl _) ?_))
  case m2 => rw [hz2]; omega
  case m3 => unfold maxLen; omega
  intro w1 own1 grow1
  have eo : (madeCells #[Value.bool false] N).toList = List.replicate N (.bool false) := toList_madeCells_one _ _
  rw [eo, ← outTo_zero (fun _ => true)] at own1
  have hb1 : Below w.heap.size w w1 := (Below.refl _ _).grown grow1 (Nat.le_refl _) (fun k h => by cases h)
  have OS := hid own1
  have HB1 := hid hb1
  clear own1 grow1 eo hb1
  go_wp2_with fail
  go_loopw [5] (fun i wq => ∃ k : Nat, k ≤ N ∧ i = .int .i64 k ∧ Hid (wq.ownsRow w.heap.size 4 1 (.slice (some ⟨w.heap.size, 0, none⟩) N N) N (outTo (fun _ => true) N k)) ∧ Below w.heap.size w wq) (fun i _ => N - (intOf i).toNat)
  case atStart => exact ⟨0, Nat.zero_le _, rfl, OS, HB1.out⟩
  case round =>
    obtain ⟨k, hk, rfl, HO, hbq⟩ := hrel
    rename World => Wa
    by_cases hlk : k < N
    · have own := HO.out
      have q0 := own.frozenAt k
      have q1 : (Wa.cell? ⟨w.heap.size, k, none⟩).isSome = true := by
        rw [own.cellAt k (by omega)]
        simp [outTo, hlk]
      obtain ⟨qv, q2⟩ := Option.isSome_iff_exists.1 q1
      have hO := own.stored k (.bool true)
      rw [outTo_set (fun _ => true)] at hO
      have HO2 := hid hO.1
      have HB2 := hid (hbq.setCell (p := ⟨w.heap.size, k, none⟩) (Nat.le_refl _) (.bool true))
      clear hO q1 own HO
      go_wp2_with fail
      go_roundw
      case rel => exact ⟨k + 1, by omega, by go_num, HO2, HB2.out⟩
      case measure => simp [intOf]; omega
    · obtain rfl : k = N := by omega
      have HB0 : Hid (BO Wa w.heap.size w.heap.size k (fun _ => true)) := HO
      clear HO OS
      go_wp2_with fail
      go_loopw [6] (fun m wq => ∃ (mb : Bool) (out : Nat → Bool), m = .bool mb ∧ Hid (LvP k to out) ∧ Hid (BO wq w.heap.size w.heap.size k out) ∧ Below w.heap.size w wq) (fun m wq => trues wq w.heap.size k + moreOf m)
      case atStart => exact ⟨true, fun _ => true, rfl, hid (fun _ _ => rfl), HB0, hbq⟩
      case round =>
        obtain ⟨mb, out, rfl, HL, HO, hb⟩ := hrel
        rename World => W0
        cases mb with
        | false =>
          go_wp2_with fail
          go_ret
          exact ⟨w.heap.size, out, rfl, Nat.le_refl _, HO.out, HL.out, hb⟩
        | true =>
          have hsz := hb.size
          go_wp2_with (at_make; go_must (refine wpList_make_full _ rfl (.tmp 29) (.tmp 29) 104 rfl w.heap.size 4 i0 (.bool false) 1 Try.underlying104 hi hz0 hz1 .i64 .i64 k k k rfl rfl rfl rfl ?m2 ?m3 hsz ?_))
          case m2 => rw [hz2]; omega
          case m3 => unfold maxLen; omega
          intro w2 own2 grow2
          have eo : (madeCells #[Value.bool false] k).toList = List.replicate k (.bool false) := toList_madeCells_one _ _
          rw [eo, ← outTo_zero (fun _ => false), show outTo (fun _ => false) k 0 = outTo (fun _ => false) k k by simp [outTo]] at own2
          have hb2 : Below w.heap.size w w2 := hb.grown grow2 hsz (fun k h => by cases h)
          have OI : Hid (BO w2 w.heap.size W0.heap.size k (fun _ => false)) := hid own2
          have OO := hid (HO.out.grown grow2)
          have HB2 := hid hb2
          have hsz2 := hb2.size
          have hlt2 := OI.out.blk.2
          have hlt0 := HO.out.blk.2
          clear own2 grow2 eo hb2
          go_wp2_with (at_make; go_must (refine wpList_make_full _ rfl (.tmp 31) (.tmp 31) 104 rfl w.heap.size 4 i0 (.bool false) 1 Try.underlying104 hi hz0 hz1 .i64 .i64 k k k rfl rfl rfl rfl ?m2 ?m3 hsz2 ?_))
          case m2 => rw [hz2]; omega
          case m3 => unfold maxLen; omega
          intro w3 own3 grow3
          have eo : (madeCells #[Value.bool false] k).toList = List.replicate k (.bool false) := toList_madeCells_one _ _
          rw [eo, ← outTo_zero (fun _ => false), show outTo (fun _ => false) k 0 = outTo (fun _ => false) k k by simp [outTo]] at own3
          have OA : Hid (BO w3 w.heap.size w2.heap.size k (fun _ => false)) := hid own3
          have OI3 := hid (OI.out.grown grow3)
          have OO3 := hid (OO.out.grown grow3)
          have HB3 := hid (HB2.out.grown grow3 hsz2 (fun k h => by cases h))
          have HTR := hid (trues_eq HO.out k (Nat.le_refl _))
          clear own3 grow3 eo OI OO HO HB0
          generalize hgi : W0.heap.size = gi at *
          generalize hga : w2.heap.size = ga at *
          go_wp2_with fail
          go_loopw [9] (fun i wq => ∃ (q : Nat) (inn ah : Nat → Bool), q ≤ k ∧ i = .int .i64 q ∧ Hid (InP to out inn ah q 0) ∧ Hid (BO wq w.heap.size w.heap.size k out) ∧ Hid (BO wq w.heap.size gi k inn) ∧ Hid (BO wq w.heap.size ga k ah) ∧ Below w.heap.size w wq) (fun i _ => k - (intOf i).toNat)
          case atStart => exact ⟨0, _, _, Nat.zero_le _, rfl, hid (in_start _ _ _ _), OO3, OI3, OA, HB3.out⟩
          case round =>
            obtain ⟨q, inn, ah, hq, rfl, HI, HO1, HO2, HO3, hb4⟩ := hrel
            rename World => W4
            by_cases hlq : q < k
            · obtain ⟨g, e, hg, hcell⟩ := HROW.out (by omega)
              subst e
              obtain ⟨r, cr, aor, rcap, rfl, hrc, hrr⟩ := hcell q hlq
              have HRR := hid hrr
              have HCR := hid cr
              have hll := HLE.out q hlq
              have HTQ := hid (HTO.out q hlq)
              generalize hlnE : (to q).length = ln at *
              have HLN := hid hlnE
              clear hrr hlnE cr hcell
              go_wp2_with fail
              go_loopw [10] (fun i wq => ∃ (y : Nat) (inn ah : Nat → Bool), y ≤ ln ∧ i = .int .i64 y ∧ Hid (InP to out inn ah q y) ∧ Hid (BO wq w.heap.size w.heap.size k out) ∧ Hid (BO wq w.heap.size gi k inn) ∧ Hid (BO wq w.heap.size ga k ah) ∧ Below w.heap.size w wq) (fun i _ => ln - (intOf i).toNat)
              case atStart => exact ⟨0, inn, ah, Nat.zero_le _, rfl, HI, HO1, HO2, HO3, hb4⟩
              case round =>
                obtain ⟨y, inn, ah, hy, rfl, HI, HO1, HO2, HO3, hb5⟩ := hrel
                have c05 := (hb5.cell (p := ⟨P, 0, none⟩) hP).trans c0
                have cr5 := (hb5.cell (p := ⟨g, q, none⟩) hg).trans HCR.out
                by_cases hly : y < ln
                · have co := HO1.out.get hlq
                  cases hoq : out q with
                  | false =>
                    rw [hoq] at co
                    have HNX := hid (in_next HI.out (Or.inr hoq))
                    clear hoq
                    go_wp2_with fail
                    go_roundw
                    case rel => exact ⟨q + 1, inn, ah, by omega, by go_num, HNX, HO1, HO2, HO3, hb5⟩
                    case measure => simp [intOf]; omega
                  | true =>
                    rw [hoq] at co
                    obtain ⟨gr, e, hgr, crr⟩ := HRR.out (by omega)
                    subst e
                    have cb := (hb5.cell (p := ⟨gr, y, none⟩) hgr).trans (crr y hly)
                    have hbN : atN (to q) y < k := HTQ.out _ (atN_mem (by rw [HLN.out]; exact hly))
                    have HST := hid (in_step HI.out)
                    have n1 : w.heap.size ≠ gi := by omega
                    have n2 : w.heap.size ≠ ga := by omega
                    have n3 : ga ≠ gi := by omega
                    generalize atN (to q) y = b at *
                    have s1 := HO2.out.fz b
                    have s2 := HO2.out.get hbN
                    have A1 := HO1.out.other HO2.out n1 b (.bool true)
                    have A2 := HO2.out.set b true
                    have A3 := HO3.out.other HO2.out n3 b (.bool true)
                    have t1 := A3.fz q
                    have t2 := A3.get hlq
                    have t3 := A1.get hbN
                    have D1 := hid (A1.other A3 n2 q (.bool (ah q || out b)))
                    have D2 := hid (A2.other A3 n3.symm q (.bool (ah q || out b)))
                    have D3 := hid (A3.set q (ah q || out b))
                    have HB6 := hid ((hb5.setCell (p := ⟨gi, b, none⟩) (by show w.heap.size ≤ gi; omega) (.bool true)).setCell (p := ⟨ga, q, none⟩) (by show w.heap.size ≤ ga; omega) (.bool (ah q || out b)))
                    clear A1 A2 A3 crr hoq HO1 HO2 HO3 HI
                    generalize inn b = iv at *
                    generalize hav : ah q = av at *
                    generalize hov : out b = ov at *
                    clear hav hov
                    cases av with
                    | true =>
                      go_wp2_with fail
                      go_roundw
                      case rel => exact ⟨y + 1, _, _, by omega, by go_num, HST, D1, D2, D3, HB6.out⟩
                      case measure => simp [intOf]; omega
                    | false =>
                      rw [Bool.false_or] at HST D1 D2 D3 HB6
                      go_wp2_with fail
                      go_roundw
                      case rel => exact ⟨y + 1, _, _, by omega, by go_num, HST, D1, D2, D3, HB6.out⟩
                      case measure => simp [intOf]; omega
                · obtain rfl : y = ln := by omega
                  have HNX := hid (in_next HI.out (Or.inl HLN.out.symm))
                  go_wp2_with fail
                  go_roundw
                  case rel => exact ⟨q + 1, inn, ah, by omega, by go_num, HNX, HO1, HO2, HO3, hb5⟩
                  case measure => simp [intOf]; omega
            · obtain rfl : q = k := by omega
              go_wp2_with fail
              go_loopw [12, 6] (fun i m wq => ∃ (x : Nat) (mb : Bool) (o2 : Nat → Bool), x ≤ q ∧ i = .int .i64 x ∧ m = .bool mb ∧ Hid (LvP q to o2) ∧ Hid (cnt o2 q + moreOf (.bool mb) ≤ cnt out q) ∧ Hid (BO wq w.heap.size w.heap.size q o2) ∧ Hid (BO wq w.heap.size gi q inn) ∧ Hid (BO wq w.heap.size ga q ah) ∧ Below w.heap.size w wq) (fun i _ _ => q - (intOf i).toNat)
              case atStart => exact ⟨0, false, out, Nat.zero_le _, rfl, rfl, HL, hid (by simp [moreOf]), HO1, HO2, HO3, hb4⟩
              case round =>
                obtain ⟨x, mb, o2, hx, rfl, rfl, HL2, HC, HP1, HP2, HP3, hb5⟩ := hrel
                by_cases hlx : x < q
                · have s1 := HP1.out.get hlx
                  have s2 := HP2.out.get hlx
                  have s3 := HP3.out.get hlx
                  have s4 := HP1.out.fz x
                  have n1 : gi ≠ w.heap.size := by omega
                  have n2 : ga ≠ w.heap.size := by omega
                  have D1 := hid (HP1.out.set x false)
                  have D2 := hid (HP2.out.other HP1.out n1 x (.bool false))
                  have D3 := hid (HP3.out.other HP1.out n2 x (.bool false))
                  have HB6 := hid (hb5.setCell (p := ⟨w.heap.size, x, none⟩) (Nat.le_refl _) (.bool false))
                  have HDR := hid (fun h => lv_drop HI.out HL.out HL2.out (q := x) h)
                  have HCU : Hid (o2 x = true → cnt (upd o2 x false) q + moreOf (.bool true) ≤ cnt out q) := hid (fun h => by have := cnt_upd h q hlx; have := HC.out; simp [moreOf] at *; omega)
                  generalize o2 x = ov at *
                  generalize inn x = iv at *
                  generalize ah x = av at *
                  cases ov with
                  | false =>
                    go_wp2_with fail
                    go_roundw
                    case rel => exact ⟨x + 1, mb, o2, by omega, by go_num, rfl, HL2, HC, HP1, HP2, HP3, hb5⟩
                    case measure => simp [intOf]; omega
                  | true =>
                    have HC2 := hid (HCU.out rfl)
                    clear HCU
                    cases iv with
                    | false =>
                      have HL3 := hid (HDR.out (Or.inl rfl))
                      clear HDR
                      go_wp2_with fail
                      go_roundw
                      case rel => exact ⟨x + 1, true, _, by omega, by go_num, rfl, HL3, HC2, D1, D2, D3, HB6.out⟩
                      case measure => simp [intOf]; omega
                    | true =>
                      cases av with
                      | false =>
                        have HL3 := hid (HDR.out (Or.inr rfl))
                        clear HDR
                        go_wp2_with fail
                        go_roundw
                        case rel => exact ⟨x + 1, true, _, by omega, by go_num, rfl, HL3, HC2, D1, D2, D3, HB6.out⟩
                        case measure => simp [intOf]; omega
                      | true =>
                        clear HDR
                        go_wp2_with fail
                        go_roundw
                        case rel => exact ⟨x + 1, mb, o2, by omega, by go_num, rfl, HL2, HC, HP1, HP2, HP3, hb5⟩
                        case measure => simp [intOf]; omega
                · obtain rfl : x = q := by omega
                  go_wp2_with fail
                  go_roundw
                  case rel => exact ⟨mb, o2, rfl, HL2, HP1, hb5⟩
                  case measure =>
                    have h1 := trues_eq HP1.out x (Nat.le_refl _)
                    have h2 := HC.out
                    have h3 := HTR.out
                    simp only [moreOf] at *
                    omega

end Go.Proofs.Ytjagijohfkffiab

/- The walk of the reference's at (laid by gen_fat.py). -/
namespace Go.Proofs.Ytjagijohfkffiab
open Go.RowKit
set_option linter.unusedVariables false

theorem cells_put (w : World) (cs : List Value) (t : TypeId) : ∀ j u, cs[j]? = some u → (w.alloc (.cells cs.toArray t)).cell? ((⟨w.heap.size, 0, none⟩ : Addr).add j) = some u := fun j u hj => by
  rw [Addr.add_mid, cell_of_row (w.alloc (.cells cs.toArray t)) w.heap.size (0 + j) cs.toArray t (0, 0) (heap_alloc_last w _)]
  simpa using hj
/-- All blocks but T and two rows are as they were. -/
structure KB (w w' : World) (T : Nat) (r1 r2 : Option Nat) : Prop where
  os : w'.os = w.os
  tape : w'.tape = w.tape
  output : w'.output = w.output
  size : w.heap.size ≤ w'.heap.size
  block : ∀ k, k < w.heap.size → k ≠ T → some k ≠ r1 → some k ≠ r2 → w'.heap[k]? = w.heap[k]?
theorem KB.cell {w w' : World} {T : Nat} {r1 r2 : Option Nat} (h : KB w w' T r1 r2) {p : Addr} (hp : p.block < w.heap.size) (h1 : p.block ≠ T) (h2 : some p.block ≠ r1) (h3 : some p.block ≠ r2) : w'.cell? p = w.cell? p := World.cell?_of_block (h.block _ hp h1 h2 h3)
theorem KB.frozen {w w' : World} {T : Nat} {r1 r2 : Option Nat} (h : KB w w' T r1 r2) {p : Addr} (hp : p.block < w.heap.size) (h1 : p.block ≠ T) (h2 : some p.block ≠ r1) (h3 : some p.block ≠ r2) : w'.frozen? p = w.frozen? p := World.frozen?_of_block (h.block _ hp h1 h2 h3)
def flatRP (rs : List (Nat × Nat)) (M : Nat) : List Value := rs.flatMap fun p => [.slice (some ⟨p.1, 0, none⟩) M M, .slice (some ⟨p.2, 0, none⟩) M M]
/-- The reference's states as they are met, in memory. -/
structure FuM (w : World) (B T M : Nat) (vS vO vN : Value) (rs : List (Nat × Nat)) (fs : List ((Nat → Bool) × (Nat → Bool))) (outs : List Nat) : Prop where
  t : Three w T vS vO vN
  tB : T < B
  len : fs.length = rs.length
  olen : outs.length = rs.length
  st : w.ownsRow B 245 2 vS rs.length (flatRP rs M)
  ou : w.ownsRow B 3 1 vO rs.length (nInts outs)
  row : ∀ (i : Nat) p q, rs[i]? = some p → fs[i]? = some q → w.ownsRow B 4 1 (.slice (some ⟨p.1, 0, none⟩) M M) M (outTo q.1 M M) ∧ w.ownsRow B 4 1 (.slice (some ⟨p.2, 0, none⟩) M M) M (outTo q.2 M M)
theorem FuM.below {w w' : World} {B T M : Nat} {vS vO vN : Value} {rs : List (Nat × Nat)} {fs : List ((Nat → Bool) × (Nat → Bool))} {outs : List Nat} (h : FuM w B T M vS vO vN rs fs outs) (hb : Below w.heap.size w w') : FuM w' B T M vS vO vN rs fs outs :=
  ⟨h.t.below hb h.t.lt, h.tB, h.len, h.olen, own_keeps h.st hb, own_keeps h.ou hb, fun i p q h1 h2 => ⟨own_keeps (h.row i p q h1 h2).1 hb, own_keeps (h.row i p q h1 h2).2 hb⟩⟩
end Go.Proofs.Ytjagijohfkffiab
