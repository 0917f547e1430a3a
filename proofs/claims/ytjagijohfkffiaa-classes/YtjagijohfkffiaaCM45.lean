import Derived.Test.YtjagijohfkffiaaCM32
import Derived.Test.YtjagijohfkffiaaCM35
import Derived.Test.YtjagijohfkffiaaCM36
import Derived.Test.YtjagijohfkffiaaCM39
import Derived.Test.YtjagijohfkffiaaCM44

/- The walk of the reference's Judge. -/
namespace Go.Proofs.Ytjagijohfkffiaa
open Go.RowKit
set_option linter.unusedVariables false

theorem afB_snoc (ns : List Nd) (vs : List Nat) : ∀ (u : List Nat) (f : Nat → Bool) (a : Nat), afB ns vs (u ++ [a]) f = onTo ns vs (afB ns vs u f) a vs.length
  | [], f, a => rfl
  | x :: u, f, a => afB_snoc ns vs u _ a

theorem told_is {ns : List Nd} (hg : Good ns) {vs : List Nat} (hL : LiveSets ns vs.length (mOf vs)) (u : List Nat) (hu : ∀ x ∈ u, x < 8) :
    Verdict ns u (toldB (noneB (afB ns vs u (fun i => mOf vs i (ns.length - 1) == true)) vs.length) (noneB (afB ns vs u (fun i => mOf vs i (ns.length - 1) == false)) vs.length)) := by
  have h1 := none_may hg hL u hu true
  have h2 := none_may hg hL u hu false
  generalize noneB (afB ns vs u (fun i => mOf vs i (ns.length - 1) == true)) vs.length = y at *
  generalize noneB (afB ns vs u (fun i => mOf vs i (ns.length - 1) == false)) vs.length = n at *
  unfold Verdict toldB
  cases y with
  | true => exact Or.inl ⟨rfl, fun h => by have := h1.2 h; cases this⟩
  | false =>
    cases n with
    | true => exact Or.inr (Or.inl ⟨rfl, h1.1 rfl, fun h => by have := h2.2 h; cases this⟩)
    | false => exact Or.inr (Or.inr ⟨rfl, h1.1 rfl, h2.1 rfl⟩)

theorem letter_at {z : List Int} (h : allL z = true) {k : Nat} (hk : k < z.length) : ∃ x : Nat, x < 8 ∧ z.getD k 0 = (x : Int) ∧ (natOf z).take (k + 1) = (natOf z).take k ++ [x] := by
  have hm : z[k] ∈ z := List.getElem_mem hk
  have hl := isL_iff.1 (List.all_eq_true.1 h _ hm)
  refine ⟨z[k].toNat, by omega, ?_, ?_⟩
  · simp [List.getD, List.getElem?_eq_getElem hk]; omega
  · rw [List.take_succ_eq_append_getElem (by simpa [natOf] using hk)]
    simp [natOf]
section
variable (s : ByteArray) (a1 : Option Addr) (l1 c1 : Nat) (z1 : List Int) (w : World)

set_option maxHeartbeats 400000 in
theorem rjudge_no (hm : s.size ≤ maxLen) (h : (parseOf s).1 ≠ 0) : Calls Try.prog 29 #[.string s, .slice a1 l1 c1] w (RJudged s z1 w) := by
  have E : Hid (judgeErr s z1 = (parseOf s).1) := hid (by unfold judgeErr; rw [if_neg h])
  have C := formulate_any s w hm
  unfold Formulated at C
  unfold RJudged
  rw [E.out]
  generalize parseOf s = p at *
  have k : ((p.1 : Int) != 0) = true := by rw [bne_iff_ne]; omega
  go_enter Try.func29, Try.ntmps29
  go_wp2_with fail
  refine C.mono ?_
  rintro e w1 ⟨hb, ⟨_, rfl⟩ | ⟨h0, _⟩⟩
  · go_wp2_with fail
    go_ret2
    exact ⟨0, rfl, fun h1 => absurd h1 h, fun _ => rfl, hb⟩
  · exact absurd h0 h

set_option maxHeartbeats 4000000 in
set_option maxRecDepth 100000 in
theorem rjudge_yes (hm : s.size ≤ maxLen) (h : (parseOf s).1 = 0) (h1 : Ints w a1 l1 c1 z1) : Calls Try.prog 29 #[.string s, .slice a1 l1 c1] w (RJudged s z1 w) := by
  have E : Hid (judgeErr s z1 = if 40 < z1.length then 5 else if allL z1 = true then 0 else 6) := hid (by unfold judgeErr; rw [if_pos h])
  have C := formulate_any s w hm
  unfold Formulated at C
  have G := hid (parse_good h)
  have m1 := h1.hmax
  have m3 := h1.hcap
  have L1 := h1.hlen
  have R1 := fun W (b : Below w.heap.size w W) => rword_any a1 l1 c1 z1 W (h1.below b)
  unfold RJudged
  rw [E.out]
  generalize parseOf s = p at *
  obtain ⟨p1, ns⟩ := p
  dsimp only at *
  subst h
  rw [L1]
  by_cases q1 : 40 < l1
  · rw [if_pos q1]
    have k1 : (40 : Int) < (l1 : Int) := by omega
    go_enter Try.func29, Try.ntmps29
    go_wp2_with fail
    refine C.mono ?_
    rintro e w1 ⟨hb, ⟨h0, _⟩ | ⟨_, bs, rfl, hf⟩⟩
    · exact absurd rfl h0
    go_wp2_with fail
    refine (R1 _ hb).mono ?_
    rintro e w2 ⟨rfl, rfl⟩
    go_wp2_with fail
    go_ret2
    exact ⟨0, rfl, fun h1 => (by cases h1), fun _ => rfl, hb⟩
  rw [if_neg q1]
  have k1 : ¬ (40 : Int) < (l1 : Int) := by omega
  cases hal : allL z1 with
  | false =>
    rw [hal] at R1
    rw [if_neg (by simp)]
    clear hal
    go_enter Try.func29, Try.ntmps29
    go_wp2_with fail
    refine C.mono ?_
    rintro e w1 ⟨hb, ⟨h0, _⟩ | ⟨_, bs, rfl, hf⟩⟩
    · exact absurd rfl h0
    go_wp2_with fail
    refine (R1 _ hb).mono ?_
    rintro e w2 ⟨rfl, rfl⟩
    go_wp2_with fail
    go_ret2
    exact ⟨0, rfl, fun h1 => (by cases h1), fun _ => rfl, hb⟩
  | true =>
    rw [hal] at R1
    rw [if_pos rfl]
    have HAL := hid hal
    have H1 := hid h1
    clear hal h1
    go_enter Try.func29, Try.ntmps29
    go_wp2_with fail
    refine C.mono ?_
    rintro e w1 ⟨hb, ⟨h0, _⟩ | ⟨_, bs, rfl, hf⟩⟩
    · exact absurd rfl h0
    have HB1 := hid hb
    have HF := hid hf
    clear C hf
    go_wp2_with fail
    refine (R1 _ hb).mono ?_
    rintro e w2 ⟨rfl, rfl⟩
    clear R1 hb
    obtain ⟨gp, cap, hfr⟩ := fr_of HF.out G.out.pos
    have RW := hid (rows_any w.heap.size gp cap ns bs w2 hfr G.out)
    clear HF hfr
    go_wp2_with fail
    refine RW.out.mono ?_
    rintro e w3 ⟨R, vs, rfl, hRM, hLS, hM, hb3⟩
    have s1 := HB1.out.size
    have HB3 := hid (HB1.out.trans (hb3.mono s1))
    have WT := hid (fun (W : World) (b : Below w3.heap.size w3 W) (hd : Bool) => whole_any R w.heap.size gp cap ns bs vs hd W (hRM.below b) G.out hM)
    have ON := hid (fun (W : World) (b : Below w3.heap.size w3 W) (gl x : Nat) (f : Nat → Bool) (hx : x < 8) (hf : Rb W gl vs.length f) => on_any R w.heap.size gp cap gl x ns bs vs f W (hRM.below b) G.out hM hx hf)
    have HTI := hid (told_is G.out hLS (natOf z1) (nat_lt HAL.out))
    have HSN := hid (fun u f x => afB_snoc ns vs u f x)
    clear hRM hLS RW hb3
    go_wp2_with fail
    refine (WT.out w3 (Below.refl _ _) true).mono ?_
    rintro e w4 ⟨gy, rfl, hy, hgy, hb4⟩
    have HY4 := hid hy
    have HB4 := hid hb4
    clear hy hb4
    go_wp2_with fail
    refine (WT.out w4 HB4.out false).mono ?_
    rintro e w5 ⟨gn, rfl, hn, hgn, hb5⟩
    have HY := hid (HY4.out.below hb5)
    have HN := hid hn
    have HB5 := hid (HB4.out.trans (hb5.mono HB4.out.size))
    clear hn hb5 HY4 HB4 WT
    generalize vs.length = M at *
    go_wp2_with fail
    go_loopw [12, 10, 11] (fun i y n wq => ∃ (k gy gn : Nat), k ≤ l1 ∧ i = .int .i64 k ∧ y = .slice (some ⟨gy, 0, none⟩) M M ∧ n = .slice (some ⟨gn, 0, none⟩) M M ∧ Hid (Rb wq gy M (afB ns vs ((natOf z1).take k) (fun i => mOf vs i (ns.length - 1) == true))) ∧ Hid (Rb wq gn M (afB ns vs ((natOf z1).take k) (fun i => mOf vs i (ns.length - 1) == false))) ∧ Below w3.heap.size w3 wq) (fun i _ _ _ => l1 - (intOf i).toNat)
    case atStart => exact ⟨0, gy, gn, Nat.zero_le _, rfl, rfl, rfl, HY, HN, HB5.out⟩
    case round =>
      obtain ⟨k, gy, gn, hk, rfl, rfl, rfl, HY, HN, hb⟩ := hrel
      have BW := hid (HB3.out.trans (hb.mono HB3.out.size))
      by_cases hlk : k < l1
      · obtain ⟨bk, off, e, hbb, hc⟩ := H1.out.hcell (by omega)
        subst e
        have cz := (BW.out.cell (p := ⟨bk, off + k, none⟩) hbb).trans (hc k hlk)
        obtain ⟨x, hx8, ex, htk⟩ := letter_at HAL.out (k := k) (by rw [L1]; exact hlk)
        rw [ex] at cz
        have HTK := hid htk
        have HBR := hid hb
        clear hc ex htk hb
        go_wp2_with fail
        refine (ON.out wr HBR.out gy x _ hx8 HY.out).mono ?_
        rintro e w6 ⟨g1, rfl, r1, _, hb6⟩
        have cz6 := (hb6.cell (p := ⟨bk, off + k, none⟩) (World.block_lt_of_cell? wr ⟨bk, off + k, none⟩ cz)).trans cz
        have HBS := hid (HBR.out.trans (hb6.mono HBR.out.size))
        have HR1 := hid r1
        have HN6 := hid (HN.out.below hb6)
        clear cz r1 hb6
        go_wp2_with fail
        refine (ON.out w6 HBS.out gn x _ hx8 HN6.out).mono ?_
        rintro e w7 ⟨g2, rfl, r2, _, hb7⟩
        have HR2 := hid r2
        have HR3 := hid (HR1.out.below hb7)
        have HBT := hid (HBS.out.trans (hb7.mono HBS.out.size))
        clear r2 hb7 cz6 HR1
        go_wp2_with fail
        go_roundw
        case rel => exact ⟨k + 1, g1, g2, by omega, by go_num, rfl, rfl, by rw [HTK.out, HSN.out]; exact HR3, by rw [HTK.out, HSN.out]; exact HR2, HBT.out⟩
        case measure => simp [intOf]; omega
      · obtain rfl : k = l1 := by omega
        have htk : (natOf z1).take k = natOf z1 := List.take_of_length_le (by simp [natOf, L1])
        rw [htk] at HY HN
        clear htk hb
        go_wp2_with fail
        refine (told_any gy gn M _ _ wr HY.out HN.out (by omega)).mono ?_
        rintro e w6 ⟨rfl, rfl⟩
        go_wp2_with fail
        go_ret2
        exact ⟨_, rfl, fun _ => by simpa using HTI.out, fun h => absurd rfl h, BW.out⟩

theorem rjudge_any (hm : s.size ≤ maxLen) (h1 : Ints w a1 l1 c1 z1) : Calls Try.prog 29 #[.string s, .slice a1 l1 c1] w (RJudged s z1 w) := by
  by_cases h : (parseOf s).1 = 0
  · exact rjudge_yes s a1 l1 c1 z1 w hm h h1
  · exact rjudge_no s a1 l1 c1 z1 w hm h

end

end Go.Proofs.Ytjagijohfkffiaa

/- Plain mathematics: the reference's states are the program's; nets whose places are a spot and a set. -/
namespace Go.Proofs.Ytjagijohfkffiaa
set_option linter.unusedVariables false

theorem lives_cd {ns : List Nd} (hg : Good ns) {v : Nat} (h : Lives ns v) : cdTo (tb v) ns.length = v := by
  obtain ⟨q, h0, hq, _⟩ := h
  obtain ⟨_, l, _, e⟩ := ew_any.1 (hq 0)
  rw [h0] at e
  have h1 := bef_step hg l (q 1)
  have h2 := bef_cd hg h1 (EqOn.refl _ _)
  rw [← e] at h2
  exact h2.symm

/-- The row of a word: the sets that may stand behind it. -/
def yr (ns : List Nd) (vs : List Nat) (hd : Bool) (u : List Nat) : Nat → Bool := afB ns vs u (fun i => mOf vs i (ns.length - 1) == hd)
theorem yr_snoc (ns : List Nd) (vs : List Nat) (hd : Bool) (u : List Nat) (a : Nat) : yr ns vs hd (u ++ [a]) = onTo ns vs (yr ns vs hd u) a vs.length := afB_snoc ns vs u _ a

/-- Like rows, like groups. -/
theorem rows_geq {ns : List Nd} (hg : Good ns) {liv : Nat → Bool} (hl : LivP ns (calmsTo ns ns.length) liv) {vs : List Nat} (hL : LiveSets ns vs.length (mOf vs)) {u v : List Nat} (hu : ∀ x ∈ u, x < 8) (hv : ∀ x ∈ v, x < 8) (b : Bool) :
    (∀ j, j < vs.length → yr ns vs b u j = yr ns vs b v j) ↔ geq (runG ns liv (begB ns liv) u) (runG ns liv (begB ns liv) v) = true := by
  constructor
  · intro h
    refine geq_iff.2 fun N hN => ?_
    rw [Bool.eq_iff_iff, runG_iff hg hl u hu, runG_iff hg hl v hv]
    cases e : liv N with
    | false => simp
    | true =>
      have lN := (hl N).1 e
      obtain ⟨i, hi, he⟩ := hL.all _ (live_chain' hg lN)
      have hc : cdTo (mOf vs i) ns.length = N := by rw [← lives_cd hg lN]; exact (cdTo_congr _ he).symm
      have h1 := h i hi
      unfold yr at h1
      rw [af_bit hg hL hu b hi, af_bit hg hL hv b hi, hc] at h1
      cases e1 : (back ns u N).testBit (ns.length - 1) <;> cases e2 : (back ns v N).testBit (ns.length - 1) <;> rw [e1, e2] at h1 <;> cases b <;> simp_all
  · intro h j hj
    unfold yr
    have lj := chain_live' hg (hL.live j hj)
    have h1 := geq_iff.1 h _ (cdTo_lt (mOf vs j) _ hg.le)
    rw [Bool.eq_iff_iff, runG_iff hg hl u hu, runG_iff hg hl v hv] at h1
    have h2 := (hl _).2 lj
    simp only [h2, true_and] at h1
    rw [af_bit hg hL hu b hj, af_bit hg hL hv b hj, Bool.eq_iff_iff.2 h1]

theorem rows_step {ns : List Nd} (hg : Good ns) {liv : Nat → Bool} (hl : LivP ns (calmsTo ns ns.length) liv) {vs : List Nat} (hL : LiveSets ns vs.length (mOf vs)) {u v : List Nat} {a : Nat} (ha : a < 8) (hu : ∀ x ∈ u, x < 8) (hv : ∀ x ∈ v, x < 8) (b : Bool) :
    (∀ j, j < vs.length → yr ns vs b u j = onTo ns vs (yr ns vs b v) a vs.length j) ↔ geq (runG ns liv (begB ns liv) u) (stepG ns liv (runG ns liv (begB ns liv) v) a) = true := by
  rw [← yr_snoc, ← runG_snoc]
  refine rows_geq hg hl hL hu (fun x hx => ?_) b
  rcases List.mem_append.1 hx with hx | hx
  · exact hv x hx
  · simp at hx; omega

/-- What told tells of the rows of a word is what its group tells. -/
theorem told_verd {ns : List Nd} (hg : Good ns) {liv : Nat → Bool} (hl : LivP ns (calmsTo ns ns.length) liv) {vs : List Nat} (hL : LiveSets ns vs.length (mOf vs)) {u : List Nat} (hu : ∀ x ∈ u, x < 8) :
    toldB (noneB (yr ns vs true u) vs.length) (noneB (yr ns vs false u) vs.length) = verdG liv (runG ns liv (begB ns liv) u) :=
  verdict_fun (told_is hg hL u hu) (verdG_verdict hg hl hu)

/-! ### Places: a spot and a set -/
theorem pm_lt {K M k i : Nat} (hk : k < K) (hi : i < M) : k * M + i < K * M := by
  have h1 : (k + 1) * M ≤ K * M := Nat.mul_le_mul_right _ hk
  rw [Nat.succ_mul] at h1
  omega
theorem pm_mod {M k i : Nat} (hi : i < M) : (k * M + i) % M = i := by rw [Nat.mul_add_mod']; exact Nat.mod_eq_of_lt hi
theorem pm_div {M k i : Nat} (hi : i < M) : (k * M + i) / M = k := by
  rw [Nat.add_comm, Nat.add_mul_div_right _ _ (by omega), Nat.div_eq_of_lt hi, Nat.zero_add]
theorem pm_parts {K M x : Nat} (hx : x < K * M) : ∃ k i, k < K ∧ i < M ∧ x = k * M + i := by
  have h0 : 0 < M := by
    rcases Nat.eq_zero_or_pos M with rfl | h
    · simp at hx
    · exact h
  refine ⟨x / M, x % M, Nat.div_lt_of_lt_mul (by rw [Nat.mul_comm]; exact hx), Nat.mod_lt _ h0, ?_⟩
  rw [Nat.mul_comm]; exact (Nat.div_add_mod x M).symm

/-- One goes along these spots with these letters. -/
def MvP (K : Nat) (Mv : Nat → Nat → Nat → Prop) (x sp : Nat → Nat) : Prop := ∀ t, sp t < K ∧ Mv (sp t) (x t) (sp (t + 1))

structure ProdN (ns : List Nd) (vs : List Nat) (K : Nat) (Mv : Nat → Nat → Nat → Prop) (to : Nat → List Nat) (kp : Nat → Nat → Bool) : Prop where
  mem : ∀ k i, k < K → i < vs.length → ∀ b, b ∈ to (k * vs.length + i) ↔ ∃ a k' j, a < 8 ∧ k' < K ∧ Mv k a k' ∧ readP ns (mOf vs i) a ∧ j ∈ toS ns vs i ∧ b = k' * vs.length + j
  kept : ∀ p k i, p < ns.length → k < K → i < vs.length → kp p (k * vs.length + i) = kpS ns vs p i

theorem mem_toS {ns : List Nd} {vs : List Nat} {i j : Nat} : j ∈ toS ns vs i ↔ j < vs.length ∧ folP ns (mOf vs i) (mOf vs j) := by
  unfold toS toK
  rw [List.mem_filter, List.mem_range, folB_iff]

theorem prod_lt {ns : List Nd} {vs : List Nat} {K : Nat} {Mv : Nat → Nat → Nat → Prop} {to : Nat → List Nat} {kp : Nat → Nat → Bool} (h : ProdN ns vs K Mv to kp) {a b : Nat} (ha : a < K * vs.length) (hb : b ∈ to a) : b < K * vs.length := by
  obtain ⟨k, i, hk, hi, rfl⟩ := pm_parts ha
  obtain ⟨_, k', j, _, h1, _, _, h2, rfl⟩ := (h.mem k i hk hi b).1 hb
  exact pm_lt h1 (mem_toS.1 h2).1

theorem erow_from {ns : List Nd} {x : Nat → Nat} {S : Nat → Nat → Bool} (hL : Letters x) (h : ERow ns x S) (t : Nat) : chain ns [] (S t) := by
  refine ⟨fun i => x (t + i), fun i => S (t + i), fun i => hL _, ⟨fun i => h.step (t + i), fun k nd hn i => ?_⟩, EqOn.refl _ _⟩
  obtain ⟨t', h1, h2⟩ := h.kept k nd hn (t + i)
  exact ⟨t' - t, by omega, by show keptN nd k (S (t + (t' - t))) = true; rw [show t + (t' - t) = t' by omega]; exact h2⟩

theorem prod_good {ns : List Nd} (hg : Good ns) {vs : List Nat} (hL : LiveSets ns vs.length (mOf vs)) {K : Nat} {Mv : Nat → Nat → Nat → Prop} {to : Nat → List Nat} {kp : Nat → Nat → Bool} (h : ProdN ns vs K Mv to kp) {k i : Nat} (hk : k < K) (hi : i < vs.length) :
    (∃ c, c < K * vs.length ∧ reach (Ed (K * vs.length) to) (k * vs.length + i) c ∧ GN (K * vs.length) to ns.length kp c) ↔ ∃ x sp S, Letters x ∧ sp 0 = k ∧ MvP K Mv x sp ∧ ERow ns x S ∧ EqOn ns.length (S 0) (mOf vs i) := by
  have hw := hg.wf
  have ei := endless_iff (E := Ed (K * vs.length) to) (K := fun p i => kp p i = true) (m := ns.length) (n := K * vs.length) (a := k * vs.length + i) (fun a b hab => prod_lt h hab.1 hab.2) (pm_lt hk hi)
  unfold GN
  rw [← ei]
  constructor
  · rintro ⟨q, q0, hq, hm⟩
    have pt : ∀ t, ∃ k' i', k' < K ∧ i' < vs.length ∧ q t = k' * vs.length + i' := fun t => pm_parts (hq t).1
    let sp : Nat → Nat := fun t => q t / vs.length
    let si : Nat → Nat := fun t => q t % vs.length
    have hs : ∀ t, sp t < K ∧ si t < vs.length ∧ q t = sp t * vs.length + si t := fun t => by
      obtain ⟨k', i', h1, h2, e⟩ := pt t
      have e1 : sp t = k' := by show q t / vs.length = k'; rw [e, pm_div h2]
      have e2 : si t = i' := by show q t % vs.length = i'; rw [e, pm_mod h2]
      rw [e1, e2]
      exact ⟨h1, h2, e⟩
    have mv : ∀ t, ∃ a, a < 8 ∧ Mv (sp t) a (sp (t + 1)) ∧ readP ns (mOf vs (si t)) a ∧ folP ns (mOf vs (si t)) (mOf vs (si (t + 1))) := fun t => by
      obtain ⟨h1, h2, e⟩ := hs t
      obtain ⟨h3, h4, e'⟩ := hs (t + 1)
      have hb := (hq t).2
      rw [e] at hb
      obtain ⟨a, k', j, ha, hk', hm', hr, hj, eb⟩ := (h.mem _ _ h1 h2 _).1 hb
      obtain ⟨hj1, hj2⟩ := mem_toS.1 hj
      have e1 : sp (t + 1) = k' := by show q (t + 1) / vs.length = k'; rw [eb, pm_div hj1]
      have e2 : si (t + 1) = j := by show q (t + 1) % vs.length = j; rw [eb, pm_mod hj1]
      rw [e1, e2]
      exact ⟨a, ha, hm', hr, hj2⟩
    let x : Nat → Nat := fun t => Classical.choose (mv t)
    have hx : ∀ t, x t < 8 ∧ Mv (sp t) (x t) (sp (t + 1)) ∧ readP ns (mOf vs (si t)) (x t) ∧ folP ns (mOf vs (si t)) (mOf vs (si (t + 1))) := fun t => Classical.choose_spec (mv t)
    refine ⟨x, sp, fun t => mOf vs (si t), fun t => (hx t).1, by show q 0 / vs.length = k; rw [q0, pm_div hi], fun t => ⟨(hs t).1, (hx t).2.1⟩, ⟨fun t => ?_, fun p nd hn t => ?_⟩, by
      show EqOn _ (mOf vs (q 0 % vs.length)) _
      rw [q0, pm_mod hi]
      exact EqOn.refl _ _⟩
    · exact (step_iff hw _ _ _).2 ⟨chain_step hw (hL.live _ (hs t).2.1), (hx t).2.2.1, (hx t).2.2.2⟩
    · obtain ⟨hp, e⟩ := ndAt_of hn
      subst e
      obtain ⟨t', h1, h2⟩ := hm p hp t
      refine ⟨t', h1, ?_⟩
      obtain ⟨h3, h4, e⟩ := hs t'
      rw [e, h.kept p _ _ hp h3 h4] at h2
      exact h2
  · rintro ⟨x, sp, S, hx, s0, hm, hR, he⟩
    have ex : ∀ t, ∃ j, j < vs.length ∧ EqOn ns.length (S t) (mOf vs j) := fun t => hL.all _ (erow_from hx hR t)
    let si : Nat → Nat := fun t => if t = 0 then i else Classical.choose (ex t)
    have hs : ∀ t, si t < vs.length ∧ EqOn ns.length (S t) (mOf vs (si t)) := fun t => by
      by_cases e : t = 0
      · subst e; exact ⟨hi, he⟩
      · have e2 : si t = Classical.choose (ex t) := if_neg e
        rw [e2]; exact Classical.choose_spec (ex t)
    refine ⟨fun t => sp t * vs.length + si t, by show sp 0 * vs.length + i = _; rw [s0], fun t => ⟨pm_lt (hm t).1 (hs t).1, ?_⟩, fun p hp t => ?_⟩
    · obtain ⟨_, f2, f3⟩ := (step_iff hw (x t) (S t) (S (t + 1))).1 (hR.step t)
      exact (h.mem _ _ (hm t).1 (hs t).1 _).2 ⟨x t, sp (t + 1), si (t + 1), hx t, (hm (t + 1)).1, (hm t).2, read_congr (hs t).2 f2, mem_toS.2 ⟨(hs (t + 1)).1, fol_congr hw (hs t).2 (hs (t + 1)).2 f3⟩, rfl⟩
    · obtain ⟨t', h1, h2⟩ := hR.kept p _ (ndAt_some hp) t
      refine ⟨t', h1, ?_⟩
      show kp p (sp t' * vs.length + si t') = true
      rw [h.kept p _ _ hp (hm t').1 (hs t').1]
      unfold kpS
      rw [← kept_congr hw (hs t').2 hp]
      exact h2

/-- Some set with this for the whole begins such a row: just if some endless word goes so, of which it is so. -/
theorem prod_whole {ns : List Nd} (hg : Good ns) {vs : List Nat} (hL : LiveSets ns vs.length (mOf vs)) {K : Nat} {Mv : Nat → Nat → Nat → Prop} {to : Nat → List Nat} {kp : Nat → Nat → Bool} (h : ProdN ns vs K Mv to kp) {good : Nat → Bool} (hgd : ∀ x, good x = true ↔ ∃ c, c < K * vs.length ∧ reach (Ed (K * vs.length) to) x c ∧ GN (K * vs.length) to ns.length kp c) {k : Nat} (hk : k < K) (hd : Bool) :
    (∃ i, i < vs.length ∧ mOf vs i (ns.length - 1) = hd ∧ good (k * vs.length + i) = true) ↔ ∃ x sp, Letters x ∧ sp 0 = k ∧ MvP K Mv x sp ∧ (sem (fun i => i + 1) x ns (ns.length - 1) 0 ↔ hd = true) := by
  have hp := hg.pos
  constructor
  · rintro ⟨i, hi, hb, hgo⟩
    obtain ⟨x, sp, S, h1, h2, h3, h4, h5⟩ := (prod_good hg hL h hk hi).1 ((hgd _).1 hgo)
    refine ⟨x, sp, h1, h2, h3, ?_⟩
    rw [← erow_sem hg.wf h4 _ (by omega), h5 _ (by omega), hb]
  · rintro ⟨x, sp, h1, h2, h3, h4⟩
    obtain ⟨S, hS, hR⟩ := erow_truth hg.wf x
    obtain ⟨i, hi, he⟩ := hL.all _ (erow_from h1 hR 0)
    refine ⟨i, hi, ?_, (hgd _).2 ((prod_good hg hL h hk hi).2 ⟨x, sp, S, h1, h2, h3, hR, he⟩)⟩
    rw [← he _ (by omega), Bool.eq_iff_iff, hS]
    exact h4

/-! ### What slips -/
/-- From state to state, none of them with this verdict. -/
def slMv (out : Nat → Nat) (nx : Nat → Nat → Nat) (vd : Nat) (k a k' : Nat) : Prop := out k ≠ vd ∧ k' = nx k a ∧ out (nx k a) ≠ vd

theorem slips_evade {ns : List Nd} (hg : Good ns) {liv : Nat → Bool} (hl : LivP ns (calmsTo ns ns.length) liv) {us : List (List Nat)} {xs : List Nat} (hE : Expl ns liv (begB ns liv) us xs) (hx : xs.length = 8 * us.length) (vd : Nat) (hd : Bool) :
    (∃ x sp, Letters x ∧ sp 0 = 0 ∧ MvP us.length (slMv (outU ns liv (begB ns liv) us) (nxL xs) vd) x sp ∧ (sem (fun i => i + 1) x ns (ns.length - 1) 0 ↔ hd = true)) ↔ Evade ns vd hd := by
  constructor
  · rintro ⟨x, sp, h1, h2, h3, h4⟩
    refine ⟨x, h1, h4, fun k hk => ?_⟩
    have sv := spot_verdict hg hl hE hx h1 h2 (fun t => (h3 t).2.2.1) k
    exact (h3 k).2.1 (verdict_fun sv hk)
  · rintro ⟨x, h1, h4, hno⟩
    let sp : Nat → Nat := fun t => Nat.rec 0 (fun t s => nxL xs s (x t)) t
    have ss : ∀ t, sp (t + 1) = nxL xs (sp t) (x t) := fun t => rfl
    have st := spot_tells hg hl hE hx h1 (sp := sp) rfl ss
    have sv := spot_verdict hg hl hE hx h1 (sp := sp) rfl ss
    have ne : ∀ t, outU ns liv (begB ns liv) us (sp t) ≠ vd := fun t e => hno t (by rw [← e]; exact sv t)
    exact ⟨x, sp, h1, rfl, fun t => ⟨(st t).1, ne t, ss t, by rw [← ss]; exact ne (t + 1)⟩, h4⟩

theorem full_live {ns : List Nd} (hg : Good ns) {liv : Nat → Bool} (hl : LivP ns (calmsTo ns ns.length) liv) {us : List (List Nat)} {xs : List Nat} (hE : Expl ns liv (begB ns liv) us xs) (hx : xs.length = 8 * us.length) :
    (∀ i, i < us.length → outU ns liv (begB ns liv) us i ≠ 2) ↔ ∀ u, (∀ x ∈ u, x < 8) → ¬ Verdict ns u 2 := by
  constructor
  · intro h u hu hv
    obtain ⟨i, hi, h4⟩ := word_spot hg hl hE hx hu
    exact h i hi (verdict_fun h4 hv)
  · intro h i hi e
    have hm : us.getD i [] ∈ us := by simp [List.getD, List.getElem?_eq_getElem hi]
    refine h _ (hE.let8 _ hm) ?_
    have := verdG_verdict hg hl (hE.let8 _ hm)
    unfold outU at e
    rw [e] at this
    exact this

end Go.Proofs.Ytjagijohfkffiaa
