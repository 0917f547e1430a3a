import Derived.Test.YtjagijohfkffiabCHEM38

/- The reference's rings: its mathematics; what turned promises (TurnedC), of which rings and endless are told. -/
namespace Go.Proofs.Ytjagijohfkffiab
open Go.RowKit
set_option linter.unusedVariables false

theorem BO.keeps {w w' : World} {B g N : Nat} {f : Nat → Bool} (h : BO w B g N f) (hb : Below w.heap.size w w') : BO w' B g N f := own_keeps h hb
theorem BO.base {w : World} {B B2 g N : Nat} {f : Nat → Bool} (h : BO w B g N f) (hb : B2 ≤ B) : BO w B2 g N f := by
  refine ⟨h.1, ?_⟩
  rcases h.2 with h0 | ⟨x, cap, cur, e, hx, r⟩
  · exact Or.inl h0
  · exact Or.inr ⟨x, cap, cur, e, Nat.le_trans hb hx, r⟩

/-- The blocks from a on are as they were. -/
structure Stays (a : Nat) (w w' : World) : Prop where
  size : w.heap.size ≤ w'.heap.size
  block : ∀ x, a ≤ x → x < w.heap.size → w'.heap[x]? = w.heap[x]?
theorem Stays.refl (a : Nat) (w : World) : Stays a w w := ⟨Nat.le_refl _, fun _ _ _ => rfl⟩
theorem Stays.below {a : Nat} {w w' w2 : World} (h : Stays a w w') (hb : Below w'.heap.size w' w2) : Stays a w w2 := ⟨Nat.le_trans h.size hb.size, fun x h1 h2 => (hb.block x (Nat.lt_of_lt_of_le h2 h.size)).trans (h.block x h1 h2)⟩
theorem Stays.set {a : Nat} {w w' : World} (h : Stays a w w') {k : Nat} (hk : k < a) (o : Nat) (u : Value) : Stays a w (w'.setCell ⟨k, o, none⟩ u) := ⟨by rw [World.size_setCell]; exact h.size, fun x h1 h2 => (Below.heap_setCell _ _ _ _ (by simp; omega)).trans (h.block x h1 h2)⟩

/-- What turned answers. -/
def TurnedC : Prop := ∀ (P N K : Nat) (to : Nat → List Nat) (kp : Nat → Nat → Bool) (w : World), NetM w P N to K kp → 0 < N → (∀ a, a < N → ∀ b ∈ to a, b < N) → (∀ a, a < N → (to a).length ≤ 4398046511104) → (∀ a, a < N → ∀ j, (to a).count j ≤ 8) → N ≤ 274877906944 →
    Calls Try.prog 96 #[.pointer (some ⟨P, 0, none⟩)] w fun e w' => ∃ P2 tl, e = .returned (.pointer (some ⟨P2, 0, none⟩)) ∧ (∀ w2, Stays w.heap.size w' w2 → NetM w2 P2 N tl 0 kp) ∧ (∀ j a, a ∈ tl j ↔ a < N ∧ j ∈ to a) ∧ (∀ j, (tl j).length ≤ 8 * N) ∧ Below w.heap.size w w'

theorem reach_lt {N : Nat} {E : Nat → Nat → Prop} (hE : ∀ x y, E x y → y < N) : ∀ L a b, reachN E (L + 1) a b → b < N
  | 0, a, b, h => by
    obtain ⟨c, h1, h2⟩ := h
    obtain rfl : c = b := h2
    exact hE _ _ h1
  | L + 1, a, b, h => by
    obtain ⟨c, h1, h2⟩ := h
    exact reach_lt hE L c b h2
theorem reach_to_lt {N : Nat} {to : Nat → List Nat} (hto : ∀ a, a < N → ∀ b ∈ to a, b < N) {a b : Nat} (h : reach (Ed N to) a b) : b < N := by
  obtain ⟨L, h⟩ := h
  exact reach_lt (fun x y e => hto x e.1 y e.2) L a b h
theorem reach_back {N : Nat} {to tl : Nat → List Nat} (hto : ∀ a, a < N → ∀ b ∈ to a, b < N) (htl : ∀ j a, a ∈ tl j ↔ a < N ∧ j ∈ to a) {a b : Nat} : reach (Ed N tl) a b ↔ reach (Ed N to) b a := by
  have e : Ed N tl = fun x y => Ed N to y x := by
    funext x y
    apply propext
    unfold Ed
    rw [htl]
    exact ⟨fun h => h.2, fun h => ⟨hto y h.1 x h.2, h⟩⟩
  rw [e]
  exact reach_turned

def anyTo (f : Nat → Bool) : Nat → Bool
  | 0 => false
  | x + 1 => anyTo f x || f x
def allTo (f : Nat → Bool) : Nat → Bool
  | 0 => true
  | x + 1 => allTo f x && f x
theorem anyTo_iff (f : Nat → Bool) : ∀ n, anyTo f n = true ↔ ∃ i, i < n ∧ f i = true
  | 0 => by simp [anyTo]
  | n + 1 => by
    rw [anyTo, Bool.or_eq_true, anyTo_iff f n]
    constructor
    · rintro (⟨i, h1, h2⟩ | h)
      · exact ⟨i, by omega, h2⟩
      · exact ⟨n, by omega, h⟩
    · rintro ⟨i, h1, h2⟩
      by_cases e : i = n
      · exact Or.inr (e ▸ h2)
      · exact Or.inl ⟨i, by omega, h2⟩
theorem allTo_iff (f : Nat → Bool) : ∀ n, allTo f n = true ↔ ∀ i, i < n → f i = true
  | 0 => by simp [allTo]
  | n + 1 => by
    rw [allTo, Bool.and_eq_true, allTo_iff f n]
    constructor
    · rintro ⟨h1, h2⟩ i hi
      by_cases e : i = n
      · exact e ▸ h2
      · exact h1 i (by omega)
    · intro h
      exact ⟨fun i hi => h i (by omega), h n (by omega)⟩

def GN (N : Nat) (to : Nat → List Nat) (K : Nat) (kp : Nat → Nat → Bool) (c : Nat) : Prop := GoodN (Ed N to) (fun k i => kp k i = true) K c
def smF (a b : Nat → Bool) (kp : Nat → Nat → Bool) (k : Nat) : Nat → Bool := fun i => a i && b i && kp k i
def fnF (a b : Nat → Bool) (kp : Nat → Nat → Bool) (N : Nat) : Nat → Bool := fun k => anyTo (smF a b kp k) N
theorem fine_iff {N K c : Nat} {to : Nat → List Nat} {kp : Nat → Nat → Bool} {a b : Nat → Bool} (hto : ∀ a, a < N → ∀ b ∈ to a, b < N) (ha : ∀ i, a i = true ↔ reach (Ed N to) c i) (hb : ∀ i, b i = true ↔ reach (Ed N to) i c) (hc : a c = true) : allTo (fnF a b kp N) K = true ↔ GN N to K kp c := by
  rw [allTo_iff]
  unfold GN GoodN
  constructor
  · intro h
    refine ⟨(ha c).1 hc, fun k hk => ?_⟩
    obtain ⟨i, hi, e⟩ := (anyTo_iff _ _).1 (h k hk)
    simp only [smF, Bool.and_eq_true] at e
    exact ⟨i, (ha i).1 e.1.1, (hb i).1 e.1.2, e.2⟩
  · rintro ⟨_, h⟩ k hk
    obtain ⟨i, h1, h2, h3⟩ := h k hk
    refine (anyTo_iff _ _).2 ⟨i, reach_to_lt hto h1, ?_⟩
    simp only [smF, Bool.and_eq_true]
    exact ⟨⟨(ha i).2 h1, (hb i).2 h2⟩, h3⟩

structure RgP (N : Nat) (to : Nat → List Nat) (K : Nat) (kp : Nat → Nat → Bool) (c : Nat) (done good : Nat → Bool) : Prop where
  p1 : ∀ i, done i = true → (good i = true ↔ GN N to K kp i)
  p2 : ∀ i, i < c → done i = true ∨ ¬ reach (Ed N to) i i
  p3 : ∀ i, done i = false → good i = false

theorem rg_start (N : Nat) (to : Nat → List Nat) (K : Nat) (kp : Nat → Nat → Bool) : RgP N to K kp 0 (fun _ => false) (fun _ => false) := ⟨fun i h => (by cases h), fun i h => (by omega), fun i _ => rfl⟩
theorem rg_skip {N K c : Nat} {to : Nat → List Nat} {kp : Nat → Nat → Bool} {done good : Nat → Bool} (h : RgP N to K kp c done good) (hs : done c = true ∨ ¬ reach (Ed N to) c c) : RgP N to K kp (c + 1) done good :=
  ⟨h.p1, fun i hi => by
    by_cases e : i = c
    · exact e ▸ hs
    · exact h.p2 i (by omega), h.p3⟩
theorem rg_not {N K c : Nat} {to : Nat → List Nat} {kp : Nat → Nat → Bool} {done good : Nat → Bool} (h : RgP N to K kp c done good) (hd : done c = false) (hs : ¬ reach (Ed N to) c c) : RgP N to K kp (c + 1) (upd done c true) good := by
  refine ⟨fun i hi => ?_, fun i hi => ?_, fun i hi => ?_⟩
  · unfold upd at hi
    by_cases e : i = c
    · subst e
      rw [h.p3 i hd]
      exact ⟨fun h => (by cases h), fun h => absurd h.1 hs⟩
    · rw [if_neg e] at hi; exact h.p1 i hi
  · by_cases e : i = c
    · subst e; exact Or.inl (upd_here _ _ _)
    · rcases h.p2 i (by omega) with h1 | h1
      · exact Or.inl (upd_true h1 (fun _ => rfl))
      · exact Or.inr h1
  · unfold upd at hi
    by_cases e : i = c
    · rw [if_pos e] at hi; cases hi
    · rw [if_neg e] at hi; exact h.p3 i hi
def dnF (a b d : Nat → Bool) (x : Nat) : Nat → Bool := fun i => if i < x ∧ a i = true ∧ b i = true then true else d i
def gdF (a b g : Nat → Bool) (fine : Bool) (x : Nat) : Nat → Bool := fun i => if i < x ∧ a i = true ∧ b i = true then fine else g i
theorem dn_zero (a b d : Nat → Bool) : dnF a b d 0 = d := by funext i; simp [dnF]
theorem gd_zero (a b g : Nat → Bool) (fine : Bool) : gdF a b g fine 0 = g := by funext i; simp [gdF]
theorem dn_step {a b d : Nat → Bool} {x : Nat} (h : (a x && b x) = true) : upd (dnF a b d x) x true = dnF a b d (x + 1) := by
  rw [Bool.and_eq_true] at h
  funext i
  unfold upd dnF
  by_cases e : i = x
  · subst e; rw [if_pos rfl, if_pos ⟨by omega, h⟩]
  · rw [if_neg e]
    by_cases e2 : i < x ∧ a i = true ∧ b i = true
    · rw [if_pos e2, if_pos ⟨by omega, e2.2⟩]
    · rw [if_neg e2, if_neg (fun q => e2 ⟨by omega, q.2⟩)]
theorem gd_step {a b g : Nat → Bool} {fine : Bool} {x : Nat} (h : (a x && b x) = true) : upd (gdF a b g fine x) x fine = gdF a b g fine (x + 1) := by
  rw [Bool.and_eq_true] at h
  funext i
  unfold upd gdF
  by_cases e : i = x
  · subst e; rw [if_pos rfl, if_pos ⟨by omega, h⟩]
  · rw [if_neg e]
    by_cases e2 : i < x ∧ a i = true ∧ b i = true
    · rw [if_pos e2, if_pos ⟨by omega, e2.2⟩]
    · rw [if_neg e2, if_neg (fun q => e2 ⟨by omega, q.2⟩)]
theorem dn_no {a b d : Nat → Bool} {x : Nat} (h : (a x && b x) = false) : dnF a b d x = dnF a b d (x + 1) := by
  funext i
  unfold dnF
  by_cases e : i = x
  · subst e
    rw [if_neg (fun q => by omega), if_neg (fun q => by rw [q.2.1, q.2.2] at h; cases h)]
  · by_cases e2 : i < x ∧ a i = true ∧ b i = true
    · rw [if_pos e2, if_pos ⟨by omega, e2.2⟩]
    · rw [if_neg e2, if_neg (fun q => e2 ⟨by omega, q.2⟩)]
theorem gd_no {a b g : Nat → Bool} {fine : Bool} {x : Nat} (h : (a x && b x) = false) : gdF a b g fine x = gdF a b g fine (x + 1) := by
  funext i
  unfold gdF
  by_cases e : i = x
  · subst e
    rw [if_neg (fun q => by omega), if_neg (fun q => by rw [q.2.1, q.2.2] at h; cases h)]
  · by_cases e2 : i < x ∧ a i = true ∧ b i = true
    · rw [if_pos e2, if_pos ⟨by omega, e2.2⟩]
    · rw [if_neg e2, if_neg (fun q => e2 ⟨by omega, q.2⟩)]
theorem rg_ring {N K c : Nat} {to : Nat → List Nat} {kp : Nat → Nat → Bool} {done good a b : Nat → Bool} (h : RgP N to K kp c done good) (hto : ∀ a, a < N → ∀ b ∈ to a, b < N) (ha : ∀ i, a i = true ↔ reach (Ed N to) c i) (hb : ∀ i, b i = true ↔ reach (Ed N to) i c) (hc : a c = true) (hcN : c < N) :
    RgP N to K kp (c + 1) (dnF a b (upd done c true) N) (gdF a b good (allTo (fnF a b kp N) K) N) := by
  have hbc : b c = true := (hb c).2 ((ha c).1 hc)
  have hF := fine_iff (K := K) (kp := kp) hto ha hb hc
  refine ⟨fun i hi => ?_, fun i hi => ?_, fun i hi => ?_⟩
  · unfold dnF at hi
    unfold gdF
    by_cases e : i < N ∧ a i = true ∧ b i = true
    · rw [if_pos e, hF]
      have h1 := (ha i).1 e.2.1
      have h2 := (hb i).1 e.2.2
      exact ⟨fun g => good_scc h1 h2 g, fun g => good_scc h2 h1 g⟩
    · rw [if_neg e] at hi ⊢
      by_cases e2 : i = c
      · subst e2; exact absurd ⟨hcN, hc, hbc⟩ e
      · unfold upd at hi; rw [if_neg e2] at hi; exact h.p1 i hi
  · unfold dnF
    by_cases e : i < N ∧ a i = true ∧ b i = true
    · rw [if_pos e]; exact Or.inl rfl
    · rw [if_neg e]
      by_cases e2 : i = c
      · subst e2; exact Or.inl (upd_here _ _ _)
      · rcases h.p2 i (by omega) with h1 | h1
        · exact Or.inl (upd_true h1 (fun _ => rfl))
        · exact Or.inr h1
  · unfold dnF at hi
    unfold gdF
    by_cases e : i < N ∧ a i = true ∧ b i = true
    · rw [if_pos e] at hi; cases hi
    · rw [if_neg e] at hi ⊢
      by_cases e2 : i = c
      · subst e2; rw [upd_here] at hi; cases hi
      · unfold upd at hi; rw [if_neg e2] at hi; exact h.p3 i hi
theorem rg_end {N K : Nat} {to : Nat → List Nat} {kp : Nat → Nat → Bool} {done good : Nat → Bool} (h : RgP N to K kp N done good) (i : Nat) (hi : i < N) : good i = true ↔ GN N to K kp i := by
  cases hd : done i with
  | true => exact h.p1 i hd
  | false =>
    rcases h.p2 i hi with h1 | h1
    · rw [hd] at h1; cases h1
    · rw [h.p3 i hd]
      exact ⟨fun q => (by cases q), fun q => absurd q.1 h1⟩

end Go.Proofs.Ytjagijohfkffiab

/- The walk of the reference's rings. -/
namespace Go.Proofs.Ytjagijohfkffiab
open Go.RowKit
set_option linter.unusedVariables false

set_option maxHeartbeats 8000000 in
set_option maxRecDepth 100000 in
theorem rings_net (HT : TurnedC) (P N K : Nat) (to : Nat → List Nat) (kp : Nat → Nat → Bool) (w : World) (hn : NetM w P N to K kp) (hN0 : 0 < N) (hto : ∀ a, a < N → ∀ b ∈ to a, b < N) (hlen : ∀ a, a < N → (to a).length ≤ 4398046511104) (hcnt : ∀ a, a < N → ∀ j, (to a).count j ≤ 8) (hN : N ≤ 274877906944) (hK : K ≤ 65536) :
    Calls Try.prog 95 #[.pointer (some ⟨P, 0, none⟩)] w fun e w' => ∃ g good, e = .returned (.slice (some ⟨g, 0, none⟩) N N) ∧ w.heap.size ≤ g ∧ BO w' w.heap.size g N good ∧ (∀ i, i < N → (good i = true ↔ GN N to K kp i)) ∧ Below w.heap.size w w' := by
  obtain ⟨v0, c0, ao, cap, rfl, hcap, hrow⟩ := hn.c0
  obtain ⟨v1, c1, aok, kcap, rfl, hkcap, hkrow⟩ := hn.c1
  have hP := hn.lt
  have HNM := hid hn
  have HKR := hid hkrow
  obtain ⟨i0, hi, hz0, hz1, hz2⟩ := info_parts Try.infoBool
  have HTO := hid hto
  have HLE := hid hlen
  have HCN := hid hcnt
  have HTT := hid HT
  clear hrow hkrow hn hto hlen hcnt HT
  go_enter Try.func95, Try.ntmps95
  go_wp2_with (at_make; go_must (refine wpList_make_full _ rfl (.tmp 21) (.tmp 21) 104 rfl w.heap.size 4 i0 (.bool false) 1 Try.underlying104 hi hz0 hz1 .i64 .i64 N N N rfl rfl rfl rfl ?m2 ?m3 (Nat.le_refl _) ?_))
  case m2 => rw [hz2]; omega
  case m3 => unfold maxLen; omega
  intro w1 own1 grow1
  have eo : (madeCells #[Value.bool false] N).toList = List.replicate N (.bool false) := toList_madeCells_one _ _
  rw [eo, ← outTo_zero (fun _ => false), show outTo (fun _ => false) N 0 = outTo (fun _ => false) N N by simp [outTo]] at own1
  have hb1 : Below w.heap.size w w1 := (Below.refl _ _).grown grow1 (Nat.le_refl _) (fun k h => by cases h)
  have OG : Hid (BO w1 w.heap.size w.heap.size N (fun _ => false)) := hid own1
  have hsz1 := hb1.size
  have hl0 := OG.out.blk.2
  have HB1 := hid hb1
  clear own1 grow1 eo hb1
  go_wp2_with (at_make; go_must (refine wpList_make_full _ rfl (.tmp 23) (.tmp 23) 104 rfl w.heap.size 4 i0 (.bool false) 1 Try.underlying104 hi hz0 hz1 .i64 .i64 N N N rfl rfl rfl rfl ?m2 ?m3 hsz1 ?_))
  case m2 => rw [hz2]; omega
  case m3 => unfold maxLen; omega
  intro w2 own2 grow2
  have eo : (madeCells #[Value.bool false] N).toList = List.replicate N (.bool false) := toList_madeCells_one _ _
  rw [eo, ← outTo_zero (fun _ => false), show outTo (fun _ => false) N 0 = outTo (fun _ => false) N N by simp [outTo]] at own2
  have OD : Hid (BO w2 w.heap.size w1.heap.size N (fun _ => false)) := hid own2
  have OG2 := hid (OG.out.grown grow2)
  have hl1 := OD.out.blk.2
  have hb2 := HB1.out.grown grow2 hsz1 (fun k h => by cases h)
  have hsz2 := hb2.size
  have HB2 := hid hb2
  clear own2 grow2 eo OG HB1 hb2
  generalize hg1 : w1.heap.size = g1 at *
  go_wp2_with fail
  refine (HTT.out P N K to kp w2 (HNM.out.below HB2.out) hN0 HTO.out HLE.out HCN.out hN).mono ?_
  rintro e w3 ⟨P2, tl, rfl, ST, htl, hll, hb3⟩
  have HST := hid ST
  have HTL := hid htl
  have HLL := hid hll
  have OG3 := hid (OG2.out.keeps hb3)
  have OD3 := hid (OD.out.keeps hb3)
  have hsz3 := hb3.size
  have HB3 := hid (HB2.out.trans (hb3.mono hsz2))
  clear OG2 OD HB2 hb3 ST htl hll
  go_wp2_with fail
  refine (live_net P N K to kp w3 (HNM.out.below HB3.out) HTO.out HLE.out (by omega)).mono ?_
  rintro e w4 ⟨gl, lv, rfl, hgl, OL, hlv, hb4⟩
  have HOL := hid OL
  have HLV := hid hlv
  have OG4 := hid (OG3.out.keeps hb4)
  have OD4 := hid (OD3.out.keeps hb4)
  have hsz4 := hb4.size
  have HB4 := hid (HB3.out.trans (hb4.mono (by omega)))
  have HSY := hid ((Stays.refl w2.heap.size w3).below hb4)
  have ng1 : gl ≠ w.heap.size := by omega
  have ng2 : gl ≠ g1 := by omega
  have ng3 : g1 ≠ w.heap.size := by omega
  have hbl := HB4.out.size
  clear OG3 OD3 HB3 hb4 OL hlv
  go_wp2_with fail
  go_loopw [8] (fun i wq => ∃ (c : Nat) (done good : Nat → Bool), c ≤ N ∧ i = .int .i64 c ∧ Hid (RgP N to K kp c done good) ∧ Hid (BO wq w.heap.size w.heap.size N good) ∧ Hid (BO wq w.heap.size g1 N done) ∧ Hid (BO wq w3.heap.size gl N lv) ∧ Hid (Stays w2.heap.size w3 wq) ∧ Below w.heap.size w wq) (fun i _ => N - (intOf i).toNat)
  case atStart => exact ⟨0, _, _, Nat.zero_le _, rfl, hid (rg_start _ _ _ _), OG4, OD4, HOL, HSY, HB4.out⟩
  case round =>
    obtain ⟨c, done, good, hc, rfl, HR, HG, HD, HV, HS, hb⟩ := hrel
    rename World => W0
    by_cases hlc : c < N
    · have d1 := HD.out.get hlc
      have d2 := HV.out.get hlc
      have d3 := HD.out.fz c
      have HVC : Hid (lv c = false → ¬ reach (Ed N to) c c) := hid (fun h r => by have := HLV.out c r; rw [h] at this; cases this)
      have HSK := hid (fun h => rg_skip HR.out (c := c) h)
      have HNT := hid (fun h => rg_not HR.out (c := c) h)
      have D1 := hid (HD.out.set c true)
      have D2 := hid (HG.out.other HD.out ng3.symm c (.bool true))
      have D3 := hid (HV.out.other HD.out ng2 c (.bool true))
      have D4 := hid (HS.out.set (k := g1) (by omega) c (.bool true))
      have HB6 := hid (hb.setCell (p := ⟨g1, c, none⟩) (by show w.heap.size ≤ g1; omega) (.bool true))
      generalize hdv : done c = dv at *
      generalize hvv : lv c = vv at *
      have HDV := hid hdv
      clear hdv hvv
      cases dv with
      | true =>
        have HR2 := hid (HSK.out (Or.inl rfl))
        clear HSK HNT HVC
        go_wp2_with fail
        go_roundw
        case rel => exact ⟨c + 1, done, good, by omega, by go_num, HR2, HG, HD, HV, HS, hb⟩
        case measure => simp [intOf]; omega
      | false =>
        cases vv with
        | false =>
          have HR2 := hid (HSK.out (Or.inr (HVC.out rfl)))
          clear HSK HNT HVC
          go_wp2_with fail
          go_roundw
          case rel => exact ⟨c + 1, done, good, by omega, by go_num, HR2, HG, HD, HV, HS, hb⟩
          case measure => simp [intOf]; omega
        | true =>
          have HN2 := hid (HNT.out rfl)
          clear HSK HNT HVC HG HD HV HS hb
          have FR := hid (from_net P N K c to kp (W0.setCell ⟨g1, c, none⟩ (.bool true)) (HNM.out.below HB6.out) HTO.out HLE.out hlc (by omega))
          go_wp2_with fail
          refine FR.out.mono ?_
          rintro e w5 ⟨ga, a, rfl, hga, OA, haR, hb5⟩
          have HA : Hid (BO w5 (W0.setCell ⟨g1, c, none⟩ (.bool true)).heap.size ga N a) := hid OA
          have HAR := hid haR
          have E1 := hid (D1.out.keeps hb5)
          have E2 := hid (D2.out.keeps hb5)
          have E3 := hid (D3.out.keeps hb5)
          have E4 := hid (D4.out.below hb5)
          have s1 := HB6.out.size
          have s3 := D4.out.size
          have s2 := hb5.size
          have HB7 := hid (HB6.out.trans (hb5.mono s1))
          have a1 := HA.out.get hlc
          clear D1 D2 D3 D4 HB6 FR OA haR hb5 d1 d2 d3
          rw [World.size_setCell] at s1 s2 s3 hga
          have HA2 : Hid (BO w5 w.heap.size ga N a) := hid (HA.out.base (by rw [World.size_setCell]; exact s1))
          clear HA
          cases hac : a c with
          | false =>
            rw [hac] at a1
            have HR2 := hid (HN2.out (fun r => by have := (HAR.out c).2 r; rw [hac] at this; cases this))
            clear hac HN2
            go_wp2_with fail
            go_roundw
            case rel => exact ⟨c + 1, _, good, by omega, by go_num, HR2, E2, E1, E3, E4, HB7.out⟩
            case measure => simp [intOf]; omega
          | true =>
            rw [hac] at a1
            have HAC := hid hac
            clear hac HN2
            have FB := hid (from_net P2 N 0 c tl kp w5 (HST.out w5 E4.out) (fun x hx y hy => ((HTL.out x y).1 hy).1) (fun x hx => by have := HLL.out x; omega) hlc (by omega))
            go_wp2_with fail
            refine FB.out.mono ?_
            rintro e w6 ⟨gb, b, rfl, hgb, OB, hbR, hb6⟩
            have HB0 : Hid (BO w6 w.heap.size gb N b) := hid (BO.base (show BO w6 w5.heap.size gb N b from OB) HB7.out.size)
            have HBR : Hid (∀ i, b i = true ↔ reach (Ed N to) i c) := hid (fun i => (hbR i).trans (reach_back HTO.out HTL.out))
            have F1 := hid (E1.out.keeps hb6)
            have F2 := hid (E2.out.keeps hb6)
            have F3 := hid (E3.out.keeps hb6)
            have F4 := hid (E4.out.below hb6)
            have HA3 := hid (HA2.out.keeps hb6)
            have HB8 := hid (HB7.out.trans (hb6.mono HB7.out.size))
            have hgb2 : w5.heap.size ≤ gb := hgb
            have hga2 := HA2.out.blk.2
            have HRR := hid (rg_ring (K := K) (kp := kp) HR.out HTO.out HAR.out HBR.out HAC.out hlc)
            have c16 := (HB8.out.cell (p := ⟨P, 1, none⟩) hP).trans c1
            clear E1 E2 E3 E4 HB7 FB OB hbR hb6 HA2 a1
            go_wp2_with fail
            go_loopw [12, 11] (fun i f wq => ∃ (k : Nat), k ≤ K ∧ i = .int .i64 k ∧ f = .bool (allTo (fnF a b kp N) k) ∧ w6 = wq) (fun i _ _ => K - (intOf i).toNat)
            case atStart => exact ⟨0, Nat.zero_le _, rfl, rfl, rfl⟩
            case round =>
              obtain ⟨k, hk, rfl, rfl, e⟩ := hrel
              subst e
              by_cases hlk : k < K
              · obtain ⟨gk, e, hgk, hkc⟩ := HKR.out (by omega)
                subst e
                obtain ⟨bk, ckp, ck, hckp, hrb⟩ := hkc k hlk
                have ck6 := (HB8.out.cell (p := ⟨gk, k, none⟩) hgk).trans ck
                have HRB := hid (hrb.below HB8.out)
                have HFS : Hid (allTo (fnF a b kp N) (k + 1) = (allTo (fnF a b kp N) k && anyTo (smF a b kp k) N)) := hid rfl
                clear hkc ck hrb
                generalize allTo (fnF a b kp N) k = fv at *
                go_wp2_with fail
                go_loopw [14, 13] (fun i s wq => ∃ (x : Nat), x ≤ N ∧ i = .int .i64 x ∧ s = .bool (anyTo (smF a b kp k) x) ∧ w6 = wq) (fun i _ _ => N - (intOf i).toNat)
                case atStart => exact ⟨0, Nat.zero_le _, rfl, rfl, rfl⟩
                case round =>
                  obtain ⟨x, hx, rfl, rfl, e⟩ := hrel
                  subst e
                  by_cases hlx : x < N
                  · have t1 := HA3.out.get hlx
                    have t2 := HB0.out.get hlx
                    have t3 := HRB.out.cell x hlx
                    have HAS : Hid (anyTo (smF a b kp k) (x + 1) = (anyTo (smF a b kp k) x || (a x && b x && kp k x))) := hid rfl
                    generalize anyTo (smF a b kp k) x = sv at *
                    generalize a x = av at *
                    generalize b x = bv at *
                    generalize kp k x = kv at *
                    cases sv with
                    | true =>
                      go_wp2_with fail
                      go_roundw
                      case rel => exact ⟨x + 1, by omega, by go_num, by rw [HAS.out]; rfl, trivial⟩
                      case measure => simp [intOf]; omega
                    | false =>
                      cases av with
                      | false =>
                        go_wp2_with fail
                        go_roundw
                        case rel => exact ⟨x + 1, by omega, by go_num, by rw [HAS.out]; rfl, trivial⟩
                        case measure => simp [intOf]; omega
                      | true =>
                        cases bv with
                        | false =>
                          go_wp2_with fail
                          go_roundw
                          case rel => exact ⟨x + 1, by omega, by go_num, by rw [HAS.out]; rfl, trivial⟩
                          case measure => simp [intOf]; omega
                        | true =>
                          go_wp2_with fail
                          go_roundw
                          case rel => exact ⟨x + 1, by omega, by go_num, by rw [HAS.out]; rfl, trivial⟩
                          case measure => simp [intOf]; omega
                  · obtain rfl : x = N := by omega
                    generalize anyTo (smF a b kp k) x = sv at *
                    cases fv with
                    | true =>
                      go_wp2_with fail
                      go_roundw
                      case rel => exact ⟨k + 1, by omega, by go_num, by rw [HFS.out]; rfl, trivial⟩
                      case measure => simp [intOf]; omega
                    | false =>
                      go_wp2_with fail
                      go_roundw
                      case rel => exact ⟨k + 1, by omega, by go_num, by rw [HFS.out]; rfl, trivial⟩
                      case measure => simp [intOf]; omega
              · obtain rfl : k = K := by omega
                have F1z : Hid (BO w6 w.heap.size g1 N (dnF a b (upd done c true) 0)) := hid (by rw [dn_zero]; exact F1.out)
                have F2z : Hid (BO w6 w.heap.size w.heap.size N (gdF a b good (allTo (fnF a b kp N) k) 0)) := hid (by rw [gd_zero]; exact F2.out)
                clear F1 F2
                generalize allTo (fnF a b kp N) k = fv at *
                go_wp2_with fail
                go_loopw [15] (fun i wq => ∃ (x : Nat), x ≤ N ∧ i = .int .i64 x ∧ Hid (BO wq w.heap.size w.heap.size N (gdF a b good fv x)) ∧ Hid (BO wq w.heap.size g1 N (dnF a b (upd done c true) x)) ∧ Hid (BO wq w3.heap.size gl N lv) ∧ Hid (BO wq w.heap.size ga N a) ∧ Hid (BO wq w.heap.size gb N b) ∧ Hid (Stays w2.heap.size w3 wq) ∧ Below w.heap.size w wq) (fun i _ => N - (intOf i).toNat)
                case atStart => exact ⟨0, Nat.zero_le _, rfl, F2z, F1z, F3, HA3, HB0, F4, HB8.out⟩
                case round =>
                  obtain ⟨x, hx, rfl, G1, G2, G3, G4, G5, G6, hb9⟩ := hrel
                  by_cases hlx : x < N
                  · have t1 := G4.out.get hlx
                    have t2 := G5.out.get hlx
                    have HDS := hid (fun h => dn_step (a := a) (b := b) (d := upd done c true) (x := x) h)
                    have HGS := hid (fun h => gd_step (a := a) (b := b) (g := good) (fine := fv) (x := x) h)
                    have HDN := hid (fun h => dn_no (a := a) (b := b) (d := upd done c true) (x := x) h)
                    have HGN := hid (fun h => gd_no (a := a) (b := b) (g := good) (fine := fv) (x := x) h)
                    cases hab : (a x && b x) with
                    | false =>
                      have H1 := hid (HDN.out hab)
                      have H2 := hid (HGN.out hab)
                      clear HDS HGS HDN HGN
                      generalize a x = av at *
                      generalize b x = bv at *
                      cases av with
                      | false =>
                        clear hab
                        go_wp2_with fail
                        go_roundw
                        case rel => exact ⟨x + 1, by omega, by go_num, by rw [← H2.out]; exact G1, by rw [← H1.out]; exact G2, G3, G4, G5, G6, hb9⟩
                        case measure => simp [intOf]; omega
                      | true =>
                        obtain rfl : bv = false := by simpa using hab
                        clear hab
                        go_wp2_with fail
                        go_roundw
                        case rel => exact ⟨x + 1, by omega, by go_num, by rw [← H2.out]; exact G1, by rw [← H1.out]; exact G2, G3, G4, G5, G6, hb9⟩
                        case measure => simp [intOf]; omega
                    | true =>
                      have H1 := hid (HDS.out hab)
                      have H2 := hid (HGS.out hab)
                      clear HDS HGS HDN HGN
                      generalize a x = av at *
                      generalize b x = bv at *
                      obtain ⟨rfl, rfl⟩ : av = true ∧ bv = true := by simpa using hab
                      clear hab
                      have m1 : ga ≠ g1 := by omega
                      have m2 : ga ≠ w.heap.size := by omega
                      have m3 : gb ≠ g1 := by omega
                      have m4 : gb ≠ w.heap.size := by omega
                      have s4 := G2.out.fz x
                      have s5 := G2.out.get hlx
                      have A1 := G1.out.other G2.out ng3.symm x (.bool true)
                      have A2 := G2.out.set x true
                      have A3 := G3.out.other G2.out ng2 x (.bool true)
                      have A4 := G4.out.other G2.out m1 x (.bool true)
                      have A5 := G5.out.other G2.out m3 x (.bool true)
                      have A6 := G6.out.set (k := g1) (by omega) x (.bool true)
                      rw [H1.out] at A2
                      have s6 := A1.fz x
                      have s7 := A1.get hlx
                      have C1 := A1.set x fv
                      rw [H2.out] at C1
                      have C2 := hid (A2.other A1 ng3 x (.bool fv))
                      have C3 := hid (A3.other A1 ng1 x (.bool fv))
                      have C4 := hid (A4.other A1 m2 x (.bool fv))
                      have C5 := hid (A5.other A1 m4 x (.bool fv))
                      have C6 := hid (A6.set (k := w.heap.size) (by omega) x (.bool fv))
                      have C0 := hid C1
                      have HBX := hid ((hb9.setCell (p := ⟨g1, x, none⟩) (by show w.heap.size ≤ g1; omega) (.bool true)).setCell (p := ⟨w.heap.size, x, none⟩) (Nat.le_refl _) (.bool fv))
                      clear A1 A2 A3 A4 A5 A6 C1 G1 G2 G3 G4 G5 G6
                      generalize dnF a b (upd done c true) x x = z1 at *
                      generalize gdF a b good fv x x = z2 at *
                      go_wp2_with fail
                      go_roundw
                      case rel => exact ⟨x + 1, by omega, by go_num, C0, C2, C3, C4, C5, C6, HBX.out⟩
                      case measure => simp [intOf]; omega
                  · obtain rfl : x = N := by omega
                    go_wp2_with fail
                    go_roundw
                    case rel => exact ⟨c + 1, _, _, by omega, by go_num, HRR, G1, G2, G3, G6, hb9⟩
                    case measure => simp [intOf]; omega
    · obtain rfl : c = N := by omega
      have HEN := hid (rg_end HR.out)
      go_wp2_with fail
      go_ret
      exact ⟨w.heap.size, good, rfl, Nat.le_refl _, HG.out, HEN.out, hb⟩

end Go.Proofs.Ytjagijohfkffiab
