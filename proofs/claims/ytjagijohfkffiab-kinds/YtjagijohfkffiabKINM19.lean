import Derived.Test.YtjagijohfkffiabKINM01
import Derived.Test.YtjagijohfkffiabKINM13
import Derived.Test.YtjagijohfkffiabKINM18
import Derived.RowKit

/- Plain mathematics: machines that tell the same, have no state too many and number their states as they are met are one. -/
namespace Go.Proofs.Ytjagijohfkffiab

def runM (nx : Nat → Nat → Nat) : Nat → List Nat → Nat
  | i, [] => i
  | i, a :: u => runM nx (nx i a) u

theorem runM_app (nx : Nat → Nat → Nat) (i : Nat) (u v : List Nat) : runM nx i (u ++ v) = runM nx (runM nx i u) v := by
  induction u generalizing i with
  | nil => rfl
  | cons a u ih => exact ih _

def LettersL (u : List Nat) : Prop := ∀ x ∈ u, x < 8

/-- How many states have been met behind p looks. -/
def met (nx : Nat → Nat → Nat) : Nat → Nat
  | 0 => 1
  | p + 1 => max (met nx p) (nx (p / 8) (p % 8) + 1)

/-- The states are numbered as they are met, and all are met. -/
def Numbered (n : Nat) (nx : Nat → Nat → Nat) : Prop := (∀ p, p < 8 * n → p / 8 < met nx p ∧ nx (p / 8) (p % 8) ≤ met nx p) ∧ met nx (8 * n) = n

/-- No word tells i and j apart, i in one machine, j in another. -/
def Like (out : Nat → Nat) (nx : Nat → Nat → Nat) (out' : Nat → Nat) (nx' : Nat → Nat → Nat) (i j : Nat) : Prop := ∀ w, LettersL w → out (runM nx i w) = out' (runM nx' j w)

theorem like_next {out out' : Nat → Nat} {nx nx' : Nat → Nat → Nat} {i j a : Nat} (h : Like out nx out' nx' i j) (ha : a < 8) : Like out nx out' nx' (nx i a) (nx' j a) := fun w hw => h (a :: w) (fun x hx => by
  rcases List.mem_cons.1 hx with rfl | hx
  · exact ha
  · exact hw x hx)
theorem like_symm {out out' : Nat → Nat} {nx nx' : Nat → Nat → Nat} {i j : Nat} (h : Like out nx out' nx' i j) : Like out' nx' out nx j i := fun w hw => (h w hw).symm
theorem like_trans {o1 o2 o3 : Nat → Nat} {n1 n2 n3 : Nat → Nat → Nat} {i j k : Nat} (h : Like o1 n1 o2 n2 i j) (h' : Like o2 n2 o3 n3 j k) : Like o1 n1 o3 n3 i k := fun w hw => (h w hw).trans (h' w hw)

/-- Some word tells each two states apart. -/
def Apart (n : Nat) (out : Nat → Nat) (nx : Nat → Nat → Nat) : Prop := ∀ i j, i < n → j < n → Like out nx out nx i j → i = j

theorem met_mono (nx : Nat → Nat → Nat) {p q : Nat} (h : p ≤ q) : met nx p ≤ met nx q := by
  obtain ⟨d, rfl⟩ : ∃ d, q = p + d := ⟨q - p, by omega⟩
  clear h
  induction d with
  | zero => exact Nat.le_refl _
  | succ d ih => rw [← Nat.add_assoc]; simp only [met]; omega
theorem met_pos (nx : Nat → Nat → Nat) (p : Nat) : 0 < met nx p := by
  have := met_mono nx (Nat.zero_le p)
  simp only [met] at this
  omega

theorem same_looks {n n' : Nat} {out out' : Nat → Nat} {nx nx' : Nat → Nat → Nat} (h : Numbered n nx) (h' : Numbered n' nx') (ha : Apart n out nx) (ha' : Apart n' out' nx') (h0 : Like out nx out' nx' 0 0) :
    ∀ p, p ≤ 8 * n → p ≤ 8 * n' → met nx p = met nx' p ∧ (∀ k, k < met nx p → Like out nx out' nx' k k) ∧ ∀ q, q < p → nx (q / 8) (q % 8) = nx' (q / 8) (q % 8) := by
  intro p
  induction p with
  | zero =>
    intro _ _
    refine ⟨rfl, fun k hk => ?_, fun q hq => by omega⟩
    simp only [met] at hk
    have : k = 0 := by omega
    subst this
    exact h0
  | succ p ih =>
    intro hp hp'
    obtain ⟨e1, e2, e3⟩ := ih (by omega) (by omega)
    obtain ⟨a1, a2⟩ := h.1 p (by omega)
    obtain ⟨b1, b2⟩ := h'.1 p (by omega)
    have m1 := met_mono nx (show p ≤ 8 * n by omega)
    have m2 := met_mono nx' (show p ≤ 8 * n' by omega)
    have m3 := met_mono nx (show p + 1 ≤ 8 * n by omega)
    have m4 := met_mono nx' (show p + 1 ≤ 8 * n' by omega)
    rw [h.2] at m1 m3
    rw [h'.2] at m2 m4
    have hl := like_next (e2 (p / 8) a1) (Nat.mod_lt p (by omega : 0 < 8))
    simp only [met] at m3 m4
    generalize ht : nx (p / 8) (p % 8) = t at *
    generalize ht' : nx' (p / 8) (p % 8) = t' at *
    have key : t = t' := by
      by_cases c1 : t < met nx p
      · exact ha' t t' (by omega) (by omega) (like_trans (like_symm (e2 t c1)) hl)
      · by_cases c2 : t' < met nx' p
        · have l2 := e2 t' (by omega)
          exact ha t t' (by omega) (by omega) (like_trans hl (like_symm l2))
        · omega
    refine ⟨?_, ?_, ?_⟩
    · simp only [met, ht, ht']
      rw [e1, key]
    · intro k hk
      simp only [met, ht] at hk
      by_cases c : k < met nx p
      · exact e2 k c
      · have : k = t := by omega
        subst this
        rw [← key] at hl
        exact hl
    · intro q hq
      by_cases c : q = p
      · subst c; rw [ht, ht', key]
      · exact e3 q (by omega)

/-- The machine is one. -/
theorem same_machine {n n' : Nat} {out out' : Nat → Nat} {nx nx' : Nat → Nat → Nat} (h : Numbered n nx) (h' : Numbered n' nx') (ha : Apart n out nx) (ha' : Apart n' out' nx') (h0 : Like out nx out' nx' 0 0) :
    n = n' ∧ (∀ i, i < n → out i = out' i) ∧ ∀ i a, i < n → a < 8 → nx i a = nx' i a := by
  have key := same_looks h h' ha ha' h0
  have hn : n = n' := by
    rcases Nat.lt_trichotomy n n' with c | c | c
    · obtain ⟨e1, _, _⟩ := key (8 * n) (Nat.le_refl _) (by omega)
      have := (h'.1 (8 * n) (by omega)).1
      rw [h.2] at e1
      rw [← e1] at this
      omega
    · exact c
    · obtain ⟨e1, _, _⟩ := key (8 * n') (by omega) (Nat.le_refl _)
      have := (h.1 (8 * n') (by omega)).1
      rw [h'.2] at e1
      rw [e1] at this
      omega
  subst hn
  obtain ⟨e1, e2, e3⟩ := key (8 * n) (Nat.le_refl _) (Nat.le_refl _)
  rw [h.2] at e2
  refine ⟨rfl, fun i hi => e2 i hi [] (fun x hx => by simp at hx), fun i a hi ha => ?_⟩
  have := e3 (8 * i + a) (by omega)
  rw [show (8 * i + a) / 8 = i by omega, show (8 * i + a) % 8 = a by omega] at this
  exact this

end Go.Proofs.Ytjagijohfkffiab

/- Plain mathematics: the states as they are met. -/
namespace Go.Proofs.Ytjagijohfkffiab
set_option linter.unusedVariables false

def nxL (xs : List Nat) : Nat → Nat → Nat := fun i l => xs.getD (8 * i + l) 0
theorem nxL_at (xs : List Nat) (p : Nat) : nxL xs (p / 8) (p % 8) = xs.getD p 0 := by unfold nxL; rw [show 8 * (p / 8) + p % 8 = p by omega]
theorem getD_snoc_lt {xs : List Nat} {x p : Nat} (h : p < xs.length) : (xs ++ [x]).getD p 0 = xs.getD p 0 := by simp [List.getD, List.getElem?_append_left h]
theorem getD_snoc_eq (xs : List Nat) (x : Nat) : (xs ++ [x]).getD xs.length 0 = x := by simp [List.getD]
theorem met_snoc {xs : List Nat} {x : Nat} : ∀ p, p ≤ xs.length → met (nxL (xs ++ [x])) p = met (nxL xs) p
  | 0, _ => rfl
  | p + 1, h => by rw [met, met, met_snoc p (by omega), nxL_at, nxL_at, getD_snoc_lt (by omega)]

section
variable (ns : List Nd) (liv beg : Nat → Bool)

/-- The words that lead to the states that were met; where the looks led. -/
structure Expl (us : List (List Nat)) (xs : List Nat) : Prop where
  first : us[0]? = some []
  let8 : ∀ u ∈ us, ∀ x ∈ u, x < 8
  dist : (us.map fun u => gv (runG ns liv beg u)).Nodup
  ok : ∀ p, p < xs.length → ∃ u0 u1, us[p / 8]? = some u0 ∧ us[xs.getD p 0]? = some u1 ∧ geq (runG ns liv beg u1) (stepG ns liv (runG ns liv beg u0) (p % 8)) = true
  num : us.length = met (nxL xs) xs.length
  met_ : ∀ p, p < xs.length → p / 8 < met (nxL xs) p ∧ xs.getD p 0 ≤ met (nxL xs) p
end

variable {ns : List Nd} {liv beg : Nat → Bool} {us : List (List Nat)} {xs : List Nat}

theorem expl_start : Expl ns liv beg [[]] [] := by
  refine ⟨rfl, fun u hu x hx => ?_, by simp, fun p hp => by simp at hp, rfl, fun p hp => by simp at hp⟩
  simp at hu
  subst hu
  simp at hx

theorem expl_old (h : Expl ns liv beg us xs) {u0 u1 : List Nat} {j : Nat} (h0 : us[xs.length / 8]? = some u0) (h1 : us[j]? = some u1) (hq : geq (runG ns liv beg u1) (stepG ns liv (runG ns liv beg u0) (xs.length % 8)) = true) : Expl ns liv beg us (xs ++ [j]) := by
  have hj := (List.getElem?_eq_some_iff.1 h1).1
  have hi := (List.getElem?_eq_some_iff.1 h0).1
  have hn := h.num
  refine ⟨h.first, h.let8, h.dist, fun p hp => ?_, ?_, fun p hp => ?_⟩
  · rw [List.length_append, List.length_singleton] at hp
    by_cases e : p = xs.length
    · subst e; rw [getD_snoc_eq]; exact ⟨u0, u1, h0, h1, hq⟩
    · rw [getD_snoc_lt (by omega)]; exact h.ok p (by omega)
  · rw [List.length_append, List.length_singleton, met, met_snoc _ (Nat.le_refl _), nxL_at, getD_snoc_eq, ← h.num]
    omega
  · rw [List.length_append, List.length_singleton] at hp
    rw [met_snoc p (by omega)]
    by_cases e : p = xs.length
    · subst e; rw [getD_snoc_eq, ← h.num]; exact ⟨hi, by omega⟩
    · rw [getD_snoc_lt (by omega)]; exact h.met_ p (by omega)

theorem geq_gv {g k : Nat → Bool} (h : geq g k = false) : gv g ≠ gv k := fun e => by
  have : geq g k = true := geq_iff.2 (gv_inj e)
  rw [h] at this
  cases this

theorem expl_new (h : Expl ns liv beg us xs) {u0 : List Nat} (h0 : us[xs.length / 8]? = some u0) (hall : ∀ u ∈ us, geq (runG ns liv beg u) (stepG ns liv (runG ns liv beg u0) (xs.length % 8)) = false) : Expl ns liv beg (us ++ [u0 ++ [xs.length % 8]]) (xs ++ [us.length]) := by
  have hi := (List.getElem?_eq_some_iff.1 h0).1
  have hn := h.num
  have old : ∀ {i : Nat} {u : List Nat}, us[i]? = some u → (us ++ [u0 ++ [xs.length % 8]])[i]? = some u := fun {i u} hu => by
    rw [List.getElem?_append_left (List.getElem?_eq_some_iff.1 hu).1]; exact hu
  refine ⟨old h.first, fun u hu => ?_, ?_, fun p hp => ?_, ?_, fun p hp => ?_⟩
  · rcases List.mem_append.1 hu with hu | hu
    · exact h.let8 u hu
    · simp at hu
      subst hu
      intro x hx
      rcases List.mem_append.1 hx with hx | hx
      · exact h.let8 u0 (List.mem_of_getElem? h0) x hx
      · simp at hx; omega
  · rw [List.map_append, List.nodup_append]
    refine ⟨h.dist, by simp, fun a ha b hb => ?_⟩
    simp at hb
    subst hb
    obtain ⟨u, hu, rfl⟩ := List.mem_map.1 ha
    rw [runG_snoc]
    exact geq_gv (hall u hu)
  · rw [List.length_append, List.length_singleton] at hp
    by_cases e : p = xs.length
    · subst e
      rw [getD_snoc_eq]
      refine ⟨u0, u0 ++ [xs.length % 8], old h0, by simp, ?_⟩
      rw [runG_snoc]
      exact geq_iff.2 fun j _ => rfl
    · rw [getD_snoc_lt (by omega)]
      obtain ⟨a, b, h1, h2, h3⟩ := h.ok p (by omega)
      exact ⟨a, b, old h1, old h2, h3⟩
  · rw [List.length_append, List.length_singleton, List.length_append, List.length_singleton, met, met_snoc _ (Nat.le_refl _), nxL_at, getD_snoc_eq, ← h.num]
    omega
  · rw [List.length_append, List.length_singleton] at hp
    rw [met_snoc p (by omega)]
    by_cases e : p = xs.length
    · subst e; rw [getD_snoc_eq, ← h.num]; exact ⟨hi, by omega⟩
    · rw [getD_snoc_lt (by omega)]; exact h.met_ p (by omega)

theorem expl_few (hg : Good ns) (ht : Seg 0 ns) (hl : LivP ns (calmsTo ns ns.length) liv) (h : Expl ns liv (begB ns liv) us xs) : us.length ≤ 796594185 := few hg ht hl us h.let8 h.dist

/-- All were looked at. -/
theorem expl_numbered (h : Expl ns liv beg us xs) (he : xs.length = 8 * us.length) : Numbered us.length (nxL xs) := by
  refine ⟨fun p hp => ?_, ?_⟩
  · rw [nxL_at]; exact h.met_ p (by omega)
  · rw [← he, ← h.num]

end Go.Proofs.Ytjagijohfkffiab

/- Plain mathematics: machines as lists of states; when they are well formed; their bytes. -/
namespace Go.Proofs.Ytjagijohfkffiab
open Go.RowKit
set_option linter.unusedVariables false

/-- A state: what it tells, where its letters lead. -/
structure St where
  out : Int
  next : List Int

def goesB (n i : Nat) (fin : Bool) (k : Int) : Bool := decide (0 ≤ k) && decide (k < n) && (!fin || decide (k = i))
def finB (o : Int) : Bool := decide (o = 1) || decide (o = 2)
/-- A state may be the one with number i of n. -/
def stB (n i : Nat) (s : St) : Bool := (decide (s.out = 0) || finB s.out) && s.next.all (goesB n i (finB s.out))
def stAt (ss : List St) (i : Nat) : St := ss.getD i ⟨0, []⟩
def wfB (ss : List St) : Bool := decide (1 ≤ ss.length) && decide (ss.length ≤ 8) && (List.range ss.length).all fun i => stB ss.length i (stAt ss i)
def zipSt (os : List Int) (ls : List (List Int)) : List St := List.zipWith St.mk os ls
/-- A plain machine is well formed. -/
def formedB (os : List Int) (ls : List (List Int)) : Bool := decide (ls.length = os.length) && ls.all (fun l => decide (l.length = 8)) && wfB (zipSt os ls)
/-- Each state has eight letters. -/
def Eight (ss : List St) : Prop := ∀ s ∈ ss, s.next.length = 8

def stCells (s : St) : List Value := Value.int .i64 s.out :: s.next.map (Value.int .i64)
def stArr (s : St) : Array Value := (stCells s).toArray
def flatS (ss : List St) : List Value := ss.flatMap stCells

theorem eight_cases {l : List Int} (h : l.length = 8) : ∃ a0 a1 a2 a3 a4 a5 a6 a7, l = [a0, a1, a2, a3, a4, a5, a6, a7] := by
  match l, h with
  | [a0, a1, a2, a3, a4, a5, a6, a7], _ => exact ⟨_, _, _, _, _, _, _, _, rfl⟩

theorem stCells_len {s : St} (h : s.next.length = 8) : (stCells s).length = 9 := by simp [stCells, h]
theorem flatS_snoc (ss : List St) (s : St) : flatS (ss ++ [s]) = flatS ss ++ stCells s := by simp [flatS]

theorem eight_at {ss : List St} (h : Eight ss) {i : Nat} (hi : i < ss.length) : (stAt ss i).next.length = 8 := by
  have : stAt ss i = ss[i] := by simp [stAt, List.getD, List.getElem?_eq_getElem hi]
  rw [this]; exact h _ (List.getElem_mem hi)

theorem flatS_get {ss : List St} (h : Eight ss) {i : Nat} (hi : i < ss.length) {j : Nat} (hj : j < 9) : (flatS ss)[i * 9 + j]? = (stCells (stAt ss i))[j]? := by
  induction ss generalizing i with
  | nil => simp at hi
  | cons s ss ih =>
    have h1 : s.next.length = 8 := h s (by simp)
    have hs := stCells_len h1
    cases i with
    | zero =>
      show (stCells s ++ flatS ss)[0 * 9 + j]? = _
      rw [List.getElem?_append_left (by omega)]
      simp [stAt]
    | succ i =>
      show (stCells s ++ flatS ss)[(i + 1) * 9 + j]? = _
      rw [List.getElem?_append_right (by omega), hs, show (i + 1) * 9 + j - 9 = i * 9 + j by omega, ih (fun x hx => h x (by simp [hx])) (by simpa using hi)]
      simp [stAt]

theorem all_range {n : Nat} {p : Nat → Bool} : (List.range n).all p = true ↔ ∀ i, i < n → p i = true := by simp [List.all_eq_true]
theorem wfB_iff {ss : List St} : wfB ss = true ↔ 1 ≤ ss.length ∧ ss.length ≤ 8 ∧ ∀ i, i < ss.length → stB ss.length i (stAt ss i) = true := by
  unfold wfB
  rw [Bool.and_eq_true, Bool.and_eq_true, all_range]
  simp [and_assoc]

theorem zip_len {os : List Int} {ls : List (List Int)} (h : ls.length = os.length) : (zipSt os ls).length = os.length := by simp [zipSt, h]
theorem zip_at {os : List Int} {ls : List (List Int)} (h : ls.length = os.length) {i : Nat} (hi : i < os.length) : stAt (zipSt os ls) i = ⟨os.getD i 0, ls.getD i []⟩ := by
  have h1 : i < (zipSt os ls).length := by rw [zip_len h]; exact hi
  have h2 : (zipSt os ls)[i]? = some ⟨os[i], ls[i]⟩ := by rw [List.getElem?_eq_getElem h1]; simp [zipSt]
  simp [stAt, List.getD, h2, List.getElem?_eq_getElem hi, List.getElem?_eq_getElem (show i < ls.length by omega)]
theorem zip_eight {os : List Int} {ls : List (List Int)} (h : ls.all (fun l => decide (l.length = 8)) = true) : Eight (zipSt os ls) := by
  intro s hs
  rw [List.all_eq_true] at h
  obtain ⟨i, hi, rfl⟩ := List.getElem_of_mem hs
  simp [zipSt] at hi ⊢
  have := h (ls[i]) (List.getElem_mem _)
  simpa using this

/-- One byte of a number. -/
def byt (z : Int) : UInt8 := UInt8.ofNat z.toNat
def stBytes (s : St) : List UInt8 := byt s.out :: s.next.map byt
def bytesOf (ss : List St) : List UInt8 := byt (ss.length : Int) :: ss.flatMap stBytes

theorem byt_toNat {z : Int} (h0 : 0 ≤ z) (h1 : z < 256) : ((byt z).toNat : Int) = z := by
  unfold byt
  rw [UInt8.toNat_ofNat']
  omega

/-- What Write answers. -/
def writeErr (os : List Int) (ls : List (List Int)) : Nat := if formedB os ls = true then 0 else 8
def writeStr (os : List Int) (ls : List (List Int)) : ByteArray := if formedB os ls = true then ⟨(bytesOf (zipSt os ls)).toArray⟩ else ⟨#[]⟩

end Go.Proofs.Ytjagijohfkffiab

/- The walk of States. -/
namespace Go.Proofs.Ytjagijohfkffiab
open Go.RowKit
set_option linter.unusedVariables false

theorem GrpAt.num {w w' : World} {T b o : Nat} {row : Option Nat} {g : Nat → Bool} (h : GrpAt w b o g) (n : NumF w w' T row) (h1 : b ≠ T) (h2 : row ≠ some b) : GrpAt w' b o g :=
  ⟨fun j hj => (n.cell (p := ⟨b, o + j, none⟩) h.lt h1 (fun e => h2 e.symm)).trans (h.c j hj), fun j hj => (n.frozen (p := ⟨b, o + j, none⟩) h.lt h1 (fun e => h2 e.symm)).trans (h.f j hj)⟩
theorem own_num {w w' : World} {T B e s n : Nat} {row : Option Nat} {v : Value} {xs : List Value} (h : w.ownsRow B e s v n xs) (f : NumF w w' T row) (h1 : v.ownBlock ≠ some T) (h2 : v.ownBlock = none ∨ v.ownBlock ≠ row) : w'.ownsRow B e s v n xs := by
  refine ⟨h.1, ?_⟩
  rcases h.2 with h0 | ⟨g, cap, cur, ev, hb, hg, r⟩
  · exact Or.inl h0
  · subst ev
    refine Or.inr ⟨g, cap, cur, rfl, hb, ?_, r⟩
    rw [f.block g (heap_lt hg) (fun e => h1 (by rw [← e]; rfl)) (fun e => by
      rcases h2 with h2 | h2
      · simp [Value.ownBlock] at h2
      · exact h2 (by rw [← e]; rfl))]
    exact hg
theorem below_num {B0 : Nat} {a w w' : World} {T : Nat} {row : Option Nat} (h : Below B0 a w) (f : NumF w w' T row) (hB : B0 ≤ w.heap.size) (h1 : B0 ≤ T) (h2 : ∀ k, row = some k → B0 ≤ k) : Below B0 a w' :=
  ⟨f.os.trans h.os, f.tape.trans h.tape, f.output.trans h.output, Nat.le_trans h.size f.size, fun k hk => (f.block k (by omega) (by omega) (fun e => by have := h2 k e.symm; omega)).trans (h.block k hk)⟩
theorem OutM.num {w w' : World} {T P : Nat} {row : Option Nat} {ns : List Nd} {liv beg : Nat → Bool} (h : OutM w P ns liv beg) (f : NumF w w' T row) (h1 : P ≠ T) (h2 : row ≠ some P) : OutM w' P ns liv beg :=
  ⟨fun x N hx hN => (f.cell (p := ⟨P, x * 256 + N, none⟩) h.lt h1 (fun e => h2 e.symm)).trans (h.bef x N hx hN), h.liv.num f h1 h2, h.beg.num f h1 h2⟩

theorem own_new {w : World} {cs : Array Value} {t n size : Nat} (hs : cs.size = n * size) (hn : n ≤ maxLen) : (w.alloc (.cells cs t)).ownsRow w.heap.size t size (.slice (some ⟨w.heap.size, 0, none⟩) n n) n cs.toList := by
  refine ⟨by simpa using hs, Or.inr ⟨w.heap.size, n, cs, rfl, Nat.le_refl _, heap_alloc_last w _, Nat.le_refl _, hn, hs, ?_⟩⟩
  rw [List.take_of_length_le (by simp; omega)]

/-- The states that were looked at, as they are laid. -/
def StOk (ns : List Nd) (liv beg : Nat → Bool) (us : List (List Nat)) (xs : List Nat) (SS : List St) : Prop := ∀ i s, SS[i]? = some s → ∃ u, us[i]? = some u ∧ 8 * i + 8 ≤ xs.length ∧ s = ⟨verdG liv (runG ns liv beg u), (List.range 8).map fun l => ((xs.getD (8 * i + l) 0 : Nat) : Int)⟩
theorem stOk_more {ns : List Nd} {liv beg : Nat → Bool} {us vs : List (List Nat)} {xs ys : List Nat} {SS : List St} (h : StOk ns liv beg us xs SS) : StOk ns liv beg (us ++ vs) (xs ++ ys) SS := fun i s hi => by
  obtain ⟨u, h1, h2, h3⟩ := h i s hi
  refine ⟨u, by rw [List.getElem?_append_left (List.getElem?_eq_some_iff.1 h1).1]; exact h1, by rw [List.length_append]; omega, ?_⟩
  rw [h3]
  congr 1
  refine List.map_congr_left fun l hl => ?_
  have : l < 8 := by simpa using hl
  simp [List.getD, List.getElem?_append_left (show 8 * i + l < xs.length by omega)]
theorem stOk_eight {ns : List Nd} {liv beg : Nat → Bool} {us : List (List Nat)} {xs : List Nat} {SS : List St} (h : StOk ns liv beg us xs SS) : Eight SS := fun s hs => by
  obtain ⟨i, hi, e⟩ := List.getElem_of_mem hs
  obtain ⟨u, _, _, h3⟩ := h i s (by rw [List.getElem?_eq_getElem hi, e])
  rw [h3]; simp

theorem Try.infoSt9 : (Try.prog.info? 137).map (fun i => (i.zero, i.size, i.bytes)) = some (some (.agg #[.int .i64 0, .int .i64 0, .int .i64 0, .int .i64 0, .int .i64 0, .int .i64 0, .int .i64 0, .int .i64 0, .int .i64 0]), 9, 72) := by kernel_rfl

/-- A state that is being made, in memory: nine cells. -/
structure NineM (w : World) (b : Nat) (o : Nat) (xs : List Nat) : Prop where
  c0 : w.cell? ⟨b, 0, none⟩ = some (.int .i64 (o : Nat))
  c : ∀ m, m < 8 → w.cell? ⟨b, 1 + m, none⟩ = some (.int .i64 (xs.getD m 0 : Nat))
  f : ∀ m, m < 9 → w.frozen? ⟨b, m, none⟩ = false
theorem NineM.lt {w : World} {b o : Nat} {xs : List Nat} (h : NineM w b o xs) : b < w.heap.size := World.block_lt_of_cell? w ⟨b, 0, none⟩ h.c0
theorem NineM.below {w w' : World} {b o : Nat} {xs : List Nat} (h : NineM w b o xs) (hb : Below w.heap.size w w') : NineM w' b o xs :=
  ⟨(hb.cell (p := ⟨b, 0, none⟩) h.lt).trans h.c0, fun m hm => (hb.cell (p := ⟨b, 1 + m, none⟩) h.lt).trans (h.c m hm), fun m hm => (hb.frozen (p := ⟨b, m, none⟩) h.lt).trans (h.f m hm)⟩
theorem NineM.num {w w' : World} {T b o : Nat} {row : Option Nat} {xs : List Nat} (h : NineM w b o xs) (n : NumF w w' T row) (h1 : b ≠ T) (h2 : row ≠ some b) : NineM w' b o xs :=
  ⟨(n.cell (p := ⟨b, 0, none⟩) h.lt h1 (fun e => h2 e.symm)).trans h.c0, fun m hm => (n.cell (p := ⟨b, 1 + m, none⟩) h.lt h1 (fun e => h2 e.symm)).trans (h.c m hm), fun m hm => (n.frozen (p := ⟨b, m, none⟩) h.lt h1 (fun e => h2 e.symm)).trans (h.f m hm)⟩
theorem NineM.set {w : World} {b o : Nat} {xs : List Nat} (h : NineM w b o xs) {j : Nat} (hl : xs.length < 8) : NineM (w.setCell ⟨b, 1 + xs.length, none⟩ (.int .i64 (j : Nat))) b o (xs ++ [j]) := by
  refine ⟨?_, fun m hm => ?_, fun m hm => by rw [World.frozen?_setCell]; exact h.f m hm⟩
  · rw [World.cell?_setCell_other _ ⟨b, 1 + xs.length, none⟩ ⟨b, 0, none⟩ _ (fun q => by have := congrArg Addr.off q; simp at this)]; exact h.c0
  · by_cases e : m = xs.length
    · subst e
      rw [World.cell?_setCell_same _ _ _ (h.c _ hm), getD_snoc_eq]
    · rw [World.cell?_setCell_other _ ⟨b, 1 + xs.length, none⟩ ⟨b, 1 + m, none⟩ _ (fun q => e (by have := congrArg Addr.off q; simp at this; omega)), h.c m hm]
      by_cases h2 : m < xs.length
      · rw [getD_snoc_lt h2]
      · have : (xs ++ [j]).getD m 0 = 0 := by simp [List.getD, List.getElem?_eq_none (show (xs ++ [j]).length ≤ m by simp; omega)]
        rw [this]
        simp [List.getD, List.getElem?_eq_none (show xs.length ≤ m by omega)]
theorem NineM.other {w : World} {b o : Nat} {xs : List Nat} (h : NineM w b o xs) (p : Addr) (v : Value) (hp : p.block ≠ b) : NineM (w.setCell p v) b o xs :=
  ⟨by rw [World.cell?_setCell_other _ p ⟨b, 0, none⟩ _ (fun q => hp (congrArg Addr.block q))]; exact h.c0, fun m hm => by rw [World.cell?_setCell_other _ p ⟨b, 1 + m, none⟩ _ (fun q => hp (congrArg Addr.block q))]; exact h.c m hm, fun m hm => by rw [World.frozen?_setCell]; exact h.f m hm⟩

theorem nine_new (w : World) (o : Nat) (t : TypeId) : NineM (w.alloc (.cells #[.int .i64 (o : Nat), .int .i64 0, .int .i64 0, .int .i64 0, .int .i64 0, .int .i64 0, .int .i64 0, .int .i64 0, .int .i64 0] t)) w.heap.size o [] := by
  refine ⟨by simp, fun m hm => ?_, fun m hm => by simp⟩
  have : m = 0 ∨ m = 1 ∨ m = 2 ∨ m = 3 ∨ m = 4 ∨ m = 5 ∨ m = 6 ∨ m = 7 := by omega
  rcases this with rfl | rfl | rfl | rfl | rfl | rfl | rfl | rfl <;> simp
theorem ExM.set {w : World} {B T : Nat} {v : Value} {gs : List (Nat → Bool)} (h : ExM w B T v gs) (p : Addr) (u : Value) (h1 : p.block ≠ T) (h2 : v.ownBlock ≠ some p.block) : ExM (w.setCell p u) B T v gs :=
  ⟨by rw [World.cell?_setCell_other _ p ⟨T, 0, none⟩ _ (fun q => h1 (congrArg Addr.block q))]; exact h.c, by rw [World.frozen?_setCell]; exact h.f,
    h.own.kept (row := some p.block) ⟨rfl, rfl, rfl, by rw [World.size_setCell]; exact Nat.le_refl _, fun q hq hne => Below.heap_setCell _ _ _ _ (fun e => hne (by rw [e]))⟩ (Or.inr h2), h.ne⟩
theorem own_setx {w : World} {B e s n : Nat} {v : Value} {xs : List Value} (h : w.ownsRow B e s v n xs) (p : Addr) (u : Value) (h2 : v.ownBlock ≠ some p.block) : (w.setCell p u).ownsRow B e s v n xs :=
  h.kept (row := some p.block) ⟨rfl, rfl, rfl, by rw [World.size_setCell]; exact Nat.le_refl _, fun q hq hne => Below.heap_setCell _ _ _ _ (fun e => hne (by rw [e]))⟩ (Or.inr h2)
theorem ExM.grown {w w' : World} {B T : Nat} {v : Value} {gs : List (Nat → Bool)} {row : Option Nat} (h : ExM w B T v gs) (hg : w.grownBy w' row) (h1 : row ≠ some T) (h2 : v.ownBlock = none ∨ v.ownBlock ≠ row) : ExM w' B T v gs :=
  ⟨hg.cell h.c (fun e => h1 e.symm), (World.frozen?_of_block (a := ⟨T, 0, none⟩) (hg.block T h.lt (fun e => h1 e.symm))).trans h.f, h.own.kept hg h2, h.ne⟩

end Go.Proofs.Ytjagijohfkffiab
