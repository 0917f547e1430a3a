/- Plain mathematics: machines as lists of states; when they are well formed; their bytes. -/
import Derived.Test.YtjagijohfkffiaaReader
namespace Go.Proofs.Ytjagijohfkffiaa
open Go.RowKit
set_option linter.unusedVariables false

/-- A state: what it tells, where its letters lead. -/
structure St where
  out : Int
  next : List Int

def goesB (n i : Nat) (fin : Bool) (k : Int) : Bool := decide (0 ≤ k) && decide (k < n) && (!fin || decide (k = i))
def finB (o : Int) : Bool := decide (o = 1) || decide (o = 2)
/-- A state may be the one with number i of n. -/
def stB (n i : Nat) (s : St) : Bool := (decide (s.out = 0) || finB s.out) && s.next.all (goesB n i (finB s.out))
def stAt (ss : List St) (i : Nat) : St := ss.getD i ⟨0, []⟩
def wfB (ss : List St) : Bool := decide (1 ≤ ss.length) && decide (ss.length ≤ 8) && (List.range ss.length).all fun i => stB ss.length i (stAt ss i)
def zipSt (os : List Int) (ls : List (List Int)) : List St := List.zipWith St.mk os ls
/-- A plain machine is well formed. -/
def formedB (os : List Int) (ls : List (List Int)) : Bool := decide (ls.length = os.length) && ls.all (fun l => decide (l.length = 8)) && wfB (zipSt os ls)
/-- Each state has eight letters. -/
def Eight (ss : List St) : Prop := ∀ s ∈ ss, s.next.length = 8

def stCells (s : St) : List Value := Value.int .i64 s.out :: s.next.map (Value.int .i64)
def stArr (s : St) : Array Value := (stCells s).toArray
def flatS (ss : List St) : List Value := ss.flatMap stCells

theorem eight_cases {l : List Int} (h : l.length = 8) : ∃ a0 a1 a2 a3 a4 a5 a6 a7, l = [a0, a1, a2, a3, a4, a5, a6, a7] := by
  match l, h with
  | [a0, a1, a2, a3, a4, a5, a6, a7], _ => exact ⟨_, _, _, _, _, _, _, _, rfl⟩

theorem stCells_len {s : St} (h : s.next.length = 8) : (stCells s).length = 9 := by simp [stCells, h]
theorem flatS_len {ss : List St} (h : Eight ss) : (flatS ss).length = ss.length * 9 := by
  induction ss with
  | nil => rfl
  | cons s ss ih =>
    have h1 : s.next.length = 8 := h s (by simp)
    have h2 := ih (fun x hx => h x (by simp [hx]))
    simp only [flatS, List.flatMap_cons, List.length_append] at h2 ⊢
    rw [h2, stCells_len h1, List.length_cons]; omega
theorem flatS_snoc (ss : List St) (s : St) : flatS (ss ++ [s]) = flatS ss ++ stCells s := by simp [flatS]

theorem eight_at {ss : List St} (h : Eight ss) {i : Nat} (hi : i < ss.length) : (stAt ss i).next.length = 8 := by
  have : stAt ss i = ss[i] := by simp [stAt, List.getD, List.getElem?_eq_getElem hi]
  rw [this]; exact h _ (List.getElem_mem hi)

theorem flatS_get {ss : List St} (h : Eight ss) {i : Nat} (hi : i < ss.length) {j : Nat} (hj : j < 9) : (flatS ss)[i * 9 + j]? = (stCells (stAt ss i))[j]? := by
  induction ss generalizing i with
  | nil => simp at hi
  | cons s ss ih =>
    have h1 : s.next.length = 8 := h s (by simp)
    have hs := stCells_len h1
    cases i with
    | zero =>
      show (stCells s ++ flatS ss)[0 * 9 + j]? = _
      rw [List.getElem?_append_left (by omega)]
      simp [stAt]
    | succ i =>
      show (stCells s ++ flatS ss)[(i + 1) * 9 + j]? = _
      rw [List.getElem?_append_right (by omega), hs, show (i + 1) * 9 + j - 9 = i * 9 + j by omega, ih (fun x hx => h x (by simp [hx])) (by simpa using hi)]
      simp [stAt]

theorem all_range {n : Nat} {p : Nat → Bool} : (List.range n).all p = true ↔ ∀ i, i < n → p i = true := by simp [List.all_eq_true]
theorem wfB_iff {ss : List St} : wfB ss = true ↔ 1 ≤ ss.length ∧ ss.length ≤ 8 ∧ ∀ i, i < ss.length → stB ss.length i (stAt ss i) = true := by
  unfold wfB
  rw [Bool.and_eq_true, Bool.and_eq_true, all_range]
  simp [and_assoc]

theorem zip_len {os : List Int} {ls : List (List Int)} (h : ls.length = os.length) : (zipSt os ls).length = os.length := by simp [zipSt, h]
theorem zip_at {os : List Int} {ls : List (List Int)} (h : ls.length = os.length) {i : Nat} (hi : i < os.length) : stAt (zipSt os ls) i = ⟨os.getD i 0, ls.getD i []⟩ := by
  have h1 : i < (zipSt os ls).length := by rw [zip_len h]; exact hi
  have h2 : (zipSt os ls)[i]? = some ⟨os[i], ls[i]⟩ := by rw [List.getElem?_eq_getElem h1]; simp [zipSt]
  simp [stAt, List.getD, h2, List.getElem?_eq_getElem hi, List.getElem?_eq_getElem (show i < ls.length by omega)]
theorem zip_eight {os : List Int} {ls : List (List Int)} (h : ls.all (fun l => decide (l.length = 8)) = true) : Eight (zipSt os ls) := by
  intro s hs
  rw [List.all_eq_true] at h
  obtain ⟨i, hi, rfl⟩ := List.getElem_of_mem hs
  simp [zipSt] at hi ⊢
  have := h (ls[i]) (List.getElem_mem _)
  simpa using this

/-- One byte of a number. -/
def byt (z : Int) : UInt8 := UInt8.ofNat z.toNat
def stBytes (s : St) : List UInt8 := byt s.out :: s.next.map byt
def bytesOf (ss : List St) : List UInt8 := byt (ss.length : Int) :: ss.flatMap stBytes

theorem byt_toNat {z : Int} (h0 : 0 ≤ z) (h1 : z < 256) : ((byt z).toNat : Int) = z := by
  unfold byt
  rw [UInt8.toNat_ofNat']
  omega

/-- What Write answers. -/
def writeErr (os : List Int) (ls : List (List Int)) : Nat := if formedB os ls = true then 0 else 8
def writeStr (os : List Int) (ls : List (List Int)) : ByteArray := if formedB os ls = true then ⟨(bytesOf (zipSt os ls)).toArray⟩ else ⟨#[]⟩

end Go.Proofs.Ytjagijohfkffiaa
