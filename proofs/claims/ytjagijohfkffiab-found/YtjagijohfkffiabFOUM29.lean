import Derived.Test.YtjagijohfkffiabFOUM10
import Derived.Test.YtjagijohfkffiabFOUM12
import Derived.Test.YtjagijohfkffiabFOUM28

/- The walk of searches. -/
namespace Go.Proofs.Ytjagijohfkffiab
open Go.RowKit
set_option linter.unusedVariables false

/-- A search as it lies in a list. -/
structure SrR where
  gf : Nat
  ao : Option Addr
  cap : Nat
  ls : List (Nat × Nat)
  goal : Nat → Bool
  found : Nat → Bool
def srC (n : Nat) (r : SrR) : List Value := [.slice (some ⟨r.gf, 0, none⟩) n n, .slice r.ao r.ls.length r.cap, .int .i64 ((goalsTo r.goal (n * 256)).length : Nat)]
def flatSr (n : Nat) (rs : List SrR) : List Value := rs.flatMap (srC n)
theorem flatSr_snoc (n : Nat) (rs : List SrR) (r : SrR) : flatSr n (rs ++ [r]) = flatSr n rs ++ srC n r := by simp [flatSr]
theorem flatSr_get {n : Nat} {rs : List SrR} {i : Nat} {r : SrR} (h : rs[i]? = some r) : (flatSr n rs)[i * 3]? = some (.slice (some ⟨r.gf, 0, none⟩) n n) ∧ (flatSr n rs)[i * 3 + 1]? = some (.slice r.ao r.ls.length r.cap) ∧ (flatSr n rs)[i * 3 + 2]? = some (.int .i64 ((goalsTo r.goal (n * 256)).length : Nat)) := by
  induction rs generalizing i with
  | nil => simp at h
  | cons q qs ih =>
    cases i with
    | zero => simp at h; subst h; simp [flatSr, srC]
    | succ i =>
      have := ih (by simpa using h)
      rw [show flatSr n (q :: qs) = srC n q ++ flatSr n qs by simp [flatSr]]
      have hl : (srC n q).length = 3 := rfl
      rw [List.getElem?_append_right (by omega), List.getElem?_append_right (by omega), List.getElem?_append_right (by omega), hl]
      simpa [show (i + 1) * 3 - 3 = i * 3 by omega, show (i + 1) * 3 + 1 - 3 = i * 3 + 1 by omega, show (i + 1) * 3 + 2 - 3 = i * 3 + 2 by omega] using this

structure SrOk (w : World) (B : Nat) (E : Nat → Nat → Prop) (N : Nat) (last : Nat → Bool) (r : SrR) : Prop where
  ow : w.ownsRow B 209 3 (.slice r.ao r.ls.length r.cap) r.ls.length (flatLk r.ls)
  sk : SeekI E N r.goal r.ls r.found
  gl : ∀ x, r.goal x = true → last x = true
  fd : ∀ x, last x = true → r.found x = true
theorem SrOk.below {w w' : World} {B : Nat} {E : Nat → Nat → Prop} {N : Nat} {last : Nat → Bool} {r : SrR} (h : SrOk w B E N last r) (hb : Below w.heap.size w w') : SrOk w' B E N last r := ⟨own_keeps h.ow hb, h.sk, h.gl, h.fd⟩
theorem SrOk.grown {w w' : World} {B B' : Nat} {E : Nat → Nat → Prop} {N : Nat} {last : Nat → Bool} {r : SrR} {v : Value} {k : Nat} {xs : List Value} (h : SrOk w B E N last r) (ho : w.ownsRow B' 167 3 v k xs) (hg : w.grownBy w' v.ownBlock) : SrOk w' B E N last r := ⟨h.ow.kept hg (own_ne' h.ow ho (by decide)), h.sk, h.gl, h.fd⟩
theorem SrOk.lk {w : World} {B : Nat} {E : Nat → Nat → Prop} {N : Nat} {last : Nat → Bool} {r : SrR} (h : SrOk w B E N last r) : LinkM w r.ao r.cap r.ls := by
  obtain ⟨ao, cap, e, hl⟩ := linkM_of h.ow
  cases e
  exact hl

/-- The searches, one for each mark, or one for any place. -/
structure SrsP (n : Nat) (cs : List (Nat → Bool)) (f : Nat → Bool) (rs : List SrR) : Prop where
  pos : 0 < rs.length
  len : cs.length ≤ rs.length
  le : rs.length ≤ 8
  mark : ∀ (k : Nat) c, cs[k]? = some c → ∃ r, rs[k]? = some r ∧ ∀ x, r.goal x = true → c (x % 256) = true

theorem Try.infoSearch : (Try.prog.info? 167).map (fun i => (i.zero, i.size, i.bytes)) = some (some (.agg #[.slice none 0 0, .slice none 0 0, .int .i64 0]), 3, 56) := by kernel_rfl

def Searched (n : Nat) (ns : List Nd) (into : Nat → List (Nat × Nat)) (cs : List (Nat → Bool)) (f : Nat → Bool) (w : World) (e : Ending) (w' : World) : Prop :=
  ∃ rs v, e = .returned v ∧ w'.ownsRow w.heap.size 167 3 v rs.length (flatSr n rs) ∧ (∀ r ∈ rs, SrOk w' w.heap.size (Ew n ns into) (n * 256) f r) ∧ SrsP n cs f rs ∧ Below w.heap.size w w'

theorem mem_spread_at {cs : List (Nat → Bool)} {k : Nat} {c : Nat → Bool} (h : cs[k]? = some c) : spread c ∈ spreads cs := List.mem_map.2 ⟨c, List.mem_of_getElem? h, rfl⟩
theorem goalsTo_le (f : Nat → Bool) (n : Nat) : (goalsTo f n).length ≤ n := by rw [goalsTo_len]; exact cntT_le f n

set_option maxHeartbeats 8000000 in
set_option maxRecDepth 100000 in
theorem searches_any (P gi n icap g cap : Nat) (ns : List Nd) (into : Nat → List (Nat × Nat)) (cs : List (Nat → Bool)) (f : Nat → Bool) (w : World) (h8 : ns.length ≤ 8) (hp : WaysP n into) (hbm : BefM w P ns) (hP : P < w.heap.size) (hcm : CalmM w P cs) (hcl : cs.length ≤ 8) (hw : WaysM w gi n into) (hf : FlatG w g (n * 256) f) (hg : g < w.heap.size) (hlast : ∀ x, f x = true ↔ Forever (Ew n ns into) (spreads cs) x) :
    Calls Try.prog 115 #[.pointer (some ⟨P, 0, none⟩), .agg #[.slice (some ⟨gi, 0, none⟩) n icap], .slice (some ⟨g, 0, none⟩) n cap] w (Searched n ns into cs f w) := by
  have hn := hp.le
  have HP := hid hp
  have HM := hid hbm
  have HW := hid hw
  have HF := hid hf
  have HLA := hid hlast
  have hgi := hw.lt
  obtain ⟨ca, ccap, cc0, hcr⟩ := hcm
  have HCR := hid hcr
  obtain ⟨i0, hi0, hz0, hz1, hz2⟩ := info_parts Try.infoSearch
  clear hp hbm hw hf hcr hlast
  generalize hm : cs.length = m at *
  have HLM := hid hm
  clear hm
  have ba := hid ((Below.refl w.heap.size w).alloc (Nat.le_refl _) (.cells #[.slice (some ⟨gi, 0, none⟩) n icap] 155))
  have C0 : Hid ((w.alloc (.cells #[.slice (some ⟨gi, 0, none⟩) n icap] 155)).cell? ⟨w.heap.size, 0, none⟩ = some (.slice (some ⟨gi, 0, none⟩) n icap)) := hid (by simp)
  have cc1 := (ba.out.cell (p := ⟨P, 2048, none⟩) hP).trans cc0
  go_enter Try.func115, Try.ntmps115
  go_wp2_with fail
  generalize hW : (w.alloc (.cells #[.slice (some ⟨gi, 0, none⟩) n icap] 155)) = W at *
  have hWs : W.heap.size = w.heap.size + 1 := by rw [← hW]; simp
  clear hW cc1 cc0
  go_loopw [7, 18] (fun v i wq => ∃ (k : Nat) (rs : List SrR), k ≤ m ∧ i = .int .i64 k ∧ Hid (rs.length = k) ∧ Hid (wq.ownsRow (w.heap.size + 1) 167 3 v rs.length (flatSr n rs)) ∧ Hid (∀ r ∈ rs, SrOk wq w.heap.size (Ew n ns into) (n * 256) f r) ∧ Hid (∀ (j : Nat) c, j < k → cs[j]? = some c → ∃ r, rs[j]? = some r ∧ ∀ x, r.goal x = true → c (x % 256) = true) ∧ Hid (wq.cell? ⟨w.heap.size, 0, none⟩ = some (.slice (some ⟨gi, 0, none⟩) n icap)) ∧ Hid (Below w.heap.size w wq) ∧ w.heap.size < wq.heap.size) (fun _ i _ => m - (intOf i).toNat)
  case atStart => exact ⟨0, [], Nat.zero_le _, rfl, hid rfl, hid (World.ownsRow_nil _ _ _ _), hid (fun r hr => by simp at hr), hid (fun j c hj => by omega), C0, ba, by omega⟩
  case round =>
    obtain ⟨k, rs, hk, rfl, HRL, HO, HOK, HMK, HC, HB, hsz⟩ := hrel
    rename World => W0
    rename Value => v0
    clear C0 ba
    obtain ⟨aoV, cpV, rfl⟩ := own_slice HO.out
    by_cases hlk : k < m
    · obtain ⟨gc, e, hgc, hcell⟩ := HCR.out (by omega)
      subst e
      obtain ⟨c, hc⟩ : ∃ c, cs[k]? = some c := ⟨cs[k]'(by rw [HLM.out]; exact hlk), List.getElem?_eq_getElem (by rw [HLM.out]; exact hlk)⟩
      have GC := hid ((hcell k c hc).below HB.out hgc)
      have HCK := hid hc
      clear hcell hc
      go_wp2_with (first | (refine wpList_load_grp rfl (.tmp 20) rfl gc (k * 256) c rfl GC.out ?_) | (refine wpList_store_grp rfl (.tmp 9) (.tmp 21) rfl W0.heap.size 0 c rfl rfl (zero_new W0).there ?_))
      intro w2 S2
      have bw2 : Below W0.heap.size W0 w2 := S2.bel _ _ (Nat.le_refl _) ((Below.refl _ _).alloc (Nat.le_refl _) _)
      have A9 := hid S2.at_
      have HB2 := hid (HB.out.trans (bw2.mono (by omega)))
      have HX2 := hid bw2
      have hs2 := bw2.size
      clear S2 bw2 GC
      go_wp2_with (refine wpList_load_grp rfl (.tmp 9) rfl W0.heap.size 0 c rfl A9.out ?_)
      refine (both_any g n cap f c w2 (by omega) (HF.out.below HB2.out hg) (by omega)).mono ?_
      rintro e w3 ⟨g3, rfl, hg3, hg3s, F3, hb3⟩
      have F3 := hid F3
      have HB3 := hid (HB2.out.trans (hb3.mono (by omega)))
      have HX3 := hid (HX2.out.trans (hb3.mono hs2))
      have c43 := (HX3.out.cell (p := ⟨w.heap.size, 0, none⟩) hsz).trans HC.out
      have hs3 := hb3.size
      clear hb3 HX2 HB2 A9
      go_wp2_with fail
      refine (seek_any P gi n icap g3 n ns into (bothB f c) w3 h8 HP.out (HM.out.below HB3.out hP) (by omega) (HW.out.below HB3.out) F3.out hg3s).mono ?_
      rintro e w4 ⟨g4, found, ls, vl, rfl, hg4, hg4s, F4, L4, SK, OL, hb4⟩
      obtain ⟨al, cl, rfl, LM⟩ := linkM_of OL
      have HX4 := hid (HX3.out.trans (hb4.mono (by omega)))
      have HB4 := hid (HB3.out.trans (hb4.mono (by omega)))
      have hs4 := hb4.size
      have HOL := hid (own_mono OL (show w.heap.size ≤ w3.heap.size by omega))
      clear LM
      have HSK := hid SK
      have hgl := goalsTo_le (bothB f c) (n * 256)
      have HGL : Hid (∀ x, bothB f c x = true → f x = true ∧ c (x % 256) = true) := hid (fun x hx => by unfold bothB at hx; simpa using hx)
      have HFD : Hid (∀ x, f x = true → found x = true) := hid (fun x hx => by
        rw [L4 x]
        have h9 := last_leads (c := spread c) (mem_spread_at HCK.out) ((HLA.out x).1 hx)
        refine LeadsP.mono (fun y hy => ?_) h9
        unfold bothB
        rw [(HLA.out y).2 hy.1]
        exact hy.2)
      clear hb4 L4 SK OL F3 F4 c43
      have bc := (Below.refl w4.heap.size w4).alloc (Nat.le_refl _) (.cells #[.slice (some ⟨g4, 0, none⟩) n n, .slice al ls.length cl, .int .i64 ((goalsTo (bothB f c) (n * 256)).length : Nat)] 167)
      have HTB := hid (fun q h => (HO.out.lt q h).1)
      have O4 := hid ((own_keeps HO.out HX4.out).alloc (.cells #[.slice (some ⟨g4, 0, none⟩) n n, .slice al ls.length cl, .int .i64 ((goalsTo (bothB f c) (n * 256)).length : Nat)] 167))
      have hrl := HRL.out
      have HSR : Hid (srC n ⟨g4, al, cl, ls, bothB f c, found⟩ = [.slice (some ⟨g4, 0, none⟩) n n, .slice al ls.length cl, .int .i64 ((goalsTo (bothB f c) (n * 256)).length : Nat)]) := hid rfl
      have HRR := hid (show (⟨g4, al, cl, ls, bothB f c, found⟩ : SrR) = ⟨g4, al, cl, ls, bothB f c, found⟩ from rfl)
      generalize hglE : (goalsTo (bothB f c) (n * 256)).length = gln at *
      clear hrl
      go_wp2_with (at_builtin; go_must (refine wpList_append_lies _ rfl (.tmp 29) (.tmp 31) 204 rfl (w.heap.size + 1) 167 i0 (.agg #[.slice none 0 0, .slice none 0 0, .int .i64 0]) 3 56 Try.underlying204 hi0 hz0 hz1 hz2 rfl (by decide) _ rs.length _ rfl (O4.out.alloc _) ⟨w4.heap.size + 1, 0, none⟩ 1 1 [.slice (some ⟨g4, 0, none⟩) n n, .slice al ls.length cl, .int .i64 (gln : Nat)] rfl rfl ?c1 ?c2 (by decide) ?c3 ?c4 ?c5 (w4.heap.size + 2) ?c6 ?_))
      case c1 => exact (by simpa using cells_lay (w4.alloc (.cells #[.slice (some ⟨g4, 0, none⟩) n n, .slice al ls.length cl, .int .i64 (gln : Nat)] 167)) [.slice (some ⟨g4, 0, none⟩) n n, .slice al ls.length cl, .int .i64 (gln : Nat)] 167)
      case c2 => intro y hy; simp at hy; rcases hy with rfl | rfl | rfl <;> rfl
      case c3 => unfold maxLen; have := HRL.out; omega
      case c4 => have := HRL.out; omega
      case c5 => simp; omega
      case c6 => simp
      intro gg cc w7 hown hgrow hat hlt7
      have b7 : Below w4.heap.size w4 ((w4.alloc (.cells #[.slice (some ⟨g4, 0, none⟩) n n, .slice al ls.length cl, .int .i64 (gln : Nat)] 167)).alloc (.cells #[.slice (some ⟨g4, 0, none⟩) n n, .slice al ls.length cl, .int .i64 (gln : Nat)] 167)) := bc.alloc (by simp) _
      have HB7 := hid ((HB4.out.trans (b7.mono (by omega))).grown hgrow (by simp; omega) (fun q h => by have := HTB.out q h; omega))
      have OX := (O4.out.alloc (.cells #[.slice (some ⟨g4, 0, none⟩) n n, .slice al ls.length cl, .int .i64 (gln : Nat)] 167))
      have C7 : Hid (w7.cell? ⟨w.heap.size, 0, none⟩ = some (.slice (some ⟨gi, 0, none⟩) n icap)) := hid (hgrow.cell ((b7.cell (p := ⟨w.heap.size, 0, none⟩) (by show w.heap.size < w4.heap.size; omega)).trans ((HX4.out.cell (p := ⟨w.heap.size, 0, none⟩) hsz).trans HC.out)) (fun h => by have := HTB.out w.heap.size h.symm; omega))
      have NEW : Hid (SrOk w7 w.heap.size (Ew n ns into) (n * 256) f ⟨g4, al, cl, ls, bothB f c, found⟩) := hid ((SrOk.below ⟨HOL.out, HSK.out, fun x hx => (HGL.out x hx).1, HFD.out⟩ b7).grown OX hgrow)
      have OLD : Hid (∀ r ∈ rs, SrOk w7 w.heap.size (Ew n ns into) (n * 256) f r) := hid (fun r hr => (((HOK.out r hr).below HX4.out).below b7).grown OX hgrow)
      have ALL : Hid (∀ r ∈ rs ++ [⟨g4, al, cl, ls, bothB f c, found⟩], SrOk w7 w.heap.size (Ew n ns into) (n * 256) f r) := hid (fun r hr => by
        rcases List.mem_append.1 hr with hr | hr
        · exact OLD.out r hr
        · simp at hr; rw [hr]; exact NEW.out)
      have MK : Hid (∀ (j : Nat) c', j < k + 1 → cs[j]? = some c' → ∃ r, (rs ++ [⟨g4, al, cl, ls, bothB f c, found⟩])[j]? = some r ∧ ∀ x, r.goal x = true → c' (x % 256) = true) := hid (fun j c' hj hc' => by
        by_cases e : j = k
        · subst e
          rw [HCK.out] at hc'
          cases hc'
          exact ⟨_, by rw [List.getElem?_append_right (by rw [HRL.out]; exact Nat.le_refl _), HRL.out]; simp; rfl, fun x hx => (HGL.out x hx).2⟩
        · obtain ⟨r, h1, h2⟩ := HMK.out j c' (by omega) hc'
          exact ⟨r, by rw [List.getElem?_append_left (by rw [HRL.out]; omega)]; exact h1, h2⟩)
      have OWN : Hid (w7.ownsRow (w.heap.size + 1) 167 3 (.slice (some ⟨gg, 0, none⟩) (rs.length + 1) cc) (rs ++ [(⟨g4, al, cl, ls, bothB f c, found⟩ : SrR)]).length (flatSr n (rs ++ [(⟨g4, al, cl, ls, bothB f c, found⟩ : SrR)]))) := hid (by
        rw [flatSr_snoc, HSR.out, List.length_append]
        exact hown)
      have RL : Hid ((rs ++ [(⟨g4, al, cl, ls, bothB f c, found⟩ : SrR)]).length = k + 1) := hid (by rw [List.length_append, HRL.out]; rfl)
      have hsz7 : w.heap.size < w7.heap.size := by have := hgrow.size; simp at this; omega
      clear hown hgrow hat b7 bc OX
      go_wp2_with fail
      go_roundw
      case rel => exact ⟨k + 1, _, by omega, by go_num, RL, OWN, ALL, MK, C7, HB7, hsz7⟩
      case measure => simp [intOf] <;> omega
    · obtain rfl : k = m := by omega
      have hcs : cs.length = k := HLM.out
      by_cases hk0 : k = 0
      · subst hk0
        obtain rfl : rs = [] := List.length_eq_zero_iff.1 HRL.out
        have c43 := HC.out
        have HNC : Hid (cs = []) := hid (List.length_eq_zero_iff.1 hcs)
        go_wp2_with fail
        refine (seek_any P gi n icap g cap ns into f _ h8 HP.out (HM.out.below HB.out hP) (by omega) (HW.out.below HB.out) (HF.out.below HB.out hg) (by omega)).mono ?_
        rintro e w4 ⟨g4, found, ls, vl, rfl, hg4, hg4s, F4, L4, SK, OL, hb4⟩
        obtain ⟨al, cl, rfl⟩ := own_slice OL
        have HB4 := hid (HB.out.trans (hb4.mono (by omega)))
        have hs4 := hb4.size
        have HOL := hid (own_mono OL (show w.heap.size ≤ W0.heap.size by omega))
        have HSK := hid SK
        have HFD : Hid (∀ x, f x = true → found x = true) := hid (fun x hx => by
          rw [L4 x]
          have h9 := last_leads_any ((HLA.out x).1 hx)
          exact LeadsP.mono (fun y hy => (HLA.out y).2 hy) h9)
        have bc := (Below.refl w4.heap.size w4).alloc (Nat.le_refl _) (.cells #[.slice (some ⟨g4, 0, none⟩) n n, .slice al ls.length cl, .int .i64 ((goalsTo f (n * 256)).length : Nat)] 167)
        have HSR : Hid (srC n ⟨g4, al, cl, ls, f, found⟩ = [.slice (some ⟨g4, 0, none⟩) n n, .slice al ls.length cl, .int .i64 ((goalsTo f (n * 256)).length : Nat)]) := hid rfl
        have HTB := hid (fun q h => (HO.out.lt q h).1)
        have O4 : Hid ((w4.alloc (.cells #[.slice (some ⟨g4, 0, none⟩) n n, .slice al ls.length cl, .int .i64 ((goalsTo f (n * 256)).length : Nat)] 167)).ownsRow (w.heap.size + 1) 167 3 (.slice aoV 0 cpV) 0 []) := hid ((own_keeps HO.out hb4).alloc _)
        clear hb4 L4 SK OL F4 c43
        generalize (goalsTo f (n * 256)).length = gln at *
        go_wp2_with (at_builtin; go_must (refine wpList_append_lies _ rfl (.tmp 41) (.tmp 43) 204 rfl (w.heap.size + 1) 167 i0 (.agg #[.slice none 0 0, .slice none 0 0, .int .i64 0]) 3 56 Try.underlying204 hi0 hz0 hz1 hz2 rfl (by decide) _ 0 [] rfl (O4.out.alloc _) ⟨w4.heap.size + 1, 0, none⟩ 1 1 [.slice (some ⟨g4, 0, none⟩) n n, .slice al ls.length cl, .int .i64 (gln : Nat)] rfl rfl ?c1 ?c2 (by decide) ?c3 ?c4 ?c5 (w4.heap.size + 2) ?c6 ?_))
        case c1 => exact (by simpa using cells_lay (w4.alloc (.cells #[.slice (some ⟨g4, 0, none⟩) n n, .slice al ls.length cl, .int .i64 (gln : Nat)] 167)) [.slice (some ⟨g4, 0, none⟩) n n, .slice al ls.length cl, .int .i64 (gln : Nat)] 167)
        case c2 => intro y hy; simp at hy; rcases hy with rfl | rfl | rfl <;> rfl
        case c3 => unfold maxLen; omega
        case c4 => omega
        case c5 => simp; omega
        case c6 => simp
        intro gg cc w7 hown hgrow hat hlt7
        have b7 : Below w4.heap.size w4 ((w4.alloc (.cells #[.slice (some ⟨g4, 0, none⟩) n n, .slice al ls.length cl, .int .i64 (gln : Nat)] 167)).alloc (.cells #[.slice (some ⟨g4, 0, none⟩) n n, .slice al ls.length cl, .int .i64 (gln : Nat)] 167)) := bc.alloc (by simp) _
        have HB7 := hid ((HB4.out.trans (b7.mono (by omega))).grown hgrow (by simp; omega) (fun q h => by have := HTB.out q h; omega))
        have OX := (O4.out.alloc (.cells #[.slice (some ⟨g4, 0, none⟩) n n, .slice al ls.length cl, .int .i64 (gln : Nat)] 167))
        have N0 : SrOk w4 w.heap.size (Ew n ns into) (n * 256) f ⟨g4, al, cl, ls, f, found⟩ := ⟨HOL.out, HSK.out, fun x hx => hx, HFD.out⟩
        have NEW : Hid (SrOk w7 w.heap.size (Ew n ns into) (n * 256) f ⟨g4, al, cl, ls, f, found⟩) := hid ((N0.below b7).grown OX hgrow)
        have HSP : Hid (SrsP n cs f [⟨g4, al, cl, ls, f, found⟩]) := hid ⟨by simp, by rw [HNC.out]; simp, by simp, fun j c hc => by rw [HNC.out] at hc; simp at hc⟩
        have OWN : Hid (w7.ownsRow w.heap.size 167 3 (.slice (some ⟨gg, 0, none⟩) 1 cc) 1 (flatSr n [⟨g4, al, cl, ls, f, found⟩])) := hid (by
          rw [show flatSr n [⟨g4, al, cl, ls, f, found⟩] = srC n ⟨g4, al, cl, ls, f, found⟩ by simp [flatSr], HSR.out]
          exact own_mono hown (by omega))
        clear hown hgrow hat b7 bc OX
        go_wp2_with fail
        go_ret
        unfold Searched
        exact ⟨[⟨g4, al, cl, ls, f, found⟩], _, rfl, OWN.out, fun r hr => by simp at hr; rw [hr]; exact NEW.out, HSP.out, HB7.out⟩
      · have HSP : Hid (SrsP n cs f rs) := hid ⟨by rw [HRL.out]; omega, by rw [HRL.out, hcs]; exact Nat.le_refl _, by rw [HRL.out]; omega, fun j c hc => HMK.out j c (by have := (List.getElem?_eq_some_iff.1 hc).1; omega) hc⟩
        have hz : ((rs.length : Int) == 0) = false := beq_eq_false_iff_ne.2 (by have := HRL.out; omega)
        have OWN := hid (own_mono HO.out (show w.heap.size ≤ w.heap.size + 1 by omega))
        go_wp2_with fail
        go_ret
        unfold Searched
        exact ⟨rs, _, rfl, OWN.out, HOK.out, HSP.out, HB.out⟩

end Go.Proofs.Ytjagijohfkffiab

/- Worlds that differ in one block alone. -/
namespace Go.Proofs.Ytjagijohfkffiab
open Go.RowKit
set_option linter.unusedVariables false

structure ButAt (g : Nat) (w w' : World) : Prop where
  size : w.heap.size ≤ w'.heap.size
  block : ∀ i, i < w.heap.size → i ≠ g → w'.heap[i]? = w.heap[i]?
theorem ButAt.refl (g : Nat) (w : World) : ButAt g w w := ⟨Nat.le_refl _, fun _ _ _ => rfl⟩
theorem ButAt.drewN {g : Nat} {w w' : World} (h : ButAt g w w') (n : Nat) : ButAt g w (w'.drewN n) := ⟨h.size, h.block⟩
theorem ButAt.drew {g : Nat} {w w' : World} (h : ButAt g w w') : ButAt g w w'.drew := ⟨h.size, h.block⟩
theorem ButAt.grown {g : Nat} {w w' w'' : World} (h : ButAt g w w') (hg : w'.grownBy w'' (some g)) : ButAt g w w'' :=
  ⟨Nat.le_trans h.size hg.size, fun i hi hne => (hg.block i (Nat.lt_of_lt_of_le hi h.size) (by simpa using hne)).trans (h.block i hi hne)⟩
theorem ButAt.trans {g : Nat} {w w' w'' : World} (h : ButAt g w w') (k : ButAt g w' w'') : ButAt g w w'' :=
  ⟨Nat.le_trans h.size k.size, fun i hi hne => (k.block i (Nat.lt_of_lt_of_le hi h.size) hne).trans (h.block i hi hne)⟩
theorem ButAt.cell {g : Nat} {w w' : World} (h : ButAt g w w') {b o : Nat} (hb : b < w.heap.size) (hne : b ≠ g) : w'.cell? ⟨b, o, none⟩ = w.cell? ⟨b, o, none⟩ := by
  have := h.block b hb hne
  unfold World.cell?
  simp only [this]
theorem own_but {g : Nat} {B : Nat} {e : TypeId} {s : Nat} {v : Value} {n : Nat} {xs : List Value} {w w' : World} (h : w.ownsRow B e s v n xs) (hs : ButAt g w w') (hne : v.ownBlock ≠ some g) : w'.ownsRow B e s v n xs := by
  refine ⟨h.1, ?_⟩
  rcases h.2 with h0 | ⟨g', cap, cur, ev, hb, hg, r⟩
  · exact Or.inl h0
  · refine Or.inr ⟨g', cap, cur, ev, hb, (hs.block g' (Array.getElem?_eq_some_iff.1 hg).1 (fun e => hne ?_)).trans hg, r⟩
    rw [ev, e]
    rfl

end Go.Proofs.Ytjagijohfkffiab
