import Derived.Test.YtjagijohfkffiabGreatALLM30
import Derived.Test.YtjagijohfkffiabGreatALLM32
import Derived.Test.YtjagijohfkffiabGreatALLM33
import Derived.Test.YtjagijohfkffiabGreatALLM34
import Derived.BigQuiet
import Derived.Deep.RegionHeld3
set_option maxHeartbeats 16000000
set_option maxRecDepth 100000
namespace Go.Proofs.YtjagijohfkffiabGreat
open Go.RowKit
set_option linter.unusedVariables false
structure qO (w:World) (B:Nat) (v:Value) (n K:Nat) (tb:Nat→Nat) (t:Nat→Nat→Bool):Prop where
 out:w.ownsRow B 132 1 v n ((List.range n).map fun i=>.slice (some ⟨tb i,0,none⟩) K K)
 row:∀ i,i<n→w.ownsRow B 4 1 (.slice (some ⟨tb i,0,none⟩) K K) K (aj (t i) K K)
 sep:∀ i j,i<j→j<n→tb i≠tb j
theorem qO.keeps {w w':World} {B n K:Nat} {v:Value} {tb:Nat→Nat} {t:Nat→Nat→Bool} (h:qO w B v n K tb t) (hb:Below w.heap.size w w'):qO w' B v n K tb t:=⟨ae h.out hb,fun i hi=>ae (h.row i hi) hb,h.sep⟩
theorem qO.ne {w:World} {B n K:Nat} {v:Value} {tb:Nat→Nat} {t:Nat→Nat→Bool} (h:qO w B v n K tb t) {i j:Nat} (hi:i<n) (hj:j<n) (hne:i≠j):tb i≠tb j:=by
 rcases Nat.lt_or_gt_of_ne hne with c | c
 ·exact h.sep i j c hj
 ·exact fun e=>h.sep j i c hi e.symm
theorem qO.at_ {w:World} {B n K:Nat} {v:Value} {tb:Nat→Nat} {t:Nat→Nat→Bool} (h:qO w B v n K tb t) (hn:0<n):∃ g cap,v=.slice (some ⟨g,0,none⟩) n cap∧n≤cap∧g<w.heap.size∧B≤g∧(∀ i,i<n→w.cell? ⟨g,i,none⟩=some (.slice (some ⟨tb i,0,none⟩) K K))∧(∀ i k,i<n→k<K→w.cell? ⟨tb i,k,none⟩=some (.bool (t i k))∧w.frozen? ⟨tb i,k,none⟩=false∧tb i<w.heap.size):=by
 obtain ⟨g,cap,rfl,hB,hlt,hc⟩:=yH h.out hn
 refine ⟨g,cap,rfl,hc,hlt,hB,fun i hi=>?_,fun i k hi hk=>⟨?_,(h.row i hi).frozenAt k,((h.row i hi).lt _ rfl).2⟩⟩
 ·rw [h.out.cellAt i (by omega)]
  simp [List.getElem?_map,List.getElem?_range hi]
 ·rw [(h.row i hi).cellAt k (by omega)]
  exact jv _ _ _ hk
def nN (t:Nat→Nat→Bool) (i k:Nat):Nat→Nat→Bool:=fun a b=>if a=i∧b=k then true else t a b
theorem qO.set {w:World} {B n K:Nat} {v:Value} {tb:Nat→Nat} {t:Nat→Nat→Bool} (h:qO w B v n K tb t) {i k:Nat} (hi:i<n) (hk:k<K):qO (w.setCell ⟨tb i,k,none⟩ (.bool true)) B v n K tb (nN t i k):=by
 have hn:0<n:=by omega
 refine ⟨aQ h.out ⟨tb i,k,none⟩ _ ?_,fun j hj=>?_,h.sep⟩
 ·have:=aD h.out (h.row i hi) (by decide)
  rcases this with h1 | h1
  ·rw [h1];simp
  ·exact h1
 ·by_cases c:j=i
  ·subst c
   have h1:=(h.row j hj).stored k (.bool true)
   rw [xx] at h1
   have e:aj (upd (t j) k true) K K=aj (nN t j k j) K K:=pE fun q hq=>by
    unfold upd nN
    by_cases e2:q=k <;> simp [e2]
   rw [e] at h1
   exact h1.1
  ·have e:aj (nN t i k j) K K=aj (t j) K K:=pE fun q hq=>by unfold nN;simp [c]
   rw [e]
   exact aQ (h.row j hj) ⟨tb i,k,none⟩ _ (fun e2=>h.ne hj hi c (Option.some.inj e2))
section
variable (out:Nat→Nat) (nx:Nat→Nat→Nat) (K:Nat)
structure Hy (t:Nat→Nat→Bool):Prop where
 sound:∀ i k,i<K→k<K→t i k=true→¬ ik out nx out nx i k
 base:∀ i k,i<K→k<K→out i≠out k→t i k=true
def ClT (t:Nat→Nat→Bool) (i k a:Nat):Prop:=a<8→t (nx i a) (nx k a)=true→t i k=true
end
section
variable {out:Nat→Nat} {nx:Nat→Nat→Nat} {K:Nat} {t:Nat→Nat→Bool}
theorem aaL:Hy out nx K (fun i k=>out i!=out k):=⟨fun i k _ _ h hl=>by
 have:=hl [] (fun x hx=>by simp at hx)
 simp only [jQ] at this
 rw [this] at h
 simp at h,fun i k _ _ h=>by simpa using h⟩
theorem ae0 (h:Hy out nx K t) {i k a:Nat} (hc:∀ i a,i<K→a<8→nx i a<K) (hi:i<K) (hk:k<K) (ha:a<8) (ht:t (nx i a) (nx k a)=true):Hy out nx K (nN t i k):=by
 refine ⟨fun i' k' hi' hk' h1 hl=>?_,fun i' k' hi' hk' h1=>?_⟩
 ·unfold nN at h1
  by_cases c:i'=i∧k'=k
  ·obtain ⟨rfl,rfl⟩:=c
   exact h.sound _ _ (hc _ a hi ha) (hc _ a hk ha) ht (xz hl ha)
  ·rw [if_neg c] at h1
   exact h.sound i' k' hi' hk' h1 hl
 ·unfold nN
  split
  ·rfl
  ·exact h.base i' k' hi' hk' h1
theorem adt (h:Hy out nx K t) (hc:∀ i a,i<K→a<8→nx i a<K) (hcl:∀ i k a,i<K→k<K→ClT nx t i k a) {i k:Nat} (hi:i<K) (hk:k<K):t i k=true↔¬ ik out nx out nx i k:=by
 refine ⟨h.sound i k hi hk,fun hn=>?_⟩
 cases e:t i k with
 | true=>rfl
 | false=>
  exfalso
  have key:∀ (w:List Nat) (i k:Nat),i<K→k<K→t i k=false→mM w→out (jQ nx i w)=out (jQ nx k w):=by
   intro w
   induction w with
   | nil=>
    intro i k hi hk e _
    apply Classical.byContradiction
    intro hne
    rw [h.base i k hi hk hne] at e
    cases e
   | cons a w ih=>
    intro i k hi hk e hw
    have ha:=hw a (List.mem_cons_self ..)
    refine ih (nx i a) (nx k a) (hc i a hi ha) (hc k a hk ha) ?_ (fun x hx=>hw x (List.mem_cons_of_mem _ hx))
    cases e2:t (nx i a) (nx k a) with
    | false=>rfl
    | true=>
     rw [hcl i k a hi hk ha e2] at e
     cases e
  exact hn (fun w hw=>key w i k hi hk e hw)
end
/-! ### How many are told apart -/
def cnt1 (f:Nat→Bool):Nat→Nat
 | 0=>0
 | n+1=>cnt1 f n+(if f n=true then 1 else 0)
def cnt2 (t:Nat→Nat→Bool) (K:Nat):Nat→Nat
 | 0=>0
 | n+1=>cnt2 t K n+cnt1 (t n) K
theorem Re (f:Nat→Bool):∀ n,cnt1 f n≤n
 | 0=>Nat.le_refl _
 | n+1=>by rw [cnt1];have:=Re f n;split <;> omega
theorem IW (t:Nat→Nat→Bool) (K:Nat):∀ n,cnt2 t K n≤n*K
 | 0=>by simp [cnt2]
 | n+1=>by rw [cnt2,Nat.succ_mul];have:=IW t K n;have:=Re (t n) K;omega
theorem ve {f g:Nat→Bool}:∀ n,(∀ i,i<n→f i=g i)→cnt1 f n=cnt1 g n
 | 0,_=>rfl
 | n+1,h=>by rw [cnt1,cnt1,ve n (fun i hi=>h i (by omega)),h n (by omega)]
theorem Oj {f g:Nat→Bool} {k:Nat} (hf:f k=false) (hg:g k=true) (he:∀ j,j≠k→g j=f j):∀ n,k<n→cnt1 g n=cnt1 f n+1
 | 0,h=>by omega
 | n+1,h=>by
  by_cases e:k=n
  ·subst e
   rw [cnt1,cnt1,ve k (fun i hi=>he i (by omega)),if_pos hg,if_neg (by simp [hf])]
  ·rw [cnt1,cnt1,Oj hf hg he n (by omega),he n (fun h=>e h.symm)];omega
theorem Gn {t u:Nat→Nat→Bool} {K:Nat}:∀ n,(∀ i,i<n→∀ k,k<K→t i k=u i k)→cnt2 t K n=cnt2 u K n
 | 0,_=>rfl
 | n+1,h=>by rw [cnt2,cnt2,Gn n (fun i hi=>h i (by omega)),ve K (h n (by omega))]
theorem Oi {t:Nat→Nat→Bool} {i k K:Nat} (ht:t i k=false) (hk:k<K):∀ n,i<n→cnt2 (nN t i k) K n=cnt2 t K n+1
 | 0,h=>by omega
 | n+1,h=>by
  by_cases e:i=n
  ·subst e
   rw [cnt2,cnt2,Gn i (fun a ha b _=>by unfold nN;rw [if_neg (by omega)]),Oj (f:=t i) (g:=nN t i k i) ht (by simp [nN]) (fun j hj=>by simp [nN,hj]) K hk]
   omega
  ·rw [cnt2,cnt2,Oi ht hk n (by omega),ve (f:=nN t i k n) (g:=t n) K (fun b _=>by unfold nN;rw [if_neg (by omega)])]
   omega
def Sb (w:World) (g:Nat):Nat→Nat
 | 0=>0
 | n+1=>Sb w g n+(match w.cell? ⟨g,n,none⟩ with | some (.bool true)=>1 | _=>0)
def Sa (w:World) (tb:Nat→Nat) (K:Nat):Nat→Nat
 | 0=>0
 | n+1=>Sa w tb K n+Sb w (tb n) K
theorem QA {w:World} {g:Nat} {f:Nat→Bool}:∀ n,(∀ k,k<n→w.cell? ⟨g,k,none⟩=some (.bool (f k)))→Sb w g n=cnt1 f n
 | 0,_=>rfl
 | n+1,h=>by
  rw [Sb,cnt1,QA n (fun k hk=>h k (by omega)),h n (by omega)]
  cases f n <;> simp
theorem H9 {w:World} {B n K:Nat} {v:Value} {tb:Nat→Nat} {t:Nat→Nat→Bool} (h:qO w B v n K tb t):∀ m,m≤n→Sa w tb K m=cnt2 t K m
 | 0,_=>rfl
 | m+1,hm=>by
  rw [Sa,cnt2,H9 h m (by omega),QA (f:=t m) K (fun k hk=>by
   rw [(h.row m (by omega)).cellAt k (by omega)]
   exact jv _ _ _ hk)]
def afd (t:Nat→Nat→Bool) (l:List Nat) (i:Nat) (e:Ending):Prop:=
 (∃ j m,e=.returned (.int .i64 (j:Nat))∧l[j]?=some m∧t i m=false)∨(e=.returned (.int .i64 (-1))∧∀ m∈l,t i m=true)
theorem ZO (B K i:Nat) (v vl:Value) (tb:Nat→Nat) (t:Nat→Nat→Bool) (l:List Nat) (w:World) (h:qO w B v K K tb t) (hi:i<K) (hK:K≤796594185) (hl:NR w vl l) (hll:l.length≤796594185) (hlt:∀ m∈l,m<K) :
  Calls Tryz.prog 39 #[v,vl,.int .i64 (i:Nat)] w fun e w'=>afd t l i e∧∃ m,w'=w.drewN m:=by
 obtain ⟨g,cap,rfl,hcap,hg,_,hrow,hcell⟩:=h.at_ (by omega)
 obtain ⟨aol,capl,rfl,hcl,hlr⟩:=hl
 have HR:=hid hrow
 have HC:=hid hcell
 have HLR:=hid hlr
 have wV:=hid hlt
 clear hrow hcell hlr hlt h
 generalize hnE:l.length=n at *
 have fu:=hid hnE
 clear hnE
 go_enter Tryz.func39,Tryz.ntmps39
 go_wp2_with fail
 go_loopw [7] (fun x wq=>∃ k:Nat,k≤n∧x=.int .i64 k∧Hid (∀ j m,j<k→l[j]?=some m→t i m=true)∧Hid (∃ m,wq=w.drewN m)) (fun x _=>n - (intOf x).toNat)
 case atStart=>exact ⟨0,Nat.zero_le _,rfl,hid (fun j m h=>by omega),hid ⟨0,rfl⟩⟩
 case round=>
  obtain ⟨k,hk,rfl,HA,HM⟩:=hrel
  rename World=>W0
  have HB:Hid (Below w.heap.size w W0):=hid (by
   obtain ⟨m,rfl⟩:=HM.out
   exact below_drewN (Below.refl _ _) m)
  have HQ:Hid (∀ n,∃ m,W0.drewN n=w.drewN m):=hid (fun n=>by
   obtain ⟨m,rfl⟩:=HM.out
   exact ⟨m+n,by rw [World.drewN_drewN]⟩)
  by_cases hlk:k<n
  ·obtain ⟨gl,e,hgl,hlc⟩:=HLR.out (by omega)
   subst e
   obtain ⟨m,hm⟩:∃ m,l[k]?=some m:=⟨l[k]'(by rw [fu.out];exact hlk),List.getElem?_eq_getElem (by rw [fu.out];exact hlk)⟩
   have hmK:=wV.out m (List.mem_of_getElem? hm)
   have hat:bG l k=m:=by simp [bG,List.getD,hm]
   have c1:W0.cell? ⟨gl,k,none⟩=some (.int .i64 (m:Nat)):=(HB.out.cell (p:=⟨gl,k,none⟩) hgl).trans (by have h9:=hlc k hlk;rw [hat] at h9;exact h9)
   have c2:=(HB.out.cell (p:=⟨g,i,none⟩) hg).trans (HR.out i hi)
   obtain ⟨d1,_,d3⟩:=HC.out i m hi hmK
   have c3:=(HB.out.cell (p:=⟨tb i,m,none⟩) d3).trans d1
   have HMM:=hid hm
   clear hlc hm hat d1
   cases hv:t i m with
   | true=>
    rw [hv] at c3
    have HA2:Hid (∀ j m,j<k+1→l[j]?=some m→t i m=true):=hid (fun j m' hj hm'=>by
     by_cases c:j=k
     ·subst c;rw [HMM.out] at hm';cases hm';exact hv
     ·exact HA.out j m' (by omega) hm')
    clear hv
    go_wp2_with fail
    go_quiet (fail)
    go_wp2_with fail
    go_roundw
    case rel=>exact ⟨k+1,by omega,by go_num,HA2,hid (HQ.out _)⟩
    case measure=>simp [intOf];omega
   | false=>
    rw [hv] at c3
    have HV:=hid hv
    clear hv
    go_wp2_with fail
    go_quiet (fail)
    go_wp2_with fail
    go_ret
    exact ⟨Or.inl ⟨k,m,rfl,HMM.out,HV.out⟩,HQ.out _⟩
  ·obtain rfl:k=n:=by omega
   go_wp2_with fail
   go_ret
   exact ⟨Or.inr ⟨rfl,fun m hm=>by
    obtain ⟨j,hj,e⟩:=List.getElem_of_mem hm
    exact HA.out j m (by rw [←fu.out];exact hj) (by rw [List.getElem?_eq_getElem hj,e])⟩,HM.out⟩
theorem YO {w w1:World} {B n K:Nat} {v v':Value} {tb:Nat→Nat} {t:Nat→Nat→Bool} {g:Nat} (h:qO w B v n K tb t) (hx:w.ownsRow B 4 1 (.slice (some ⟨g,0,none⟩) K K) K (aj (t n) K K)) (hne:∀ i,i<n→tb i≠g) (hg:w.grownBy w1 v.ownBlock)
  (hown:w1.ownsRow B 132 1 v' (n+1) (((List.range n).map fun i=>.slice (some ⟨tb i,0,none⟩) K K)++[.slice (some ⟨g,0,none⟩) K K])):qO w1 B v' (n+1) K (fun i=>if i=n then g else tb i) t:=by
 refine ⟨?_,fun i hi=>?_,fun i j hij hj=>?_⟩
 ·rw [List.range_succ,List.map_append]
  rw [show (List.range n).map (fun i=>Value.slice (some ⟨if i=n then g else tb i,0,none⟩) K K)=(List.range n).map (fun i=>Value.slice (some ⟨tb i,0,none⟩) K K) from List.map_congr_left (fun i hi=>by rw [List.mem_range] at hi;rw [if_neg (by omega)])]
  simpa using hown
 ·by_cases e:i=n
  ·subst e;simp only [if_true];exact hx.kept hg (aD hx h.out (by decide))
  ·simp only [if_neg e];exact (h.row i (by omega)).kept hg (aD (h.row i (by omega)) h.out (by decide))
 ·by_cases e:j=n
  ·subst e
   simp only [if_true,if_neg (show i≠j by omega)]
   exact hne i hij
  ·simp only [if_neg e,if_neg (show i≠n by omega)]
   exact h.sep i j hij (by omega)
structure zi (nx:Nat→Nat→Nat) (K:Nat) (t0 t:Nat→Nat→Bool) (mv:Bool) (a b c:Nat):Prop where
 no:mv=false→t=t0∧∀ a' b' c',b'<K→(a'<a∨(a'=a∧b'<b)∨(a'=a∧b'=b∧c'<c))→ClT nx t0 a' b' c'
 yes:mv=true→cnt2 t0 K K<cnt2 t K K
theorem XR (nx:Nat→Nat→Nat) (K:Nat) (t0:Nat→Nat→Bool):zi nx K t0 t0 false 0 0 0:=⟨fun _=>⟨rfl,fun a' b' c' _ h=>by omega⟩,fun h=>by cases h⟩
theorem Uu {nx:Nat→Nat→Nat} {K:Nat} {t0 t:Nat→Nat→Bool} {mv:Bool} {a b c:Nat} (h:zi nx K t0 t mv a b c) (hn:t (nx a c) (nx b c)=false):zi nx K t0 t mv a b (c+1):=
 ⟨fun e=>⟨(h.no e).1,fun a' b' c' hb hl=>by
  by_cases q:a'=a∧b'=b∧c'=c
  ·obtain ⟨rfl,rfl,rfl⟩:=q
   rw [(h.no e).1] at hn
   intro _ ht
   rw [hn] at ht
   cases ht
  ·exact (h.no e).2 a' b' c' hb (by omega)⟩,h.yes⟩
theorem OC {nx:Nat→Nat→Nat} {K:Nat} {t0 t:Nat→Nat→Bool} {mv:Bool} {a b c:Nat} (h:zi nx K t0 t mv a b c) (hx:c=8∨t a b=true):zi nx K t0 t mv a (b+1) 0:=
 ⟨fun e=>⟨(h.no e).1,fun a' b' c' hb hl=>by
  by_cases q:a'=a∧b'=b
  ·obtain ⟨rfl,rfl⟩:=q
   rcases hx with hx | hx
   ·intro hc ht
    exact (h.no e).2 a' b' c' hb (by omega) hc ht
   ·rw [(h.no e).1] at hx
    exact fun _ _=>hx
  ·exact (h.no e).2 a' b' c' hb (by omega)⟩,h.yes⟩
theorem adr {nx:Nat→Nat→Nat} {K:Nat} {t0 t:Nat→Nat→Bool} {mv:Bool} {a:Nat} (h:zi nx K t0 t mv a K 0):zi nx K t0 t mv (a+1) 0 0:=
 ⟨fun e=>⟨(h.no e).1,fun a' b' c' hb hl=>(h.no e).2 a' b' c' hb (by omega)⟩,h.yes⟩
theorem adq {nx:Nat→Nat→Nat} {K:Nat} {t0 t:Nat→Nat→Bool} {mv:Bool} {a b c:Nat} (h:zi nx K t0 t mv a b c) (ha:a<K) (hb:b<K) (ht:t a b=false):zi nx K t0 (nN t a b) true a b (c+1):=
 ⟨fun e=>(by cases e),fun _=>by
  rw [Oi ht hb K ha]
  cases mv with
  | true=>have:=h.yes rfl;omega
  | false=>rw [(h.no rfl).1];omega⟩
theorem ads {nx:Nat→Nat→Nat} {K:Nat} {t0 t:Nat→Nat→Bool} {mv:Bool} (h:zi nx K t0 t mv K 0 0) (e:mv=false):∀ a b c,a<K→b<K→ClT nx t a b c:=fun a b c ha hb=>by
 rw [(h.no e).1]
 exact (h.no e).2 a b c hb (Or.inl ha)
def adE (K:Nat) (out:Nat→Nat) (nx:Nat→Nat→Nat) (w:World) (e:Ending) (w':World):Prop:=
 ∃ v tb t,e=.returned v∧qO w' w.heap.size v K K tb t∧(∀ i k,i<K→k<K→(t i k=true↔¬ ik out nx out nx i k))∧Below w.heap.size w w'
theorem XT (P K:Nat) (out:Nat→Nat) (xs:List Nat) (w:World) (hf:xR w P K out (jY xs)) (qG:0<K) (hK:K≤796594185) (hc:∀ i a,i<K→a<8→aL xs i a<K) :
  Calls Tryz.prog 38 #[.pointer (some ⟨P,0,none⟩)] w (adE K out (aL xs) w):=by
 obtain ⟨aoF,capF,f0⟩:=hf.c0
 obtain ⟨vO,f1,aoO,capO,rfl,hocap,horow⟩:=hf.c1
 obtain ⟨vX,f2,aoX,capX,rfl,hxcap,hxrow⟩:=hf.c2
 have hP:=hf.lt
 have hol:((List.range K).map out).length=K:=by simp
 rw [hol] at f1 hocap horow
 obtain ⟨gO,rfl,hgO,hoc⟩:=horow qG
 obtain ⟨gX,rfl,hgX,hxc⟩:=hxrow qG
 have qP:Hid (∀ x,x<K→w.cell? ⟨gO,x,none⟩=some (.int .i64 (out x:Nat))):=hid (fun x hx=>by
  have h9:=hoc x hx
  rw [show bG ((List.range K).map out) x=out x by simp [bG,List.getD,hx]] at h9
  exact h9)
 have HXC:Hid (∀ x,x<K→∃ gR capR,w.cell? ⟨gX,x,none⟩=some (.slice (some ⟨gR,0,none⟩) 8 capR)∧gR<w.heap.size∧∀ a,a<8→w.cell? ⟨gR,a,none⟩=some (.int .i64 (aL xs x a:Nat))):=hid (fun x hx=>by
  obtain ⟨r,hr,aoR,capR,rfl,hcR,hrr⟩:=hxc x hx
  rw [sO] at hr hcR hrr
  obtain ⟨gR,rfl,hgR,hv⟩:=hrr (by omega)
  exact ⟨gR,capR,hr,hgR,fun a ha=>by have h9:=hv a ha;rw [MO xs ha] at h9;exact h9⟩)
 have oG:=hid hc
 obtain ⟨i0,hi,hz0,hz1,hz2⟩:=info_parts Tryz.dw
 obtain ⟨i1,hi1,hz01,hz11,hz21⟩:=info_parts Tryz.xB
 clear hf horow hxrow hoc hxc hc
 generalize aL xs=nx at *
 go_enter Tryz.func38,Tryz.ntmps38
 go_wp2_with fail
 go_loopw [4,5] (fun v x wq=>∃ (i:Nat) (tb:Nat→Nat),i≤K∧x=.int .i64 i∧Hid (qO wq w.heap.size v i K tb (fun i k=>out i!=out k))∧Hid (Below w.heap.size w wq)) (fun _ x _=>K - (intOf x).toNat)
 case atStart=>exact ⟨0,fun _=>0,Nat.zero_le _,rfl,hid ⟨World.ownsRow_nil _ _ _ _,fun i h=>by omega,fun i j _ h=>by omega⟩,hid (Below.refl _ _)⟩
 case round=>
  obtain ⟨i,tb,hik,rfl,HT,HB⟩:=hrel
  rename World=>W0
  by_cases hli:i<K
  ·have Cu:=hid (fun j (hj:j<i)=>((HT.out.row j hj).lt _ rfl).2)
   have iP:=HB.out.size
   go_wp2_with (at_make;go_must (refine wpList_make_full _ rfl (.tmp 22) (.tmp 22) 132 rfl W0.heap.size 4 i0 (.bool false) 1 Tryz.underlying132 hi hz0 hz1 .i64 .i64 K K K rfl rfl rfl rfl (by rw [hz2];omega) (by unfold maxLen;omega) (Nat.le_refl _) ?_))
   intro w1 ay grow1
   have eo:(madeCells #[Value.bool false] K).toList=List.replicate K (.bool false):=toList_madeCells_one _ _
   rw [eo,←bJ (fun k=>out i!=out k)] at ay
   have nL:Below W0.heap.size W0 w1:=(Below.refl _ _).grown grow1 (Nat.le_refl _) (fun k h=>by cases h)
   have T1:=hid (HT.out.keeps nL)
   have O1:=hid ay
   have B1:=hid nL
   have HB1:=hid (HB.out.trans (nL.mono iP))
   clear ay grow1 eo nL
   go_wp2_with fail
   go_loopw [7] (fun x wq=>∃ k:Nat,k≤K∧x=.int .i64 k∧Hid (wq.ownsRow W0.heap.size 4 1 (.slice (some ⟨W0.heap.size,0,none⟩) K K) K (aj (fun k=>out i!=out k) K k))∧Hid (Below W0.heap.size W0 wq)) (fun x _=>K - (intOf x).toNat)
   case atStart=>exact ⟨0,Nat.zero_le _,rfl,O1,B1⟩
   case round=>
    obtain ⟨k,hk,rfl,HO,HBI⟩:=hrel
    rename World=>W1
    clear T1 O1 B1 HB1
    by_cases hlk:k<K
    ·have BW:=hid (HB.out.trans (HBI.out.mono iP))
     have p1:=(BW.out.cell (p:=⟨P,1,none⟩) hP).trans f1
     have oi:=(BW.out.cell (p:=⟨gO,i,none⟩) hgO).trans (qP.out i hli)
     have okk:=(BW.out.cell (p:=⟨gO,k,none⟩) hgO).trans (qP.out k hlk)
     have own:=HO.out
     have q0:=own.frozenAt k
     have q1:(W1.cell? ⟨W0.heap.size,k,none⟩).isSome=true:=by
      rw [own.cellAt k (by omega)]
      simp [aj,hlk]
     obtain ⟨qv,q2⟩:=Option.isSome_iff_exists.1 q1
     have hO:=own.stored k (.bool (out i!=out k))
     rw [dX (fun k=>out i!=out k)] at hO
     have lg:=hid hO.1
     have HB2:=hid (HBI.out.setCell (p:=⟨W0.heap.size,k,none⟩) (Nat.le_refl _) (.bool (out i!=out k)))
     have hbe:((out i:Int)!=(out k:Int))=(out i!=out k):=by
      rw [Bool.eq_iff_iff,bne_iff_ne,bne_iff_ne]
      omega
     clear hO q1 own HO
     generalize (out i!=out k)=bv at *
     have KS:∀ (x o:Nat) {v:Value},x<w.heap.size→W1.cell? ⟨x,o,none⟩=some v→(W1.setCell ⟨W0.heap.size,k,none⟩ (.bool bv)).drew.cell? ⟨x,o,none⟩=some v:=fun x o v hx hv=>by
      show (W1.setCell ⟨W0.heap.size,k,none⟩ (.bool bv)).cell? ⟨x,o,none⟩=some v
      rw [World.cell?_setCell_other _ _ _ _ (fun e=>by have:=congrArg Addr.block e;simp at this;omega)]
      exact hv
     have z1:(0:Int)≤(k:Int):=Int.natCast_nonneg _
     have z2:(k:Int)<(K:Int):=by omega
     have z3:(0:Int)≤(i:Int):=Int.natCast_nonneg _
     have z4:(i:Int)<(K:Int):=by omega
     go_wp2_with fail
     go_region_held3 (fun w'=>w'.cell? ⟨P,1,none⟩=some (.slice (some ⟨gO,0,none⟩) K capO)∧w'.cell? ⟨gO,i,none⟩=some (.int .i64 (out i:Nat))∧w'.cell? ⟨gO,k,none⟩=some (.int .i64 (out k:Nat)))
      (first
       | go_keep
       | exact ⟨KS _ _ hP p1,KS _ _ hgO oi,KS _ _ hgO okk⟩)
      (fail)
     go_wp2_with fail
     go_roundw
     case rel=>exact ⟨k+1,by omega,by go_num,hid (ae lg.out (below_drewN (Below.refl _ _) 1)),hid (below_drewN HB2.out 1)⟩
     case measure=>simp [intOf];omega
    ·obtain rfl:k=K:=by omega
     have TW:=hid (HT.out.keeps HBI.out)
     have OR:=hid (aY HO.out iP)
     have BW:=hid (HB.out.trans (HBI.out.mono iP))
     have hs1:=HBI.out.size
     obtain ⟨aoT,cpT,rfl⟩:=ag TW.out.out
     have jD:=hid (fun q h=>(TW.out.out.lt q h).1)
     have b6:=(Below.refl W1.heap.size W1).alloc (Nat.le_refl _) (.cells #[.slice (some ⟨W0.heap.size,0,none⟩) k k] 132)
     go_wp2_with (at_builtin;go_must (refine wpList_append_lies _ rfl (.tmp 47) (.tmp 49) 77 rfl w.heap.size 132 i1 (.slice none 0 0) 1 24 Tryz.underlying77 hi1 hz01 hz11 hz21 rfl (by decide) _ i _ rfl (TW.out.out.alloc _) ⟨W1.heap.size,0,none⟩ 1 1 [.slice (some ⟨W0.heap.size,0,none⟩) k k] rfl rfl (bE W1 [.slice (some ⟨W0.heap.size,0,none⟩) k k] _) (by intro y hy;simp at hy;rcases hy with rfl;rfl) (by decide) (by unfold maxLen;omega) (by omega) (by simp;omega) (W1.heap.size+1) (by simp) ?_))
     intro gg cc w7 hown hgrow hat hlt7
     have D1:=hid (YO (TW.out.keeps b6) (ae OR.out b6) (fun j hj=>by have:=Cu.out j hj;omega) hgrow hown)
     have D2:=hid ((BW.out.alloc BW.out.size (.cells #[.slice (some ⟨W0.heap.size,0,none⟩) k k] 132)).grown hgrow (by have:=BW.out.size;simp;omega) (fun q h=>jD.out q h))
     clear hown hgrow hat b6 TW OR BW
     go_wp2_with fail
     go_roundw
     case rel=>exact ⟨i+1,_,by omega,by go_num,D1,D2⟩
     case measure=>simp [intOf];omega
  ·obtain rfl:i=K:=by omega
   have AP0:Hid (Hy out nx i (fun i k=>out i!=out k)):=hid aaL
   generalize hTE:(fun i k=>out i!=out k)=t0 at *
   clear hTE
   obtain ⟨aoT,cpT,rfl⟩:=ag HT.out.out
   go_wp2_with fail
   go_loopw [8] (fun m wq=>∃ (mv:Bool) (t:Nat→Nat→Bool),m=.bool mv∧Hid (qO wq w.heap.size (.slice aoT i cpT) i i tb t)∧Hid (Hy out nx i t)∧Hid (mv=false→∀ a b c,a<i→b<i→ClT nx t a b c)∧Hid (Below w.heap.size w wq)) (fun m wq=>2*(i*i - Sa wq tb i i)+q9 m)
   case atStart=>exact ⟨true,t0,rfl,HT,AP0,hid (fun h=>by cases h),HB⟩
   case round=>
    obtain ⟨mv,t,rfl,HT,HA,HCM,HB⟩:=hrel
    rename World=>W0
    cases mv with
    | false=>
     have FIN:=hid (fun a b (ha:a<i) (hb:b<i)=>adt HA.out oG.out (HCM.out rfl) ha hb)
     go_wp2_with fail
     go_ret
     exact ⟨_,tb,t,rfl,HT.out,FIN.out,HB.out⟩
    | true=>
     have KU:=hid (H9 HT.out i (Nat.le_refl _))
     obtain ⟨g,cap9,e9,hcap9,hg9,hB9,_,_⟩:=HT.out.at_ qG
     cases e9
     go_wp2_with fail
     go_loopw [8,9] (fun m x wq=>∃ (a:Nat) (mv:Bool) (t':Nat→Nat→Bool),a≤i∧x=.int .i64 a∧m=.bool mv∧Hid (qO wq w.heap.size (.slice (some ⟨g,0,none⟩) i cpT) i i tb t')∧Hid (Hy out nx i t')∧Hid (zi nx i t t' mv a 0 0)∧Hid (Below w.heap.size w wq)) (fun _ x _=>i - (intOf x).toNat)
     case atStart=>exact ⟨0,false,t,Nat.zero_le _,rfl,rfl,HT,HA,hid (XR nx i t),HB⟩
     case round=>
      obtain ⟨a,mv,t',ha,rfl,rfl,HT,HA,HR,HB⟩:=hrel
      rename World=>W1
      by_cases hla:a<i
      ·go_wp2_with fail
       go_loopw [8,10] (fun m x wq=>∃ (b:Nat) (mv:Bool) (t':Nat→Nat→Bool),b≤i∧x=.int .i64 b∧m=.bool mv∧Hid (qO wq w.heap.size (.slice (some ⟨g,0,none⟩) i cpT) i i tb t')∧Hid (Hy out nx i t')∧Hid (zi nx i t t' mv a b 0)∧Hid (Below w.heap.size w wq)) (fun _ x _=>i - (intOf x).toNat)
       case atStart=>exact ⟨0,mv,t',Nat.zero_le _,rfl,rfl,HT,HA,HR,HB⟩
       case round=>
        obtain ⟨b,mv,t',hb,rfl,rfl,HT,HA,HR,HB⟩:=hrel
        rename World=>W2
        by_cases hlb:b<i
        ·go_wp2_with fail
         go_loopw [8,11] (fun m x wq=>∃ (c:Nat) (mv:Bool) (t':Nat→Nat→Bool),c≤8∧x=.int .i64 c∧m=.bool mv∧Hid (qO wq w.heap.size (.slice (some ⟨g,0,none⟩) i cpT) i i tb t')∧Hid (Hy out nx i t')∧Hid (zi nx i t t' mv a b c)∧Hid (Below w.heap.size w wq)) (fun _ x _=>8 - (intOf x).toNat)
         case atStart=>exact ⟨0,mv,t',by omega,rfl,rfl,HT,HA,HR,HB⟩
         case round=>
          obtain ⟨c,mv,t',hc,rfl,rfl,HT,HA,HR,HB⟩:=hrel
          rename World=>W3
          obtain ⟨g2,cap2,e2,hcap2,hg2,hB2,hrow,hcell⟩:=HT.out.at_ qG
          cases e2
          have r1:=hrow a hla
          obtain ⟨k1,k2,k3⟩:=hcell a b hla hlb
          by_cases hlc:c<8
          ·cases hv:t' a b with
           | true=>
            rw [hv] at k1
            have HR2:=hid (OC HR.out (Or.inr hv))
            clear hv hrow hcell
            go_wp2_with fail
            go_roundw
            case rel=>exact ⟨b+1,mv,t',by omega,by go_num,rfl,HT,HA,HR2,HB⟩
            case measure=>simp [intOf];omega
           | false=>
            obtain ⟨gR1,cR1,x1,hgR1,x2⟩:=HXC.out a hla
            obtain ⟨gR2,cR2,y1,hgR2,y2⟩:=HXC.out b hlb
            have f2':=(HB.out.cell (p:=⟨P,2,none⟩) hP).trans f2
            have Bb:=(HB.out.cell (p:=⟨gX,a,none⟩) hgX).trans x1
            have De:=(HB.out.cell (p:=⟨gR1,c,none⟩) hgR1).trans (x2 c hlc)
            have y1':=(HB.out.cell (p:=⟨gX,b,none⟩) hgX).trans y1
            have y2':=(HB.out.cell (p:=⟨gR2,c,none⟩) hgR2).trans (y2 c hlc)
            have hxK:=oG.out a c hla hlc
            have hyK:=oG.out b c hlb hlc
            have r2:=hrow (nx a c) hxK
            have m1:=(hcell (nx a c) (nx b c) hxK hyK).1
            have Rw:=hid (fun h=>Uu HR.out (c:=c) h)
            have Rv:=hid (adq HR.out hla hlb hv)
            have HAS:=hid (fun h=>ae0 HA.out oG.out hla hlb hlc h)
            have G9:=hid (HT.out.set hla hlb)
            rw [hv] at k1
            clear x1 x2 y1 y2 hrow hcell hv
            generalize nx a c=x at *
            generalize nx b c=y at *
            have kk1:∀ m,(W3.drewN m).cell? ⟨tb a,b,none⟩=some (.bool false):=fun m=>k1
            have kk2:∀ m,(W3.drewN m).frozen? ⟨tb a,b,none⟩=false:=fun m=>k2
            have kr1:∀ m,(W3.drewN m).cell? ⟨g,a,none⟩=some (.slice (some ⟨tb a,0,none⟩) i i):=fun m=>r1
            cases hm:t' x y with
            | false=>
             rw [hm] at m1
             have HR2:=hid (Rw.out hm)
             clear hm Rv HAS G9
             go_wp2_with fail
             go_quiet (fail)
             go_wp2_with fail
             go_roundw
             case rel=>
              have bq:=below_drewN (Below.refl W3.heap.size W3) nq
              exact ⟨c+1,mv,t',by omega,by go_num,rfl,hid (HT.out.keeps bq),HA,HR2,hid (below_drewN HB.out nq)⟩
             case measure=>simp [intOf];omega
            | true=>
             rw [hm] at m1
             have HA2:=hid (HAS.out hm)
             clear hm Rw HAS
             go_wp2_with fail
             go_quiet (fail)
             have j1:=kk1 nq
             have j2:=kk2 nq
             have j3:=kr1 nq
             go_wp2_with fail
             go_roundw
             case rel=>
              have bq:=below_drewN (Below.refl W3.heap.size W3) nq
              exact ⟨c+1,true,nN t' a b,by omega,by go_num,rfl,hid ((HT.out.keeps bq).set hla hlb),HA2,Rv,hid ((below_drewN HB.out nq).setCell (p:=⟨tb a,b,none⟩) ((HT.out.row a hla).lt _ rfl).1 _)⟩
             case measure=>simp [intOf];omega
          ·obtain rfl:c=8:=by omega
           have HR2:=hid (OC HR.out (Or.inl rfl))
           clear hrow hcell
           go_wp2_with fail
           go_roundw
           case rel=>exact ⟨b+1,mv,t',by omega,by go_num,rfl,HT,HA,HR2,HB⟩
           case measure=>simp [intOf];omega
        ·obtain rfl:b=i:=by omega
         have HR2:=hid (adr HR.out)
         go_wp2_with fail
         go_roundw
         case rel=>exact ⟨a+1,mv,t',by omega,by go_num,rfl,HT,HA,HR2,HB⟩
         case measure=>simp [intOf];omega
      ·obtain rfl:a=i:=by omega
       have ajU:=hid (ads HR.out)
       have HTE:=hid (H9 HT.out a (Nat.le_refl _))
       have h1:=IW t' a a
       have h2:=IW t a a
       have HNY:=hid HR.out
       go_wp2_with fail
       go_roundw
       case rel=>exact ⟨mv,t',rfl,HT,HA,ajU,HB⟩
       case measure=>
        rw [HTE.out,KU.out]
        cases mv with
        | false=>
         rw [(HNY.out.no rfl).1]
         simp [q9]
        | true=>
         have:=HNY.out.yes rfl
         simp only [q9]
         omega
def iv (f:Nat→Int):List Value:=(List.range 8).map fun j=>.int .i64 (f j)
theorem aet (f:Nat→Int) {j:Nat} (hj:j<8):(iv f)[j]?=some (.int .i64 (f j)):=by simp [iv,hj]
theorem xm (d:Nat) (g h:Nat→Int) (w:World):∀ is:List Nat,(∀ i∈is,i<8)→(Op.eqItems (d+1) 3 1 (iv g).toArray (iv h).toArray is).run Tryz.prog w=.ok (is.all fun j=>g j==h j) w
 | [],_=>by simp [Op.eqItems]
 | i::is,hi=>by
  have h0:=hi i (by simp)
  have ih:=xm d g h w is (fun j hj=>hi j (by simp [hj]))
  have p:∀ f:Nat→Int,(part 3 (iv f).toArray (i*1)).run Tryz.prog w=.ok (.int .i64 (f i)) w:=fun f=>by
   have:=aet f h0
   simp [part,Tryz.isAgg3,this]
  simp only [Op.eqItems,Sem.run_bind,p,Result.andThen_ok,run_equalIn_int w d 3 _ _ _ _ Tryz.underlying3]
  cases e:(g i==h i)
  ·simp [e]
  ·simp [e,ih]
theorem acz (d:Nat) (g h:Nat→Int) (w:World):(Op.equalIn (d+1+1) 117 (.agg (iv g).toArray) (.agg (iv h).toArray)).run Tryz.prog w=.ok ((List.range 8).all fun j=>g j==h j) w:=by
 obtain ⟨i,hi,_⟩:=info_parts Tryz.kG
 rw [run_equalIn_array w (d+1) _ _ Tryz.underlying117 hi]
 have:Tryz.prog.cellsOf 3=1:=by kernel_rfl
 rw [this]
 exact xm d g h w _ (fun j hj=>by simpa using hj)
theorem Zi (b0 b1 b2 b3 b4 b5 b6 b7 a0 a1 a2 a3 a4 a5 a6 a7:Int) (w:World):(Op.equalIn 9999 117 (.agg #[.int .i64 b0,.int .i64 b1,.int .i64 b2,.int .i64 b3,.int .i64 b4,.int .i64 b5,.int .i64 b6,.int .i64 b7]) (.agg #[.int .i64 a0,.int .i64 a1,.int .i64 a2,.int .i64 a3,.int .i64 a4,.int .i64 a5,.int .i64 a6,.int .i64 a7])).run Tryz.prog w=.ok (decide ([b0,b1,b2,b3,b4,b5,b6,b7]=[a0,a1,a2,a3,a4,a5,a6,a7])) w:=by
 have h:=acz 9997 (fun j=>[b0,b1,b2,b3,b4,b5,b6,b7].getD j 0) (fun j=>[a0,a1,a2,a3,a4,a5,a6,a7].getD j 0) w
 have e:((List.range 8).all fun j=>[b0,b1,b2,b3,b4,b5,b6,b7].getD j 0==[a0,a1,a2,a3,a4,a5,a6,a7].getD j 0)=decide ([b0,b1,b2,b3,b4,b5,b6,b7]=[a0,a1,a2,a3,a4,a5,a6,a7]):=by
  rw [Bool.eq_iff_iff]
  simp [List.range,List.range.loop]
 rw [e] at h
 exact h
theorem aap (S B:Nat) (vK vH:Value) (ss:List St) (o a0 a1 a2 a3 a4 a5 a6 a7:Int) (w:World) (hT:Two w S vK vH) (ho:w.ownsRow B 119 9 vH ss.length (dY ss)) (h8:iM ss) (hn:ss.length≤8589934592) :
  Calls Tryz.prog 143 #[.pointer (some ⟨S,0,none⟩),.agg #[.int .i64 o,.int .i64 a0,.int .i64 a1,.int .i64 a2,.int .i64 a3,.int .i64 a4,.int .i64 a5,.int .i64 a6,.int .i64 a7]] w fun e w'=>∃ j:Nat,e=.returned (.int .i64 (j:Nat))∧(ss[j]?=some ⟨o,[a0,a1,a2,a3,a4,a5,a6,a7]⟩∨(j=ss.length∧∀ s∈ss,s≠⟨o,[a0,a1,a2,a3,a4,a5,a6,a7]⟩))∧Below w.heap.size w w':=by
 have hS:=hT.lt
 have c1:=hT.c1
 have HT:=hid hT
 have HO:=hid ho
 have H8:=hid h8
 obtain ⟨aoH,cpH,rfl⟩:=ag ho
 clear hT ho h8
 generalize hnE:ss.length=n at *
 have fu:=hid hnE
 clear hnE
 go_enter Tryz.func143,Tryz.ntmps143
 go_wp2_with fail
 have ba:=hid ((Below.refl w.heap.size w).alloc (Nat.le_refl _) (.cells #[.int .i64 o,.int .i64 a0,.int .i64 a1,.int .i64 a2,.int .i64 a3,.int .i64 a4,.int .i64 a5,.int .i64 a6,.int .i64 a7] 119))
 have NA:=hid (bE w [.int .i64 o,.int .i64 a0,.int .i64 a1,.int .i64 a2,.int .i64 a3,.int .i64 a4,.int .i64 a5,.int .i64 a6,.int .i64 a7] 119)
 go_loopw [12] (fun i wq=>∃ k:Nat,k≤n∧i=.int .i64 k∧Hid (∀ i s,i<k→ss[i]?=some s→s≠⟨o,[a0,a1,a2,a3,a4,a5,a6,a7]⟩)∧Hid (Below (w.heap.size+1) (w.alloc (.cells #[.int .i64 o,.int .i64 a0,.int .i64 a1,.int .i64 a2,.int .i64 a3,.int .i64 a4,.int .i64 a5,.int .i64 a6,.int .i64 a7] 119)) wq)) (fun i _=>n - (intOf i).toNat)
 case atStart=>exact ⟨0,Nat.zero_le _,rfl,hid (fun i s h=>by omega),hid (Below.refl _ _)⟩
 case round=>
  obtain ⟨k,hk,rfl,HA,HB⟩:=hrel
  rename World=>W0
  have HB0:=hid (ba.out.trans (HB.out.mono (by omega)))
  have hsz:w.heap.size<W0.heap.size:=by have:=HB.out.size;simp at this;omega
  by_cases hlk:k<n
  ·have hown:=HO.out
   obtain ⟨gH,rfl,hgH,hgHs,hcH⟩:=dH hown (by omega)
   obtain ⟨⟨p,nx⟩,hs⟩:∃ s,ss[k]?=some s:=⟨ss[k]'(by rw [fu.out];exact hlk),List.getElem?_eq_getElem (by rw [fu.out];exact hlk)⟩
   have hl8:=H8.out _ (List.mem_of_getElem? hs)
   obtain ⟨b0,b1,b2,b3,b4,b5,b6,b7,rfl⟩:=ym hl8
   have hat:aM ss k=⟨p,[b0,b1,b2,b3,b4,b5,b6,b7]⟩:=by simp [aM,List.getD,hs]
   have cl:∀ j u,j<9→(fH ⟨p,[b0,b1,b2,b3,b4,b5,b6,b7]⟩)[j]?=some u→W0.cell? ⟨gH,k*9+j,none⟩=some u:=fun j u hj hu=>by
    rw [HB0.out.cell (p:=⟨gH,k*9+j,none⟩) hgHs,hown.cellAt (k*9+j) (by omega),uj H8.out (by rw [fu.out];exact hlk) hj,hat,hu]
   have y0:W0.cell? ⟨gH,k*9,none⟩=some (.int .i64 p):=cl 0 _ (by omega) rfl
   have y1:=cl 1 _ (by omega) rfl
   have y2:=cl 2 _ (by omega) rfl
   have y3:=cl 3 _ (by omega) rfl
   have y4:=cl 4 _ (by omega) rfl
   have y5:=cl 5 _ (by omega) rfl
   have y6:=cl 6 _ (by omega) rfl
   have y7:=cl 7 _ (by omega) rfl
   have y8:=cl 8 _ (by omega) rfl
   have al:∀ j u,[Value.int .i64 o,.int .i64 a0,.int .i64 a1,.int .i64 a2,.int .i64 a3,.int .i64 a4,.int .i64 a5,.int .i64 a6,.int .i64 a7][j]?=some u→W0.cell? ⟨w.heap.size,j,none⟩=some u:=fun j u hu=>by
    rw [HB.out.cell (p:=⟨w.heap.size,j,none⟩) (by show w.heap.size<w.heap.size+1;omega)]
    have:=NA.out j u hu
    rwa [Addr.add_mid,Nat.zero_add] at this
   have x0:=al 0 _ rfl
   have x1:=al 1 _ rfl
   have x2:=al 2 _ rfl
   have x3:=al 3 _ rfl
   have x4:=al 4 _ rfl
   have x5:=al 5 _ rfl
   have x6:=al 6 _ rfl
   have x7:=al 7 _ rfl
   have x8:=al 8 _ rfl
   have ni:=hid hs
   clear cl al hs hat hown
   have EQ:=fun W=>Zi b0 b1 b2 b3 b4 b5 b6 b7 a0 a1 a2 a3 a4 a5 a6 a7 W
   by_cases hp:p=o
   ·by_cases hq:[b0,b1,b2,b3,b4,b5,b6,b7]=[a0,a1,a2,a3,a4,a5,a6,a7]
    ·have HR:Hid (ss[k]?=some ⟨o,[a0,a1,a2,a3,a4,a5,a6,a7]⟩):=hid (by rw [ni.out,hp,hq])
     rw [decide_eq_true hq] at EQ
     rw [hp] at y0
     clear hq hp
     go_wp2_with fail
     go_ret
     exact ⟨k,rfl,Or.inl HR.out,HB0.out.alloc (by omega) _⟩
    ·have HN:Hid (∀ i s,i<k+1→ss[i]?=some s→s≠⟨o,[a0,a1,a2,a3,a4,a5,a6,a7]⟩):=hid (fun i s hi hs=>by
      by_cases c:i=k
      ·subst c
       rw [ni.out] at hs
       cases hs
       intro e
       injection e with e1 e2
       exact hq e2
      ·exact HA.out i s (by omega) hs)
     rw [decide_eq_false hq] at EQ
     rw [hp] at y0
     clear hq
     subst hp
     go_wp2_with fail
     go_roundw
     case rel=>exact ⟨k+1,by omega,by go_num,HN,hid (HB.out.alloc (by have:=HB.out.size;simp at this;omega) _)⟩
     case measure=>simp [intOf];omega
   ·have HN:Hid (∀ i s,i<k+1→ss[i]?=some s→s≠⟨o,[a0,a1,a2,a3,a4,a5,a6,a7]⟩):=hid (fun i s hi hs=>by
     by_cases c:i=k
     ·subst c
      rw [ni.out] at hs
      cases hs
      intro e
      injection e with e1 e2
      exact hp e1
     ·exact HA.out i s (by omega) hs)
    go_wp2_with fail
    go_roundw
    case rel=>exact ⟨k+1,by omega,by go_num,HN,hid (HB.out.alloc (by have:=HB.out.size;simp at this;omega) _)⟩
    case measure=>simp [intOf];omega
  ·obtain rfl:k=n:=by omega
   have c2:=(HB0.out.cell (p:=⟨S,1,none⟩) hS).trans c1
   go_wp2_with fail
   go_ret
   exact ⟨k,rfl,Or.inr ⟨rfl,fun s hs=>by
    obtain ⟨i,hi,e⟩:=List.getElem_of_mem hs
    exact HA.out i s (by rw [←fu.out];exact hi) (by rw [List.getElem?_eq_getElem hi,e])⟩,HB0.out⟩
end Go.Proofs.YtjagijohfkffiabGreat
