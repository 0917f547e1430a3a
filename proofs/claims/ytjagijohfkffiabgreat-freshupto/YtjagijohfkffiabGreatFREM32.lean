import Derived.Test.YtjagijohfkffiabGreatFREM31
set_option maxHeartbeats 16000000
set_option maxRecDepth 100000
set_option linter.unusedSimpArgs false
namespace Go.Proofs.YtjagijohfkffiabGreat
open Go.RowKit
set_option linter.unusedVariables false
structure rH (w:World) (B:Nat) (v:Value) (n K:Nat) (tb:Nat->Nat) (t:Nat->Nat->Bool):Prop where
 out:w.ownsRow B 132 1 v n ((List.range n).map λi=>.slice (some ⟨tb i,0,none⟩) K K)
 row:∀ i,i<n->w.ownsRow B 4 1 (.slice (some ⟨tb i,0,none⟩) K K) K (ay (t i) K K)
 sep:∀ i j,i<j->j<n->tb i≠tb j
theorem rH.keeps{w w':World}{B n K:Nat}{v:Value}{tb:Nat->Nat}{t:Nat->Nat->Bool}(h:rH w B v n K tb t)(hb:Below w.heap.size w w'):rH w' B v n K tb t:=⟨ae h.out hb,λi hi=>ae (h.row i hi) hb,h.sep⟩
theorem rH.ne{w:World}{B n K:Nat}{v:Value}{tb:Nat->Nat}{t:Nat->Nat->Bool}(h:rH w B v n K tb t){i j:Nat}(hi:i<n)(hj:j<n)(hne:i≠j):tb i≠tb j:=by
 rcases Nat.lt_or_gt_of_ne hne with c | c
 ·exact h.sep i j c hj
 ·exact λe=>h.sep j i c hi e.symm
theorem rH.at_{w:World}{B n K:Nat}{v:Value}{tb:Nat->Nat}{t:Nat->Nat->Bool}(h:rH w B v n K tb t)(hn:0<n):∃ g cap,v=.slice (some ⟨g,0,none⟩) n cap/\n<=cap/\g<w.heap.size/\B<=g/\(∀ i,i<n->w.cell? ⟨g,i,none⟩=some (.slice (some ⟨tb i,0,none⟩) K K))/\(∀ i k,i<n->k<K->w.cell? ⟨tb i,k,none⟩=some (.bool (t i k))/\w.frozen? ⟨tb i,k,none⟩=false/\tb i<w.heap.size):=by
 obtain⟨g,cap,rfl,hB,hlt,hc⟩:=AV h.out hn;refine⟨g,cap,rfl,hc,hlt,hB,λi hi=>?_,λi k hi hk=>⟨?_,(h.row i hi).frozenAt k,((h.row i hi).lt _ rfl).2⟩⟩
 ·rw[h.out.cellAt i (by omega)];simp[aBk,aBx hi]
 ·rw[(h.row i hi).cellAt k (by omega)];exact jM _ _ _ hk
def oD(t:Nat->Nat->Bool)(i k:Nat):Nat->Nat->Bool:=λa b=>if a=i/\b=k then true else t a b
theorem rH.set{w:World}{B n K:Nat}{v:Value}{tb:Nat->Nat}{t:Nat->Nat->Bool}(h:rH w B v n K tb t){i k:Nat}(hi:i<n)(hk:k<K):rH (w.setCell ⟨tb i,k,none⟩ (.bool true)) B v n K tb (oD t i k):=by
 have hn:0<n:=by omega
 refine⟨bz h.out ⟨tb i,k,none⟩ _ ?_,λj hj=>?_,h.sep⟩
 ·have:=aC h.out (h.row i hi) (by decide);rcases this with h1 | h1
  ·rw[h1];simp
  ·exact h1
 ·by_cases c:j=i
  ·subst c;have h1:=(h.row j hj).stored k (.bool true);rw[zh]at h1;have e:ay (upd (t j) k true) K K=ay (oD t j k j) K K:=qh λq hq=>by
    unfold upd oD;by_cases e2:q=k <;> simp[e2]
   rw[e]at h1;exact h1.1
  ·have e:ay (oD t i k j) K K=ay (t j) K K:=qh λq hq=>by unfold oD;simp[c]
   rw[e];exact bz (h.row j hj) ⟨tb i,k,none⟩ _ (λe2=>h.ne hj hi c (Option.some.inj e2))
section
variable (out:Nat->Nat) (nx:Nat->Nat->Nat) (K:Nat)
structure LG (t:Nat->Nat->Bool):Prop where
 sound:∀ i k,i<K->k<K->t i k=true->¬ iU out nx out nx i k
 base:∀ i k,i<K->k<K->out i≠out k->t i k=true
def ClT(t:Nat->Nat->Bool)(i k a:Nat):Prop:=a<8->t (nx i a) (nx k a)=true->t i k=true
end
section
variable {out:Nat->Nat} {nx:Nat->Nat->Nat} {K:Nat} {t:Nat->Nat->Bool}
theorem ae3:LG out nx K (λi k=>out i !=out k):=⟨λi k _ _ h hl=>by
 have:=hl [] (λx hx=>by simp at hx);simp only[kH]at this;rw[this]at h;simp at h,λi k _ _ h=>by simpa using h⟩
theorem alh(h:LG out nx K t){i k a:Nat}(hc:∀ i a,i<K->a<8->nx i a<K)(hi:i<K)(hk:k<K)(ha:a<8)(ht:t (nx i a) (nx k a)=true):LG out nx K (oD t i k):=by
 refine⟨λi' k' zB Oe h1 hl=>?_,λi' k' zB Oe h1=>?_⟩
 ·unfold oD at h1;by_cases c:i'=i/\k'=k
  ·obtain⟨rfl,rfl⟩:=c;exact h.sound _ _ (hc _ a hi ha) (hc _ a hk ha) ht (zl hl ha)
  ·rw[aBT c]at h1;exact h.sound i' k' zB Oe h1 hl
 ·unfold oD
  split
  ·rfl
  ·exact h.base i' k' zB Oe h1
theorem aiA(h:LG out nx K t)(hc:∀ i a,i<K->a<8->nx i a<K)(hcl:∀ i k a,i<K->k<K->ClT nx t i k a){i k:Nat}(hi:i<K)(hk:k<K):t i k=true↔¬ iU out nx out nx i k:=by
 refine⟨h.sound i k hi hk,λhn=>?_⟩;cases e:t i k with
 | true=>rfl
 | false=>
  exfalso;have key:∀ (w:List Nat) (i k:Nat),i<K->k<K->t i k=false->mZ w->out (kH nx i w)=out (kH nx k w):=by
   intro w
   induction w with
   | nil=>
    intro i k hi hk e _;apply aBp;intro hne;rw[h.base i k hi hk hne]at e;cases e
   | cons a w ih=>
    intro i k hi hk e hw;have ha:=hw a (List.mem_cons_self ..);refine ih (nx i a) (nx k a) (hc i a hi ha) (hc k a hk ha) ?_ (λx hx=>hw x (List.mem_cons_of_mem _ hx));cases e2:t (nx i a) (nx k a) with
    | false=>rfl
    | true=>
     rw[hcl i k a hi hk ha e2]at e;cases e
  exact hn (λw hw=>key w i k hi hk e hw)
end
/-! ### How many are told apart -/
def cnt1(f:Nat->Bool):Nat->Nat
 | 0=>0
 | n+1=>cnt1 f n+(if f n=true then 1 else 0)
def cnt2(t:Nat->Nat->Bool)(K:Nat):Nat->Nat
 | 0=>0
 | n+1=>cnt2 t K n+cnt1 (t n) K
theorem WE(f:Nat->Bool):∀ n,cnt1 f n<=n
 | 0=>aAU _
 | n+1=>by rw[cnt1];have:=WE f n;split <;> omega
theorem ML(t:Nat->Nat->Bool)(K:Nat):∀ n,cnt2 t K n<=n*K
 | 0=>by simp[cnt2]
 | n+1=>by rw[cnt2,Nat.succ_mul];have:=ML t K n;have:=WE (t n) K;omega
theorem xn{f g:Nat->Bool}:∀ n,(∀ i,i<n->f i=g i)->cnt1 f n=cnt1 g n
 | 0,_=>rfl
 | n+1,h=>by rw[cnt1,cnt1,xn n (λi hi=>h i (by omega)),h n (by omega)]
theorem Tq{f g:Nat->Bool}{k:Nat}(hf:f k=false)(hg:g k=true)(he:∀ j,j≠k->g j=f j):∀ n,k<n->cnt1 g n=cnt1 f n+1
 | 0,h=>by omega
 | n+1,h=>by
  by_cases e:k=n
  ·subst e;rw[cnt1,cnt1,xn k (λi hi=>he i (by omega)),aBU hg,aBT (by simp[hf])]
  ·rw[cnt1,cnt1,Tq hf hg he n (by omega),he n (λh=>e h.symm)];omega
theorem KI{t u:Nat->Nat->Bool}{K:Nat}:∀ n,(∀ i,i<n->∀ k,k<K->t i k=u i k)->cnt2 t K n=cnt2 u K n
 | 0,_=>rfl
 | n+1,h=>by rw[cnt2,cnt2,KI n (λi hi=>h i (by omega)),xn K (h n (by omega))]
theorem Tp{t:Nat->Nat->Bool}{i k K:Nat}(ht:t i k=false)(hk:k<K):∀ n,i<n->cnt2 (oD t i k) K n=cnt2 t K n+1
 | 0,h=>by omega
 | n+1,h=>by
  by_cases e:i=n
  ·subst e;rw[cnt2,cnt2,KI i (λa ha b _=>by unfold oD;rw[aBT (by omega)]),Tq (f:=t i) (g:=oD t i k i) ht (by simp[oD]) (λj hj=>by simp[oD,hj]) K hk];omega
  ·rw[cnt2,cnt2,Tp ht hk n (by omega),xn (f:=oD t i k n) (g:=t n) K (λb _=>by unfold oD;rw[aBT (by omega)])];omega
def Xz(w:World)(g:Nat):Nat->Nat
 | 0=>0
 | n+1=>Xz w g n+(match w.cell? ⟨g,n,none⟩ with | some (.bool true)=>1 | _=>0)
def Xy(w:World)(tb:Nat->Nat)(K:Nat):Nat->Nat
 | 0=>0
 | n+1=>Xy w tb K n+Xz w (tb n) K
theorem Vz{w:World}{g:Nat}{f:Nat->Bool}:∀ n,(∀ k,k<n->w.cell? ⟨g,k,none⟩=some (.bool (f k)))->Xz w g n=cnt1 f n
 | 0,_=>rfl
 | n+1,h=>by
  rw[Xz,cnt1,Vz n (λk hk=>h k (by omega)),h n (by omega)];cases f n <;> simp
theorem LK{w:World}{B n K:Nat}{v:Value}{tb:Nat->Nat}{t:Nat->Nat->Bool}(h:rH w B v n K tb t):∀ m,m<=n->Xy w tb K m=cnt2 t K m
 | 0,_=>rfl
 | m+1,hm=>by
  rw[Xy,cnt2,LK h m (by omega),Vz (f:=t m) K (λk hk=>by
   rw[(h.row m (by omega)).cellAt k (by omega)];exact jM _ _ _ hk)]
def aly(t:Nat->Nat->Bool)(l:List Nat)(i:Nat)(e:Ending):Prop:=
 (∃ j m,e=.returned (.int .i64 (j:Nat))/\l[j]?=some m/\t i m=false)\/(e=.returned (.int .i64 (-1))/\∀ m∈l,t i m=true)
theorem adT(B K i:Nat)(v vl:Value)(tb:Nat->Nat)(t:Nat->Nat->Bool)(l:List Nat)(w:World)(h:rH w B v K K tb t)(hi:i<K)(hK:K<=796594185)(hl:NR w vl l)(jW:l.length<=796594185)(hlt:∀ m∈l,m<K) :
  Calls Tryz.prog 39 #[v,vl,.int .i64 (i:Nat)] w λe w'=>aly t l i e/\∃ m,w'=w.drewN m:=by
 obtain⟨g,cap,rfl,hcap,hg,_,hrow,hcell⟩:=h.at_ (by omega);obtain⟨aol,ayo,rfl,hcl,hlr⟩:=hl;have HR:=hid hrow;have HC:=hid hcell;have HLR:=hid hlr;have yK:=hid hlt;clear hrow hcell hlr hlt h;generalize zw:l.length=n at *;have gm:=hid zw;clear zw;go_enter Tryz.func39,Tryz.ntmps39;go_wp2_with fail
 go_loopw [7] (λx wq=>∃ k:Nat,k<=n/\x=.int .i64 k/\Hid (∀ j m,j<k->l[j]?=some m->t i m=true)/\Hid (∃ m,wq=w.drewN m)) (λx _=>n - (intOf x).toNat)
 case atStart=>exact⟨0,aA8 _,rfl,hid (λj m h=>by omega),hid ⟨0,rfl⟩⟩
 case round=>
  obtain⟨k,hk,rfl,HA,HM⟩:=hrel;rename World=>W0;have HB:Hid (Below w.heap.size w W0):=hid (by
   obtain⟨m,rfl⟩:=HM.out;exact aBd (aAW _ _) m)
  have HQ:Hid (∀ n,∃ m,W0.drewN n=w.drewN m):=hid (λn=>by
   obtain⟨m,rfl⟩:=HM.out;exact⟨m+n,by rw[World.drewN_drewN]⟩)
  by_cases hlk:k<n
  ·obtain⟨gl,e,kz,hlc⟩:=HLR.out (by omega);subst e;obtain⟨m,hm⟩:∃ m,l[k]?=some m:=⟨l[k]'(by rw[gm.out];exact hlk),aAV (by rw[gm.out];exact hlk)⟩;have hmK:=yK.out m (aBB hm);have hat:df l k=m:=by simp[df,List.getD,hm]
   have c1:W0.cell? ⟨gl,k,none⟩=some (.int .i64 (m:Nat)):=(HB.out.cell (p:=⟨gl,k,none⟩) kz).trans (by have h9:=hlc k hlk;rw[hat]at h9;exact h9);have c2:=(HB.out.cell (p:=⟨g,i,none⟩) hg).trans (HR.out i hi);obtain⟨d1,_,d3⟩:=HC.out i m hi hmK;have c3:=(HB.out.cell (p:=⟨tb i,m,none⟩) d3).trans d1;have HMM:=hid hm;clear hlc hm hat d1;cases hv:t i m with
   | true=>
    rw[hv]at c3;have tu:Hid (∀ j m,j<k+1->l[j]?=some m->t i m=true):=hid (λj m' hj hm'=>by
     by_cases c:j=k
     ·subst c;rw[HMM.out]at hm';cases hm';exact hv
     ·exact HA.out j m' (by omega) hm')
    clear hv;go_wp2_with fail
    go_quiet (fail)
    go_wp2_with fail;go_roundw
    case rel=>exact⟨k+1,by omega,by go_num,tu,hid (HQ.out _)⟩
    case measure=>simp[intOf];omega
   | false=>
    rw[hv]at c3;have HV:=hid hv;clear hv;go_wp2_with fail
    go_quiet (fail)
    go_wp2_with fail;go_ret;exact⟨aA2 ⟨k,m,rfl,HMM.out,HV.out⟩,HQ.out _⟩
  ·obtain rfl:k=n:=by omega
   go_wp2_with fail;go_ret;exact⟨aA3 ⟨rfl,λm hm=>by
    obtain⟨j,hj,e⟩:=aBC hm;exact HA.out j m (by rw[<-gm.out];exact hj) (by rw[aAV hj,e])⟩,HM.out⟩
theorem acW{w w1:World}{B n K:Nat}{v v':Value}{tb:Nat->Nat}{t:Nat->Nat->Bool}{g:Nat}(h:rH w B v n K tb t)(hx:w.ownsRow B 4 1 (.slice (some ⟨g,0,none⟩) K K) K (ay (t n) K K))(hne:∀ i,i<n->tb i≠g)(hg:w.grownBy w1 v.ownBlock)
  (hown:w1.ownsRow B 132 1 v' (n+1) (((List.range n).map λi=>.slice (some ⟨tb i,0,none⟩) K K)++[.slice (some ⟨g,0,none⟩) K K])):rH w1 B v' (n+1) K (λi=>if i=n then g else tb i) t:=by
 refine⟨?_,λi hi=>?_,λi j hij hj=>?_⟩
 ·rw[aBL,aBE];rw[show (List.range n).map (λi=>Value.slice (some ⟨if i=n then g else tb i,0,none⟩) K K)=(List.range n).map (λi=>Value.slice (some ⟨tb i,0,none⟩) K K) from aBP (λi hi=>by rw[aBI]at hi;rw[aBT (by omega)])];simpa using hown
 ·by_cases e:i=n
  ·subst e;simp only[if_true];exact hx.kept hg (aC hx h.out (by decide))
  ·simp only[aBT e];exact(h.row i (by omega)).kept hg (aC (h.row i (by omega)) h.out (by decide))
 ·by_cases e:j=n
  ·subst e;simp only[if_true,aBT (show i≠j by omega)];exact hne i hij
  ·simp only[aBT e,aBT (show i≠n by omega)];exact h.sep i j hij (by omega)
structure Ce (nx:Nat->Nat->Nat) (K:Nat) (t0 t:Nat->Nat->Bool) (mv:Bool) (a b c:Nat):Prop where
 no:mv=false->t=t0/\∀ a' b' c',b'<K->(a'<a\/(a'=a/\b'<b)\/(a'=a/\b'=b/\c'<c))->ClT nx t0 a' b' c'
 yes:mv=true->cnt2 t0 K K<cnt2 t K K
theorem abX(nx:Nat->Nat->Nat)(K:Nat)(t0:Nat->Nat->Bool):Ce nx K t0 t0 false 0 0 0:=⟨λ_=>⟨rfl,λa' b' c' _ h=>by omega⟩,λh=>by cases h⟩
theorem YU{nx:Nat->Nat->Nat}{K:Nat}{t0 t:Nat->Nat->Bool}{mv:Bool}{a b c:Nat}(h:Ce nx K t0 t mv a b c)(hn:t (nx a c) (nx b c)=false):Ce nx K t0 t mv a b (c+1):=
 ⟨λe=>⟨(h.no e).1,λa' b' c' hb hl=>by
  by_cases q:a'=a/\b'=b/\c'=c
  ·obtain⟨rfl,rfl,rfl⟩:=q;rw[(h.no e).1]at hn;intro _ ht;rw[hn]at ht;cases ht
  ·exact(h.no e).2 a' b' c' hb (by omega)⟩,h.yes⟩
theorem TQ{nx:Nat->Nat->Nat}{K:Nat}{t0 t:Nat->Nat->Bool}{mv:Bool}{a b c:Nat}(h:Ce nx K t0 t mv a b c)(hx:c=8\/t a b=true):Ce nx K t0 t mv a (b+1) 0:=
 ⟨λe=>⟨(h.no e).1,λa' b' c' hb hl=>by
  by_cases q:a'=a/\b'=b
  ·obtain⟨rfl,rfl⟩:=q;rcases hx with hx | hx
   ·intro hc ht;exact(h.no e).2 a' b' c' hb (by omega) hc ht
   ·rw[(h.no e).1]at hx;exact λ_ _=>hx
  ·exact(h.no e).2 a' b' c' hb (by omega)⟩,h.yes⟩
theorem aiy{nx:Nat->Nat->Nat}{K:Nat}{t0 t:Nat->Nat->Bool}{mv:Bool}{a:Nat}(h:Ce nx K t0 t mv a K 0):Ce nx K t0 t mv (a+1) 0 0:=
 ⟨λe=>⟨(h.no e).1,λa' b' c' hb hl=>(h.no e).2 a' b' c' hb (by omega)⟩,h.yes⟩
theorem aix{nx:Nat->Nat->Nat}{K:Nat}{t0 t:Nat->Nat->Bool}{mv:Bool}{a b c:Nat}(h:Ce nx K t0 t mv a b c)(ha:a<K)(hb:b<K)(ht:t a b=false):Ce nx K t0 (oD t a b) true a b (c+1):=
 ⟨λe=>(by cases e),λ_=>by
  rw[Tp ht hb K ha];cases mv with
  | true=>have:=h.yes rfl;omega
  | false=>rw[(h.no rfl).1];omega⟩
theorem aiz{nx:Nat->Nat->Nat}{K:Nat}{t0 t:Nat->Nat->Bool}{mv:Bool}(h:Ce nx K t0 t mv K 0 0)(e:mv=false):∀ a b c,a<K->b<K->ClT nx t a b c:=λa b c ha hb=>by
 rw[(h.no e).1];exact(h.no e).2 a b c hb (aA2 ha)
def aiK(K:Nat)(out:Nat->Nat)(nx:Nat->Nat->Nat)(w:World)(e:Ending)(w':World):Prop:=
 ∃ v tb t,e=.returned v/\rH w' w.heap.size v K K tb t/\(∀ i k,i<K->k<K->(t i k=true↔¬ iU out nx out nx i k))/\Below w.heap.size w w'
theorem abY(P K:Nat)(out:Nat->Nat)(xs:List Nat)(w:World)(hf:Hf w P K out (ll xs))(Bo:0<K)(hK:K<=796594185)(hc:∀ i a,i<K->a<8->dZ xs i a<K) :
  Calls Tryz.prog 38 #[.pointer (some ⟨P,0,none⟩)] w (aiK K out (dZ xs) w):=by
 obtain⟨aoF,ayq,f0⟩:=hf.c0;obtain⟨vO,f1,tX,wC,rfl,Yr,CP⟩:=hf.c1;obtain⟨vX,f2,aoX,asu,rfl,anm,Kj⟩:=hf.c2;have hP:=hf.lt;have hol:((List.range K).map out).length=K:=by simp
 rw[hol]at f1 Yr CP;obtain⟨gO,rfl,Kq,hoc⟩:=CP Bo;obtain⟨gX,rfl,hgX,hxc⟩:=Kj Bo;have BP:Hid (∀ x,x<K->w.cell? ⟨gO,x,none⟩=some (.int .i64 (out x:Nat))):=hid (λx hx=>by
  have h9:=hoc x hx;rw[show df ((List.range K).map out) x=out x by simp[df,List.getD,hx]]at h9;exact h9)
 have HXC:Hid (∀ x,x<K->∃ gR FY,w.cell? ⟨gX,x,none⟩=some (.slice (some ⟨gR,0,none⟩) 8 FY)/\gR<w.heap.size/\∀ a,a<8->w.cell? ⟨gR,a,none⟩=some (.int .i64 (dZ xs x a:Nat))):=hid (λx hx=>by
  obtain⟨r,hr,aoR,FY,rfl,hcR,rz⟩:=hxc x hx;rw[xB]at hr hcR rz;obtain⟨gR,rfl,We,hv⟩:=rz (by omega);exact⟨gR,FY,hr,We,λa ha=>by have h9:=hv a ha;rw[Z6 xs ha]at h9;exact h9⟩)
 have yM:=hid hc;obtain⟨i0,hi,aR,aP,aN⟩:=info_parts Tryz.eD;obtain⟨i1,iC,fe,eZ,eY⟩:=info_parts Tryz.EP;clear hf CP Kj hoc hxc hc;generalize dZ xs=nx at *;go_enter Tryz.func38,Tryz.ntmps38;go_wp2_with fail
 go_loopw [4,5] (λv x wq=>∃ (i:Nat) (tb:Nat->Nat),i<=K/\x=.int .i64 i/\Hid (rH wq w.heap.size v i K tb (λi k=>out i !=out k))/\Hid (Below w.heap.size w wq)) (λ_ x _=>K - (intOf x).toNat)
 case atStart=>exact⟨0,λ_=>0,aA8 _,rfl,hid ⟨aBh _ _ _ _,λi h=>by omega,λi j _ h=>by omega⟩,hid (aAW _ _)⟩
 case round=>
  obtain⟨i,tb,hik,rfl,HT,HB⟩:=hrel;rename World=>W0;by_cases zy:i<K
  ·have Gr:=hid (λj (hj:j<i)=>((HT.out.row j hj).lt _ rfl).2);have ma:=HB.out.size;go_wp2_with (at_make;go_must (refine aBA _ rfl (.tmp 22) (.tmp 22) 132 rfl W0.heap.size 4 i0 (.bool false) 1 Tryz.underlying132 hi aR aP .i64 .i64 K K K rfl rfl rfl rfl (by rw[aN];omega) (by unfold maxLen;omega) (aAU _) ?_));intro w1 aF aZ;have eo:(madeCells #[Value.bool false] K).toList=List.replicate K (.bool false):=aBq _ _;rw[eo,<-dh (λk=>out i !=out k)]at aF;have vR:Below W0.heap.size W0 w1:=(aAW _ _).grown aZ (aAU _) (λk h=>by cases h);have T1:=hid (HT.out.keeps vR);have O1:=hid aF;have B1:=hid vR;have aK:=hid (HB.out.trans (vR.mono ma));clear aF aZ eo vR;go_wp2_with fail
   go_loopw [7] (λx wq=>∃ k:Nat,k<=K/\x=.int .i64 k/\Hid (wq.ownsRow W0.heap.size 4 1 (.slice (some ⟨W0.heap.size,0,none⟩) K K) K (ay (λk=>out i !=out k) K k))/\Hid (Below W0.heap.size W0 wq)) (λx _=>K - (intOf x).toNat)
   case atStart=>exact⟨0,aA8 _,rfl,O1,B1⟩
   case round=>
    obtain⟨k,hk,rfl,HO,Ac⟩:=hrel;rename World=>W1;clear T1 O1 B1 aK;by_cases hlk:k<K
    ·have BW:=hid (HB.out.trans (Ac.out.mono ma));have p1:=(BW.out.cell (p:=⟨P,1,none⟩) hP).trans f1;have oi:=(BW.out.cell (p:=⟨gO,i,none⟩) Kq).trans (BP.out i zy);have okk:=(BW.out.cell (p:=⟨gO,k,none⟩) Kq).trans (BP.out k hlk);have own:=HO.out;have q0:=own.frozenAt k;have q1:(W1.cell? ⟨W0.heap.size,k,none⟩).isSome=true:=by
      rw[own.cellAt k (by omega)];simp[ay,hlk]
     obtain⟨qv,q2⟩:=aBD.1 q1;have hO:=own.stored k (.bool (out i !=out k));rw[fB (λk=>out i !=out k)]at hO;have jy:=hid hO.1;have aW:=hid (Ac.out.setCell (p:=⟨W0.heap.size,k,none⟩) (aAU _) (.bool (out i !=out k)));have hbe:((out i:Int) !=(out k:Int))=(out i !=out k):=by
      rw[Bool.eq_iff_iff,bne_iff_ne,bne_iff_ne];omega
     clear hO q1 own HO;generalize (out i !=out k)=bv at *;have KS:∀ (x o:Nat) {v:Value},x<w.heap.size->W1.cell? ⟨x,o,none⟩=some v->(W1.setCell ⟨W0.heap.size,k,none⟩ (.bool bv)).drew.cell? ⟨x,o,none⟩=some v:=λx o v hx hv=>by
      show (W1.setCell ⟨W0.heap.size,k,none⟩ (.bool bv)).cell? ⟨x,o,none⟩=some v;rw[aA0 _ _ _ _ (λe=>by have:=congrArg Addr.block e;simp at this;omega)];exact hv
     have z1:(0:Int)<=(k:Int):=Int.natCast_nonneg _;have z2:(k:Int)<(K:Int):=by omega
     have z3:(0:Int)<=(i:Int):=Int.natCast_nonneg _;have z4:(i:Int)<(K:Int):=by omega
     go_wp2_with fail
     go_region_held3 (λw'=>w'.cell? ⟨P,1,none⟩=some (.slice (some ⟨gO,0,none⟩) K wC)/\w'.cell? ⟨gO,i,none⟩=some (.int .i64 (out i:Nat))/\w'.cell? ⟨gO,k,none⟩=some (.int .i64 (out k:Nat)))
      (first
       | go_keep
       | exact⟨KS _ _ hP p1,KS _ _ Kq oi,KS _ _ Kq okk⟩)
      (fail)
     go_wp2_with fail;go_roundw
     case rel=>exact⟨k+1,by omega,by go_num,hid (ae jy.out (aBd (aAW _ _) 1)),hid (aBd aW.out 1)⟩
     case measure=>simp[intOf];omega
    ·obtain rfl:k=K:=by omega
     have TW:=hid (HT.out.keeps Ac.out);have OR:=hid (bJ HO.out ma);have BW:=hid (HB.out.trans (Ac.out.mono ma));have hs1:=Ac.out.size;obtain⟨aoT,Tm,rfl⟩:=ai TW.out.out;have kS:=hid (λq h=>(TW.out.out.lt q h).1);have b6:=(aAW W1.heap.size W1).alloc (aAU _) (.cells #[.slice (some ⟨W0.heap.size,0,none⟩) k k] 132);go_wp2_with (at_builtin;go_must (refine aBw _ rfl (.tmp 47) (.tmp 49) 77 rfl w.heap.size 132 i1 (.slice none 0 0) 1 24 Tryz.underlying77 iC fe eZ eY rfl (by decide) _ i _ rfl (TW.out.out.alloc _) ⟨W1.heap.size,0,none⟩ 1 1 [.slice (some ⟨W0.heap.size,0,none⟩) k k] rfl rfl (dx W1 [.slice (some ⟨W0.heap.size,0,none⟩) k k] _) (by intro y hy;simp at hy;rcases hy with rfl;rfl) (by decide) (by unfold maxLen;omega) (by omega) (by simp;omega) (W1.heap.size+1) (by simp) ?_));intro gg cc w7 hown hgrow hat uD;have D1:=hid (acW (TW.out.keeps b6) (ae OR.out b6) (λj hj=>by have:=Gr.out j hj;omega) hgrow hown);have D2:=hid ((BW.out.alloc BW.out.size (.cells #[.slice (some ⟨W0.heap.size,0,none⟩) k k] 132)).grown hgrow (by have:=BW.out.size;simp;omega) (λq h=>kS.out q h));clear hown hgrow hat b6 TW OR BW;go_wp2_with fail;go_roundw
     case rel=>exact⟨i+1,_,by omega,by go_num,D1,D2⟩
     case measure=>simp[intOf];omega
  ·obtain rfl:i=K:=by omega
   have AP0:Hid (LG out nx i (λi k=>out i !=out k)):=hid ae3;generalize hTE:(λi k=>out i !=out k)=t0 at *;clear hTE;obtain⟨aoT,Tm,rfl⟩:=ai HT.out.out;go_wp2_with fail
   go_loopw [8] (λm wq=>∃ (mv:Bool) (t:Nat->Nat->Bool),m=.bool mv/\Hid (rH wq w.heap.size (.slice aoT i Tm) i i tb t)/\Hid (LG out nx i t)/\Hid (mv=false->∀ a b c,a<i->b<i->ClT nx t a b c)/\Hid (Below w.heap.size w wq)) (λm wq=>2*(i*i - Xy wq tb i i)+rZ m)
   case atStart=>exact⟨true,t0,rfl,HT,AP0,hid (λh=>by cases h),HB⟩
   case round=>
    obtain⟨mv,t,rfl,HT,HA,UD,HB⟩:=hrel;rename World=>W0;cases mv with
    | false=>
     have Gx:=hid (λa b (ha:a<i) (hb:b<i)=>aiA HA.out yM.out (UD.out rfl) ha hb);go_wp2_with fail;go_ret;exact⟨_,tb,t,rfl,HT.out,Gx.out,HB.out⟩
    | true=>
     have PI:=hid (LK HT.out i (aAU _));obtain⟨g,ayr,e9,axK,hg9,hB9,_,_⟩:=HT.out.at_ Bo;cases e9;go_wp2_with fail
     go_loopw [8,9] (λm x wq=>∃ (a:Nat) (mv:Bool) (t':Nat->Nat->Bool),a<=i/\x=.int .i64 a/\m=.bool mv/\Hid (rH wq w.heap.size (.slice (some ⟨g,0,none⟩) i Tm) i i tb t')/\Hid (LG out nx i t')/\Hid (Ce nx i t t' mv a 0 0)/\Hid (Below w.heap.size w wq)) (λ_ x _=>i - (intOf x).toNat)
     case atStart=>exact⟨0,false,t,aA8 _,rfl,rfl,HT,HA,hid (abX nx i t),HB⟩
     case round=>
      obtain⟨a,mv,t',ha,rfl,rfl,HT,HA,HR,HB⟩:=hrel;rename World=>W1;by_cases sH:a<i
      ·go_wp2_with fail
       go_loopw [8,10] (λm x wq=>∃ (b:Nat) (mv:Bool) (t':Nat->Nat->Bool),b<=i/\x=.int .i64 b/\m=.bool mv/\Hid (rH wq w.heap.size (.slice (some ⟨g,0,none⟩) i Tm) i i tb t')/\Hid (LG out nx i t')/\Hid (Ce nx i t t' mv a b 0)/\Hid (Below w.heap.size w wq)) (λ_ x _=>i - (intOf x).toNat)
       case atStart=>exact⟨0,mv,t',aA8 _,rfl,rfl,HT,HA,HR,HB⟩
       case round=>
        obtain⟨b,mv,t',hb,rfl,rfl,HT,HA,HR,HB⟩:=hrel;rename World=>W2;by_cases RI:b<i
        ·go_wp2_with fail
         go_loopw [8,11] (λm x wq=>∃ (c:Nat) (mv:Bool) (t':Nat->Nat->Bool),c<=8/\x=.int .i64 c/\m=.bool mv/\Hid (rH wq w.heap.size (.slice (some ⟨g,0,none⟩) i Tm) i i tb t')/\Hid (LG out nx i t')/\Hid (Ce nx i t t' mv a b c)/\Hid (Below w.heap.size w wq)) (λ_ x _=>8 - (intOf x).toNat)
         case atStart=>exact⟨0,mv,t',by omega,rfl,rfl,HT,HA,HR,HB⟩
         case round=>
          obtain⟨c,mv,t',hc,rfl,rfl,HT,HA,HR,HB⟩:=hrel;rename World=>W3;obtain⟨g2,p9,e2,anp,oV,hB2,hrow,hcell⟩:=HT.out.at_ Bo;cases e2;have r1:=hrow a sH;obtain⟨k1,k2,k3⟩:=hcell a b sH RI;by_cases hlc:c<8
          ·cases hv:t' a b with
           | true=>
            rw[hv]at k1;have jR:=hid (TQ HR.out (aA3 hv));clear hv hrow hcell;go_wp2_with fail;go_roundw
            case rel=>exact⟨b+1,mv,t',by omega,by go_num,rfl,HT,HA,jR,HB⟩
            case measure=>simp[intOf];omega
           | false=>
            obtain⟨gR1,cR1,x1,ar9,x2⟩:=HXC.out a sH;obtain⟨gR2,cR2,y1,ar8,y2⟩:=HXC.out b RI;have f2':=(HB.out.cell (p:=⟨P,2,none⟩) hP).trans f2;have El:=(HB.out.cell (p:=⟨gX,a,none⟩) hgX).trans x1;have Qp:=(HB.out.cell (p:=⟨gR1,c,none⟩) ar9).trans (x2 c hlc);have y1':=(HB.out.cell (p:=⟨gX,b,none⟩) hgX).trans y1;have y2':=(HB.out.cell (p:=⟨gR2,c,none⟩) ar8).trans (y2 c hlc);have hxK:=yM.out a c sH hlc;have hyK:=yM.out b c RI hlc;have r2:=hrow (nx a c) hxK;have m1:=(hcell (nx a c) (nx b c) hxK hyK).1;have WU:=hid (λh=>YU HR.out (c:=c) h);have WT:=hid (aix HR.out sH RI hv);have PP:=hid (λh=>alh HA.out yM.out sH RI hlc h);have Li:=hid (HT.out.set sH RI);rw[hv]at k1;clear x1 x2 y1 y2 hrow hcell hv;generalize nx a c=x at *;generalize nx b c=y at *;have kk1:∀ m,(W3.drewN m).cell? ⟨tb a,b,none⟩=some (.bool false):=λm=>k1;have kk2:∀ m,(W3.drewN m).frozen? ⟨tb a,b,none⟩=false:=λm=>k2;have kr1:∀ m,(W3.drewN m).cell? ⟨g,a,none⟩=some (.slice (some ⟨tb a,0,none⟩) i i):=λm=>r1;cases hm:t' x y with
            | false=>
             rw[hm]at m1;have jR:=hid (WU.out hm);clear hm WT PP Li;go_wp2_with fail
             go_quiet (fail)
             go_wp2_with fail;go_roundw
             case rel=>
              have bq:=aBd (aAW W3.heap.size W3) nq;exact⟨c+1,mv,t',by omega,by go_num,rfl,hid (HT.out.keeps bq),HA,jR,hid (aBd HB.out nq)⟩
             case measure=>simp[intOf];omega
            | true=>
             rw[hm]at m1;have tu:=hid (PP.out hm);clear hm WU PP;go_wp2_with fail
             go_quiet (fail)
             have j1:=kk1 nq;have j2:=kk2 nq;have j3:=kr1 nq;go_wp2_with fail;go_roundw
             case rel=>
              have bq:=aBd (aAW W3.heap.size W3) nq;exact⟨c+1,true,oD t' a b,by omega,by go_num,rfl,hid ((HT.out.keeps bq).set sH RI),tu,WT,hid ((aBd HB.out nq).setCell (p:=⟨tb a,b,none⟩) ((HT.out.row a sH).lt _ rfl).1 _)⟩
             case measure=>simp[intOf];omega
          ·obtain rfl:c=8:=by omega
           have jR:=hid (TQ HR.out (aA2 rfl));clear hrow hcell;go_wp2_with fail;go_roundw
           case rel=>exact⟨b+1,mv,t',by omega,by go_num,rfl,HT,HA,jR,HB⟩
           case measure=>simp[intOf];omega
        ·obtain rfl:b=i:=by omega
         have jR:=hid (aiy HR.out);go_wp2_with fail;go_roundw
         case rel=>exact⟨a+1,mv,t',by omega,by go_num,rfl,HT,HA,jR,HB⟩
         case measure=>simp[intOf];omega
      ·obtain rfl:a=i:=by omega
       have ati:=hid (aiz HR.out);have HTE:=hid (LK HT.out a (aAU _));have h1:=ML t' a a;have h2:=ML t a a;have HNY:=hid HR.out;go_wp2_with fail;go_roundw
       case rel=>exact⟨mv,t',rfl,HT,HA,ati,HB⟩
       case measure=>
        rw[HTE.out,PI.out];cases mv with
        | false=>
         rw[(HNY.out.no rfl).1];simp[rZ]
        | true=>
         have:=HNY.out.yes rfl;simp only[rZ];omega
def iv(f:Nat->Int):List Value:=(List.range 8).map λj=>.int .i64 (f j)
theorem ajE(f:Nat->Int){j:Nat}(hj:j<8):(iv f)[j]?=some (.int .i64 (f j)):=by simp[iv,hj]
theorem yY(d:Nat)(g h:Nat->Int)(w:World):∀ is:List Nat,(∀ i∈is,i<8)->(Op.eqItems (d+1) 3 1 (iv g).toArray (iv h).toArray is).run Tryz.prog w=.ok (is.all λj=>g j==h j) w
 | [],_=>by simp[Op.eqItems]
 | i::is,hi=>by
  have h0:=hi i (by simp);have ih:=yY d g h w is (λj hj=>hi j (by simp[hj]));have p:∀ f:Nat->Int,(part 3 (iv f).toArray (i*1)).run Tryz.prog w=.ok (.int .i64 (f i)) w:=λf=>by
   have:=ajE f h0;simp[part,Tryz.isAgg3,this]
  simp only[Op.eqItems,Sem.run_bind,p,Result.andThen_ok,run_equalIn_int w d 3 _ _ _ _ Tryz.underlying3];cases e:(g i==h i)
  ·simp[e]
  ·simp[e,ih]
theorem ahI(d:Nat)(g h:Nat->Int)(w:World):(Op.equalIn (d+1+1) 117 (.agg (iv g).toArray) (.agg (iv h).toArray)).run Tryz.prog w=.ok ((List.range 8).all λj=>g j==h j) w:=by
 obtain⟨i,hi,_⟩:=info_parts Tryz.lW;rw[run_equalIn_array w (d+1) _ _ Tryz.underlying117 hi];have:Tryz.prog.cellsOf 3=1:=by kernel_rfl
 rw[this];exact yY d g h w _ (λj hj=>by simpa using hj)
theorem ado(b0 b1 b2 b3 b4 b5 b6 b7 a0 a1 a2 a3 a4 a5 a6 a7:Int)(w:World):(Op.equalIn 9999 117 (.agg #[.int .i64 b0,.int .i64 b1,.int .i64 b2,.int .i64 b3,.int .i64 b4,.int .i64 b5,.int .i64 b6,.int .i64 b7]) (.agg #[.int .i64 a0,.int .i64 a1,.int .i64 a2,.int .i64 a3,.int .i64 a4,.int .i64 a5,.int .i64 a6,.int .i64 a7])).run Tryz.prog w=.ok (decide ([b0,b1,b2,b3,b4,b5,b6,b7]=[a0,a1,a2,a3,a4,a5,a6,a7])) w:=by
 have h:=ahI 9997 (λj=>[b0,b1,b2,b3,b4,b5,b6,b7].getD j 0) (λj=>[a0,a1,a2,a3,a4,a5,a6,a7].getD j 0) w;have e:((List.range 8).all λj=>[b0,b1,b2,b3,b4,b5,b6,b7].getD j 0==[a0,a1,a2,a3,a4,a5,a6,a7].getD j 0)=decide ([b0,b1,b2,b3,b4,b5,b6,b7]=[a0,a1,a2,a3,a4,a5,a6,a7]):=by
  rw[Bool.eq_iff_iff];simp[List.range,List.range.loop]
 rw[e]at h;exact h
theorem aeH(S B:Nat)(vK vH:Value)(ss:List St)(o a0 a1 a2 a3 a4 a5 a6 a7:Int)(w:World)(hT:Two w S vK vH)(ho:w.ownsRow B 119 9 vH ss.length (ik ss))(h8:lU ss)(hn:ss.length<=8589934592) :
  Calls Tryz.prog 143 #[.pointer (some ⟨S,0,none⟩),.agg #[.int .i64 o,.int .i64 a0,.int .i64 a1,.int .i64 a2,.int .i64 a3,.int .i64 a4,.int .i64 a5,.int .i64 a6,.int .i64 a7]] w λe w'=>∃ j:Nat,e=.returned (.int .i64 (j:Nat))/\(ss[j]?=some ⟨o,[a0,a1,a2,a3,a4,a5,a6,a7]⟩\/(j=ss.length/\∀ s∈ss,s≠⟨o,[a0,a1,a2,a3,a4,a5,a6,a7]⟩))/\Below w.heap.size w w':=by
 have hS:=hT.lt;have c1:=hT.c1;have HT:=hid hT;have HO:=hid ho;have H8:=hid h8;obtain⟨wP,wN,rfl⟩:=ai ho;clear hT ho h8;generalize zw:ss.length=n at *;have gm:=hid zw;clear zw;go_enter Tryz.func143,Tryz.ntmps143;go_wp2_with fail;have ba:=hid ((aAW w.heap.size w).alloc (aAU _) (.cells #[.int .i64 o,.int .i64 a0,.int .i64 a1,.int .i64 a2,.int .i64 a3,.int .i64 a4,.int .i64 a5,.int .i64 a6,.int .i64 a7] 119));have NA:=hid (dx w [.int .i64 o,.int .i64 a0,.int .i64 a1,.int .i64 a2,.int .i64 a3,.int .i64 a4,.int .i64 a5,.int .i64 a6,.int .i64 a7] 119)
 go_loopw [12] (λi wq=>∃ k:Nat,k<=n/\i=.int .i64 k/\Hid (∀ i s,i<k->ss[i]?=some s->s≠⟨o,[a0,a1,a2,a3,a4,a5,a6,a7]⟩)/\Hid (Below (w.heap.size+1) (w.alloc (.cells #[.int .i64 o,.int .i64 a0,.int .i64 a1,.int .i64 a2,.int .i64 a3,.int .i64 a4,.int .i64 a5,.int .i64 a6,.int .i64 a7] 119)) wq)) (λi _=>n - (intOf i).toNat)
 case atStart=>exact⟨0,aA8 _,rfl,hid (λi s h=>by omega),hid (aAW _ _)⟩
 case round=>
  obtain⟨k,hk,rfl,HA,HB⟩:=hrel;rename World=>W0;have iQ:=hid (ba.out.trans (HB.out.mono (by omega)));have hsz:w.heap.size<W0.heap.size:=by have:=HB.out.size;simp at this;omega
  by_cases hlk:k<n
  ·have hown:=HO.out;obtain⟨gH,rfl,hgH,asa,hcH⟩:=dX hown (by omega);obtain⟨⟨p,nx⟩,hs⟩:∃ s,ss[k]?=some s:=⟨ss[k]'(by rw[gm.out];exact hlk),aAV (by rw[gm.out];exact hlk)⟩;have hl8:=H8.out _ (aBB hs);obtain⟨b0,b1,b2,b3,b4,b5,b6,b7,rfl⟩:=Ih hl8;have hat:dF ss k=⟨p,[b0,b1,b2,b3,b4,b5,b6,b7]⟩:=by simp[dF,List.getD,hs]
   have cl:∀ j u,j<9->(jT ⟨p,[b0,b1,b2,b3,b4,b5,b6,b7]⟩)[j]?=some u->W0.cell? ⟨gH,k*9+j,none⟩=some u:=λj u hj hu=>by
    rw[iQ.out.cell (p:=⟨gH,k*9+j,none⟩) asa,hown.cellAt (k*9+j) (by omega),FP H8.out (by rw[gm.out];exact hlk) hj,hat,hu]
   have y0:W0.cell? ⟨gH,k*9,none⟩=some (.int .i64 p):=cl 0 _ (by omega) rfl;have y1:=cl 1 _ (by omega) rfl;have y2:=cl 2 _ (by omega) rfl;have y3:=cl 3 _ (by omega) rfl;have y4:=cl 4 _ (by omega) rfl;have y5:=cl 5 _ (by omega) rfl;have y6:=cl 6 _ (by omega) rfl;have y7:=cl 7 _ (by omega) rfl;have y8:=cl 8 _ (by omega) rfl;have al:∀ j u,[Value.int .i64 o,.int .i64 a0,.int .i64 a1,.int .i64 a2,.int .i64 a3,.int .i64 a4,.int .i64 a5,.int .i64 a6,.int .i64 a7][j]?=some u->W0.cell? ⟨w.heap.size,j,none⟩=some u:=λj u hu=>by
    rw[HB.out.cell (p:=⟨w.heap.size,j,none⟩) (by show w.heap.size<w.heap.size+1;omega)];have:=NA.out j u hu;rwa [Addr.add_mid,aBo]at this
   have x0:=al 0 _ rfl;have x1:=al 1 _ rfl;have x2:=al 2 _ rfl;have x3:=al 3 _ rfl;have x4:=al 4 _ rfl;have x5:=al 5 _ rfl;have x6:=al 6 _ rfl;have x7:=al 7 _ rfl;have x8:=al 8 _ rfl;have pu:=hid hs;clear cl al hs hat hown;have EQ:=λW=>ado b0 b1 b2 b3 b4 b5 b6 b7 a0 a1 a2 a3 a4 a5 a6 a7 W;by_cases hp:p=o
   ·by_cases hq:[b0,b1,b2,b3,b4,b5,b6,b7]=[a0,a1,a2,a3,a4,a5,a6,a7]
    ·have HR:Hid (ss[k]?=some ⟨o,[a0,a1,a2,a3,a4,a5,a6,a7]⟩):=hid (by rw[pu.out,hp,hq]);rw[decide_eq_true hq]at EQ;rw[hp]at y0;clear hq hp;go_wp2_with fail;go_ret;exact⟨k,rfl,aA2 HR.out,iQ.out.alloc (by omega) _⟩
    ·have HN:Hid (∀ i s,i<k+1->ss[i]?=some s->s≠⟨o,[a0,a1,a2,a3,a4,a5,a6,a7]⟩):=hid (λi s hi hs=>by
      by_cases c:i=k
      ·subst c;rw[pu.out]at hs;cases hs;intro e
       injection e with e1 e2
       exact hq e2
      ·exact HA.out i s (by omega) hs)
     rw[decide_eq_false hq]at EQ;rw[hp]at y0;clear hq;subst hp;go_wp2_with fail;go_roundw
     case rel=>exact⟨k+1,by omega,by go_num,HN,hid (HB.out.alloc (by have:=HB.out.size;simp at this;omega) _)⟩
     case measure=>simp[intOf];omega
   ·have HN:Hid (∀ i s,i<k+1->ss[i]?=some s->s≠⟨o,[a0,a1,a2,a3,a4,a5,a6,a7]⟩):=hid (λi s hi hs=>by
     by_cases c:i=k
     ·subst c;rw[pu.out]at hs;cases hs;intro e
      injection e with e1 e2
      exact hp e1
     ·exact HA.out i s (by omega) hs)
    go_wp2_with fail;go_roundw
    case rel=>exact⟨k+1,by omega,by go_num,HN,hid (HB.out.alloc (by have:=HB.out.size;simp at this;omega) _)⟩
    case measure=>simp[intOf];omega
  ·obtain rfl:k=n:=by omega
   have c2:=(iQ.out.cell (p:=⟨S,1,none⟩) hS).trans c1;go_wp2_with fail;go_ret;exact⟨k,rfl,aA3 ⟨rfl,λs hs=>by
    obtain⟨i,hi,e⟩:=aBC hs;exact HA.out i s (by rw[<-gm.out];exact hi) (by rw[aAV hi,e])⟩,iQ.out⟩
