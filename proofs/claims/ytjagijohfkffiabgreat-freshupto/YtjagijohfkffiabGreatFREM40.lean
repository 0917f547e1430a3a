import Derived.Test.YtjagijohfkffiabGreatFREM39
set_option maxHeartbeats 16000000
set_option maxRecDepth 100000
set_option linter.unusedSimpArgs false
namespace Go.Proofs.YtjagijohfkffiabGreat
open Go.RowKit
set_option linter.unusedVariables false
theorem xW(a:Option Addr)(l c n:Nat)(zs:List Int)(w:World)(h:Ints w a l c zs) :
  Calls Tryz.prog 84 #[.slice a l c,.int .i64 (n:Nat)] w λe w'=>e=.returned (.bool (fI n zs))/\w'=w:=by
 have hl:=h.hlen;have hcap:=h.hcap;have hmax:=h.hmax;have HI:=hid h;clear h;go_enter Tryz.func84,Tryz.ntmps84;go_wp2_with fail
 go_loop [5] (λi=>∃ j:Nat,j<=l/\i=.int .i64 j/\Hid (∀ k,k<j->0<=zs.getD k 0/\zs.getD k 0<(n:Int))) (λi=>l - (intOf i).toNat)
 case atStart=>exact⟨0,aA8 _,rfl,hid (λk hk=>by omega)⟩
 case round=>
  obtain⟨j,hj,rfl,HK⟩:=hrel;by_cases hlt:j<l
  ·obtain⟨b,o,e,hb,hc⟩:=HI.out.hcell (by omega);subst e;have ck:=hc j hlt;have HM:Hid (zs.getD j 0∈zs):=hid (by rw[List.getD,aAV (by omega)];exact List.getElem_mem _);have mI:Hid (0<=zs.getD j 0/\zs.getD j 0<(n:Int)->∀ k,k<j+1->0<=zs.getD k 0/\zs.getD k 0<(n:Int)):=hid (λh k hk=>by
    by_cases e:k=j
    ·subst e;exact h
    ·exact HK.out k (by omega))
   have nI:Hid (¬ (0<=zs.getD j 0/\zs.getD j 0<(n:Int))->fI n zs=false):=hid (λh=>by
    cases e:fI n zs with
    | false=>rfl
    | true=>exact absurd (oN.1 e _ HM.out) h)
   clear hc;generalize zs.getD j 0=z at *;have i1:(0:Int)<=(j:Int):=by omega
   have i2:(j:Int)<(l:Int):=by omega
   by_cases g1:z<0
   ·have HE:=hid (nI.out (by omega));go_wp2_with fail;go_ret;exact⟨by rw[HE.out];rfl,rfl⟩
   ·have g1':decide (z<0)=false:=by simp;omega
    by_cases g2:(n:Int)<=z
    ·have HE:=hid (nI.out (by omega));go_wp2_with fail;go_ret;exact⟨by rw[HE.out];rfl,rfl⟩
    ·have g2':decide ((n:Int)<=z)=false:=by simp;omega
     have HS:=hid (mI.out (by omega));go_wp2_with fail
     go_round
     case rel=>exact⟨j+1,by omega,by go_num,HS⟩
     case measure=>simp[intOf] <;> omega
  ·obtain rfl:j=l:=by omega
   have HE:Hid (fI n zs=true):=hid (oN.2 (λz hz=>by
    obtain⟨k,hk,e⟩:=aBC hz;have:=HK.out k (by omega);rw[List.getD,aAV hk]at this;simpa [e] using this))
   go_wp2_with fail;go_ret;exact⟨by rw[HE.out];rfl,rfl⟩
section
variable (a1 a2 a3:Option Addr) (l1 c1 l2 c2 l3 c3:Nat) (zs:List Int) (ag:List (List Int)) (ss:List Int) (w:World)
theorem Ak(h1:Ints w a1 l1 c1 zs)(h2:Lists w a2 l2 c2 ag)(h3:Ints w a3 l3 c3 ss) :
  Calls Tryz.prog 80 #[.agg #[.slice a1 l1 c1,.slice a2 l2 c2,.slice a3 l3 c3]] w λe w'=>e=.returned (.bool (bM zs ag ss))/\Below w.heap.size w w':=by
 have m1:=h1.hcap;have m2:=h1.hmax;have L1:=h1.hlen;have L2:=h2.hlen;have L3:=h3.hlen;have n1:=h2.hcap;have n2:=h2.hmax;have o1:=h3.hcap;have o2:=h3.hmax;have BZ:Hid (bM zs ag ss=(decide (1<=l1)&&decide (l1<=6)&&decide (l2=l1)&&iT zs&&decide (l3≠0)&&fI l1 ss&&jI l1 ag l1)):=hid (by unfold bM;rw[L1,L2,L3]);have ba:=(aAW w.heap.size w).alloc (aAU _) (.cells #[.slice a1 l1 c1,.slice a2 l2 c2,.slice a3 l3 c3] 25);have T0:=dH w (.slice a1 l1 c1) (.slice a2 l2 c2) (.slice a3 l3 c3) 25;have x0:=T0.c0;have x1:=T0.c1;have x2:=T0.c2;have WD:=hid (ZF a1 l1 c1 zs _ (h1.below ba));have NB:=hid (xW a3 l3 c3 l1 ss _ (h3.below ba));have Lu:=hid (h2.below ba);have HB:=hid ba;clear h1 h2 h3 ba T0;generalize hSL:iT zs=sl at *;generalize hSN:fI l1 ss=sn at *;go_enter Tryz.func80,Tryz.ntmps80;go_wp2_with fail;refine WD.out.mono ?_;rintro e w1 ⟨rfl,rfl⟩;go_wp2_with fail;refine NB.out.mono ?_;rintro e w2 ⟨rfl,rfl⟩;by_cases k1:l1=0
 ·have HE:Hid (bM zs ag ss=false):=hid (by rw[BZ.out,k1];simp);have z1:((l1:Int)==0)=true:=by simp[k1]
  clear k1;go_wp2_with fail;go_ret;exact⟨by rw[HE.out];rfl,HB.out⟩
 have z1:((l1:Int)==0)=false:=aA6.2 (by omega);by_cases k2:6<l1
 ·have HE:Hid (bM zs ag ss=false):=hid (by rw[BZ.out,show decide (l1<=6)=false by simp;omega];simp);have z2:(6:Int)<(l1:Int):=by omega
  go_wp2_with fail;go_ret;exact⟨by rw[HE.out];rfl,HB.out⟩
 have z2:decide ((6:Int)<(l1:Int))=false:=by simp;omega
 have z2n:decide (6<l1)=false:=by simp;omega
 by_cases k3:l2=l1
 ·subst k3;have z3:((l2:Int) !=(l2:Int))=false:=by simp
  cases sl with
  | false=>
   have HE:Hid (bM zs ag ss=false):=hid (by rw[BZ.out];simp);go_wp2_with fail;go_ret;exact⟨by rw[HE.out];rfl,HB.out⟩
  | true=>
   cases sn with
   | false=>
    have HE:Hid (bM zs ag ss=false):=hid (by rw[BZ.out];simp);go_wp2_with fail;go_ret;exact⟨by rw[HE.out];rfl,HB.out⟩
   | true=>
    by_cases k4:l3=0
    ·have HE:Hid (bM zs ag ss=false):=hid (by rw[BZ.out,k4];simp);have z4:((l3:Int)==0)=true:=by simp[k4]
     clear k4;go_wp2_with fail;go_ret;exact⟨by rw[HE.out];rfl,HB.out⟩
    ·have z4:((l3:Int)==0)=false:=aA6.2 (by omega);have Xd:Hid (bM zs ag ss=jI l2 ag l2):=hid (by rw[BZ.out,show decide (1<=l2)=true by simp;omega,show decide (l2<=6)=true by simp;omega,show decide (l3≠0)=true by simpa using k4];simp);go_wp2_with fail;generalize hW:(w.alloc (.cells #[.slice a1 l2 c1,.slice a2 l2 c2,.slice a3 l3 c3] 25))=W at *;clear hW
     go_loopw [6] (λi wq=>∃ k:Nat,k<=l2/\i=.int .i64 k/\wq=W/\Hid (jI l2 ag k=true)) (λi _=>l2 - (intOf i).toNat)
     case atStart=>exact⟨0,aA8 _,rfl,rfl,hid (by simp[jI])⟩
     case round=>
      obtain⟨k,hk,rfl,rfl,Iu⟩:=hrel;by_cases hlk:k<l2
      ·obtain⟨b,o,e,hb,hc⟩:=Lu.out.hcell (by omega);subst e;obtain⟨ra,rl,rc,cr,hr⟩:=hc k hlk;have WT:=hid (JO l2 ag k);have HCT:Hid (jI l2 ag l2=true->fI l2 (ag.getD k [])=true):=hid (λh9=>by
        unfold jI at h9;rw[List.all_eq_true]at h9;exact h9 k (by simpa using hlk))
       have NK:=hid (xW ra rl rc l2 (ag.getD k []) _ hr);generalize fI l2 (ag.getD k [])=nk at *;have i1:(0:Int)<=(k:Int):=by omega
       have i2:(k:Int)<(l2:Int):=by omega
       clear hc hr;go_wp2_with fail;refine NK.out.mono ?_;rintro e w3 ⟨rfl,rfl⟩;cases nk with
       | false=>
        have HE:Hid (bM zs ag ss=false):=hid (by
         rw[Xd.out];cases e:jI l2 ag l2 with
         | false=>rfl
         | true=>exact absurd (HCT.out e) (by simp))
        go_wp2_with fail;go_ret;exact⟨by rw[HE.out];rfl,HB.out⟩
       | true=>
        have HRK:Hid (jI l2 ag (k+1)=true):=hid (by rw[WT.out,Iu.out];rfl);go_wp2_with fail;go_roundw
        case rel=>exact⟨k+1,by omega,by go_num,by first | rfl | trivial,HRK⟩
        case measure=>simp[intOf] <;> omega
      ·obtain rfl:k=l2:=by omega
       have HE:Hid (bM zs ag ss=true):=hid (by rw[Xd.out];exact Iu.out);go_wp2_with fail;go_ret;exact⟨by rw[HE.out];rfl,HB.out⟩
 ·have HE:Hid (bM zs ag ss=false):=hid (by rw[BZ.out,show decide (l2=l1)=false by simpa using k3];simp);have z3:((l2:Int) !=(l1:Int))=true:=bne_iff_ne.2 (by omega);go_wp2_with fail;go_ret;exact⟨by rw[HE.out];rfl,HB.out⟩
theorem Eu(i j:Nat)(h2:Lists w a2 l2 c2 ag)(hi:i<l2) :
  Calls Tryz.prog 82 #[.agg #[.slice a1 l1 c1,.slice a2 l2 c2,.slice a3 l3 c3],.int .i64 (i:Nat),.int .i64 (j:Nat)] w λe w'=>e=.returned (.bool (eF ag i j))/\Below w.heap.size w w':=by
 have n1:=h2.hcap;have n2:=h2.hmax;have ba:=(aAW w.heap.size w).alloc (aAU _) (.cells #[.slice a1 l1 c1,.slice a2 l2 c2,.slice a3 l3 c3] 25);have T0:=dH w (.slice a1 l1 c1) (.slice a2 l2 c2) (.slice a3 l3 c3) 25;have x1:=T0.c1;obtain⟨b,o,e,hb,hc⟩:=(h2.below ba).hcell (by omega);subst e;obtain⟨ra,rl,rc,cr,hr⟩:=hc i hi;have oh:=hid hr;have rm:=hr.hmax;have rcp:=hr.hcap;have IR:=hr.hlen;have HB:=hid ba;have i1:(0:Int)<=(i:Int):=by omega
 have i2:(i:Int)<(l2:Int):=by omega
 have Xc:Hid (eF ag i j=nz (pX i (ag.getD i [])) j):=hid rfl;rw[Xc.out];clear h2 hc hr ba T0;generalize ag.getD i []=row at *;by_cases h0:rl=0
 ·subst h0;have HO:Hid (nz (pX i row) j=((i:Int)==(j:Int))):=hid (by unfold pX;rw[aBU IR];simp[nz]);have z0:((0:Int)==0)=true:=rfl;generalize nz (pX i row) j=bv at *;have hbv:=HO.out;go_enter Tryz.func82,Tryz.ntmps82;go_wp2_with fail;go_ret;exact⟨by rw[HO.out];first | rfl | simp,HB.out⟩
 ·have z0:((rl:Int)==0)=false:=aA6.2 (by omega);have HO:Hid (pX i row=row):=hid (by unfold pX;rw[aBT (by omega)]);rw[HO.out];go_enter Tryz.func82,Tryz.ntmps82;go_wp2_with fail;generalize hW:(w.alloc (.cells #[.slice a1 l1 c1,.slice (some ⟨b,o,none⟩) l2 c2,.slice a3 l3 c3] 25))=W at *;clear hW
  go_loopw [7] (λx wq=>∃ k:Nat,k<=rl/\x=.int .i64 k/\wq=W/\Hid (∀ m,m<k->row.getD m 0≠(j:Int))) (λx _=>rl - (intOf x).toNat)
  case atStart=>exact⟨0,aA8 _,rfl,rfl,hid (λm hm=>by omega)⟩
  case round=>
   obtain⟨k,hk,rfl,rfl,HN⟩:=hrel;by_cases hlk:k<rl
   ·obtain⟨b',o',e,hb',oW⟩:=oh.out.hcell (by omega);subst e;have ck:=oW k hlk;have HM:Hid (row.getD k 0∈row):=hid (by rw[List.getD,aAV (by omega)];exact List.getElem_mem _);have zZ:Hid (row.getD k 0≠(j:Int)->∀ m,m<k+1->row.getD m 0≠(j:Int)):=hid (λh m hm=>by
     by_cases e:m=k
     ·subst e;exact h
     ·exact HN.out m (by omega))
    have HY:Hid (row.getD k 0=(j:Int)->nz row j=true):=hid (λh=>xH.2 (by rw[<-h];exact HM.out));have j1:(0:Int)<=(k:Int):=by omega
    have j2:(k:Int)<(rl:Int):=by omega
    clear oW HM;generalize row.getD k 0=z at *;by_cases ez:z=(j:Int)
    ·have HE:=hid (HY.out ez);have zz:(z==(j:Int))=true:=by simp[ez]
     clear ez;go_wp2_with fail;go_ret;exact⟨by rw[HE.out];rfl,HB.out⟩
    ·have HS:=hid (zZ.out ez);have zz:(z==(j:Int))=false:=aA6.2 ez;clear ez;go_wp2_with fail;go_roundw
     case rel=>exact⟨k+1,by omega,by go_num,by first | rfl | trivial,HS⟩
     case measure=>simp[intOf] <;> omega
   ·obtain rfl:k=rl:=by omega
    have HE:Hid (nz row j=false):=hid (by
     cases e:nz row j with
     | false=>rfl
     | true=>
      obtain⟨m,hm,e2⟩:=aBC (xH.1 e);have:=HN.out m (by omega);rw[List.getD,aAV hm]at this;simp[e2]at this)
    go_wp2_with fail;go_ret;exact⟨by rw[HE.out];rfl,HB.out⟩
end
def lG(st f aX:Nat->Bool)(x:Nat):Bool:=st (x / 256)&&(f x&&!aX (x % 256))
theorem Y8(P g n cap gl arw:Nat)(lt:Nat->Nat)(ed:Nat->Nat->Bool)(st f aX:Nat->Bool)(w:World)(hn:n<=6)(h:zV w g n lt ed st)(hf:bU w gl (n*256) f)(kz:gl<w.heap.size)(hb:bC w P 2305 aX)(hP:P<w.heap.size) :
  Calls Tryz.prog 91 #[.pointer (some ⟨P,0,none⟩),.slice (some ⟨g,0,none⟩) n cap,.slice (some ⟨gl,0,none⟩) n arw] w λe w'=>∃ g',e=.returned (.slice (some ⟨g',0,none⟩) n n)/\w.heap.size<=g'/\g'<w'.heap.size/\bU w' g' (n*256) (lG st f aX)/\Below w.heap.size w w':=by
 have HR:=hid h;have hg:=h.blk;have HF:=hid hf;have Lx:=hid hb;clear h hf hb;go_enter Tryz.func91,Tryz.ntmps91;go_wp2_with (at_make;go_must (refine iV _ rfl (.tmp 13) rfl n rfl (by omega) ?_));intro w1 F1 iw aM;have PM:=hid F1;have aK:=hid aM;clear F1 aM;go_wp2_with fail
 go_loopw [17] (λi wq=>∃ k:Nat,k<=n/\i=.int .i64 k/\Hid (bU wq w.heap.size (n*256) (upTo (lG st f aX) (k*256)))/\w.heap.size<wq.heap.size/\Hid (Below w.heap.size w wq)) (λi _=>n - (intOf i).toNat)
 case atStart=>exact⟨0,aA8 _,rfl,by rw[Nat.zero_mul,qU];exact PM,iw,aK⟩
 case round=>
  obtain⟨k,hk,rfl,H5,hz,HB⟩:=hrel;rename World=>W0;clear PM aK;by_cases hlk:k<n
  ·have r:=HR.out.below HB.out (aAU _) hg;have q0:=r.l k hlk;have q1:W0.cell? ⟨g,k*8+1,none⟩=some (.bool (ed k 0)):=r.e k 0 hlk (by omega);have q2:W0.cell? ⟨g,k*8+2,none⟩=some (.bool (ed k 1)):=r.e k 1 hlk (by omega);have q3:W0.cell? ⟨g,k*8+3,none⟩=some (.bool (ed k 2)):=r.e k 2 hlk (by omega);have q4:W0.cell? ⟨g,k*8+4,none⟩=some (.bool (ed k 3)):=r.e k 3 hlk (by omega);have q5:W0.cell? ⟨g,k*8+5,none⟩=some (.bool (ed k 4)):=r.e k 4 hlk (by omega);have q6:W0.cell? ⟨g,k*8+6,none⟩=some (.bool (ed k 5)):=r.e k 5 hlk (by omega);have q7:=r.s k hlk;have dk:decide ((n:Int)<=(k:Int))=false:=by simp;omega
   have dkn:decide (n<=k)=false:=by simp;omega
   have Ij:=(aAW W0.heap.size W0).alloc (aAU _) (.cells #[.int .i64 (lt k:Nat),.bool (ed k 0),.bool (ed k 1),.bool (ed k 2),.bool (ed k 3),.bool (ed k 4),.bool (ed k 5),.bool (st k)] 156);have HX:=hid Ij;have aW:=hid (HB.out.trans (Ij.mono HB.out.size));have H52:=hid (H5.out.below Ij hz);clear r Ij;cases hst:st k with
   | false=>
    rw[hst]at q7 HX aW H52;have H53:=hid (H52.out.congr (f':=upTo (lG st f aX) ((k+1)*256)) (λj hj=>by
     unfold upTo;by_cases c1:j<k*256
     ·rw[aBU c1,aBU (by omega)]
     ·rw[aBT c1];by_cases c2:j<(k+1)*256
      ·rw[aBU c2];unfold lG;rw[show j / 256=k by omega,hst];rfl
      ·rw[aBT c2]))
    clear hst;generalize lt k=e0 at *;generalize ed k 0=e1 at *;generalize ed k 1=e2 at *;generalize ed k 2=e3 at *;generalize ed k 3=e4 at *;generalize ed k 4=e5 at *;generalize ed k 5=e6 at *;go_wp2_with fail;go_roundw
    case rel=>exact⟨k+1,by omega,by go_num,H53,by simp;omega,aW⟩
    case measure=>simp[intOf] <;> omega
   | true=>
    rw[hst]at q7 HX aW H52;have mI:=hid hst;clear hst;have GF:=hid ((HF.out.below aW.out kz).zG (t:=k) (by omega));generalize lt k=e0 at *;generalize ed k 0=e1 at *;generalize ed k 1=e2 at *;generalize ed k 2=e3 at *;generalize ed k 3=e4 at *;generalize ed k 4=e5 at *;generalize ed k 5=e6 at *;have aN:w.heap.size<(W0.alloc (.cells #[.int .i64 (e0:Nat),.bool e1,.bool e2,.bool e3,.bool e4,.bool e5,.bool e6,.bool true] 156)).heap.size:=by simp;omega
    go_wp2_with (refine aQ rfl (.tmp 33) rfl gl (k*256) _ rfl GF.out ?_)
    go_loopw [35] (λi wq=>∃ j:Nat,j<=256/\i=.int .i64 j/\Hid (bU wq w.heap.size (n*256) (upTo (lG st f aX) (k*256+j)))/\w.heap.size<wq.heap.size/\Hid (Below w.heap.size w wq)) (λi _=>256 - (intOf i).toNat)
    case atStart=>exact⟨0,by omega,rfl,H52,aN,aW⟩
    case round=>
     obtain⟨j,hj,rfl,H5,Ki,HB⟩:=hrel;rename World=>W3;clear H52 aN aW q0 q1 q2 q3 q4 q5 q6 q7;by_cases eQ:j<256
     ·have p0:=H5.out.f (k*256+j) (by omega);have p1:=H5.out.c (k*256+j) (by omega);have p2:W3.cell? ⟨P,2305+j,none⟩=some (.bool (aX j)):=((Lx.out.below HB.out hP).c j eQ);have ix:=λW=>wu (λj=>f (k*256+j)) eQ W;have e9:lG st f aX (k*256+j)=(f (k*256+j)&&!aX j):=by unfold lG;rw[show (k*256+j) / 256=k by omega,show (k*256+j) % 256=j by omega,mI.out];rfl
      have D5:=hid (H5.out.drew.set (k*256+j) (lG st f aX (k*256+j)));have DB:=hid (HB.out.drew.setCell (p:=⟨w.heap.size,k*256+j,none⟩) (aAU _) (.bool (lG st f aX (k*256+j))));rw[qV]at D5;generalize upTo (lG st f aX) (k*256+j) (k*256+j)=ov at *;generalize lG st f aX (k*256+j)=sv at *;generalize f (k*256+j)=fv at *;generalize aX j=bv at *;subst e9;have i1:(0:Int)<=(k:Int):=by omega
      have i2:(k:Int)<(n:Int):=by omega
      have i3:(0:Int)<=(j:Int):=by omega
      have i4:(j:Int)<256:=by omega
      cases fv with
      | false=>
       simp only[Bool.false_and]at D5 DB;go_wp2_with fail;refine wp_region_held_drew (S:=λ_=>True) (by kernel_rfl) trivial (λau=>?_);refine aA4 (i:=0) (oi:={ dst:=some 39,op:=Op.move (.tmp 7),type:=_,pos:=_,after:=_,guard:=none }) (v:=(Value.slice (some ⟨w.heap.size,0,none⟩) n n)) rfl (by kernel_rfl) (by kernel_rfl) (by kernel_rfl) (λ_ _ _ h=>h) (aA2 ⟨by rfl,by intro w' af;(try dsimp only at af);go_simp⟩) (by assumption) ?_
       simp only[Act.put,aAT,aAX,aAY];refine aA4 (i:=1) (oi:={ dst:=some 40,op:=Op.move (.tmp 8),type:=_,pos:=_,after:=_,guard:=none }) (v:=(Value.int .i64 (k:Nat))) rfl (by kernel_rfl) (by kernel_rfl) (by kernel_rfl) (λ_ _ _ h=>h) (aA2 ⟨by rfl,by intro w' af;(try dsimp only at af);go_simp⟩) (by assumption) ?_
       simp only[Act.put,aAT,aAX,aAY];refine aA4 (i:=2) (oi:={ dst:=some 41,op:=Op.move (.tmp 10),type:=_,pos:=_,after:=_,guard:=none }) (v:=(Value.int .i64 (j:Nat))) rfl (by kernel_rfl) (by kernel_rfl) (by kernel_rfl) (λ_ _ _ h=>h) (aA2 ⟨by rfl,by intro w' af;(try dsimp only at af);go_simp⟩) (by assumption) ?_
       simp only[Act.put,aAT,aAX,aAY];refine aA4 (i:=3) (oi:={ dst:=some 42,op:=Op.move (.tmp 11),type:=_,pos:=_,after:=_,guard:=none }) (v:=(Value.bool false)) rfl (by kernel_rfl) (by kernel_rfl) (by kernel_rfl) (λ_ _ _ h=>h) (aA2 ⟨by rfl,by intro w' af;(try dsimp only at af);go_simp⟩) (by assumption) ?_
       simp only[Act.put,aAT,aAX,aAY];refine aA4 (i:=4) (oi:={ dst:=some 43,op:=Op.move (.tmp 42),type:=_,pos:=_,after:=_,guard:=none }) (v:=(Value.bool false)) rfl (by kernel_rfl) (by kernel_rfl) (by kernel_rfl) (λ_ _ _ h=>h) (aA2 ⟨by rfl,by intro w' af;(try dsimp only at af);go_simp⟩) (by assumption) ?_
       simp only[Act.put,aAT,aAX,aAY];refine aA4 (i:=5) (oi:={ dst:=some 44,op:=Op.move (.tmp 0),type:=_,pos:=_,after:=_,guard:=some (4,true) }) (v:=undef) rfl (by kernel_rfl) (by kernel_rfl) (by kernel_rfl) (λ_ _ _ h=>h) (aA3 ⟨by rfl,rfl⟩) (by assumption) ?_;simp only[Act.put,aAT,aAX,aAY];refine aA4 (i:=6) (oi:={ dst:=some 45,op:=Op.move (.tmp 10),type:=_,pos:=_,after:=_,guard:=some (4,true) }) (v:=undef) rfl (by kernel_rfl) (by kernel_rfl) (by kernel_rfl) (λ_ _ _ h=>h) (aA3 ⟨by rfl,rfl⟩) (by assumption) ?_;simp only[Act.put,aAT,aAX,aAY];refine aA4 (i:=7) (oi:={ dst:=some 46,op:=Op.nilCheck (.tmp 44),type:=_,pos:=_,after:=_,guard:=some (4,true) }) (v:=undef) rfl (by kernel_rfl) (by kernel_rfl) (by kernel_rfl) (λ_ _ _ h=>h) (aA3 ⟨by rfl,rfl⟩) (by assumption) ?_;simp only[Act.put,aAT,aAX,aAY];refine aA4 (i:=8) (oi:={ dst:=some 47,op:=Op.fieldAddr _ (.tmp 46) 3,type:=_,pos:=_,after:=_,guard:=some (4,true) }) (v:=undef) rfl (by kernel_rfl) (by kernel_rfl) (by kernel_rfl) (λ_ _ _ h=>h) (aA3 ⟨by rfl,rfl⟩) (by assumption) ?_;simp only[Act.put,aAT,aAX,aAY];refine aA4 (i:=9) (oi:={ dst:=some 48,op:=Op.indexAddr _ (.tmp 47) (.tmp 45),type:=_,pos:=_,after:=_,guard:=some (4,true) }) (v:=undef) rfl (by kernel_rfl) (by kernel_rfl) (by kernel_rfl) (λ_ _ _ h=>h) (aA3 ⟨by rfl,rfl⟩) (by assumption) ?_;simp only[Act.put,aAT,aAX,aAY];refine aA4 (i:=10) (oi:={ dst:=some 49,op:=Op.load _ (.tmp 48),type:=_,pos:=_,after:=_,guard:=some (4,true) }) (v:=undef) rfl (by kernel_rfl) (by kernel_rfl) (by kernel_rfl) (λ_ _ _ h=>h) (aA3 ⟨by rfl,rfl⟩) (by assumption) ?_;simp only[Act.put,aAT,aAX,aAY];refine aA4 (i:=11) (oi:={ dst:=some 50,op:=Op.unOp UnOp.not _ (.tmp 49),type:=_,pos:=_,after:=_,guard:=some (4,true) }) (v:=undef) rfl (by kernel_rfl) (by kernel_rfl) (by kernel_rfl) (λ_ _ _ h=>h) (aA3 ⟨by rfl,rfl⟩) (by assumption) ?_;simp only[Act.put,aAT,aAX,aAY];refine aA4 (i:=12) (oi:={ dst:=some 51,op:=Op.pick (.tmp 43) (.tmp 50) (Operand.const (Value.bool false)),type:=_,pos:=_,after:=_,guard:=none }) (v:=(Value.bool false)) rfl (by kernel_rfl) (by kernel_rfl) (by kernel_rfl) (λ_ _ _ h=>h) (aA2 ⟨by rfl,by intro w' af;(try dsimp only at af);go_simp⟩) (by assumption) ?_
       simp only[Act.put,aAT,aAX,aAY];refine aA4 (i:=13) (oi:={ dst:=some 52,op:=Op.indexAddr _ (.tmp 39) (.tmp 40),type:=_,pos:=_,after:=_,guard:=none }) (v:=(Value.pointer (some ⟨w.heap.size,k*256,none⟩))) rfl (by kernel_rfl) (by kernel_rfl) (by kernel_rfl) (λ_ _ _ h=>h) (aA2 ⟨by rfl,by intro w' af;(try dsimp only at af);go_simp⟩) (by assumption) ?_
       simp only[Act.put,aAT,aAX,aAY];refine aA4 (i:=14) (oi:={ dst:=some 53,op:=Op.indexAddr _ (.tmp 52) (.tmp 41),type:=_,pos:=_,after:=_,guard:=none }) (v:=(Value.pointer (some ⟨w.heap.size,k*256+j,none⟩))) rfl (by kernel_rfl) (by kernel_rfl) (by kernel_rfl) (λ_ _ _ h=>h) (aA2 ⟨by rfl,by intro w' af;(try dsimp only at af);go_simp⟩) (by assumption) ?_
       simp only[Act.put,aAT,aAX,aAY];refine aBc (rs:=[15]) (by kernel_rfl) (by simp) ?_;refine aA7 rfl (λK hK=>?_) aBb
       go_simp
       refine hK.out _ _ trivial (λau=>?_);clear hK K;refine aBS (by kernel_rfl) ?_ _;go_wp2_with fail;go_roundw
       case rel=>exact⟨j+1,by omega,by go_num,D5,by simp;omega,DB⟩
       case measure=>simp[intOf] <;> omega
      | true=>
       simp only[Bool.true_and]at D5 DB;have s0:((W3.drew.setCell ⟨w.heap.size,k*256+j,none⟩ (.bool (!bv)))).cell? ⟨P,2305+j,none⟩=some (.bool bv):=by
        rw[aA0 _ _ _ _ (λe=>by have:=congrArg Addr.block e;simp at this;omega)];exact p2
       have s1:((W3.setCell ⟨w.heap.size,k*256+j,none⟩ (.bool (!bv)))).cell? ⟨P,2305+j,none⟩=some (.bool bv):=by
        rw[aA0 _ _ _ _ (λe=>by have:=congrArg Addr.block e;simp at this;omega)];exact p2
       go_wp2_with fail
       go_region_held3 (λw'=>w'.cell? ⟨P,2305+j,none⟩=some (.bool bv)) (first | go_keep | exact s0 | exact s1) (fail)
       go_wp2_with fail;go_roundw
       case rel=>exact⟨j+1,by omega,by go_num,D5,by simp;omega,DB⟩
       case measure=>simp[intOf] <;> omega
     ·obtain rfl:j=256:=by omega
      go_wp2_with fail;go_roundw
      case rel=>exact⟨k+1,by omega,by go_num,by rw[show (k+1)*256=k*256+256 by omega];exact H5,Ki,HB⟩
      case measure=>simp[intOf] <;> omega
  ·obtain rfl:k=n:=by omega
   have HG:=hid (H5.out.congr (f':=lG st f aX) (λj hj=>by unfold upTo;rw[aBU hj]));go_wp2_with fail;go_ret;exact⟨_,rfl,aAU _,hz,HG.out,HB.out⟩
def Goes(E:Nat->Nat->Prop):List Nat->Nat->Prop
 | [],_=>True
 | a::l,e=>E a (l.headD e)/\Goes E l e
theorem rA(l m:List Nat)(e:Nat):(l++m).headD e=l.headD (m.headD e):=by cases l <;> rfl
theorem yA{E:Nat->Nat->Prop}:∀ {l m:List Nat} {e:Nat},Goes E l (m.headD e)->Goes E m e->Goes E (l++m) e
 | [],m,e,_,h=>h
 | a::l,m,e,⟨h1,h2⟩,h=>⟨by show E a ((l++m).headD e);rw[rA];exact h1,yA h2 h⟩
theorem abb{E:Nat->Nat->Prop}{l:List Nat}{a b:Nat}(h:Goes E l a)(he:E a b):Goes E (l++[a]) b:=yA (m:=[a]) h ⟨he,trivial⟩
theorem Mr{E:Nat->Nat->Prop}:∀ {l:List Nat} {e:Nat},Goes E l e->∀ i (hi:i<l.length),E l[i] (if h:i+1<l.length then l[i+1] else e)
 | [],e,_,i,hi=>by simp at hi
 | a::l,e,⟨h1,h2⟩,i,hi=>by
  cases i with
  | zero=>
   cases l with
   | nil=>simpa using h1
   | cons b l=>simpa using h1
  | succ i=>
   have:=Mr h2 i (by simpa using hi);simpa using this
def Toward(E:Nat->Nat->Prop)(a b:Nat):Prop:=a=b\/reach E a b
theorem rQ{E:Nat->Nat->Prop}{a b c:Nat}(h:Toward E a b)(k:Toward E b c):Toward E a c:=by
 rcases h with rfl | h
 ·exact k
 ·rcases k with rfl | k
  ·exact aA3 h
  ·exact aA3 (dU h k)
theorem Eo{E:Nat->Nat->Prop}{a b c:Nat}(h:Toward E a b)(k:reach E b c):reach E a c:=by
 rcases h with rfl | h
 ·exact k
 ·exact dU h k
theorem Ev{E:Nat->Nat->Prop}{a b c:Nat}(h:reach E a b)(k:Toward E b c):reach E a c:=by
 rcases k with rfl | k
 ·exact h
 ·exact dU h k
theorem Kv{E:Nat->Nat->Prop}:∀ {l:List Nat} {e:Nat},Goes E l e->Toward E (l.headD e) e/\∀ x∈l,reach E x e
 | [],e,_=>⟨aA2 rfl,λx hx=>by simp at hx⟩
 | a::l,e,⟨h1,h2⟩=>by
  obtain⟨k1,k2⟩:=Kv h2;have:reach E a e:=Ev (kJ h1) k1;exact⟨aA3 this,λx hx=>by
   rcases List.mem_cons.1 hx with rfl | hx
   ·exact this
   ·exact k2 x hx⟩
structure Bz (E:Nat->Nat->Prop) (cs:List (Nat->Bool)) (k a b:Nat):Prop where
 go:if k=0 then a=b else reach E a b
 met:∀ c,c∈cs.take k->∃ i,reach E a i/\c i=true/\Toward E i b
theorem QO(E:Nat->Nat->Prop)(cs:List (Nat->Bool))(a:Nat):Bz E cs 0 a a:=⟨rfl,λc hc=>by simp at hc⟩
theorem Va{E:Nat->Nat->Prop}{cs:List (Nat->Bool)}{k a b b':Nat}(h:Bz E cs k a b)(hr:reach E b b')(hc:∀ c,cs[k]?=some c->c b'=true):Bz E cs (k+1) a b':=by
 have hab:Toward E a b:=by
  have:=h.go;by_cases e:k=0
  ·rw[aBU e]at this;exact aA2 this
  ·rw[aBT e]at this;exact aA3 this
 refine⟨by rw[aBT (by omega)];exact Eo hab hr,λc hm=>?_⟩;rw[List.take_add_one]at hm;rcases aBy.1 hm with hm | hm
 ·obtain⟨i,h1,h2,h3⟩:=h.met c hm;exact⟨i,h1,h2,rQ h3 (aA3 hr)⟩
 ·cases e:cs[k]? with
  | none=>rw[e]at hm;simp at hm
  | some c'=>
   rw[e]at hm;simp at hm;subst hm;exact⟨b',Eo hab hr,hc _ e,aA2 rfl⟩
structure Ha (E:Nat->Nat->Prop) (cs:List (Nat->Bool)) (last:Nat->Bool) (from_:Nat) (seen:Nat->Bool) (at_:Nat):Prop where
 last:last at_=true
 go:Toward E from_ at_
 old:∀ x,seen x=true->∃ y,reach E x y/\(∀ c∈cs,∃ i,reach E x i/\c i=true/\Toward E i y)/\Toward E y at_
theorem UX{E:Nat->Nat->Prop}(cs:List (Nat->Bool)){last:Nat->Bool}{a:Nat}(h:last a=true):Ha E cs last a (λ_=>false) a:=⟨h,aA2 rfl,λx hx=>by cases hx⟩
theorem Xx{E:Nat->Nat->Prop}{cs:List (Nat->Bool)}{last seen:Nat->Bool}{f a b k:Nat}(h:Ha E cs last f seen a)(hr:Bz E cs k a b)(hk:0<k)(hkc:cs.length<=k)(hb:last b=true):Ha E cs last f (upd seen a true) b:=by
 have hab:=hr.go;rw[aBT (by omega)]at hab;refine⟨hb,rQ h.go (aA3 hab),λx hx=>?_⟩;by_cases e:x=a
 ·subst e;refine⟨b,hab,λc hc=>hr.met c ?_,aA2 rfl⟩;rw[List.take_of_length_le hkc];exact hc
 ·unfold upd at hx;rw[aBT e]at hx;obtain⟨y,h1,h2,h3⟩:=h.old x hx;exact⟨y,h1,h2,rQ h3 (aA3 hab)⟩
structure Qj (E:Nat->Nat->Prop) (cs:List (Nat->Bool)) (last:Nat->Bool) (f a:Nat):Prop where
 last:last a=true
 go:Toward E f a
 ring:reach E a a
 met:∀ c∈cs,∃ i,reach E a i/\c i=true/\reach E i a
theorem Zk{E:Nat->Nat->Prop}{cs:List (Nat->Bool)}{last seen:Nat->Bool}{f a:Nat}(h:Ha E cs last f seen a)(hs:seen a=true):Qj E cs last f a:=by
 obtain⟨y,h1,h2,h3⟩:=h.old a hs;have hr:reach E a a:=Ev h1 h3;refine⟨h.last,h.go,hr,λc hc=>?_⟩;obtain⟨i,k1,k2,k3⟩:=h2 c hc;refine⟨i,k1,k2,?_⟩;rcases rQ k3 h3 with rfl | k
 ·exact hr
 ·exact k
structure zW (E:Nat->Nat->Prop) (cs:List (Nat->Bool)) (jA k:Nat) (ps:List Nat) (at_:Nat):Prop where
 go:Goes E ps at_
 head:ps.headD at_=jA
 home:reach E at_ jA
 met:∀ c∈cs.take k,c at_=true\/∃ p∈ps,c p=true
theorem Vk{E:Nat->Nat->Prop}{cs:List (Nat->Bool)}{jA:Nat}(h:reach E jA jA):zW E cs jA 0 [] jA:=⟨trivial,rfl,h,λc hc=>by simp at hc⟩
theorem Ke{E:Nat->Nat->Prop}{cs:List (Nat->Bool)}{jA k at_:Nat}{ps:List Nat}(h:zW E cs jA k ps at_){c:Nat->Bool}(hc:cs[k]?=some c)(hm:c at_=true\/∃ p∈ps,c p=true):zW E cs jA (k+1) ps at_:=by
 refine⟨h.go,h.head,h.home,λd hd=>?_⟩;rw[List.take_add_one,hc]at hd;rcases aBy.1 hd with hd | hd
 ·exact h.met d hd
 ·simp at hd;subst hd;exact hm
theorem Yg{E:Nat->Nat->Prop}{cs:List (Nat->Bool)}{jA k at_ b:Nat}{ps qs:List Nat}(h:zW E cs jA k ps at_){c:Nat->Bool}(hc:cs[k]?=some c)(hq:qs≠[])(hh:qs.headD b=at_)(hg:Goes E qs b)(hb:reach E b jA)(hcb:c b=true):zW E cs jA (k+1) (ps++qs) b:=by
 refine⟨yA (by rw[hh];exact h.go) hg,by rw[rA,hh];exact h.head,hb,λd hd=>?_⟩;have hat:at_∈qs:=by
  cases qs with
  | nil=>exact absurd rfl hq
  | cons x l=>simp at hh;subst hh;simp
 rw[List.take_add_one,hc]at hd;rcases aBy.1 hd with hd | hd
 ·rcases h.met d hd with h1 | ⟨p,h1,h2⟩
  ·exact aA3 ⟨at_,List.mem_append_right _ hat,h1⟩
  ·exact aA3 ⟨p,List.mem_append_left _ h1,h2⟩
 ·simp at hd;subst hd;exact aA2 hcb
structure La (E:Nat->Nat->Prop) (cs:List (Nat->Bool)) (jA:Nat) (ps:List Nat):Prop where
 ne:ps≠[]
 head:ps.headD 0=jA
 go:Goes E ps jA
 met:∀ c∈cs,∃ p∈ps,c p=true
theorem aak{E:Nat->Nat->Prop}{cs:List (Nat->Bool)}{jA k at_:Nat}{ps qs:List Nat}(h:zW E cs jA k ps at_)(hk:cs.length<=k)(hq:qs≠[])(hh:qs.headD jA=at_)(hg:Goes E qs jA):La E cs jA (ps++qs):=by
 have hat:at_∈qs:=by
  cases qs with
  | nil=>exact absurd rfl hq
  | cons x l=>simp at hh;subst hh;simp
 refine⟨by simp[hq],?_,yA (by rw[hh];exact h.go) hg,λc hc=>?_⟩
 ·have e:∀ l:List Nat,l≠[]->∀ x y,l.headD x=l.headD y:=λl hl x y=>by cases l with
   | nil=>exact absurd rfl hl
   | cons a l=>rfl
  rw[e _ (by simp[hq]) 0 jA,rA,hh];exact h.head
 ·rcases h.met c (by rw[List.take_of_length_le hk];exact hc) with h1 | ⟨p,h1,h2⟩
  ·exact⟨at_,List.mem_append_right _ hat,h1⟩
  ·exact⟨p,List.mem_append_left _ h1,h2⟩
def rowAt(A B:List Nat)(i:Nat):Nat:=if i<A.length then A.getD i 0 else B.getD ((i - A.length) % B.length) 0
theorem JP{E:Nat->Nat->Prop}{cs:List (Nat->Bool)}{A B:List Nat}{jA:Nat}(hA:Goes E A jA)(hB:La E cs jA B):Path E (rowAt A B)/\uW (KL cs) cs.length (rowAt A B):=by
 have hb:0<B.length:=List.length_pos_iff.2 hB.ne;have h0:B.getD 0 0=jA:=by
  have:=hB.head;cases B with
  | nil=>simp at hb
  | cons b l=>simpa using this
 have ga:=Mr hA;have gb:=Mr hB.go;have inl:∀ j,j<B.length->E (B.getD j 0) (B.getD ((j+1) % B.length) 0):=λj hj=>by
  have h1:=gb j hj;rw[show B.getD j 0=B[j] by simp[List.getD,aAV hj]];by_cases e:j+1<B.length
  ·rw[dif_pos e]at h1;rw[Nat.mod_eq_of_lt e,show B.getD (j+1) 0=B[j+1] by simp[List.getD,aAV e]];exact h1
  ·rw[dif_neg e]at h1;rw[show j+1=B.length by omega,Nat.mod_self,h0];exact h1
 constructor
 ·intro t;unfold rowAt;by_cases c1:t<A.length
  ·rw[aBU c1];have h1:=ga t c1;rw[show A.getD t 0=A[t] by simp[List.getD,aAV c1]];by_cases c2:t+1<A.length
   ·rw[dif_pos c2]at h1;rw[aBU c2,show A.getD (t+1) 0=A[t+1] by simp[List.getD,aAV c2]];exact h1
   ·rw[dif_neg c2]at h1;rw[aBT c2,show t+1 - A.length=0 by omega,Nat.zero_mod,h0];exact h1
  ·rw[aBT c1,aBT (by omega),show t+1 - A.length=(t - A.length)+1 by omega];have h1:=inl ((t - A.length) % B.length) (Nat.mod_lt _ hb);rw[show ((t - A.length) % B.length+1) % B.length=(t - A.length+1) % B.length by rw[Nat.mod_add_mod]]at h1;exact h1
 ·intro k hk t;obtain⟨p,h1,h2⟩:=hB.met cs[k] (List.getElem_mem hk);obtain⟨j,hj,e⟩:=aBC h1;refine⟨A.length+t*B.length+j,?_,cs[k],aAV hk,?_⟩
  ·have:t*1<=t*B.length:=Nat.mul_le_mul_left t hb;omega
  ·unfold rowAt;rw[aBT (by omega),show A.length+t*B.length+j - A.length=j+B.length*t by rw[Nat.mul_comm];omega,Nat.add_mul_mod_self_left,Nat.mod_eq_of_lt hj];rw[show B.getD j 0=p by simp[List.getD,aAV hj,e]];exact h2
theorem Yk{E:Nat->Nat->Prop}{cs:List (Nat->Bool)}{c:Nat->Bool}(hc:c∈cs){x:Nat}(h:iI E cs x):fE E (λy=>iI E cs y/\c y=true) x:=by
 obtain⟨q,rfl,hq,hm⟩:=h;obtain⟨t,h1,h2⟩:=vB hm c hc 1;obtain⟨d,rfl⟩:∃ d,t=0+d+1:=⟨t - 1,by omega⟩;exact⟨_,rP hq 0 d,yC hq hm _,h2⟩
theorem Mk{E:Nat->Nat->Prop}{cs:List (Nat->Bool)}{x:Nat}(h:iI E cs x):fE E (λy=>iI E cs y) x:=by
 obtain⟨q,rfl,hq,hm⟩:=h;exact⟨_,rP hq 0 0,yC hq hm _⟩
