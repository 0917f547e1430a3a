import Derived.Test.YtjagijohfkffiabGreatFREM33
set_option maxHeartbeats 16000000
set_option maxRecDepth 100000
set_option linter.unusedSimpArgs false
namespace Go.Proofs.YtjagijohfkffiabGreat
open Go.RowKit
set_option linter.unusedVariables false
theorem sO{f g:Nat->Nat}:∀ m,(∀ i,i<m->f i=g i)->bI f m=bI g m
 | 0,_=>rfl
 | m+1,h=>by rw[bI,bI,sO m (λi hi=>h i (by omega)),h m (by omega)]
def eX(aY:List Nat):Nat->Nat:=λi=>aY.getD i 0
structure BG (sh:Nat->St) (k:Nat) (aY:List Nat) (ss:List St):Prop where
 len:aY.length=k
 at_:∀ i,i<k->ss[eX aY i]?=some (sh i)
 nd:ss.Pairwise (λa b=>a≠b)
 fo:Fo (eX aY) k
 cnt:ss.length=bI (eX aY) k
theorem adt(sh:Nat->St):BG sh 0 [] []:=⟨rfl,λi h=>by omega,by simp,λi h=>by omega,rfl⟩
theorem VS{aY:List Nat}{j i:Nat}(h:i<aY.length):eX (aY++[j]) i=eX aY i:=fq h
theorem VT(aY:List Nat)(j:Nat):eX (aY++[j]) aY.length=j:=dN aY j
theorem ai5{sh:Nat->St}{k j:Nat}{aY:List Nat}{ss:List St}(h:BG sh k aY ss)(hj:ss[j]?=some (sh k)):BG sh (k+1) (aY++[j]) ss:=by
 have hl:=h.len;have hjl:=(aA1.1 hj).1;have e:∀ i,i<k->eX (aY++[j]) i=eX aY i:=λi hi=>VS (by omega);have e2:eX (aY++[j]) k=j:=by rw[<-hl];exact VT aY j
 refine⟨by simp[hl],λi hi=>?_,h.nd,λi hi=>?_,?_⟩
 ·by_cases c:i=k
  ·subst c;rw[e2];exact hj
  ·rw[e i (by omega)];exact h.at_ i (by omega)
 ·rw[sO i (λq hq=>e q (by omega))];by_cases c:i=k
  ·subst c;rw[e2,<-h.cnt];omega
  ·rw[e i (by omega)];exact h.fo i (by omega)
 ·rw[bI,sO k e,e2,<-h.cnt];omega
theorem ai6{sh:Nat->St}{k:Nat}{aY:List Nat}{ss:List St}(h:BG sh k aY ss)(hn:∀ s∈ss,s≠sh k):BG sh (k+1) (aY++[ss.length]) (ss++[sh k]):=by
 have hl:=h.len;have e:∀ i,i<k->eX (aY++[ss.length]) i=eX aY i:=λi hi=>VS (by omega);have e2:eX (aY++[ss.length]) k=ss.length:=by rw[<-hl];exact VT aY _
 refine⟨by simp[hl],λi hi=>?_,?_,λi hi=>?_,?_⟩
 ·by_cases c:i=k
  ·subst c;rw[e2];simp
  ·rw[e i (by omega)];have h1:=h.at_ i (by omega);rw[aA9 (aA1.1 h1).1];exact h1
 ·rw[List.pairwise_append];refine⟨h.nd,by simp,λa ha b hb=>?_⟩;simp at hb;subst hb;exact hn a ha
 ·rw[sO i (λq hq=>e q (by omega))];by_cases c:i=k
  ·subst c;rw[e2,<-h.cnt];exact aAU _
  ·rw[e i (by omega)];exact h.fo i (by omega)
 ·rw[bI,sO k e,e2,<-h.cnt];simp
theorem ZR{sh:Nat->St}{k:Nat}{aY:List Nat}{ss:List St}(h:BG sh k aY ss){i j:Nat}(hi:i<k)(hj:j<k):eX aY i=eX aY j↔sh i=sh j:=by
 have h1:=h.at_ i hi;have h2:=h.at_ j hj;constructor
 ·intro e;rw[e,h2]at h1;exact(Option.some.inj h1).symm
 ·intro e;rw[e]at h1;obtain⟨l1,e1⟩:=aA1.1 h1;obtain⟨l2,e2⟩:=aA1.1 h2;have hd:=List.pairwise_iff_getElem.1 h.nd;rcases Nat.lt_trichotomy (eX aY i) (eX aY j) with c | c | c
  ·exact absurd (e1.trans e2.symm) (hd _ _ l1 l2 c)
  ·exact c
  ·exact absurd (e2.trans e1.symm) (hd _ _ l2 l1 c)
def wI(o:Nat)(f:Nat->Nat):St:=⟨(o:Int),[(f 0:Int),f 1,f 2,f 3,f 4,f 5,f 6,f 7]⟩
theorem LV{o o':Nat}{f f':Nat->Nat}:wI o f=wI o' f'↔o=o'/\∀ a,a<8->f a=f' a:=by
 constructor
 ·intro h;simp only[wI,St.mk.injEq,List.cons.injEq,and_true,Int.ofNat_inj]at h;obtain⟨h0,h1,h2,h3,h4,h5,h6,h7,h8⟩:=h;refine⟨h0,λa ha=>?_⟩;have:a=0\/a=1\/a=2\/a=3\/a=4\/a=5\/a=6\/a=7:=by omega
  rcases this with rfl | rfl | rfl | rfl | rfl | rfl | rfl | rfl <;> assumption
 ·rintro ⟨rfl,h⟩;simp only[wI,h 0 (by omega),h 1 (by omega),h 2 (by omega),h 3 (by omega),h 4 (by omega),h 5 (by omega),h 6 (by omega),h 7 (by omega)]
def Nk(out:Nat->Nat)(nx:Nat->Nat->Nat)(kd:Nat->Nat)(i:Nat):St:=wI (out i) (λa=>kd (nx i a))
theorem ZQ{out:Nat->Nat}{nx:Nat->Nat->Nat}{kd:Nat->Nat}{K:Nat}{aY:List Nat}{ss:List St}(h:BG (Nk out nx kd) K aY ss):Rfn K out nx kd (eX aY):=λi j hi hj=>by
 rw[ZR h hi hj];exact LV
theorem uo{w:World}{b:Nat}{x0 x1:Value}(d0:w.cell? ⟨b,0,none⟩=some x0)(d1:w.cell? ⟨b,1,none⟩=some x1)(y0 y1:Value) :
  ((w.setCell ⟨b,0,none⟩ y0).setCell ⟨b,1,none⟩ y1).rangeAt b 0 [y0,y1]:=by
 have o:∀ (w:World) (i j:Nat) (u:Value),i≠j->(w.setCell ⟨b,i,none⟩ u).cell? ⟨b,j,none⟩=w.cell? ⟨b,j,none⟩:=λw i j u h=>aA0 _ _ _ _ (λq=>h (by have:=congrArg Addr.off q;simpa using this));intro j v hj;rw[aBo];cases j with
 | zero=>
  simp at hj;subst hj;rw[o _ 1 0 _ (by omega)];exact aBr _ _ _ d0
 | succ j=>cases j with
  | zero=>
   simp at hj;subst hj;exact aBr _ _ _ (by rw[o _ 0 1 _ (by omega)];exact d1)
  | succ j=>simp at hj
theorem Tryz.ac1:(Tryz.prog.info? 122).map (·.size)=some 2:=by kernel_rfl
def aiJ(K:Nat)(sh:Nat->St)(w:World)(e:Ending)(w':World):Prop:=
 ∃ vK vH aY ss,e=.returned (.agg #[vK,vH])/\BG sh K aY ss/\lU ss/\w'.ownsRow w.heap.size 3 1 vK aY.length (aD aY)/\w'.ownsRow w.heap.size 119 9 vH ss.length (ik ss)/\Below w.heap.size w w'
theorem ai7{sh:Nat->St}{k:Nat}{aY:List Nat}{ss:List St}(h:BG sh k aY ss):ss.length<=k:=by
 rw[h.cnt];exact abJ h.fo k (aAU _)
theorem Vg{w:World}{b o:Nat}{f:Nat->Nat}(h:mY w b o ((List.range 8).map f)):w.cell? ⟨b,0,none⟩=some (.int .i64 (o:Nat))/\∀ m,m<8->w.cell? ⟨b,1+m,none⟩=some (.int .i64 (f m:Nat)):=
 ⟨h.c0,λm hm=>by rw[h.c m hm];simp[List.getD,hm]⟩
theorem XR(K g cap B0:Nat)(out:Nat->Nat)(nx:Nat->Nat->Nat)(yj:List Nat)(vK0 vH0:Value)(w:World)(hK:K<=796594185)(hr:w.ownsRow B0 119 9 (.slice (some ⟨g,0,none⟩) K cap) K (ik ((List.range K).map λi=>wI (out i) (nx i))))(hg:g<w.heap.size)(hkd:NR w vK0 yj)(ql:yj.length=K)(hH:∃ a l c,vH0=.slice a l c)(hc:∀ i a,i<K->a<8->nx i a<K) :
  Calls Tryz.prog 71 #[.agg #[vK0,vH0],.slice (some ⟨g,0,none⟩) K cap] w (aiJ K (Nk out nx (eX yj)) w):=by
 obtain⟨Jz,Js,rfl,ano,GR⟩:=hkd;obtain⟨aH,lH,cH,rfl⟩:=hH;rw[ql]at ano GR;rw[ql];have HR:=hid hr;have HKR:=hid GR;have yM:=hid hc;clear hr GR hc;have b1:=(aAW w.heap.size w).alloc (aAU _) (.cells #[.slice Jz K Js,.slice aH lH cH] 122);have b2:=b1.alloc (by simp) (.cells #[.slice none 0 0,.slice none 0 0] 122);have b3:=hid (b2.alloc (by simp;omega) (.cells #[.slice none 0 0,.slice none 0 0] 122));go_enter Tryz.func71,Tryz.ntmps71;go_wp2_with fail;have e2:((w.alloc (.cells #[.slice Jz K Js,.slice aH lH cH] 122)).alloc (.cells #[.slice none 0 0,.slice none 0 0] 122)).heap.size=w.heap.size+2:=by simp
 have e1:(w.alloc (.cells #[.slice Jz K Js,.slice aH lH cH] 122)).heap.size=w.heap.size+1:=by simp
 have S0:=dD ((w.alloc (.cells #[.slice Jz K Js,.slice aH lH cH] 122)).alloc (.cells #[.slice none 0 0,.slice none 0 0] 122)) (.slice none 0 0) (.slice none 0 0) 122;rw[e2]at S0;have A4:=(dD (w.alloc (.cells #[.slice Jz K Js,.slice aH lH cH] 122)) (.slice none 0 0) (.slice none 0 0) 122).below ((aAW (w.heap.size+2) _).alloc (by simp) (.cells #[.slice none 0 0,.slice none 0 0] 122)) (by simp);rw[e1]at A4;have A2:=((dD w (.slice Jz K Js) (.slice aH lH cH) 122).below ((aAW (w.heap.size+1) _).alloc (by simp) (.cells #[.slice none 0 0,.slice none 0 0] 122)) (by simp)).below ((aAW (w.heap.size+2) _).alloc (by simp) (.cells #[.slice none 0 0,.slice none 0 0] 122)) (by simp);have S0:=hid S0;have A4:=hid A4;have A2:=hid A2;clear b1 b2 e1 e2
 go_loopw [14] (λi wq=>∃ (k:Nat) (aY:List Nat) (ss:List St) (vK vH:Value),k<=K/\i=.int .i64 k/\Hid (BG (Nk out nx (eX yj)) k aY ss)/\Hid (WN wq (w.heap.size+3) (w.heap.size+2) vK vH aY ss)/\Hid (Two wq w.heap.size (.slice Jz K Js) (.slice aH lH cH))/\Hid (Two wq (w.heap.size+1) (.slice none 0 0) (.slice none 0 0))/\Hid (Below w.heap.size w wq)/\w.heap.size+3<=wq.heap.size) (λi _=>K - (intOf i).toNat)
 case atStart=>exact⟨0,[],[],_,_,aA8 _,rfl,hid (adt _),hid ⟨S0.out,by omega,aBh _ _ _ _,aBh _ _ _ _,λs hs=>by simp at hs⟩,A2,A4,b3,by simp⟩
 case round=>
  obtain⟨k,aY,ss,vK,vH,hk,rfl,HI,HS,H2,H4,HB,hsz⟩:=hrel;rename World=>W0;clear S0 A2 A4 b3;have arF:=ai7 HI.out;have ar2:=HI.out.len;by_cases hlk:k<K
  ·have hown:=ae HR.out HB.out;have h8:lU ((List.range K).map λi=>wI (out i) (nx i)):=λs hs=>by
    obtain⟨i,_,rfl⟩:=aBM.1 hs;rfl
   have hat:dF ((List.range K).map λi=>wI (out i) (nx i)) k=wI (out k) (nx k):=by simp[dF,List.getD,hlk]
   have cl:∀ j u,j<9->(jT (wI (out k) (nx k)))[j]?=some u->W0.cell? ⟨g,k*9+j,none⟩=some u:=λj u hj hu=>by
    rw[hown.cellAt (k*9+j) (by omega),FP h8 (by simpa using hlk) hj,hat,hu]
   have y0:W0.cell? ⟨g,k*9,none⟩=some (.int .i64 (out k:Nat)):=cl 0 _ (by omega) rfl;have y1:W0.cell? ⟨g,k*9+1,none⟩=some (.int .i64 (nx k 0:Nat)):=cl 1 _ (by omega) rfl;have y2:W0.cell? ⟨g,k*9+2,none⟩=some (.int .i64 (nx k 1:Nat)):=cl 2 _ (by omega) rfl;have y3:W0.cell? ⟨g,k*9+3,none⟩=some (.int .i64 (nx k 2:Nat)):=cl 3 _ (by omega) rfl;have y4:W0.cell? ⟨g,k*9+4,none⟩=some (.int .i64 (nx k 3:Nat)):=cl 4 _ (by omega) rfl;have y5:W0.cell? ⟨g,k*9+5,none⟩=some (.int .i64 (nx k 4:Nat)):=cl 5 _ (by omega) rfl;have y6:W0.cell? ⟨g,k*9+6,none⟩=some (.int .i64 (nx k 5:Nat)):=cl 6 _ (by omega) rfl;have y7:W0.cell? ⟨g,k*9+7,none⟩=some (.int .i64 (nx k 6:Nat)):=cl 7 _ (by omega) rfl;have y8:W0.cell? ⟨g,k*9+8,none⟩=some (.int .i64 (nx k 7:Nat)):=cl 8 _ (by omega) rfl;have HX:Hid (∀ j,j<8->(#[Value.int .i64 (nx k 0:Nat),.int .i64 (nx k 1:Nat),.int .i64 (nx k 2:Nat),.int .i64 (nx k 3:Nat),.int .i64 (nx k 4:Nat),.int .i64 (nx k 5:Nat),.int .i64 (nx k 6:Nat),.int .i64 (nx k 7:Nat)]:Array Value)[j]?=some (.int .i64 (nx k j:Nat))):=hid (λj hj=>by
    have:j=0\/j=1\/j=2\/j=3\/j=4\/j=5\/j=6\/j=7:=by omega
    rcases this with rfl | rfl | rfl | rfl | rfl | rfl | rfl | rfl <;> rfl)
   have Ef:=hid (λa (ha:a<8)=>yM.out k a hlk ha);clear cl hat h8 hown;have bA:=(aAW W0.heap.size W0).alloc (aAU _) (.cells #[.int .i64 (out k:Nat),.int .i64 (nx k 0:Nat),.int .i64 (nx k 1:Nat),.int .i64 (nx k 2:Nat),.int .i64 (nx k 3:Nat),.int .i64 (nx k 4:Nat),.int .i64 (nx k 5:Nat),.int .i64 (nx k 6:Nat),.int .i64 (nx k 7:Nat)] 119);have bB:=bA.alloc (by simp) (.cells #[.int .i64 (out k:Nat),.int .i64 0,.int .i64 0,.int .i64 0,.int .i64 0,.int .i64 0,.int .i64 0,.int .i64 0,.int .i64 0] 119);have N0:=Ra (W0.alloc (.cells #[.int .i64 (out k:Nat),.int .i64 (nx k 0:Nat),.int .i64 (nx k 1:Nat),.int .i64 (nx k 2:Nat),.int .i64 (nx k 3:Nat),.int .i64 (nx k 4:Nat),.int .i64 (nx k 5:Nat),.int .i64 (nx k 6:Nat),.int .i64 (nx k 7:Nat)] 119)) (out k) 119;rw[show (W0.alloc (.cells #[.int .i64 (out k:Nat),.int .i64 (nx k 0:Nat),.int .i64 (nx k 1:Nat),.int .i64 (nx k 2:Nat),.int .i64 (nx k 3:Nat),.int .i64 (nx k 4:Nat),.int .i64 (nx k 5:Nat),.int .i64 (nx k 6:Nat),.int .i64 (nx k 7:Nat)] 119)).heap.size=W0.heap.size+1 by simp]at N0;have N0:=hid N0;have BB:=hid bB;clear bA bB;go_wp2_with fail;clear y0 y1 y2 y3 y4 y5 y6 y7 y8
   go_loopw [23] (λi wq=>∃ l:Nat,l<=8/\i=.int .i64 l/\Hid (mY wq (W0.heap.size+1) (out k) ((List.range l).map λa=>eX yj (nx k a)))/\Hid (Below W0.heap.size W0 wq)/\W0.heap.size+1<wq.heap.size) (λi _=>8 - (intOf i).toNat)
   case atStart=>exact⟨0,by omega,rfl,N0,BB,by simp⟩
   case round=>
    obtain⟨l,hl,rfl,HN,Ac,axT⟩:=hrel;rename World=>W1;clear N0 BB;by_cases jW:l<8
    ·have IX:=λW=>kr (P:=Tryz.prog) W Tryz.underlying117 (ng Tryz.underlying3) (by kernel_rfl) jW (HX.out l jW);have hto:=Ef.out l jW;obtain⟨gK,eK,hgK,hkc⟩:=HKR.out (by omega);subst eK;have z0:=(Ac.out.cell (p:=⟨w.heap.size,0,none⟩) H2.out.lt).trans H2.out.c0;have zc:W1.cell? ⟨gK,nx k l,none⟩=some (.int .i64 (eX yj (nx k l):Nat)):=(Ac.out.cell (p:=⟨gK,nx k l,none⟩) (by show gK<W0.heap.size;omega)).trans ((HB.out.cell (p:=⟨gK,nx k l,none⟩) hgK).trans (hkc _ hto));have Oj:((List.range l).map λa=>eX yj (nx k a)).length=l:=by simp
     have n1:=HN.out.c l jW;have n2:=HN.out.f (1+l) (by omega);have D8:=HN.out.set (j:=eX yj (nx k l)) (by rw[Oj];exact jW);rw[Oj,show ((List.range l).map λa=>eX yj (nx k a))++[eX yj (nx k l)]=(List.range (l+1)).map λa=>eX yj (nx k a) by rw[aBL,aBE];rfl]at D8;have D8:=hid D8;have DB:=hid (Ac.out.setCell (p:=⟨W0.heap.size+1,1+l,none⟩) (by show W0.heap.size<=W0.heap.size+1;omega) (.int .i64 (eX yj (nx k l):Nat)));clear hkc Oj;generalize ((List.range l).map λa=>eX yj (nx k a)).getD l 0=ov at *;generalize eX yj (nx k l)=kv at *;generalize nx k l=to at *;go_wp2_with fail;go_roundw
     case rel=>exact⟨l+1,by omega,by go_num,D8,DB,by simp;omega⟩
     case measure=>simp[intOf];omega
    ·obtain rfl:l=8:=by omega
     obtain⟨q0,qc⟩:=Vg HN.out;have q1:W1.cell? ⟨W0.heap.size+1,1,none⟩=_:=qc 0 (by omega);have q2:W1.cell? ⟨W0.heap.size+1,2,none⟩=_:=qc 1 (by omega);have q3:W1.cell? ⟨W0.heap.size+1,3,none⟩=_:=qc 2 (by omega);have q4:W1.cell? ⟨W0.heap.size+1,4,none⟩=_:=qc 3 (by omega);have q5:W1.cell? ⟨W0.heap.size+1,5,none⟩=_:=qc 4 (by omega);have q6:W1.cell? ⟨W0.heap.size+1,6,none⟩=_:=qc 5 (by omega);have q7:W1.cell? ⟨W0.heap.size+1,7,none⟩=_:=qc 6 (by omega);have q8:W1.cell? ⟨W0.heap.size+1,8,none⟩=_:=qc 7 (by omega);have S1:=hid (HS.out.below Ac.out);have ayh:=Ac.out.size;clear qc;go_wp2_with fail;refine(adn W1 _ _ _ _ aY ss _ _ _ _ _ _ _ _ _ S1.out (by omega) (by omega) (by omega)).mono ?_;rintro e w5 ⟨rfl,j,vK5,vH5,xR,M5,K5,lL⟩;have R5:Hid (BG (Nk out nx (eX yj)) (k+1) (aY++[j]) xR):=hid (by
      rcases lL with⟨rfl,h1⟩ | ⟨rfl,rfl,h1⟩
      ·exact ai5 HI.out h1
      ·exact ai6 HI.out h1)
     have nb:∀ b,b<w.heap.size+3->b≠w.heap.size+2->w5.heap[b]?=W1.heap[b]?:=λb hb hne=>K5.block b (by omega) hne (λe=>by have:=(S1.out.kd.lt b e.symm).1;omega) (λe=>by have:=(S1.out.sh.lt b e.symm).1;omega);have tw:∀ b x y,b<w.heap.size+3->b≠w.heap.size+2->Two W1 b x y->Two w5 b x y:=λb x y hb hne h=>⟨(aBf (a:=⟨b,0,none⟩) (nb b hb hne)).trans h.c0,(aBf (a:=⟨b,1,none⟩) (nb b hb hne)).trans h.c1,(aBg (a:=⟨b,0,none⟩) (nb b hb hne)).trans h.f0,(aBg (a:=⟨b,1,none⟩) (nb b hb hne)).trans h.f1⟩;have D2:=hid (tw _ _ _ (by omega) (by omega) (H2.out.below Ac.out H2.out.lt));have D4:=hid (tw _ _ _ (by omega) (by omega) (H4.out.below Ac.out H4.out.lt));have DB:=hid (Jw (HB.out.trans (Ac.out.mono HB.out.size)) K5 (by omega) (by omega) (λq h=>by have:=(S1.out.kd.lt q h).1;omega) (λq h=>by have:=(S1.out.sh.lt q h).1;omega));have M5:=hid M5;have tL:=K5.size;clear lL K5 nb tw S1 q0 q1 q2 q3 q4 q5 q6 q7 q8;go_wp2_with fail;go_roundw
     case rel=>exact⟨k+1,aY++[j],xR,vK5,vH5,by omega,by go_num,R5,M5,D2,D4,DB,by omega⟩
     case measure=>simp[intOf];omega
  ·obtain rfl:k=K:=by omega
   clear ar2 arF;obtain⟨vV,vJ,rfl⟩:=ai HS.out.kd;obtain⟨wP,wN,rfl⟩:=ai HS.out.sh;have s0:=HS.out.t.c0;have s1:=HS.out.t.c1;have d0:=H4.out.c0;have d1:=H4.out.c1;have f0:=H4.out.f0;have f1:=H4.out.f1;go_wp2_with fail;refine zf (cs:=[.slice vV aY.length vJ,.slice wP ss.length wN]) (b:=w.heap.size+1) Tryz.results71 ?_ ?_ ?_ Tryz.underlying122 rfl Tryz.ac1 ?_
   ·rfl
   ·rfl
   ·exact uo d0 d1 _ _
   ·refine⟨_,_,aY,ss,rfl,HI.out,HS.out.e8,?_,?_,(HB.out.setCell (p:=⟨w.heap.size+1,0,none⟩) (by show w.heap.size<=w.heap.size+1;omega) _).setCell (p:=⟨w.heap.size+1,1,none⟩) (by show w.heap.size<=w.heap.size+1;omega) _⟩
    ·exact bJ (ax (ax HS.out.kd (show w.heap.size+1<w.heap.size+3 by omega) 0 _) (show w.heap.size+1<w.heap.size+3 by omega) 1 _) (by omega)
    ·exact bJ (ax (ax HS.out.sh (show w.heap.size+1<w.heap.size+3 by omega) 0 _) (show w.heap.size+1<w.heap.size+3 by omega) 1 _) (by omega)
