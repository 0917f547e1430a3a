import Derived.Test.YtjagijohfkffiabGreatFREM34
set_option maxHeartbeats 16000000
set_option maxRecDepth 100000
set_option linter.unusedSimpArgs false
namespace Go.Proofs.YtjagijohfkffiabGreat
open Go.RowKit
set_option linter.unusedVariables false
def Qn(ns:List Nd)(ss:List St):Prop:=∃ out nx,Av ns ss.length out nx/\∀ c,c<ss.length->ss[c]?=some (wI (out c) (nx c))
section
variable {ns:List Nd} {aa:Nat->Bool} {us:List (List Nat)} {xs:List Nat}
structure Ui (out:Nat->Nat) (nx:Nat->Nat->Nat) (K:Nat) (aY:List Nat) (n:Nat):Prop where
 len:aY.length=K
 fo:Fo (eX aY) K
 cnt:n=bI (eX aY) K
 like:∀ i j,i<K->j<K->iU out nx out nx i j->eX aY i=eX aY j
 fin:∀ gU,Rfn K out nx (eX aY) gU->∀ i j,i<K->j<K->gU i=gU j->eX aY i=eX aY j
theorem xD(K i:Nat):eX (List.replicate K 0) i=0:=by
 unfold eX;rw[List.getD];by_cases h:i<K
 ·simp[h]
 ·simp[List.getElem?_eq_none (show (List.replicate K 0).length<=i by simp;omega)]
theorem Tn:∀ m,bI (λ_=>0) (m+1)=1
 | 0=>rfl
 | m+1=>by rw[bI,Tn m];rfl
theorem adW(out:Nat->Nat)(nx:Nat->Nat->Nat){K:Nat}(hK:0<K):Ui out nx K (List.replicate K 0) 1:=by
 have e:eX (List.replicate K 0)=λ_=>0:=by funext i;exact xD K i
 obtain⟨m,rfl⟩:∃ m,K=m+1:=⟨K - 1,by omega⟩;refine⟨by simp,λi _=>by rw[xD];exact aA8 _,by rw[e,Tn],λi j _ _ _=>by rw[xD,xD],λgU _ i j _ _ _=>by rw[xD,xD]⟩
theorem aif{out:Nat->Nat}{nx:Nat->Nat->Nat}{K n:Nat}{aY kds':List Nat}{ss:List St}(hc:∀ i a,i<K->a<8->nx i a<K)(h:Ui out nx K aY n)(hr:BG (Nk out nx (eX aY)) K kds' ss):Ui out nx K kds' ss.length/\n<=ss.length:=by
 have hf:=ZQ hr;refine⟨⟨hr.len,hr.fo,hr.cnt,QQ hc hf h.like,λgU hk=>ads hc hf hk (h.fin _ hf)⟩,?_⟩;rw[h.cnt,hr.cnt];exact aeG h.fo hr.fo (h.fin _ hf)
theorem aig(hg:Good ns)(hl:jQ ns (bH ns ns.length) aa)(hE:jk ns aa (bu ns aa) us xs)(hx:xs.length=8*us.length){aY kds':List Nat}{ss:List St}
  (h:Ui (iJ ns aa (bu ns aa) us) (dZ xs) us.length aY ss.length) (hr:BG (Nk (iJ ns aa (bu ns aa) us) (dZ xs) (eX aY)) us.length kds' ss):Qn ns ss:=by
 have hf:=ZQ hr;have same:=abt h.fo hr.fo (h.fin _ hf) (by rw[<-h.cnt,<-hr.cnt]);have hc:=Bp hE hx;have ex:∀ c,∃ r,c<ss.length->r<us.length/\eX kds' r=c:=λc=>by
  by_cases hlt:c<ss.length
  ·obtain⟨r,h1,h2⟩:=vP hr.fo us.length (aAU _) c (by rw[<-hr.cnt];exact hlt);exact⟨r,λ_=>⟨h1,h2⟩⟩
  ·exact⟨0,λh=>absurd h hlt⟩
 let rep:Nat->Nat:=λc=>Classical.choose (ex c)
 have Rz:∀ c,c<ss.length->rep c<us.length/\eX kds' (rep c)=c:=λc=>Classical.choose_spec (ex c);have key:∀ i,i<us.length->eX kds' i<ss.length/\Nk (iJ ns aa (bu ns aa) us) (dZ xs) (eX aY) (rep (eX kds' i))=Nk (iJ ns aa (bu ns aa) us) (dZ xs) (eX aY) i:=λi hi=>by
  have h1:eX kds' i<ss.length:=(aA1.1 (hr.at_ i hi)).1;obtain⟨h2,h3⟩:=Rz _ h1;exact⟨h1,(ZR hr h2 hi).1 h3⟩
 refine⟨λc=>iJ ns aa (bu ns aa) us (rep c),λc a=>eX aY (dZ xs (rep c) a),?_,λc hlt=>?_⟩
 ·have hm:=Yl hg hl hE hx (kd:=eX kds') (out':=λc=>iJ ns aa (bu ns aa) us (rep c)) (nx':=λc a=>eX aY (dZ xs (rep c) a)) hr.fo ⟨λi hi=>(LV.1 (key i hi).2).1,λi a hi ha=>by
   have h9:eX aY (dZ xs (rep (eX kds' i)) a)=eX aY (dZ xs i a):=(LV.1 (key i hi).2).2 a ha;show eX aY (dZ xs (rep (eX kds' i)) a)=eX kds' (dZ xs i a);rw[h9,same _ (hc i a hi ha)]⟩ (QQ hc hf h.like)
  rw[<-hr.cnt]at hm;exact hm
 ·obtain⟨h2,h3⟩:=Rz c hlt;have:=hr.at_ _ h2;rw[h3]at this;exact this
end
theorem fQ{P:Program}(w:World){ops:Array Oper}{o:Oper}{a:Act}{K:Act->World->Prop}{Q:Exit->Act->World->Prop}{E:Prop}(hg:o.guard=none)(l c:Operand)(t:TypeId)(hop:o.op=Op.makeSlice t l c)
  (base:Nat) (e:TypeId) (i:TypeInfo) (z:Value) (size:Nat) (h1:P.underlying t=some (.slice e)) (h2:P.info? e=some i) (h3:i.zero=some z) (h4:i.size=size)
  (kl kc:IntKind) (L C:Int) (n:Nat) (hl:a.eval l=.int kl L) (hc:a.eval c=.int kc C) (hL:L=(n:Int)) (hC:C=(n:Int)) (b2:i.bytes*n<=281474976710656) (b3:n<=maxLen) (b4:base<=w.heap.size)
  (hK:∀ w',w'.ownsRow base e size (.slice (some ⟨w.heap.size,0,none⟩) n n) n (madeCells z.cells (n*size)).toList->w.grownBy w' none->K (a.put o.dst (.slice (some ⟨w.heap.size,0,none⟩) n n)) w') :
  if Region.wanted o (yielded ops a.tmps)=true then Oper.wp P o a w K Q else E:=by
 have hw:Region.wanted o (yielded ops a.tmps)=true:=by simp[Region.wanted,hg]
 rw[aBU hw];obtain⟨w',hrun,r1,r2⟩:=run_make_full (P:=P) w base t e i z size h1 h2 h3 h4 kl kc n b2 b3 b4;subst hL;subst hC;unfold Oper.wp;simp[execOp,hop,hl,hc,hrun,Result.andThen];exact hK w' r1 r2
theorem qW{w w':World}{b:Nat}{x y:Value}(h:Two w b x y)(hg:w.grownBy w' none):Two w' b x y:=by
 have hb:=hg.block b h.lt (by simp);exact⟨(aBf (a:=⟨b,0,none⟩) hb).trans h.c0,(aBf (a:=⟨b,1,none⟩) hb).trans h.c1,(aBg (a:=⟨b,0,none⟩) hb).trans h.f0,(aBg (a:=⟨b,1,none⟩) hb).trans h.f1⟩
def Yh(w:World)(b:Nat):Nat:=match w.cell? ⟨b,1,none⟩ with
 | some (.slice _ n _)=>n
 | _=>0
theorem NL{w:World}{b:Nat}{x:Value}{ao:Option Addr}{n c:Nat}(h:Two w b x (.slice ao n c)):Yh w b=n:=by unfold Yh;rw[h.c1]
def aiI(ns:List Nd)(w:World)(e:Ending)(w':World):Prop:=
 ((∃ ss v,e=.returned (.tuple #[v,.bool true])/\w'.ownsRow w.heap.size 119 9 v ss.length (ik ss)/\lU ss/\ss.length<=8/\Qn ns ss)\/(e=.returned (.tuple #[.slice none 0 0,.bool false])/\Big ns))/\Below w.heap.size w w'
theorem Zx(ns:List Nd)(aa:Nat->Bool)(us:List (List Nat))(xs:List Nat)(g cap B0:Nat)(w:World)(hg:Good ns)(hl:jQ ns (bH ns ns.length) aa)(hE:jk ns aa (bu ns aa) us xs)(hx:xs.length=8*us.length)(hK:us.length<=796594185)
  (hr:w.ownsRow B0 119 9 (.slice (some ⟨g,0,none⟩) us.length cap) us.length (ik ((List.range us.length).map λi=>wI (iJ ns aa (bu ns aa) us i) (dZ xs i)))) (kz:g<w.heap.size) :
  Calls Tryz.prog 33 #[.slice (some ⟨g,0,none⟩) us.length cap] w (aiI ns w):=by
 have Bo:0<us.length:=(aA1.1 hE.first).1
 have HC:=hid (Bp hE hx);have mI:=hid (adW (iJ ns aa (bu ns aa) us) (dZ xs) Bo);have iL:=hid (λ(aY kds':List Nat) (ss:List St) (h:Ui (iJ ns aa (bu ns aa) us) (dZ xs) us.length aY ss.length) hr=>aig hg hl hE hx (kds':=kds') h hr);have Lx:=hid (λ(aY:List Nat) (n:Nat) (h:Ui (iJ ns aa (bu ns aa) us) (dZ xs) us.length aY n) (h8:8<n)=>aaz hg hl hE hx (kd:=eX aY) h.fo h.like (by rw[<-h.cnt];exact h8));have HR:=hid hr;obtain⟨i0,hi,aR,aP,aN⟩:=info_parts Tryz.lW;obtain⟨i1,iC,fe,eZ,eY⟩:=info_parts Tryz.Ml;clear hr hE hx hl hg;generalize iJ ns aa (bu ns aa) us=out at *;generalize dZ xs=nx at *;generalize us.length=K at *;go_enter Tryz.func33,Tryz.ntmps33;go_wp2_with fail;rename_i KK hKK;have Dv:∀ (W:World) (S gK gH:Nat),Hid (Two W S (.slice (some ⟨gK,0,none⟩) K K) (.slice (some ⟨gH,0,none⟩) 1 1))->Hid (W.ownsRow w.heap.size 3 1 (.slice (some ⟨gK,0,none⟩) K K) K (madeCells (Value.int .i64 0).cells (K*1)).toList)->Hid (Below w.heap.size w W)->w.heap.size<=S->KK { tmps:=#[.slice (some ⟨g,0,none⟩) K cap,undef,.slice none 0 0,.bool false,.pointer (some ⟨S,0,none⟩),undef,.slice (some ⟨g,0,none⟩) K cap,.int .i64 (K:Nat),.slice (some ⟨gK,0,none⟩) K K,.slice (some ⟨gH,0,none⟩) 1 1,.agg #[.slice (some ⟨gK,0,none⟩) K K,.slice (some ⟨gH,0,none⟩) 1 1],undef,undef,undef,undef,undef,undef,undef,undef,undef,undef,undef,undef,undef,undef,undef,undef,undef],defers:=[] } W:=by
  intro W S gK gH TW OW BW akA;have arS:(List.replicate K 0).length=K:=by simp
  have NK:Hid (NR W (.slice (some ⟨gK,0,none⟩) K K) (List.replicate K 0)):=hid (by
   have h9:=AY (B:=w.heap.size) (v:=.slice (some ⟨gK,0,none⟩) K K) (l:=List.replicate K 0) (w:=W) (by
    rw[arS];have e9:(madeCells (Value.int .i64 0).cells (K*1)).toList=aD (List.replicate K 0):=by
     rw[show (Value.int .i64 0).cells=#[Value.int .i64 0] from rfl,Nat.mul_one,aBq];simp[aD]
    rw[<-e9];exact OW.out)
   exact h9)
  clear OW;go_wp2_with fail
  go_loopw [5] (λv5 wq=>∃ (aY:List Nat) (n:Nat) (vK:Value) (ao:Option Addr) (c:Nat),Hid (Ui out nx K aY n)/\Hid (NR wq vK aY)/\Hid (Two wq S vK (.slice ao n c))/\Hid (Below w.heap.size w wq)) (λ_ wq=>10 - Yh wq S)
  case atStart=>exact⟨_,1,_,_,1,mI,NK,TW,BW⟩
  case round=>
   obtain⟨aY,n,vK,ao,c,HKD,HNR,HTW,HB⟩:=hrel;rename World=>W0;clear TW NK BW;have t0:=HTW.out.c0;have t1:=HTW.out.c1;have mG:=HTW.out.lt;have PI:=hid (NL HTW.out);have HKL:=hid HKD.out.len;obtain⟨vV,vJ,eK,hcK,hrK⟩:=HNR.out;subst eK;by_cases hn:n<=8
   ·have h8:(n:Int)<=8:=by omega
    go_wp2_with fail;refine(XR K g cap B0 out nx aY (.slice vV aY.length vJ) (.slice ao n c) W0 hK (ae HR.out HB.out) (aBi kz HB.out.size) HNR.out HKL.out ⟨_,_,_,rfl⟩ HC.out).mono ?_;rintro e w5 ⟨vK5,vH5,CK,xR,rfl,hRF,h85,oK5,oH5,bV⟩;obtain⟨akb,ax5⟩:=aif HC.out HKD.out hRF;obtain⟨Jy,Jr,rfl⟩:=ai oK5;obtain⟨JA,Jt,rfl⟩:=ai oH5;have MX:=hid (HTW.out.below bV mG);have iM:=hid (HB.out.trans (bV.mono HB.out.size));have tL:=bV.size;have ba:=(aAW w5.heap.size w5).alloc (aAU _) (.cells #[.slice Jy CK.length Jr,.slice JA xR.length Jt] 122);have YY:=hid (MX.out.below ba (by omega));have kG:=hid (iM.out.trans (ba.mono iM.out.size));have OKR:=hid oK5;have OH6:=hid (ae oH5 ba);have q1:=YY.out.c1;have q0:=YY.out.c0;have f0:=YY.out.f0;have f1:=YY.out.f1;have asj:S<w5.heap.size:=by omega
    have HRF:=hid hRF;have as7:=hid akb;have H85:=hid h85;have p1:=MX.out.c1;have p0:=MX.out.c0;have g0:=MX.out.f0;have g1:=MX.out.f1;clear hRF akb h85 oK5 oH5 bV t0 t1;by_cases he:xR.length=n
    ·have HM:=hid (iL.out aY CK xR (by rw[he];exact HKD.out) HRF.out);have OHF:=hid (bJ OH6.out (show w.heap.size<=W0.heap.size from HB.out.size));subst he;clear ba;go_wp2_with fail
     go_ret2
     exact⟨aA2 ⟨xR,_,rfl,OHF.out,H85.out,hn,HM.out⟩,kG.out⟩
    ·have he1:¬ ((xR.length:Int)=(n:Int)):=by omega
     have D1:=hid (((MX.out.set0 (.slice Jy CK.length Jr)).set1 (.slice JA xR.length Jt)).below ((aAW w5.heap.size _).alloc (by simp) (.cells #[.slice Jy CK.length Jr,.slice JA xR.length Jt] 122)) asj);have D3:=hid (((iM.out.setCell (p:=⟨S,0,none⟩) akA (.slice Jy CK.length Jr)).setCell (p:=⟨S,1,none⟩) akA (.slice JA xR.length Jt)).alloc (by have:=iM.out.size;simp;omega) (.cells #[.slice Jy CK.length Jr,.slice JA xR.length Jt] 122));have D2:=hid (AY ((ax (ax OKR.out (show S<W0.heap.size from mG) 0 (.slice Jy CK.length Jr)) (show S<W0.heap.size from mG) 1 (.slice JA xR.length Jt)).alloc (.cells #[.slice Jy CK.length Jr,.slice JA xR.length Jt] 122)));have bZ:=hid (NL D1.out);clear ba;go_wp2_with fail;go_roundw
     case rel=>exact⟨CK,xR.length,_,_,_,as7,D2,D1,D3⟩
     case measure=>
      have h1:=bZ.out;have h2:=PI.out;omega
   ·have h8:¬ ((n:Int)<=8):=by omega
    have Cb:=hid (Lx.out aY n HKD.out (by omega));go_wp2_with fail
    go_ret2
    exact⟨aA3 ⟨rfl,Cb.out⟩,HB.out⟩
 refine wp_region_held_drew (S:=λ_=>True) (by kernel_rfl) trivial (λau=>?_);refine aA4 (i:=0) (oi:={ dst:=some 6,op:=Op.move (.tmp 0),type:=_,pos:=_,after:=_,guard:=none }) (v:=(Value.slice (some ⟨g,0,none⟩) K cap)) rfl (by kernel_rfl) (by kernel_rfl) (by kernel_rfl) (λ_ _ _ h=>h) (aA2 ⟨by rfl,by intro w' af;(try dsimp only at af);go_simp⟩) (by assumption) ?_
 simp only[Act.put,aAT,aAX,aAY];refine aA4 (i:=1) (oi:={ dst:=some 7,op:=Op.call { callee:=Callee.builtin Builtin.len,args:=#[.tmp 6],argTypes:=_ },type:=_,pos:=_,after:=_,guard:=none }) (v:=(Value.int .i64 (K:Nat))) rfl (by kernel_rfl) (by kernel_rfl) (by kernel_rfl) (λ_ _ _ h=>h) (aA2 ⟨by rfl,by intro w' af;(try dsimp only at af);go_simp⟩) (by assumption) ?_
 simp only[Act.put,aAT,aAX,aAY];have bG:Below w.heap.size w w.drew:=(aAW w.heap.size w).drew;refine aBc (rs:=[2,3,5]) (by kernel_rfl) (by simp) ?_;refine aA7 rfl (λKX hK=>?_) (aA7 rfl (λKX hK=>?_) (aA7 rfl (λKX hK=>?_) aBb))
 ·refine fQ _ (by rfl) (.tmp 7) (.tmp 7) 22 (by rfl) w.heap.size 3 i0 (.int .i64 0) 1 Tryz.underlying22 hi aR aP .i64 .i64 K K K (by rfl) (by rfl) rfl rfl (by rw[aN];omega) (by unfold maxLen;omega) (by first | exact bG.size | (have h9:=bG.size;simp;omega)) ?_
  intro wM own gM;refine hK.out _ _ trivial (λau=>?_);clear hK KX
  try simp only[Act.put]
  try simp only[aAT]
  have bG:Below w.heap.size w wM:=bG.grown gM (by first | exact bG.size | (have h9:=bG.size;simp;omega)) (λk h=>by cases h)
  refine aBc (rs:=[3,5]) (by kernel_rfl) (by simp) ?_;refine aA7 rfl (λKX hK=>?_) (aA7 rfl (λKX hK=>?_) aBb)
  ·refine fQ _ (by rfl) (.const (.int .i64 1)) (.const (.int .i64 1)) 65 (by rfl) w.heap.size 119 i1 (.agg #[.int .i64 0,.int .i64 0,.int .i64 0,.int .i64 0,.int .i64 0,.int .i64 0,.int .i64 0,.int .i64 0,.int .i64 0]) 9 Tryz.underlying65 iC fe eZ .i64 .i64 1 1 1 (by rfl) (by rfl) rfl rfl (by rw[eY];omega) (by unfold maxLen;omega) (by first | exact bG.size | (have h9:=bG.size;simp;omega)) ?_
   intro wH oH gH;have own:=own.kept gH (aA3 (by simp[Value.ownBlock]));refine hK.out _ _ trivial (λau=>?_);clear hK KX
   try simp only[Act.put]
   try simp only[aAT]
   have bG:Below w.heap.size w wH:=bG.grown gH (by first | exact bG.size | (have h9:=bG.size;simp;omega)) (λk h=>by cases h)
   refine aA4 (i:=4) (oi:={ dst:=some 10,op:=Op.build 122 #[(0,.tmp 8),(1,.tmp 9)],type:=_,pos:=_,after:=_,guard:=none }) (v:=.agg #[.slice (some ⟨w.heap.size,0,none⟩) K K,.slice (some ⟨(wM).heap.size,0,none⟩) 1 1]) rfl (by kernel_rfl) (by kernel_rfl) (by kernel_rfl) (λ_ _ _ h=>h) (aA2 ⟨by rfl,by intro w' af;go_simp⟩) (by assumption) ?_
   try simp only[Act.put]
   try simp only[aAT]
   refine aBc (rs:=[5]) (by kernel_rfl) (by simp) ?_;refine aA7 rfl (λKX hK=>?_) aBb
   go_simp
   refine hK.out _ _ trivial (λau=>?_);clear hK KX
   try simp only[Act.put]
   try simp only[aAT]
   refine aBc (rs:=[6]) (by kernel_rfl) (by simp) ?_;refine aA7 rfl (λKX hK=>?_) aBb
   go_simp
   refine hK.out _ _ trivial (λau=>?_);clear hK KX;refine aBS (by kernel_rfl) ?_ _;exact Dv _ (wH).heap.size (w.heap.size) ((wM).heap.size) (hid (dD (wH) (.slice (some ⟨w.heap.size,0,none⟩) K K) (.slice (some ⟨(wM).heap.size,0,none⟩) 1 1) 122)) (hid (own.alloc _)) (hid (bG.alloc bG.size _)) bG.size
  ·go_simp
   refine hK.out _ _ trivial (λau=>?_);clear hK KX
   try simp only[Act.put]
   try simp only[aAT]
   have hne:(wM).heap.size≠w.heap.size:=λe=>Nat.lt_irrefl _ (Nat.lt_of_lt_of_eq (own.lt _ rfl).2 e);have own:=own.alloc (.cells #[.slice none 0 0,.slice none 0 0] 122);have mG:w.heap.size<=(wM).heap.size:=bG.size;have tw:Two ((wM).alloc (.cells #[.slice none 0 0,.slice none 0 0] 122)) (wM).heap.size (.slice none 0 0) (.slice none 0 0):=dD (wM) (.slice none 0 0) (.slice none 0 0) 122;have bG:=bG.alloc bG.size (.cells #[.slice none 0 0,.slice none 0 0] 122);refine aBc (rs:=[3]) (by kernel_rfl) (by simp) ?_;refine aA7 rfl (λKX hK=>?_) aBb
   ·refine fQ _ (by rfl) (.const (.int .i64 1)) (.const (.int .i64 1)) 65 (by rfl) w.heap.size 119 i1 (.agg #[.int .i64 0,.int .i64 0,.int .i64 0,.int .i64 0,.int .i64 0,.int .i64 0,.int .i64 0,.int .i64 0,.int .i64 0]) 9 Tryz.underlying65 iC fe eZ .i64 .i64 1 1 1 (by rfl) (by rfl) rfl rfl (by rw[eY];omega) (by unfold maxLen;omega) (by first | exact bG.size | (have h9:=bG.size;simp;omega)) ?_
    intro wH oH gH;have own:=own.kept gH (aA3 (by simp[Value.ownBlock]));have tw:=qW tw gH;refine hK.out _ _ trivial (λau=>?_);clear hK KX
    try simp only[Act.put]
    try simp only[aAT]
    have bG:Below w.heap.size w wH:=bG.grown gH (by first | exact bG.size | (have h9:=bG.size;simp;omega)) (λk h=>by cases h)
    refine aA4 (i:=4) (oi:={ dst:=some 10,op:=Op.build 122 #[(0,.tmp 8),(1,.tmp 9)],type:=_,pos:=_,after:=_,guard:=none }) (v:=.agg #[.slice (some ⟨w.heap.size,0,none⟩) K K,.slice (some ⟨(wM).heap.size+1,0,none⟩) 1 1]) rfl (by kernel_rfl) (by kernel_rfl) (by kernel_rfl) (λ_ _ _ h=>h) (aA2 ⟨by rfl,by intro w' af;go_simp⟩) (by assumption) ?_
    try simp only[Act.put]
    try simp only[aAT]
    have t0:=tw.c0;have t1:=tw.c1;have u0:=tw.f0;have u1:=tw.f1;refine aBc (rs:=[6]) (by kernel_rfl) (by simp) ?_;refine aA7 rfl (λKX hK=>?_) aBb
    go_simp
    refine hK.out _ _ trivial (λau=>?_);clear hK KX;refine aBS (by kernel_rfl) ?_ _;exact Dv _ ((wM).heap.size) (w.heap.size) ((wM).heap.size+1) (hid ((tw.set0 _).set1 _)) (hid (bz (bz own ⟨(wM).heap.size,0,none⟩ _ (λe=>hne (Option.some.inj e).symm)) ⟨(wM).heap.size,1,none⟩ _ (λe=>hne (Option.some.inj e).symm))) (hid ((bG.setCell (p:=⟨(wM).heap.size,0,none⟩) mG _).setCell (p:=⟨(wM).heap.size,1,none⟩) mG _)) mG
 ·refine fQ _ (by rfl) (.const (.int .i64 1)) (.const (.int .i64 1)) 65 (by rfl) w.heap.size 119 i1 (.agg #[.int .i64 0,.int .i64 0,.int .i64 0,.int .i64 0,.int .i64 0,.int .i64 0,.int .i64 0,.int .i64 0,.int .i64 0]) 9 Tryz.underlying65 iC fe eZ .i64 .i64 1 1 1 (by rfl) (by rfl) rfl rfl (by rw[eY];omega) (by unfold maxLen;omega) (by first | exact bG.size | (have h9:=bG.size;simp;omega)) ?_
  intro wH oH gH;refine hK.out _ _ trivial (λau=>?_);clear hK KX
  try simp only[Act.put]
  try simp only[aAT]
  have bG:Below w.heap.size w wH:=bG.grown gH (by first | exact bG.size | (have h9:=bG.size;simp;omega)) (λk h=>by cases h)
  refine aBc (rs:=[2,5]) (by kernel_rfl) (by simp) ?_;refine aA7 rfl (λKX hK=>?_) (aA7 rfl (λKX hK=>?_) aBb)
  ·refine fQ _ (by rfl) (.tmp 7) (.tmp 7) 22 (by rfl) w.heap.size 3 i0 (.int .i64 0) 1 Tryz.underlying22 hi aR aP .i64 .i64 K K K (by rfl) (by rfl) rfl rfl (by rw[aN];omega) (by unfold maxLen;omega) (by first | exact bG.size | (have h9:=bG.size;simp;omega)) ?_
   intro wM own gM;refine hK.out _ _ trivial (λau=>?_);clear hK KX
   try simp only[Act.put]
   try simp only[aAT]
   have bG:Below w.heap.size w wM:=bG.grown gM (by first | exact bG.size | (have h9:=bG.size;simp;omega)) (λk h=>by cases h)
   refine aA4 (i:=4) (oi:={ dst:=some 10,op:=Op.build 122 #[(0,.tmp 8),(1,.tmp 9)],type:=_,pos:=_,after:=_,guard:=none }) (v:=.agg #[.slice (some ⟨(wH).heap.size,0,none⟩) K K,.slice (some ⟨w.heap.size,0,none⟩) 1 1]) rfl (by kernel_rfl) (by kernel_rfl) (by kernel_rfl) (λ_ _ _ h=>h) (aA2 ⟨by rfl,by intro w' af;go_simp⟩) (by assumption) ?_
   try simp only[Act.put]
   try simp only[aAT]
   refine aBc (rs:=[5]) (by kernel_rfl) (by simp) ?_;refine aA7 rfl (λKX hK=>?_) aBb
   go_simp
   refine hK.out _ _ trivial (λau=>?_);clear hK KX
   try simp only[Act.put]
   try simp only[aAT]
   refine aBc (rs:=[6]) (by kernel_rfl) (by simp) ?_;refine aA7 rfl (λKX hK=>?_) aBb
   go_simp
   refine hK.out _ _ trivial (λau=>?_);clear hK KX;refine aBS (by kernel_rfl) ?_ _;exact Dv _ (wM).heap.size ((wH).heap.size) (w.heap.size) (hid (dD (wM) (.slice (some ⟨(wH).heap.size,0,none⟩) K K) (.slice (some ⟨w.heap.size,0,none⟩) 1 1) 122)) (hid (own.alloc _)) (hid (bG.alloc bG.size _)) bG.size
  ·go_simp
   refine hK.out _ _ trivial (λau=>?_);clear hK KX
   try simp only[Act.put]
   try simp only[aAT]
   have mG:w.heap.size<=(wH).heap.size:=bG.size;have tw:Two ((wH).alloc (.cells #[.slice none 0 0,.slice none 0 0] 122)) (wH).heap.size (.slice none 0 0) (.slice none 0 0):=dD (wH) (.slice none 0 0) (.slice none 0 0) 122;have bG:=bG.alloc bG.size (.cells #[.slice none 0 0,.slice none 0 0] 122);refine aBc (rs:=[2]) (by kernel_rfl) (by simp) ?_;refine aA7 rfl (λKX hK=>?_) aBb
   ·refine fQ _ (by rfl) (.tmp 7) (.tmp 7) 22 (by rfl) w.heap.size 3 i0 (.int .i64 0) 1 Tryz.underlying22 hi aR aP .i64 .i64 K K K (by rfl) (by rfl) rfl rfl (by rw[aN];omega) (by unfold maxLen;omega) (by first | exact bG.size | (have h9:=bG.size;simp;omega)) ?_
    intro wM own gM;have own:wM.ownsRow w.heap.size 3 1 (.slice (some ⟨(wH).heap.size+1,0,none⟩) K K) K (madeCells (Value.int .i64 0).cells (K*1)).toList:=by
     have h9:=own
     first | (simp only[aAZ]at h9;exact h9) | (rw[show (w.alloc (.cells #[.slice none 0 0,.slice none 0 0] 122)).drew.heap.size=w.heap.size+1 from aAZ ..]at h9;exact h9)
    have hne:(wH).heap.size≠(wH).heap.size+1:=λe=>Nat.lt_irrefl _ (Nat.lt_of_lt_of_eq tw.lt (by rw[aAZ];exact e.symm));have tw:=qW tw gM;refine hK.out _ _ trivial (λau=>?_);clear hK KX
    try simp only[Act.put]
    try simp only[aAT]
    have bG:Below w.heap.size w wM:=bG.grown gM (by first | exact bG.size | (have h9:=bG.size;simp;omega)) (λk h=>by cases h)
    refine aA4 (i:=4) (oi:={ dst:=some 10,op:=Op.build 122 #[(0,.tmp 8),(1,.tmp 9)],type:=_,pos:=_,after:=_,guard:=none }) (v:=.agg #[.slice (some ⟨(wH).heap.size+1,0,none⟩) K K,.slice (some ⟨w.heap.size,0,none⟩) 1 1]) rfl (by kernel_rfl) (by kernel_rfl) (by kernel_rfl) (λ_ _ _ h=>h) (aA2 ⟨by rfl,by intro w' af;go_simp⟩) (by assumption) ?_
    try simp only[Act.put]
    try simp only[aAT]
    have t0:=tw.c0;have t1:=tw.c1;have u0:=tw.f0;have u1:=tw.f1;refine aBc (rs:=[6]) (by kernel_rfl) (by simp) ?_;refine aA7 rfl (λKX hK=>?_) aBb
    go_simp
    refine hK.out _ _ trivial (λau=>?_);clear hK KX;refine aBS (by kernel_rfl) ?_ _;exact Dv _ ((wH).heap.size) ((wH).heap.size+1) (w.heap.size) (hid ((tw.set0 _).set1 _)) (hid (bz (bz own ⟨(wH).heap.size,0,none⟩ _ (λe=>hne (Option.some.inj e).symm)) ⟨(wH).heap.size,1,none⟩ _ (λe=>hne (Option.some.inj e).symm))) (hid ((bG.setCell (p:=⟨(wH).heap.size,0,none⟩) mG _).setCell (p:=⟨(wH).heap.size,1,none⟩) mG _)) mG
 ·go_simp
  refine hK.out _ _ trivial (λau=>?_);clear hK KX
  try simp only[Act.put]
  try simp only[aAT]
  have mG:w.heap.size<=w.heap.size:=bG.size;have tw:Two ((w.drew).alloc (.cells #[.slice none 0 0,.slice none 0 0] 122)) w.heap.size (.slice none 0 0) (.slice none 0 0):=dD (w.drew) (.slice none 0 0) (.slice none 0 0) 122;have bG:=bG.alloc bG.size (.cells #[.slice none 0 0,.slice none 0 0] 122);refine aBc (rs:=[2,3]) (by kernel_rfl) (by simp) ?_;refine aA7 rfl (λKX hK=>?_) (aA7 rfl (λKX hK=>?_) aBb)
  ·refine fQ _ (by rfl) (.tmp 7) (.tmp 7) 22 (by rfl) w.heap.size 3 i0 (.int .i64 0) 1 Tryz.underlying22 hi aR aP .i64 .i64 K K K (by rfl) (by rfl) rfl rfl (by rw[aN];omega) (by unfold maxLen;omega) (by first | exact bG.size | (have h9:=bG.size;simp;omega)) ?_
   intro wM own gM;have own:wM.ownsRow w.heap.size 3 1 (.slice (some ⟨w.heap.size+1,0,none⟩) K K) K (madeCells (Value.int .i64 0).cells (K*1)).toList:=by
    have h9:=own
    first | (simp only[aAZ]at h9;exact h9) | (rw[show (w.alloc (.cells #[.slice none 0 0,.slice none 0 0] 122)).drew.heap.size=w.heap.size+1 from aAZ ..]at h9;exact h9)
   have hne:w.heap.size≠w.heap.size+1:=λe=>Nat.lt_irrefl _ (Nat.lt_of_lt_of_eq tw.lt (by rw[aAZ];exact e.symm));have tw:=qW tw gM;refine hK.out _ _ trivial (λau=>?_);clear hK KX
   try simp only[Act.put]
   try simp only[aAT]
   have bG:Below w.heap.size w wM:=bG.grown gM (by first | exact bG.size | (have h9:=bG.size;simp;omega)) (λk h=>by cases h)
   refine aBc (rs:=[3]) (by kernel_rfl) (by simp) ?_;refine aA7 rfl (λKX hK=>?_) aBb
   ·refine fQ _ (by rfl) (.const (.int .i64 1)) (.const (.int .i64 1)) 65 (by rfl) w.heap.size 119 i1 (.agg #[.int .i64 0,.int .i64 0,.int .i64 0,.int .i64 0,.int .i64 0,.int .i64 0,.int .i64 0,.int .i64 0,.int .i64 0]) 9 Tryz.underlying65 iC fe eZ .i64 .i64 1 1 1 (by rfl) (by rfl) rfl rfl (by rw[eY];omega) (by unfold maxLen;omega) (by first | exact bG.size | (have h9:=bG.size;simp;omega)) ?_
    intro wH oH gH;have own:=own.kept gH (aA3 (by simp[Value.ownBlock]));have tw:=qW tw gH;refine hK.out _ _ trivial (λau=>?_);clear hK KX
    try simp only[Act.put]
    try simp only[aAT]
    have bG:Below w.heap.size w wH:=bG.grown gH (by first | exact bG.size | (have h9:=bG.size;simp;omega)) (λk h=>by cases h)
    refine aA4 (i:=4) (oi:={ dst:=some 10,op:=Op.build 122 #[(0,.tmp 8),(1,.tmp 9)],type:=_,pos:=_,after:=_,guard:=none }) (v:=.agg #[.slice (some ⟨w.heap.size+1,0,none⟩) K K,.slice (some ⟨(wM).heap.size,0,none⟩) 1 1]) rfl (by kernel_rfl) (by kernel_rfl) (by kernel_rfl) (λ_ _ _ h=>h) (aA2 ⟨by rfl,by intro w' af;go_simp⟩) (by assumption) ?_
    try simp only[Act.put]
    try simp only[aAT]
    have t0:=tw.c0;have t1:=tw.c1;have u0:=tw.f0;have u1:=tw.f1;refine aBc (rs:=[6]) (by kernel_rfl) (by simp) ?_;refine aA7 rfl (λKX hK=>?_) aBb
    go_simp
    refine hK.out _ _ trivial (λau=>?_);clear hK KX;refine aBS (by kernel_rfl) ?_ _;exact Dv _ (w.heap.size) (w.heap.size+1) ((wM).heap.size) (hid ((tw.set0 _).set1 _)) (hid (bz (bz own ⟨w.heap.size,0,none⟩ _ (λe=>hne (Option.some.inj e).symm)) ⟨w.heap.size,1,none⟩ _ (λe=>hne (Option.some.inj e).symm))) (hid ((bG.setCell (p:=⟨w.heap.size,0,none⟩) mG _).setCell (p:=⟨w.heap.size,1,none⟩) mG _)) mG
  ·refine fQ _ (by rfl) (.const (.int .i64 1)) (.const (.int .i64 1)) 65 (by rfl) w.heap.size 119 i1 (.agg #[.int .i64 0,.int .i64 0,.int .i64 0,.int .i64 0,.int .i64 0,.int .i64 0,.int .i64 0,.int .i64 0,.int .i64 0]) 9 Tryz.underlying65 iC fe eZ .i64 .i64 1 1 1 (by rfl) (by rfl) rfl rfl (by rw[eY];omega) (by unfold maxLen;omega) (by first | exact bG.size | (have h9:=bG.size;simp;omega)) ?_
   intro wH oH gH;have tw:=qW tw gH;refine hK.out _ _ trivial (λau=>?_);clear hK KX
   try simp only[Act.put]
   try simp only[aAT]
   have bG:Below w.heap.size w wH:=bG.grown gH (by first | exact bG.size | (have h9:=bG.size;simp;omega)) (λk h=>by cases h)
   refine aBc (rs:=[2]) (by kernel_rfl) (by simp) ?_;refine aA7 rfl (λKX hK=>?_) aBb
   ·refine fQ _ (by rfl) (.tmp 7) (.tmp 7) 22 (by rfl) w.heap.size 3 i0 (.int .i64 0) 1 Tryz.underlying22 hi aR aP .i64 .i64 K K K (by rfl) (by rfl) rfl rfl (by rw[aN];omega) (by unfold maxLen;omega) (by first | exact bG.size | (have h9:=bG.size;simp;omega)) ?_
    intro wM own gM;have hne:w.heap.size≠(wH).heap.size:=λe=>Nat.lt_irrefl _ (Nat.lt_of_lt_of_eq tw.lt e.symm);have tw:=qW tw gM;refine hK.out _ _ trivial (λau=>?_);clear hK KX
    try simp only[Act.put]
    try simp only[aAT]
    have bG:Below w.heap.size w wM:=bG.grown gM (by first | exact bG.size | (have h9:=bG.size;simp;omega)) (λk h=>by cases h)
    refine aA4 (i:=4) (oi:={ dst:=some 10,op:=Op.build 122 #[(0,.tmp 8),(1,.tmp 9)],type:=_,pos:=_,after:=_,guard:=none }) (v:=.agg #[.slice (some ⟨(wH).heap.size,0,none⟩) K K,.slice (some ⟨w.heap.size+1,0,none⟩) 1 1]) rfl (by kernel_rfl) (by kernel_rfl) (by kernel_rfl) (λ_ _ _ h=>h) (aA2 ⟨by rfl,by intro w' af;go_simp⟩) (by assumption) ?_
    try simp only[Act.put]
    try simp only[aAT]
    have t0:=tw.c0;have t1:=tw.c1;have u0:=tw.f0;have u1:=tw.f1;refine aBc (rs:=[6]) (by kernel_rfl) (by simp) ?_;refine aA7 rfl (λKX hK=>?_) aBb
    go_simp
    refine hK.out _ _ trivial (λau=>?_);clear hK KX;refine aBS (by kernel_rfl) ?_ _;exact Dv _ (w.heap.size) ((wH).heap.size) (w.heap.size+1) (hid ((tw.set0 _).set1 _)) (hid (bz (bz own ⟨w.heap.size,0,none⟩ _ (λe=>hne (Option.some.inj e).symm)) ⟨w.heap.size,1,none⟩ _ (λe=>hne (Option.some.inj e).symm))) (hid ((bG.setCell (p:=⟨w.heap.size,0,none⟩) mG _).setCell (p:=⟨w.heap.size,1,none⟩) mG _)) mG
theorem Tryz.uA:(Tryz.prog.info? 37).map (·.size)=some 2:=by kernel_rfl
theorem Zu{ns:List Nd}{aa:Nat->Bool}{us:List (List Nat)}{xs:List Nat}{SS:List St}(h:Gi ns aa (bu ns aa) us xs SS)(hl:SS.length=us.length):SS=(List.range us.length).map λi=>wI (iJ ns aa (bu ns aa) us i) (dZ xs i):=by
 apply List.ext_getElem
 ·simp[hl]
 ·intro i h1 h2;obtain⟨u,hu,_,e⟩:=h i SS[i] (aAV h1);rw[e];simp only[List.getElem_map,List.getElem_range];unfold wI iJ dZ;rw[show us.getD i []=u by simp[List.getD,hu]];rfl
def xJ(s:ByteArray)(w:World)(e:Ending)(w':World):Prop:=
 ∃ v1 v2 er,e=.returned (.tuple #[.agg #[v1,v2],.int .i64 (er:Nat)])/\((aB s).1≠0->er=(aB s).1/\v1=.slice none 0 0/\v2=.slice none 0 0) /\
  ((aB s).1=0->(er=0/\∃ ss V,lu w' w.heap.size v1 v2 V ss ss.length/\lU ss/\ss.length<=8/\Qn (aB s).2 ss)\/(er=7/\v1=.slice none 0 0/\v2=.slice none 0 0/\Big (aB s).2))/\Below w.heap.size w w'
section
variable (s:ByteArray) (w:World)
theorem acL(hm:s.size<=maxLen)(h:(aB s).1≠0):Calls Tryz.prog 11 #[.string s] w (xJ s w):=by
 have C:=λW=>Ex s W hm;unfold sV at C;unfold xJ;generalize aB s=p at *;have k:((p.1:Int) !=0)=true:=by rw[bne_iff_ne];omega
 go_enter Tryz.func11,Tryz.ntmps11;go_wp2_with fail;refine(C _).mono ?_;rintro e w1 ⟨ao,cap,rfl,_,hb⟩;simp only[aAZ]at hb;have T1:=(dD w (.slice none 0 0) (.slice none 0 0) 37).below hb (by omega);have d0:=T1.c0;have d1:=T1.c1;have e0:=T1.f0;have e1:=T1.f1;have HB:=hid (((aAW w.heap.size w).alloc (aAU _) (.cells #[.slice none 0 0,.slice none 0 0] 37)).trans (hb.mono (by omega)));clear C hb T1;go_wp2_with fail;refine fM (cs:=[.slice none 0 0,.slice none 0 0]) (v:=.int .i64 (p.1:Nat)) (b:=w.heap.size) Tryz.results11 ?_ ?_ ?_ ?_ Tryz.underlying37 rfl Tryz.uA ?_
 ·rfl
 ·rfl
 ·rfl
 ·exact uo d0 d1 _ _
 ·exact⟨_,_,p.1,rfl,λ_=>⟨rfl,rfl,rfl⟩,λh0=>absurd h0 h,(HB.out.setCell (p:=⟨w.heap.size,0,none⟩) (aAU _) _).setCell (p:=⟨w.heap.size,1,none⟩) (aAU _) _⟩
theorem Zd(hm:s.size<=maxLen)(h:(aB s).1=0):Calls Tryz.prog 11 #[.string s] w (xJ s w):=by
 have C:=λW=>Ex s W hm;unfold sV at C;have G:=hid (pF h);have SG:=hid (Nw h);unfold xJ;generalize aB s=p at *;obtain⟨p1,ns⟩:=p;dsimp only at *;subst h;have hpos:=G.out.pos;obtain⟨Rk,hlen⟩:∃ Rk,ns.length=Rk+1:=⟨ns.length - 1,by omega⟩;have bZ:=hid hlen;rw[hlen]at C;clear hlen hpos;have BP:=hid Tryz.IW;go_enter Tryz.func11,Tryz.ntmps11;go_wp2_with fail;refine(C _).mono ?_;rintro e w1 ⟨ao,cap,rfl,own,hb⟩;simp only[aAZ]at hb;obtain⟨gn,rfl,_,E9,_⟩:=Ba own (by omega);have ND:=hid (Z8 own bZ.out);have T1:=hid ((dD w (.slice none 0 0) (.slice none 0 0) 37).below hb (by omega));have aK:=hid (((aAW w.heap.size w).alloc (aAU _) (.cells #[.slice none 0 0,.slice none 0 0] 37)).trans (hb.mono (by omega)));have hs1:w.heap.size<w1.heap.size:=T1.out.lt;clear C own hb;go_wp2_with fail;refine(Rm gn Rk cap ns _ ND.out G.out bZ.out).mono ?_;rintro e w3 ⟨sl,aa,rfl,sF,hcv,V4,aI⟩;have uj:=hid sF;have cu:=hid (aK.out.trans (aI.mono (by omega)));have T3:=hid (T1.out.below aI hs1);have vF:w.heap.size<w3.heap.size:=T3.out.lt;clear sF aI hcv ND aK T1;have hth:(w3.alloc (.cells Tryz.zeroCells63 63)).there w3.heap.size 0 2561:=by
  have:=pE w3 (dM (λ_=>0) (.slice none 0 0) (λ_=>false) (λ_=>false)) 2561 63;rw[<-BP.out]at this;exact this.there 0 2561 (by omega)
 have HTH:=hid hth;clear hth;go_wp2_with (refine fH rfl 63 (.tmp 6) (.tmp 20) rfl w3.heap.size 2561 (dM (nO ns) sl aa (bu ns aa)) rfl rfl HTH.out Tryz.xA (CB _ _ _ V4) ?_);intro w4 S4;have OM:=hid (VL S4.at_);have Ph:Below w3.heap.size w3 w4:=S4.bG _ _ (aAU _) ((aAW _ _).alloc (aAU _) _);have iN:=hid (cu.out.trans (Ph.mono (by omega)));have T4:=hid (T3.out.below Ph vF);have zu:w.heap.size<w4.heap.size:=T4.out.lt;have h8:=G.out.le;clear S4 HTH cu Ph T3;go_wp2_with fail;refine(XD w3.heap.size ns aa (bu ns aa) w4 h8 (λus xs hE=>Jo G.out SG.out uj.out hE) OM.out).mono ?_;rintro e w5 ⟨us,xs,SS,vS,rfl,hE,hx,mG,hSO,hown,bV⟩;have hK:=Jo G.out SG.out uj.out hE;have Bo:0<us.length:=(aA1.1 hE.first).1
 rw[Zu hSO mG]at hown;obtain⟨wO,tV,rfl⟩:=ai hown;obtain⟨gS,rfl,_,hgS,_⟩:=dX hown Bo;have HE:=hid hE;have HX:=hid hx;have Ec:=hid hown;have iM:=hid (iN.out.trans (bV.mono (by omega)));have T5:=hid (T4.out.below bV zu);have tL:w.heap.size<w5.heap.size:=T5.out.lt;clear hE hx mG hSO hown bV iN T4 OM;go_wp2_with fail;refine(Zx ns aa us xs gS tV _ w5 G.out uj.out HE.out HX.out hK Ec.out hgS).mono ?_;rintro e w6 ⟨lL,jG⟩;have kG:=hid (iM.out.trans (jG.mono (by omega)));have T6:=hid (T5.out.below jG tL);have tK:w.heap.size<w6.heap.size:=T6.out.lt;clear jG iM T5;rcases lL with⟨ss,v,rfl,oss,h8s,hn8,hMS⟩ | ⟨rfl,akS⟩
 ·have hn0:0<ss.length:=by
   obtain⟨o9,n9,hM,_⟩:=hMS;exact Ez hM.num
  obtain⟨aov,cpv,rfl⟩:=ai oss;obtain⟨gv9,rfl,_,hgv,asf⟩:=dX oss hn0;have OSS:=hid oss;have H8S:=hid h8s;have HMS:=hid hMS;clear oss h8s hMS;go_wp2_with fail;refine(Nu gv9 ss.length cpv _ ss w6 OSS.out H8S.out rfl (by omega) hgv asf).mono ?_;rintro e w7 ⟨v1,v2,V,rfl,hL,oZ⟩;have HL:=hid (hL.mono (show w.heap.size+1<=w6.heap.size by omega));obtain⟨Gd,cp1,rfl⟩:=ai hL.out;obtain⟨mH,cp2,rfl⟩:=ai hL.nS;have iG:=hid (kG.out.trans (oZ.mono (by omega)));have T7:=T6.out.below oZ tK;have d0:=T7.c0;have d1:=T7.c1;have e0:=T7.f0;have e1:=T7.f1;clear hL oZ T7;go_wp2_with fail;refine fM (cs:=[.slice Gd ss.length cp1,.slice mH ss.length cp2]) (v:=.int .i64 (0:Nat)) (b:=w.heap.size) Tryz.results11 ?_ ?_ ?_ ?_ Tryz.underlying37 rfl Tryz.uA ?_
  ·rfl
  ·rfl
  ·rfl
  ·exact uo d0 d1 _ _
  ·exact⟨_,_,0,rfl,λh0=>absurd rfl h0,λ_=>aA2 ⟨rfl,ss,V,((HL.out.set (show w.heap.size<w.heap.size+1 by omega) 0 _).set (show w.heap.size<w.heap.size+1 by omega) 1 _).mono (by omega),H8S.out,hn8,HMS.out⟩,(iG.out.setCell (p:=⟨w.heap.size,0,none⟩) (aAU _) _).setCell (p:=⟨w.heap.size,1,none⟩) (aAU _) _⟩
 ·have Lx:=hid akS;have d0:=T6.out.c0;have d1:=T6.out.c1;have e0:=T6.out.f0;have e1:=T6.out.f1;clear akS;go_wp2_with fail;refine fM (cs:=[.slice none 0 0,.slice none 0 0]) (v:=.int .i64 (7:Nat)) (b:=w.heap.size) Tryz.results11 ?_ ?_ ?_ ?_ Tryz.underlying37 rfl Tryz.uA ?_
  ·rfl
  ·rfl
  ·rfl
  ·exact uo d0 d1 _ _
  ·exact⟨_,_,7,rfl,λh0=>absurd rfl h0,λ_=>aA3 ⟨rfl,rfl,rfl,Lx.out⟩,(kG.out.setCell (p:=⟨w.heap.size,0,none⟩) (aAU _) _).setCell (p:=⟨w.heap.size,1,none⟩) (aAU _) _⟩
theorem Ze(hm:s.size<=maxLen):Calls Tryz.prog 11 #[.string s] w (xJ s w):=by
 by_cases h:(aB s).1=0
 ·exact Zd s w hm h
 ·exact acL s w hm h
end
