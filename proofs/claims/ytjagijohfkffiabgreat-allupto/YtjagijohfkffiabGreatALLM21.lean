import Derived.Test.YtjagijohfkffiabGreatALLM20
set_option maxHeartbeats 16000000
set_option maxRecDepth 100000
set_option linter.unusedSimpArgs false
namespace Go.Proofs.YtjagijohfkffiabGreat
open Go.RowKit
set_option linter.unusedVariables false
def MV(ns:List Nd)(ss:List St):Prop:=∃ out nx,EF ns ss.length out nx/\∀ c,c<ss.length->ss[c]?=some (yj (out c) (nx c))
section
variable {ns:List Nd} {aa:Nat->Bool} {us:List (List Nat)} {xs:List Nat}
structure VM (out:Nat->Nat) (nx:Nat->Nat->Nat) (K:Nat) (bC:List Nat) (n:Nat):Prop where
 len:bC.length=K
 fo:Fo (fE bC) K
 cnt:n=bH (fE bC) K
 like:∀ i j,i<K->j<K->jr out nx out nx i j->fE bC i=fE bC j
 fin:∀ iE,Rfn K out nx (fE bC) iE->∀ i j,i<K->j<K->iE i=iE j->fE bC i=fE bC j
theorem zi(K i:Nat):fE (List.replicate K 0) i=0:=by
 unfold fE;rw[List.getD];by_cases h:i<K
 ·simp[h]
 ·simp[List.getElem?_eq_none (show (List.replicate K 0).length<=i by simp;omega)]
theorem Vk:∀ m,bH (λ_=>0) (m+1)=1
 | 0=>rfl
 | m+1=>by rw[bH,Vk m];rfl
theorem afJ(out:Nat->Nat)(nx:Nat->Nat->Nat){K:Nat}(hK:0<K):VM out nx K (List.replicate K 0) 1:=by
 have e:fE (List.replicate K 0)=λ_=>0:=by funext i;exact zi K i
 obtain⟨m,rfl⟩:∃ m,K=m+1:=⟨K - 1,by omega⟩;refine⟨by simp,λi _=>by rw[zi];exact aCg _,by rw[e,Vk],λi j _ _ _=>by rw[zi,zi],λa _ i j _ _ _=>by rw[zi,zi]⟩
theorem ajO{out:Nat->Nat}{nx:Nat->Nat->Nat}{K n:Nat}{bC kds':List Nat}{ss:List St}(hc:∀ i a,i<K->a<8->nx i a<K)(h:VM out nx K bC n)(hr:Da (Po out nx (fE bC)) K kds' ss):VM out nx K kds' ss.length/\n<=ss.length:=by
 have b:=abw hr;refine⟨⟨hr.len,hr.fo,hr.cnt,Sw hc b h.like,λd c=>afe hc b c (h.fin _ b)⟩,?_⟩;rw[h.cnt,hr.cnt];exact agr h.fo hr.fo (h.fin _ b)
theorem ajP(hg:Good ns)(hl:jf ns (aW ns ns.length) aa)(hE:gU ns aa (aL ns aa) us xs)(hx:xs.length=8*us.length){bC kds':List Nat}{ss:List St}
  (h:VM (dD ns aa (aL ns aa) us) (aZ xs) us.length bC ss.length) (hr:Da (Po (dD ns aa (aL ns aa) us) (aZ xs) (fE bC)) us.length kds' ss):MV ns ss:=by
 have k:=abw hr;have same:=ac7 h.fo hr.fo (h.fin _ k) (by rw[<-h.cnt,<-hr.cnt]);have l:=zn hE hx;have m:∀ c,∃ r,c<ss.length->r<us.length/\fE kds' r=c:=λc=>by
  by_cases b:c<ss.length
  ·obtain⟨r,g,e⟩:=xL hr.fo us.length (aB2 _) c (by rw[<-hr.cnt];exact b);exact⟨r,λ_=>⟨g,e⟩⟩
  ·exact⟨0,λh=>absurd h b⟩
 let rep:Nat->Nat:=λc=>Classical.choose (m c)
 have n:∀ c,c<ss.length->rep c<us.length/\fE kds' (rep c)=c:=λc=>Classical.choose_spec (m c);have f:∀ i,i<us.length->fE kds' i<ss.length/\Po (dD ns aa (aL ns aa) us) (aZ xs) (fE bC) (rep (fE kds' i))=Po (dD ns aa (aL ns aa) us) (aZ xs) (fE bC) i:=λi d=>by
  have g:fE kds' i<ss.length:=(aB9.1 (hr.at_ i d)).1;obtain⟨e,j⟩:=n _ g;exact⟨g,(abx hr e d).1 j⟩
 refine⟨λc=>dD ns aa (aL ns aa) us (rep c),λc a=>fE bC (aZ xs (rep c) a),?_,λc b=>?_⟩
 ·have o:=ZW hg hl hE hx (kd:=fE kds') (out':=λc=>dD ns aa (aL ns aa) us (rep c)) (nx':=λc a=>fE bC (aZ xs (rep c) a)) hr.fo ⟨λi d=>(Ny.1 (f i d).2).1,λi a d p=>by
   have q:fE bC (aZ xs (rep (fE kds' i)) a)=fE bC (aZ xs i a):=(Ny.1 (f i d).2).2 a p;show fE bC (aZ xs (rep (fE kds' i)) a)=fE kds' (aZ xs i a);rw[q,same _ (l i a d p)]⟩ (Sw l k h.like)
  rw[<-hr.cnt]at o;exact o
 ·obtain⟨e,j⟩:=n c b;have:=hr.at_ _ e;rw[j]at this;exact this
end
theorem gY{P:Program}(w:World){ops:Array Oper}{o:Oper}{a:Act}{K:Act->World->Prop}{Q:Exit->Act->World->Prop}{E:Prop}(hg:o.guard=none)(l c:Operand)(t:TypeId)(hop:o.op=Op.makeSlice t l c)
  (base:Nat) (e:TypeId) (i:TypeInfo) (z:Value) (size:Nat) (h1:P.underlying t=some (.slice e)) (h2:P.info? e=some i) (h3:i.zero=some z) (h4:i.size=size)
  (kl kc:IntKind) (L C:Int) (n:Nat) (hl:a.eval l=.int kl L) (hc:a.eval c=.int kc C) (hL:L=(n:Int)) (hC:C=(n:Int)) (b2:i.bytes*n<=281474976710656) (b3:n<=maxLen) (b4:base<=w.heap.size)
  (hK:∀ w',w'.ownsRow base e size (.slice (some ⟨w.heap.size,0,none⟩) n n) n (madeCells z.cells (n*size)).toList->w.grownBy w' none->K (a.put o.dst (.slice (some ⟨w.heap.size,0,none⟩) n n)) w') :
  if Region.wanted o (yielded ops a.tmps)=true then Oper.wp P o a w K Q else E:=by
 have d:Region.wanted o (yielded ops a.tmps)=true:=by simp[Region.wanted,hg]
 rw[aC2 d];obtain⟨w',b,r1,r2⟩:=run_make_full (P:=P) w base t e i z size h1 h2 h3 h4 kl kc n b2 b3 b4;subst hL;subst hC;unfold Oper.wp;simp[execOp,hop,hl,hc,b,Result.andThen];exact hK w' r1 r2
theorem ui{w w':World}{b:Nat}{x y:Value}(h:Two w b x y)(hg:w.grownBy w' none):Two w' b x y:=by
 have c:=hg.block b h.lt (by simp);exact⟨(aCn (a:=⟨b,0,none⟩) c).trans h.c0,(aCn (a:=⟨b,1,none⟩) c).trans h.c1,(aCo (a:=⟨b,0,none⟩) c).trans h.f0,(aCo (a:=⟨b,1,none⟩) c).trans h.f1⟩
def ZP(w:World)(b:Nat):Nat:=match w.cell? ⟨b,1,none⟩ with
 | some (.slice _ n _)=>n
 | _=>0
theorem PQ{w:World}{b:Nat}{x:Value}{ao:Option Addr}{n c:Nat}(h:Two w b x (.slice ao n c)):ZP w b=n:=by unfold ZP;rw[h.c1]
def akm(ns:List Nd)(w:World)(e:Ending)(w':World):Prop:=
 ((∃ ss v,e=.returned (.tuple #[v,.bool true])/\w'.ownsRow w.heap.size 119 9 v ss.length (gu ss)/\ku ss/\ss.length<=8/\MV ns ss)\/(e=.returned (.tuple #[.slice none 0 0,.bool false])/\Big ns))/\Below w.heap.size w w'
theorem aa5(ns:List Nd)(aa:Nat->Bool)(us:List (List Nat))(xs:List Nat)(g cap B0:Nat)(w:World)(hg:Good ns)(hl:jf ns (aW ns ns.length) aa)(hE:gU ns aa (aL ns aa) us xs)(hx:xs.length=8*us.length)(hK:us.length<=796594185)
  (hr:w.ownsRow B0 119 9 (.slice (some ⟨g,0,none⟩) us.length cap) us.length (gu ((List.range us.length).map λi=>yj (dD ns aa (aL ns aa) us i) (aZ xs i)))) (lL:g<w.heap.size) :
  Calls Tryz.prog 33 #[.slice (some ⟨g,0,none⟩) us.length cap] w (akm ns w):=by
 have uC:0<us.length:=(aB9.1 hE.first).1
 have HC:=hid (zn hE hx);have qa:=hid (afJ (dD ns aa (aL ns aa) us) (aZ xs) uC);have rW:=hid (λ(t kds':List Nat) (ss:List St) (h:VM (dD ns aa (aL ns aa) us) (aZ xs) us.length t ss.length) hr=>ajP hg hl hE hx (kds':=kds') h hr);have Np:=hid (λ(t:List Nat) (n:Nat) (h:VM (dD ns aa (aL ns aa) us) (aZ xs) us.length t n) (h8:8<n)=>acb hg hl hE hx (kd:=fE t) h.fo h.like (by rw[<-h.cnt];exact h8));have HR:=hid hr;obtain⟨i0,Q,R,T,U⟩:=info_parts Tryz.mE;obtain⟨V,X,Y,Z,gG⟩:=info_parts Tryz.NV;clear hr hE hx hl hg;generalize dD ns aa (aL ns aa) us=out at *;generalize aZ xs=nx at *;generalize us.length=K at *;go_enter Tryz.func33,Tryz.ntmps33;go_wp2_with fail;rename_i KK hKK;have N:∀ (W:World) (S E r:Nat),Hid (Two W S (.slice (some ⟨E,0,none⟩) K K) (.slice (some ⟨r,0,none⟩) 1 1))->Hid (W.ownsRow w.heap.size 3 1 (.slice (some ⟨E,0,none⟩) K K) K (madeCells (Value.int .i64 0).cells (K*1)).toList)->Hid (Below w.heap.size w W)->w.heap.size<=S->KK { tmps:=#[.slice (some ⟨g,0,none⟩) K cap,undef,.slice none 0 0,.bool false,.pointer (some ⟨S,0,none⟩),undef,.slice (some ⟨g,0,none⟩) K cap,.int .i64 (K:Nat),.slice (some ⟨E,0,none⟩) K K,.slice (some ⟨r,0,none⟩) 1 1,.agg #[.slice (some ⟨E,0,none⟩) K K,.slice (some ⟨r,0,none⟩) 1 1],undef,undef,undef,undef,undef,undef,undef,undef,undef,undef,undef,undef,undef,undef,undef,undef,undef],defers:=[] } W:=by
  intro W S E r TW OW BW amo;have atf:(List.replicate K 0).length=K:=by simp
  have NK:Hid (NR W (.slice (some ⟨E,0,none⟩) K K) (List.replicate K 0)):=hid (by
   have f:=Cw (B:=w.heap.size) (v:=.slice (some ⟨E,0,none⟩) K K) (l:=List.replicate K 0) (w:=W) (by
    rw[atf];have e9:(madeCells (Value.int .i64 0).cells (K*1)).toList=aI (List.replicate K 0):=by
     rw[show (Value.int .i64 0).cells=#[Value.int .i64 0] from rfl,Nat.mul_one,aCy];simp[aI]
    rw[<-e9];exact OW.out)
   exact f)
  clear OW;go_wp2_with fail
  go_loopw [5] (λv5 wq=>∃ (t:List Nat) (n:Nat) (vK:Value) (ao:Option Addr) (c:Nat),Hid (VM out nx K t n)/\Hid (NR wq vK t)/\Hid (Two wq S vK (.slice ao n c))/\Hid (Below w.heap.size w wq)) (λ_ wq=>10 - ZP wq S)
  case atStart=>exact⟨_,1,_,_,1,qa,NK,TW,BW⟩
  case round=>
   obtain⟨t,n,vK,ao,c,z,HNR,y,O⟩:=hrel;rename World=>W0;clear TW NK BW;have t0:=y.out.c0;have t1:=y.out.c1;have s:=y.out.lt;have QZ:=hid (PQ y.out);have HKL:=hid z.out.len;obtain⟨Fq,Fh,eK,hcK,hrK⟩:=HNR.out;subst eK;by_cases hn:n<=8
   ·have h8:(n:Int)<=8:=by omega
    go_wp2_with fail;refine(Zr K g cap B0 out nx t (.slice Fq t.length Fh) (.slice ao n c) W0 hK (ai HR.out O.out) (aCq lL O.out.size) HNR.out HKL.out ⟨_,_,_,rfl⟩ HC.out).mono ?_;rintro e w5 ⟨vK5,vH5,A,u,rfl,F,h85,G,H,bi⟩;obtain⟨alY,azp⟩:=ajO HC.out z.out F;obtain⟨I,J,rfl⟩:=ak G;obtain⟨L,M,rfl⟩:=ak H;have P:=hid (y.out.below bi s);have fH:=hid (O.out.trans (bi.mono O.out.size));have vB:=bi.size;have ba:=(aB4 w5.heap.size w5).alloc (aB2 _) (.cells #[.slice I A.length J,.slice L u.length M] 122);have C:=hid (P.out.below ba (by omega));have jV:=hid (fH.out.trans (ba.mono fH.out.size));have OKR:=hid G;have OH6:=hid (ai H ba);have q1:=C.out.c1;have q0:=C.out.c0;have f0:=C.out.f0;have f1:=C.out.f1;have atH:S<w5.heap.size:=by omega
    have HRF:=hid F;have aux:=hid alY;have H85:=hid h85;have p1:=P.out.c1;have p0:=P.out.c0;have g0:=P.out.f0;have g1:=P.out.f1;clear F alY h85 G H bi t0 t1;by_cases he:u.length=n
    ·have HM:=hid (rW.out t A u (by rw[he];exact z.out) HRF.out);have OHF:=hid (bQ OH6.out (show w.heap.size<=W0.heap.size from O.out.size));subst he;clear ba;go_wp2_with fail
     go_ret2
     exact⟨aCa ⟨u,_,rfl,OHF.out,H85.out,hn,HM.out⟩,jV.out⟩
    ·have he1:¬ ((u.length:Int)=(n:Int)):=by omega
     have D1:=hid (((P.out.set0 (.slice I A.length J)).set1 (.slice L u.length M)).below ((aB4 w5.heap.size _).alloc (by simp) (.cells #[.slice I A.length J,.slice L u.length M] 122)) atH);have D3:=hid (((fH.out.setCell (p:=⟨S,0,none⟩) amo (.slice I A.length J)).setCell (p:=⟨S,1,none⟩) amo (.slice L u.length M)).alloc (by have:=fH.out.size;simp;omega) (.cells #[.slice I A.length J,.slice L u.length M] 122));have D2:=hid (Cw ((aB (aB OKR.out (show S<W0.heap.size from s) 0 (.slice I A.length J)) (show S<W0.heap.size from s) 1 (.slice L u.length M)).alloc (.cells #[.slice I A.length J,.slice L u.length M] 122)));have bW:=hid (PQ D1.out);clear ba;go_wp2_with fail;go_roundw
     case rel=>exact⟨A,u.length,_,_,_,aux,D2,D1,D3⟩
     case measure=>
      have h1:=bW.out;have h2:=QZ.out;omega
   ·have h8:¬ ((n:Int)<=8):=by omega
    have yD:=hid (Np.out t n z.out (by omega));go_wp2_with fail
    go_ret2
    exact⟨aCb ⟨rfl,yD.out⟩,O.out⟩
 refine wp_region_held_drew (S:=λ_=>True) (by kernel_rfl) trivial (λq=>?_);refine aCc (i:=0) (oi:={ dst:=some 6,op:=Op.move (.tmp 0),type:=_,pos:=_,after:=_,guard:=none }) (v:=(Value.slice (some ⟨g,0,none⟩) K cap)) rfl (by kernel_rfl) (by kernel_rfl) (by kernel_rfl) (λ_ _ _ h=>h) (aCa ⟨by rfl,by intro w' D;(try dsimp only at D);go_simp⟩) (by assumption) ?_
 simp only[Act.put,aB1,aB5,aB6];refine aCc (i:=1) (oi:={ dst:=some 7,op:=Op.call { callee:=Callee.builtin Builtin.len,args:=#[.tmp 6],argTypes:=_ },type:=_,pos:=_,after:=_,guard:=none }) (v:=(Value.int .i64 (K:Nat))) rfl (by kernel_rfl) (by kernel_rfl) (by kernel_rfl) (λ_ _ _ h=>h) (aCa ⟨by rfl,by intro w' D;(try dsimp only at D);go_simp⟩) (by assumption) ?_
 simp only[Act.put,aB1,aB5,aB6];have a:Below w.heap.size w w.drew:=(aB4 w.heap.size w).drew;refine aCk (rs:=[2,3,5]) (by kernel_rfl) (by simp) ?_;refine aCf rfl (λb hK=>?_) (aCf rfl (λb hK=>?_) (aCf rfl (λb hK=>?_) aCj))
 ·refine gY _ (by rfl) (.tmp 7) (.tmp 7) 22 (by rfl) w.heap.size 3 i0 (.int .i64 0) 1 Tryz.underlying22 Q R T .i64 .i64 K K K (by rfl) (by rfl) rfl rfl (by rw[U];omega) (by unfold maxLen;omega) (by first | exact a.size | (have f:=a.size;simp;omega)) ?_
  intro m own x;refine hK.out _ _ trivial (λq=>?_);clear hK b
  try simp only[Act.put]
  try simp only[aB1]
  have a:Below w.heap.size w m:=a.grown x (by first | exact a.size | (have f:=a.size;simp;omega)) (λk h=>by cases h)
  refine aCk (rs:=[3,5]) (by kernel_rfl) (by simp) ?_;refine aCf rfl (λb hK=>?_) (aCf rfl (λb hK=>?_) aCj)
  ·refine gY _ (by rfl) (.const (.int .i64 1)) (.const (.int .i64 1)) 65 (by rfl) w.heap.size 119 V (.agg #[.int .i64 0,.int .i64 0,.int .i64 0,.int .i64 0,.int .i64 0,.int .i64 0,.int .i64 0,.int .i64 0,.int .i64 0]) 9 Tryz.underlying65 X Y Z .i64 .i64 1 1 1 (by rfl) (by rfl) rfl rfl (by rw[gG];omega) (by unfold maxLen;omega) (by first | exact a.size | (have f:=a.size;simp;omega)) ?_
   intro j oH r;have own:=own.kept r (aCb (by simp[Value.ownBlock]));refine hK.out _ _ trivial (λq=>?_);clear hK b
   try simp only[Act.put]
   try simp only[aB1]
   have a:Below w.heap.size w j:=a.grown r (by first | exact a.size | (have f:=a.size;simp;omega)) (λk h=>by cases h)
   refine aCc (i:=4) (oi:={ dst:=some 10,op:=Op.build 122 #[(0,.tmp 8),(1,.tmp 9)],type:=_,pos:=_,after:=_,guard:=none }) (v:=.agg #[.slice (some ⟨w.heap.size,0,none⟩) K K,.slice (some ⟨(m).heap.size,0,none⟩) 1 1]) rfl (by kernel_rfl) (by kernel_rfl) (by kernel_rfl) (λ_ _ _ h=>h) (aCa ⟨by rfl,by intro w' D;go_simp⟩) (by assumption) ?_
   try simp only[Act.put]
   try simp only[aB1]
   refine aCk (rs:=[5]) (by kernel_rfl) (by simp) ?_;refine aCf rfl (λb hK=>?_) aCj
   go_simp
   refine hK.out _ _ trivial (λq=>?_);clear hK b
   try simp only[Act.put]
   try simp only[aB1]
   refine aCk (rs:=[6]) (by kernel_rfl) (by simp) ?_;refine aCf rfl (λb hK=>?_) aCj
   go_simp
   refine hK.out _ _ trivial (λq=>?_);clear hK b;refine aC0 (by kernel_rfl) ?_ _;exact N _ (j).heap.size (w.heap.size) ((m).heap.size) (hid (bY (j) (.slice (some ⟨w.heap.size,0,none⟩) K K) (.slice (some ⟨(m).heap.size,0,none⟩) 1 1) 122)) (hid (own.alloc _)) (hid (a.alloc a.size _)) a.size
  ·go_simp
   refine hK.out _ _ trivial (λq=>?_);clear hK b
   try simp only[Act.put]
   try simp only[aB1]
   have o:(m).heap.size≠w.heap.size:=λe=>Nat.lt_irrefl _ (Nat.lt_of_lt_of_eq (own.lt _ rfl).2 e);have own:=own.alloc (.cells #[.slice none 0 0,.slice none 0 0] 122);have s:w.heap.size<=(m).heap.size:=a.size;have d:Two ((m).alloc (.cells #[.slice none 0 0,.slice none 0 0] 122)) (m).heap.size (.slice none 0 0) (.slice none 0 0):=bY (m) (.slice none 0 0) (.slice none 0 0) 122;have a:=a.alloc a.size (.cells #[.slice none 0 0,.slice none 0 0] 122);refine aCk (rs:=[3]) (by kernel_rfl) (by simp) ?_;refine aCf rfl (λb hK=>?_) aCj
   ·refine gY _ (by rfl) (.const (.int .i64 1)) (.const (.int .i64 1)) 65 (by rfl) w.heap.size 119 V (.agg #[.int .i64 0,.int .i64 0,.int .i64 0,.int .i64 0,.int .i64 0,.int .i64 0,.int .i64 0,.int .i64 0,.int .i64 0]) 9 Tryz.underlying65 X Y Z .i64 .i64 1 1 1 (by rfl) (by rfl) rfl rfl (by rw[gG];omega) (by unfold maxLen;omega) (by first | exact a.size | (have f:=a.size;simp;omega)) ?_
    intro j oH r;have own:=own.kept r (aCb (by simp[Value.ownBlock]));have d:=ui d r;refine hK.out _ _ trivial (λq=>?_);clear hK b
    try simp only[Act.put]
    try simp only[aB1]
    have a:Below w.heap.size w j:=a.grown r (by first | exact a.size | (have f:=a.size;simp;omega)) (λk h=>by cases h)
    refine aCc (i:=4) (oi:={ dst:=some 10,op:=Op.build 122 #[(0,.tmp 8),(1,.tmp 9)],type:=_,pos:=_,after:=_,guard:=none }) (v:=.agg #[.slice (some ⟨w.heap.size,0,none⟩) K K,.slice (some ⟨(m).heap.size+1,0,none⟩) 1 1]) rfl (by kernel_rfl) (by kernel_rfl) (by kernel_rfl) (λ_ _ _ h=>h) (aCa ⟨by rfl,by intro w' D;go_simp⟩) (by assumption) ?_
    try simp only[Act.put]
    try simp only[aB1]
    have t0:=d.c0;have t1:=d.c1;have u0:=d.f0;have u1:=d.f1;refine aCk (rs:=[6]) (by kernel_rfl) (by simp) ?_;refine aCf rfl (λb hK=>?_) aCj
    go_simp
    refine hK.out _ _ trivial (λq=>?_);clear hK b;refine aC0 (by kernel_rfl) ?_ _;exact N _ ((m).heap.size) (w.heap.size) ((m).heap.size+1) (hid ((d.set0 _).set1 _)) (hid (dN (dN own ⟨(m).heap.size,0,none⟩ _ (λe=>o (Option.some.inj e).symm)) ⟨(m).heap.size,1,none⟩ _ (λe=>o (Option.some.inj e).symm))) (hid ((a.setCell (p:=⟨(m).heap.size,0,none⟩) s _).setCell (p:=⟨(m).heap.size,1,none⟩) s _)) s
 ·refine gY _ (by rfl) (.const (.int .i64 1)) (.const (.int .i64 1)) 65 (by rfl) w.heap.size 119 V (.agg #[.int .i64 0,.int .i64 0,.int .i64 0,.int .i64 0,.int .i64 0,.int .i64 0,.int .i64 0,.int .i64 0,.int .i64 0]) 9 Tryz.underlying65 X Y Z .i64 .i64 1 1 1 (by rfl) (by rfl) rfl rfl (by rw[gG];omega) (by unfold maxLen;omega) (by first | exact a.size | (have f:=a.size;simp;omega)) ?_
  intro j oH r;refine hK.out _ _ trivial (λq=>?_);clear hK b
  try simp only[Act.put]
  try simp only[aB1]
  have a:Below w.heap.size w j:=a.grown r (by first | exact a.size | (have f:=a.size;simp;omega)) (λk h=>by cases h)
  refine aCk (rs:=[2,5]) (by kernel_rfl) (by simp) ?_;refine aCf rfl (λb hK=>?_) (aCf rfl (λb hK=>?_) aCj)
  ·refine gY _ (by rfl) (.tmp 7) (.tmp 7) 22 (by rfl) w.heap.size 3 i0 (.int .i64 0) 1 Tryz.underlying22 Q R T .i64 .i64 K K K (by rfl) (by rfl) rfl rfl (by rw[U];omega) (by unfold maxLen;omega) (by first | exact a.size | (have f:=a.size;simp;omega)) ?_
   intro m own x;refine hK.out _ _ trivial (λq=>?_);clear hK b
   try simp only[Act.put]
   try simp only[aB1]
   have a:Below w.heap.size w m:=a.grown x (by first | exact a.size | (have f:=a.size;simp;omega)) (λk h=>by cases h)
   refine aCc (i:=4) (oi:={ dst:=some 10,op:=Op.build 122 #[(0,.tmp 8),(1,.tmp 9)],type:=_,pos:=_,after:=_,guard:=none }) (v:=.agg #[.slice (some ⟨(j).heap.size,0,none⟩) K K,.slice (some ⟨w.heap.size,0,none⟩) 1 1]) rfl (by kernel_rfl) (by kernel_rfl) (by kernel_rfl) (λ_ _ _ h=>h) (aCa ⟨by rfl,by intro w' D;go_simp⟩) (by assumption) ?_
   try simp only[Act.put]
   try simp only[aB1]
   refine aCk (rs:=[5]) (by kernel_rfl) (by simp) ?_;refine aCf rfl (λb hK=>?_) aCj
   go_simp
   refine hK.out _ _ trivial (λq=>?_);clear hK b
   try simp only[Act.put]
   try simp only[aB1]
   refine aCk (rs:=[6]) (by kernel_rfl) (by simp) ?_;refine aCf rfl (λb hK=>?_) aCj
   go_simp
   refine hK.out _ _ trivial (λq=>?_);clear hK b;refine aC0 (by kernel_rfl) ?_ _;exact N _ (m).heap.size ((j).heap.size) (w.heap.size) (hid (bY (m) (.slice (some ⟨(j).heap.size,0,none⟩) K K) (.slice (some ⟨w.heap.size,0,none⟩) 1 1) 122)) (hid (own.alloc _)) (hid (a.alloc a.size _)) a.size
  ·go_simp
   refine hK.out _ _ trivial (λq=>?_);clear hK b
   try simp only[Act.put]
   try simp only[aB1]
   have s:w.heap.size<=(j).heap.size:=a.size;have d:Two ((j).alloc (.cells #[.slice none 0 0,.slice none 0 0] 122)) (j).heap.size (.slice none 0 0) (.slice none 0 0):=bY (j) (.slice none 0 0) (.slice none 0 0) 122;have a:=a.alloc a.size (.cells #[.slice none 0 0,.slice none 0 0] 122);refine aCk (rs:=[2]) (by kernel_rfl) (by simp) ?_;refine aCf rfl (λb hK=>?_) aCj
   ·refine gY _ (by rfl) (.tmp 7) (.tmp 7) 22 (by rfl) w.heap.size 3 i0 (.int .i64 0) 1 Tryz.underlying22 Q R T .i64 .i64 K K K (by rfl) (by rfl) rfl rfl (by rw[U];omega) (by unfold maxLen;omega) (by first | exact a.size | (have f:=a.size;simp;omega)) ?_
    intro m own x;have own:m.ownsRow w.heap.size 3 1 (.slice (some ⟨(j).heap.size+1,0,none⟩) K K) K (madeCells (Value.int .i64 0).cells (K*1)).toList:=by
     have f:=own
     first | (simp only[aB7]at f;exact f) | (rw[show (w.alloc (.cells #[.slice none 0 0,.slice none 0 0] 122)).drew.heap.size=w.heap.size+1 from aB7 ..]at f;exact f)
    have o:(j).heap.size≠(j).heap.size+1:=λe=>Nat.lt_irrefl _ (Nat.lt_of_lt_of_eq d.lt (by rw[aB7];exact e.symm));have d:=ui d x;refine hK.out _ _ trivial (λq=>?_);clear hK b
    try simp only[Act.put]
    try simp only[aB1]
    have a:Below w.heap.size w m:=a.grown x (by first | exact a.size | (have f:=a.size;simp;omega)) (λk h=>by cases h)
    refine aCc (i:=4) (oi:={ dst:=some 10,op:=Op.build 122 #[(0,.tmp 8),(1,.tmp 9)],type:=_,pos:=_,after:=_,guard:=none }) (v:=.agg #[.slice (some ⟨(j).heap.size+1,0,none⟩) K K,.slice (some ⟨w.heap.size,0,none⟩) 1 1]) rfl (by kernel_rfl) (by kernel_rfl) (by kernel_rfl) (λ_ _ _ h=>h) (aCa ⟨by rfl,by intro w' D;go_simp⟩) (by assumption) ?_
    try simp only[Act.put]
    try simp only[aB1]
    have t0:=d.c0;have t1:=d.c1;have u0:=d.f0;have u1:=d.f1;refine aCk (rs:=[6]) (by kernel_rfl) (by simp) ?_;refine aCf rfl (λb hK=>?_) aCj
    go_simp
    refine hK.out _ _ trivial (λq=>?_);clear hK b;refine aC0 (by kernel_rfl) ?_ _;exact N _ ((j).heap.size) ((j).heap.size+1) (w.heap.size) (hid ((d.set0 _).set1 _)) (hid (dN (dN own ⟨(j).heap.size,0,none⟩ _ (λe=>o (Option.some.inj e).symm)) ⟨(j).heap.size,1,none⟩ _ (λe=>o (Option.some.inj e).symm))) (hid ((a.setCell (p:=⟨(j).heap.size,0,none⟩) s _).setCell (p:=⟨(j).heap.size,1,none⟩) s _)) s
 ·go_simp
  refine hK.out _ _ trivial (λq=>?_);clear hK b
  try simp only[Act.put]
  try simp only[aB1]
  have s:w.heap.size<=w.heap.size:=a.size;have d:Two ((w.drew).alloc (.cells #[.slice none 0 0,.slice none 0 0] 122)) w.heap.size (.slice none 0 0) (.slice none 0 0):=bY (w.drew) (.slice none 0 0) (.slice none 0 0) 122;have a:=a.alloc a.size (.cells #[.slice none 0 0,.slice none 0 0] 122);refine aCk (rs:=[2,3]) (by kernel_rfl) (by simp) ?_;refine aCf rfl (λb hK=>?_) (aCf rfl (λb hK=>?_) aCj)
  ·refine gY _ (by rfl) (.tmp 7) (.tmp 7) 22 (by rfl) w.heap.size 3 i0 (.int .i64 0) 1 Tryz.underlying22 Q R T .i64 .i64 K K K (by rfl) (by rfl) rfl rfl (by rw[U];omega) (by unfold maxLen;omega) (by first | exact a.size | (have f:=a.size;simp;omega)) ?_
   intro m own x;have own:m.ownsRow w.heap.size 3 1 (.slice (some ⟨w.heap.size+1,0,none⟩) K K) K (madeCells (Value.int .i64 0).cells (K*1)).toList:=by
    have f:=own
    first | (simp only[aB7]at f;exact f) | (rw[show (w.alloc (.cells #[.slice none 0 0,.slice none 0 0] 122)).drew.heap.size=w.heap.size+1 from aB7 ..]at f;exact f)
   have o:w.heap.size≠w.heap.size+1:=λe=>Nat.lt_irrefl _ (Nat.lt_of_lt_of_eq d.lt (by rw[aB7];exact e.symm));have d:=ui d x;refine hK.out _ _ trivial (λq=>?_);clear hK b
   try simp only[Act.put]
   try simp only[aB1]
   have a:Below w.heap.size w m:=a.grown x (by first | exact a.size | (have f:=a.size;simp;omega)) (λk h=>by cases h)
   refine aCk (rs:=[3]) (by kernel_rfl) (by simp) ?_;refine aCf rfl (λb hK=>?_) aCj
   ·refine gY _ (by rfl) (.const (.int .i64 1)) (.const (.int .i64 1)) 65 (by rfl) w.heap.size 119 V (.agg #[.int .i64 0,.int .i64 0,.int .i64 0,.int .i64 0,.int .i64 0,.int .i64 0,.int .i64 0,.int .i64 0,.int .i64 0]) 9 Tryz.underlying65 X Y Z .i64 .i64 1 1 1 (by rfl) (by rfl) rfl rfl (by rw[gG];omega) (by unfold maxLen;omega) (by first | exact a.size | (have f:=a.size;simp;omega)) ?_
    intro j oH r;have own:=own.kept r (aCb (by simp[Value.ownBlock]));have d:=ui d r;refine hK.out _ _ trivial (λq=>?_);clear hK b
    try simp only[Act.put]
    try simp only[aB1]
    have a:Below w.heap.size w j:=a.grown r (by first | exact a.size | (have f:=a.size;simp;omega)) (λk h=>by cases h)
    refine aCc (i:=4) (oi:={ dst:=some 10,op:=Op.build 122 #[(0,.tmp 8),(1,.tmp 9)],type:=_,pos:=_,after:=_,guard:=none }) (v:=.agg #[.slice (some ⟨w.heap.size+1,0,none⟩) K K,.slice (some ⟨(m).heap.size,0,none⟩) 1 1]) rfl (by kernel_rfl) (by kernel_rfl) (by kernel_rfl) (λ_ _ _ h=>h) (aCa ⟨by rfl,by intro w' D;go_simp⟩) (by assumption) ?_
    try simp only[Act.put]
    try simp only[aB1]
    have t0:=d.c0;have t1:=d.c1;have u0:=d.f0;have u1:=d.f1;refine aCk (rs:=[6]) (by kernel_rfl) (by simp) ?_;refine aCf rfl (λb hK=>?_) aCj
    go_simp
    refine hK.out _ _ trivial (λq=>?_);clear hK b;refine aC0 (by kernel_rfl) ?_ _;exact N _ (w.heap.size) (w.heap.size+1) ((m).heap.size) (hid ((d.set0 _).set1 _)) (hid (dN (dN own ⟨w.heap.size,0,none⟩ _ (λe=>o (Option.some.inj e).symm)) ⟨w.heap.size,1,none⟩ _ (λe=>o (Option.some.inj e).symm))) (hid ((a.setCell (p:=⟨w.heap.size,0,none⟩) s _).setCell (p:=⟨w.heap.size,1,none⟩) s _)) s
  ·refine gY _ (by rfl) (.const (.int .i64 1)) (.const (.int .i64 1)) 65 (by rfl) w.heap.size 119 V (.agg #[.int .i64 0,.int .i64 0,.int .i64 0,.int .i64 0,.int .i64 0,.int .i64 0,.int .i64 0,.int .i64 0,.int .i64 0]) 9 Tryz.underlying65 X Y Z .i64 .i64 1 1 1 (by rfl) (by rfl) rfl rfl (by rw[gG];omega) (by unfold maxLen;omega) (by first | exact a.size | (have f:=a.size;simp;omega)) ?_
   intro j oH r;have d:=ui d r;refine hK.out _ _ trivial (λq=>?_);clear hK b
   try simp only[Act.put]
   try simp only[aB1]
   have a:Below w.heap.size w j:=a.grown r (by first | exact a.size | (have f:=a.size;simp;omega)) (λk h=>by cases h)
   refine aCk (rs:=[2]) (by kernel_rfl) (by simp) ?_;refine aCf rfl (λb hK=>?_) aCj
   ·refine gY _ (by rfl) (.tmp 7) (.tmp 7) 22 (by rfl) w.heap.size 3 i0 (.int .i64 0) 1 Tryz.underlying22 Q R T .i64 .i64 K K K (by rfl) (by rfl) rfl rfl (by rw[U];omega) (by unfold maxLen;omega) (by first | exact a.size | (have f:=a.size;simp;omega)) ?_
    intro m own x;have o:w.heap.size≠(j).heap.size:=λe=>Nat.lt_irrefl _ (Nat.lt_of_lt_of_eq d.lt e.symm);have d:=ui d x;refine hK.out _ _ trivial (λq=>?_);clear hK b
    try simp only[Act.put]
    try simp only[aB1]
    have a:Below w.heap.size w m:=a.grown x (by first | exact a.size | (have f:=a.size;simp;omega)) (λk h=>by cases h)
    refine aCc (i:=4) (oi:={ dst:=some 10,op:=Op.build 122 #[(0,.tmp 8),(1,.tmp 9)],type:=_,pos:=_,after:=_,guard:=none }) (v:=.agg #[.slice (some ⟨(j).heap.size,0,none⟩) K K,.slice (some ⟨w.heap.size+1,0,none⟩) 1 1]) rfl (by kernel_rfl) (by kernel_rfl) (by kernel_rfl) (λ_ _ _ h=>h) (aCa ⟨by rfl,by intro w' D;go_simp⟩) (by assumption) ?_
    try simp only[Act.put]
    try simp only[aB1]
    have t0:=d.c0;have t1:=d.c1;have u0:=d.f0;have u1:=d.f1;refine aCk (rs:=[6]) (by kernel_rfl) (by simp) ?_;refine aCf rfl (λb hK=>?_) aCj
    go_simp
    refine hK.out _ _ trivial (λq=>?_);clear hK b;refine aC0 (by kernel_rfl) ?_ _;exact N _ (w.heap.size) ((j).heap.size) (w.heap.size+1) (hid ((d.set0 _).set1 _)) (hid (dN (dN own ⟨w.heap.size,0,none⟩ _ (λe=>o (Option.some.inj e).symm)) ⟨w.heap.size,1,none⟩ _ (λe=>o (Option.some.inj e).symm))) (hid ((a.setCell (p:=⟨w.heap.size,0,none⟩) s _).setCell (p:=⟨w.heap.size,1,none⟩) s _)) s
theorem Tryz.wO:(Tryz.prog.info? 37).map (·.size)=some 2:=by kernel_rfl
theorem aa3{ns:List Nd}{aa:Nat->Bool}{us:List (List Nat)}{xs:List Nat}{SS:List St}(h:Cm ns aa (aL ns aa) us xs SS)(hl:SS.length=us.length):SS=(List.range us.length).map λi=>yj (dD ns aa (aL ns aa) us i) (aZ xs i):=by
 apply List.ext_getElem
 ·simp[hl]
 ·intro i a c;obtain⟨u,b,_,e⟩:=h i SS[i] (aB3 a);rw[e];simp only[List.getElem_map,List.getElem_range];unfold yj dD aZ;rw[show us.getD i []=u by simp[List.getD,b]];rfl
def zq(s:ByteArray)(w:World)(e:Ending)(w':World):Prop:=
 ∃ v1 v2 er,e=.returned (.tuple #[.agg #[v1,v2],.int .i64 (er:Nat)])/\((af s).1≠0->er=(af s).1/\v1=.slice none 0 0/\v2=.slice none 0 0) /\
  ((af s).1=0->(er=0/\∃ ss V,mU w' w.heap.size v1 v2 V ss ss.length/\ku ss/\ss.length<=8/\MV (af s).2 ss)\/(er=7/\v1=.slice none 0 0/\v2=.slice none 0 0/\Big (af s).2))/\Below w.heap.size w w'
section
variable (s:ByteArray) (w:World)
theorem aet(hm:s.size<=maxLen)(h:(af s).1≠0):Calls Tryz.prog 11 #[.string s] w (zq s w):=by
 have C:=λW=>kU s W hm;unfold lQ at C;unfold zq;generalize af s=p at *;have k:((p.1:Int) !=0)=true:=by rw[bne_iff_ne];omega
 go_enter Tryz.func11,Tryz.ntmps11;go_wp2_with fail;refine(C _).mono ?_;rintro e j ⟨l,cap,rfl,_,c⟩;simp only[aB7]at c;have a:=(bY w (.slice none 0 0) (.slice none 0 0) 37).below c (by omega);have d:=a.c0;have f:=a.c1;have m:=a.f0;have n:=a.f1;have g:=hid (((aB4 w.heap.size w).alloc (aB2 _) (.cells #[.slice none 0 0,.slice none 0 0] 37)).trans (c.mono (by omega)));clear C c a;go_wp2_with fail;refine dS (cs:=[.slice none 0 0,.slice none 0 0]) (v:=.int .i64 (p.1:Nat)) (b:=w.heap.size) Tryz.results11 ?_ ?_ ?_ ?_ Tryz.underlying37 rfl Tryz.wO ?_
 ·rfl
 ·rfl
 ·rfl
 ·exact wG d f _ _
 ·exact⟨_,_,p.1,rfl,λ_=>⟨rfl,rfl,rfl⟩,λi=>absurd i h,(g.out.setCell (p:=⟨w.heap.size,0,none⟩) (aB2 _) _).setCell (p:=⟨w.heap.size,1,none⟩) (aB2 _) _⟩
theorem aaN(hm:s.size<=maxLen)(h:(af s).1=0):Calls Tryz.prog 11 #[.string s] w (zq s w):=by
 have C:=λW=>kU s W hm;unfold lQ at C;have G:=hid (iM h);have SG:=hid (AR h);unfold zq;generalize af s=p at *;obtain⟨p1,ns⟩:=p;dsimp only at *;subst h;have i:=G.out.pos;obtain⟨q,c⟩:∃ q,ns.length=q+1:=⟨ns.length - 1,by omega⟩;have bW:=hid c;rw[c]at C;clear c i;have uN:=hid Tryz.zN;go_enter Tryz.func11,Tryz.ntmps11;go_wp2_with fail;refine(C _).mono ?_;rintro e w1 ⟨ao,cap,rfl,own,n⟩;simp only[aB7]at n;obtain⟨gn,rfl,_,wz,_⟩:=sG own (by omega);have ND:=hid (Lx own bW.out);have r:=hid ((bY w (.slice none 0 0) (.slice none 0 0) 37).below n (by omega));have aK:=hid (((aB4 w.heap.size w).alloc (aB2 _) (.cells #[.slice none 0 0,.slice none 0 0] 37)).trans (n.mono (by omega)));have t:w.heap.size<w1.heap.size:=r.out.lt;clear C own n;go_wp2_with fail;refine(DY gn q cap ns _ ND.out G.out bW.out).mono ?_;rintro e d ⟨sl,j,rfl,kY,UB,Js,u⟩;have x:=hid kY;have bF:=hid (aK.out.trans (u.mono (by omega)));have y:=hid (r.out.below u t);have qQ:w.heap.size<d.heap.size:=y.out.lt;clear kY u UB ND aK r;have Gr:(d.alloc (.cells Tryz.zeroCells63 63)).there d.heap.size 0 2561:=by
  have:=mW d (dL (λ_=>0) (.slice none 0 0) (λ_=>false) (λ_=>false)) 2561 63;rw[<-uN.out]at this;exact this.there 0 2561 (by omega)
 have Iw:=hid Gr;clear Gr;go_wp2_with (refine eP rfl 63 (.tmp 6) (.tmp 20) rfl d.heap.size 2561 (dL (oo ns) sl j (aL ns j)) rfl rfl Iw.out Tryz.um (wN _ _ _ Js) ?_);intro z A;have OM:=hid (IW A.at_);have B:Below d.heap.size d z:=A.bD _ _ (aB2 _) ((aB4 _ _).alloc (aB2 _) _);have dW:=hid (bF.out.trans (B.mono (by omega)));have D:=hid (y.out.below B qQ);have Bd:w.heap.size<z.heap.size:=D.out.lt;have h8:=G.out.le;clear A Iw bF B y;go_wp2_with fail;refine(KZ d.heap.size ns j (aL ns j) z h8 (λE xs f=>Ac G.out SG.out x.out f) OM.out).mono ?_;rintro e w5 ⟨E,xs,SS,vS,rfl,f,hx,nN,k,a,F⟩;have hK:=Ac G.out SG.out x.out f;have uC:0<E.length:=(aB9.1 f.first).1
 rw[aa3 k nN]at a;obtain⟨Ih,CU,rfl⟩:=ak a;obtain⟨gS,rfl,_,H,_⟩:=eZ a uC;have HE:=hid f;have HX:=hid hx;have Fz:=hid a;have fH:=hid (dW.out.trans (F.mono (by omega)));have I:=hid (D.out.below F Bd);have vB:w.heap.size<w5.heap.size:=I.out.lt;clear f hx nN k a F dW D OM;go_wp2_with fail;refine(aa5 ns j E xs gS CU _ w5 G.out x.out HE.out HX.out hK Fz.out H).mono ?_;rintro e J ⟨nE,K⟩;have jV:=hid (fH.out.trans (K.mono (by omega)));have g:=hid (I.out.below K vB);have vz:w.heap.size<J.heap.size:=g.out.lt;clear K fH I;rcases nE with⟨ss,v,rfl,oss,h8s,Fb,hMS⟩ | ⟨rfl,amC⟩
 ·have L:0<ss.length:=by
   obtain⟨o9,n9,hM,_⟩:=hMS;exact Ga hM.num
  obtain⟨aov,M,rfl⟩:=ak oss;obtain⟨N,rfl,_,O,P⟩:=eZ oss L;have Q:=hid oss;have l:=hid h8s;have R:=hid hMS;clear oss h8s hMS;go_wp2_with fail;refine(Pz N ss.length M _ ss J Q.out l.out rfl (by omega) O P).mono ?_;rintro e w7 ⟨v1,v2,V,rfl,o,S⟩;have HL:=hid (o.mono (show w.heap.size+1<=J.heap.size by omega));obtain⟨uJ,T,rfl⟩:=ak o.out;obtain⟨kZ,U,rfl⟩:=ak o.pU;have jE:=hid (jV.out.trans (S.mono (by omega)));have m:=g.out.below S vz;have X:=m.c0;have Y:=m.c1;have e0:=m.f0;have e1:=m.f1;clear o S m;go_wp2_with fail;refine dS (cs:=[.slice uJ ss.length T,.slice kZ ss.length U]) (v:=.int .i64 (0:Nat)) (b:=w.heap.size) Tryz.results11 ?_ ?_ ?_ ?_ Tryz.underlying37 rfl Tryz.wO ?_
  ·rfl
  ·rfl
  ·rfl
  ·exact wG X Y _ _
  ·exact⟨_,_,0,rfl,λZ=>absurd rfl Z,λ_=>aCa ⟨rfl,ss,V,((HL.out.set (show w.heap.size<w.heap.size+1 by omega) 0 _).set (show w.heap.size<w.heap.size+1 by omega) 1 _).mono (by omega),l.out,Fb,R.out⟩,(jE.out.setCell (p:=⟨w.heap.size,0,none⟩) (aB2 _) _).setCell (p:=⟨w.heap.size,1,none⟩) (aB2 _) _⟩
 ·have Np:=hid amC;have X:=g.out.c0;have Y:=g.out.c1;have e0:=g.out.f0;have e1:=g.out.f1;clear amC;go_wp2_with fail;refine dS (cs:=[.slice none 0 0,.slice none 0 0]) (v:=.int .i64 (7:Nat)) (b:=w.heap.size) Tryz.results11 ?_ ?_ ?_ ?_ Tryz.underlying37 rfl Tryz.wO ?_
  ·rfl
  ·rfl
  ·rfl
  ·exact wG X Y _ _
  ·exact⟨_,_,7,rfl,λZ=>absurd rfl Z,λ_=>aCb ⟨rfl,rfl,rfl,Np.out⟩,(jV.out.setCell (p:=⟨w.heap.size,0,none⟩) (aB2 _) _).setCell (p:=⟨w.heap.size,1,none⟩) (aB2 _) _⟩
theorem aaO(hm:s.size<=maxLen):Calls Tryz.prog 11 #[.string s] w (zq s w):=by
 by_cases h:(af s).1=0
 ·exact aaN s w hm h
 ·exact aet s w hm h
end
