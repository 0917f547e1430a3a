import Derived.Test.YtjagijohfkffiabGreatALLM14
set_option maxHeartbeats 16000000
set_option maxRecDepth 100000
set_option linter.unusedSimpArgs false
namespace Go.Proofs.YtjagijohfkffiabGreat
open Go.RowKit
set_option linter.unusedVariables false
theorem Tryz.Gj:(Tryz.prog.info? 222).map (λi=>(i.zero,i.size,i.bytes))=some (some (.slice none 0 0),1,24):=by kernel_rfl
theorem Tryz.aes:(Tryz.prog.info? 159).map (·.size)=some 1:=by kernel_rfl
theorem J7{fn:Func}{c b:Nat}{v:Value}{a:Act}{w:World}{R:Ending->World->Prop}(h:fn.results=#[.cell c 159])(hd:a.defers=[])(hp:a.tmps.getD c undef=.pointer (some ⟨b,0,none⟩))
  (hg:w.cell? ⟨b,0,none⟩=some v) (hR:R (.returned (.agg #[v])) w):bodyPost Tryz.prog fn R .ret a w:=by
 refine bodyPost_ret (v:=.agg #[v]) ?_ hd hR;rw[o6 h,hp];simp only[asAddr,Sem.run_pure,Result.andThen_ok];refine run_loadVar_mid w b 0 _ [v] _ (λj u d=>?_) Tryz.underlying159 rfl Tryz.aes;cases j with
 | zero=>simp at d;subst d;simpa using hg
 | succ j=>simp at d
def fM(k:Nat):Nat->List (Nat × Nat):=λt=>if t=0 then (List.range k).map λl=>(0,l) else []
theorem VB:fM 0=λ_=>[]:=by funext t;simp[fM]
theorem VD(k:Nat):xU (fM k) 0 (fM k 0++[(0,k)])=fM (k+1):=by
 funext t;unfold xU fM;by_cases e:t=0
 ·simp[e,aCT]
 ·simp[e]
theorem VC:vW 1 (fM 8):=⟨by omega,λt ht st hs=>by
 obtain rfl:t=0:=by omega
 simp[fM]at hs;obtain⟨l,a,rfl⟩:=hs;exact⟨by omega,a⟩,λt ht=>by
 obtain rfl:t=0:=by omega
 simp[fM]⟩
theorem aav(w:World):Calls Tryz.prog 118 #[] w λe w'=>∃ g,e=.returned (.agg #[.slice (some ⟨g,0,none⟩) 1 1])/\pF w' g 1 (fM 8)/\Below w.heap.size w w':=by
 obtain⟨i0,x,I,J,K⟩:=info_parts Tryz.Gj;go_enter Tryz.func118,Tryz.ntmps118;go_wp2_with (at_make;go_must (refine aCI _ rfl (.const (.int .i64 1)) (.const (.int .i64 1)) 157 rfl (w.heap.size+1) 222 i0 (.slice none 0 0) 1 Tryz.underlying157 x I J .i64 .i64 1 1 1 rfl rfl rfl rfl ?m2 ?m3 (by simp) ?_))
 case m2=>rw[K];omega
 case m3=>unfold maxLen;omega
 intro a y z;have A:(madeCells #[Value.slice none 0 0] (1*1)).toList=(List.range 1).map (λ_=>Value.slice none 0 0):=by rw[aCy];rfl
 have n:a.ownsRow (w.heap.size+1) 222 1 (.slice (some ⟨w.heap.size+1,0,none⟩) 1 1) 1 ((List.range 1).map (λ_=>Value.slice none 0 0)):=by rw[<-A];exact y
 have o:w.heap.size+1<a.heap.size:=(n.lt _ rfl).2;have d:=((aB4 (w.heap.size+1) (w.alloc (.cells #[.slice none 0 0] 159))).grown z (by simp) (λk h=>by cases h));have B:a.cell? ⟨w.heap.size,0,none⟩=some (.slice none 0 0):=(d.cell (p:=⟨w.heap.size,0,none⟩) (by show w.heap.size<w.heap.size+1;omega)).trans (by simp);have C:a.frozen? ⟨w.heap.size,0,none⟩=false:=(d.frozen (p:=⟨w.heap.size,0,none⟩) (by show w.heap.size<w.heap.size+1;omega)).trans (by simp);have D:Hid (Below w.heap.size w a):=hid (((aB4 w.heap.size w).alloc (aB2 _) (.cells #[.slice none 0 0] 159)).trans (d.mono (by omega)));have L:Hid (oU (a.alloc (.cells #[.slice (some ⟨w.heap.size+1,0,none⟩) 1 1] 159)) a.heap.size (w.heap.size+1) 1 (λ_=>.slice none 0 0) (fM 0)):=hid ⟨o,by simp,n.alloc _,λj q=>by rw[VB];exact aCp _ _ _ _,λi j x q h=>by omega⟩;have b:Hid ((a.alloc (.cells #[.slice (some ⟨w.heap.size+1,0,none⟩) 1 1] 159)).cell? ⟨w.heap.size,0,none⟩=some (.slice none 0 0)/\(a.alloc (.cells #[.slice (some ⟨w.heap.size+1,0,none⟩) 1 1] 159)).frozen? ⟨w.heap.size,0,none⟩=false):=hid ⟨by rw[aCB _ _ _ (by show w.heap.size<a.heap.size;omega)];exact B,by rw[aCS _ _ _ (by show w.heap.size<a.heap.size;omega)];exact C⟩;have M:=hid (D.out.alloc (by omega) (.cells #[.slice (some ⟨w.heap.size+1,0,none⟩) 1 1] 159));clear y z A n d B C D;go_wp2_with fail;generalize a.heap.size=T at *
 go_loopw [2] (λi f=>∃ (k:Nat) (V:Nat->Value),k<=8/\i=.int .i64 k/\Hid (oU f T (w.heap.size+1) 1 V (fM k))/\Hid (f.cell? ⟨w.heap.size,0,none⟩=some (.slice none 0 0)/\f.frozen? ⟨w.heap.size,0,none⟩=false)/\Hid (Below w.heap.size w f)) (λi _=>8 - (intOf i).toNat)
 case atStart=>exact⟨0,_,by omega,rfl,L,b,M⟩
 case round=>
  obtain⟨k,V,hk,rfl,r,b,E⟩:=hrel;rename World=>W0;by_cases s:k<8
  ·go_wp2_with fail;refine(RO T (w.heap.size+1) 1 0 k 0 V (fM k) W0 r.out (by omega) (by omega) s (by omega) (by simp[fM];omega)).mono ?_;rintro e w2 ⟨rfl,⟨N,u⟩,l⟩;rw[VD]at u;have O:=hid u;have P:=hid (And.intro ((l.cell (p:=⟨w.heap.size,0,none⟩) (by show w.heap.size<w.heap.size+1;omega)).trans b.out.1) ((l.frozen (p:=⟨w.heap.size,0,none⟩) (by show w.heap.size<w.heap.size+1;omega)).trans b.out.2));have Q:=hid (E.out.trans (l.mono (by omega)));clear u l;go_wp2_with fail;go_roundw
   case rel=>exact⟨k+1,N,by omega,by go_num,O,P,Q⟩
   case measure=>simp[intOf];omega
  ·obtain rfl:k=8:=by omega
   have c1:=r.out.cell;have F:=b.out.1;have r1:=b.out.2;have v:=r.out.ways;have R:Hid (pF (W0.setCell ⟨w.heap.size,0,none⟩ (.slice (some ⟨w.heap.size+1,0,none⟩) 1 1)) (w.heap.size+1) 1 (fM 8)):=hid (by
    obtain⟨S,cap,U,W⟩:=v.row 0 (by omega);refine⟨by simpa using v.lt,λt ht=>?_⟩;obtain rfl:t=0:=by omega
    refine⟨S,cap,?_,λX=>?_⟩
    ·rw[aB8 _ _ _ _ (λe=>by have:=congrArg Addr.block e;simp at this)];exact U
    ·obtain⟨G,Y,Z,H⟩:=W X;have c:G≠w.heap.size:=λe=>by
      have m:=(H 0 (0,0) (by simp[fM])).1;rw[e,Nat.zero_mul,F]at m;cases m
     refine⟨G,Y,by simpa using Z,λj st q=>?_⟩;obtain⟨m,h7⟩:=H j st q;exact⟨by rw[aB8 _ _ _ _ (λe=>c (by have:=congrArg Addr.block e;simpa using this.symm))];exact m,by rw[aB8 _ _ _ _ (λe=>c (by have:=congrArg Addr.block e;simpa using this.symm))];exact h7⟩)
   have dW:=hid (E.out.setCell (p:=⟨w.heap.size,0,none⟩) (aB2 _) (.slice (some ⟨w.heap.size+1,0,none⟩) 1 1));have IL:Hid ((W0.setCell ⟨w.heap.size,0,none⟩ (.slice (some ⟨w.heap.size+1,0,none⟩) 1 1)).cell? ⟨w.heap.size,0,none⟩=some (.slice (some ⟨w.heap.size+1,0,none⟩) 1 1)):=hid (aCz _ _ _ F);clear v;go_wp2_with fail;refine J7 Tryz.results118 ?_ ?_ IL.out ?_
   ·rfl
   ·rfl
   ·exact⟨_,rfl,R.out,dW.out⟩
def jf(ns:List Nd)(cs:List (Nat->Bool))(aa:Nat->Bool):Prop:=∀ v,aa v=true↔iQ (Ew 1 ns (fM 8)) (spreads cs) v
theorem Om(P:Nat)(ns:List Nd)(cs:List (Nat->Bool))(w:World)(h8:ns.length<=8)(oQ:wZ w P ns)(hP:P<w.heap.size)(hcm:pK w P cs)(hcl:cs.length<=8) :
  Calls Tryz.prog 65 #[.pointer (some ⟨P,0,none⟩)] w λe w'=>∃ aa,e=.returned (.agg (gv aa).toArray)/\jf ns cs aa/\Below w.heap.size w w':=by
 have m:=hid oQ;have n:=hid hcm;clear oQ hcm;go_enter Tryz.func65,Tryz.ntmps65;go_wp2_with fail;refine(aav _).mono ?_;rintro e d ⟨g,rfl,j,a⟩;simp only[aB7]at a;have b:=hid ((ig w).below a (by omega));have o:=hid (((aB4 w.heap.size w).alloc (aB2 _) (.cells Tryz.zeroCells61 61)).trans (a.mono (by omega)));have p:w.heap.size<d.heap.size:=by have:=a.size;simp at this;omega
 have q:=hid (j.below ((aB4 d.heap.size d).alloc (aB2 _) (.cells #[.slice (some ⟨g,0,none⟩) 1 1] 159)));clear j a;have h:=hid (o.out.alloc (by omega) (.cells #[.slice (some ⟨g,0,none⟩) 1 1] 159));have b:=hid (b.out.alloc (.cells #[.slice (some ⟨g,0,none⟩) 1 1] 159));go_wp2_with fail;refine(BS P g 1 1 ns (fM 8) cs _ h8 VC (m.out.below h.out hP) (by simp;omega) (n.out.below h.out hP) hcl q.out).mono ?_;rintro e x ⟨r,f,rfl,s,y,i,k,c⟩;simp only[aB7]at c s;have b:=hid (b.out.below c (by omega));have u:=hid (h.out.trans (c.mono (by omega)));have i:=hid (i.z8 (t:=0) (by omega));have v:=hid k;clear c k;go_wp2_with (first | (refine aN rfl (.tmp 14) rfl r 0 f rfl (by simpa using i.out) ?_) | (refine bM rfl (.tmp 2) (.tmp 15) rfl w.heap.size 0 f rfl rfl b.out.there ?_))
 intro z l;go_wp2_with fail;refine AJ Tryz.results65 ?_ ?_ l.at_ ?_
 ·rfl
 ·rfl
 ·exact⟨f,rfl,v.out,l.bD _ _ (aB2 _) u.out⟩
structure vZ (w:World) (P:Nat) (ns:List Nd) (aa aJ:Nat->Bool):Prop where
 gF:∀ x N,x<8->N<256->w.cell? ⟨P,x*256+N,none⟩=some (.int .u8 (gF ns x N:Nat))
 aa:bE w P 2049 aa
 aJ:bE w P 2305 aJ
theorem vZ.lt{w:World}{P:Nat}{ns:List Nd}{aa aJ:Nat->Bool}(h:vZ w P ns aa aJ):P<w.heap.size:=h.aa.lt
theorem vZ.below{B:Nat}{w w':World}{P:Nat}{ns:List Nd}{aa aJ:Nat->Bool}(h:vZ w P ns aa aJ)(hb:Below B w w')(hlt:P<B):vZ w' P ns aa aJ:=
 ⟨λx N hx hN=>(hb.cell (p:=⟨P,x*256+N,none⟩) hlt).trans (h.gF x N hx hN),h.aa.below hb hlt,h.aJ.below hb hlt⟩
def stepG(ns:List Nd)(aa fr:Nat->Bool)(x:Nat):Nat->Bool:=λN=>aa N&&fr (gF ns x N)
theorem Sa(P x:Nat)(ns:List Nd)(aa aJ fr:Nat->Bool)(w:World)(hx:x<8)(h8:ns.length<=8)(ho:vZ w P ns aa aJ) :
  Calls Tryz.prog 69 #[.pointer (some ⟨P,0,none⟩),.agg (gv fr).toArray,.int .i64 x] w λe w'=>e=.returned (.agg (gv (stepG ns aa fr x)).toArray)/\Below w.heap.size w w':=by
 have v:=hid Tryz.vJ;have y:=ho.lt;have A:=hid ho;have I:((x:Int)<0)=False:=by simp
 clear ho;go_enter Tryz.func69,Tryz.ntmps69;go_wp2_with (refine bM rfl (.tmp 7) (.tmp 9) rfl (w.heap.size+1+1) 0 (λ_=>false) rfl (congrArg Value.agg v.out) ?t1 ?_)
 case t1=>
  have:=(ig ((w.alloc (.cells (gv fr).toArray 61)).alloc (.cells Tryz.zeroCells61 61))).there;simpa using this
 intro n a;have B:=hid a.at_;have C:Hid (bE n (w.heap.size+1) 0 (λ_=>false)):=by
  have z:=(ig (w.alloc (.cells (gv fr).toArray 61))).alloc (.cells Tryz.zeroCells61 61);rw[size_alloc]at z;exact hid (a.z8 z (aCa (by omega)))
 have D:Hid (bE n w.heap.size 0 fr):=hid (a.z8 (((wQ w fr 61).alloc _).alloc _) (aCa (by omega)));have E:Hid (Below w.heap.size w n):=hid (a.bD _ _ (by omega) ((((aB4 _ _).alloc (aB2 _) _).alloc (by simp) _).alloc (by simp;omega) _));clear a;go_wp2_with fail
 go_loopw [17] (λi g=>∃ j:Nat,j<=256/\i=.int .i64 j/\Hid (bE g (w.heap.size+1+1) 0 (upTo (stepG ns aa fr x) j))/\Hid (bE g (w.heap.size+1) 0 (λ_=>false))/\Hid (bE g w.heap.size 0 fr)/\Hid (Below w.heap.size w g)) (λi _=>256 - (intOf i).toNat)
 case atStart=>exact⟨0,by omega,rfl,by rw[ug];exact B,C,D,E⟩
 case round=>
  obtain⟨j,r,rfl,h,s,t,q⟩:=hrel;rename World=>W0;by_cases b:j<256
  ·have J:W0.frozen? ⟨w.heap.size+1+1,j,none⟩=false:=by have:=h.out.f j b;rwa [aCw]at this
   have K:W0.cell? ⟨w.heap.size+1+1,j,none⟩=some (.bool (upTo (stepG ns aa fr x) j j)):=by have:=h.out.c j b;rwa [aCw]at this
   have o:=A.out.below q.out y;have c1:=o.aa.c j b;have c2:=o.gF x j hx b;have F:=vR h8 x j;have L:W0.cell? ⟨w.heap.size,gF ns x j,none⟩=some (.bool (fr (gF ns x j))):=by have:=t.out.c _ F;rwa [aCw]at this
   have d:=hid (h.out.set b (stepG ns aa fr x j));have k:=hid (s.out.other ⟨w.heap.size+1+1,j,none⟩ (.bool (stepG ns aa fr x j)) (aCa (by simp)));have l:=hid (t.out.other ⟨w.heap.size+1+1,j,none⟩ (.bool (stepG ns aa fr x j)) (aCa (by simp;omega)));have m:=hid (q.out.setCell (p:=⟨w.heap.size+1+1,j,none⟩) (by show w.heap.size<=w.heap.size+1+1;omega) (.bool (stepG ns aa fr x j)));rw[uh,aCw]at d;have H:stepG ns aa fr x j=(aa j&&fr (gF ns x j)):=rfl;generalize upTo (stepG ns aa fr x) j j=ov at *;generalize stepG ns aa fr x j=sv at *;generalize gF ns x j=bv at *;generalize aa j=lv at *;generalize fr bv=fv at *;clear o;subst H;cases lv with
   | false=>
    simp only[Bool.false_and]at d k l m;go_wp2_with fail;go_roundw
    case rel=>exact⟨j+1,by omega,by go_num,d,k,l,m⟩
    case measure=>simp[intOf];omega
   | true=>
    simp only[Bool.true_and]at d k l m;go_wp2_with fail;go_roundw
    case rel=>exact⟨j+1,by omega,by go_num,d,k,l,m⟩
    case measure=>simp[intOf];omega
  ·obtain rfl:j=256:=by omega
   have G:=hid (h.out.congr (λj r=>JV (stepG ns aa fr x) r));go_wp2_with (first | (refine aN rfl (.tmp 7) rfl (w.heap.size+1+1) 0 _ rfl G.out ?_) | (refine bM rfl (.tmp 6) (.tmp 41) rfl (w.heap.size+1) 0 (stepG ns aa fr x) rfl rfl s.out.there ?_))
   intro M u;go_wp2_with fail;refine AJ Tryz.results69 ?_ ?_ u.at_ ?_
   ·rfl
   ·rfl
   ·exact⟨rfl,u.bD _ _ (by omega) q.out⟩
def rE(aa g:Nat->Bool):Nat:=if geq g aa=true then 1 else if geq g (λ_=>false)=true then 2 else 0
theorem Jl(P:Nat)(ns:List Nd)(aa aJ g:Nat->Bool)(w:World)(ho:vZ w P ns aa aJ) :
  Calls Tryz.prog 68 #[.pointer (some ⟨P,0,none⟩),.agg (gv g).toArray] w λe w'=>e=.returned (.int .i64 (rE aa g:Nat))/\Below w.heap.size w w':=by
 have k:=hid Tryz.vJ;have l:=hid ho;have b:=hid (wQ w g 61);have d:=hid (ho.aa.alloc (.cells (gv g).toArray 61));have m:=λg h W=>pO 9998 g h W;have f:∀ W,(Op.equalIn 10000 61 (.agg (gv g).toArray) (.agg Tryz.zeroCells61)).run Tryz.prog W=.ok (geq g λ_=>false) W:=λW=>by rw[Tryz.vJ];exact pO 9998 g _ W
 clear ho;go_enter Tryz.func68,Tryz.ntmps68;go_wp2_with fail;refine wp_region_held_drew (S:=λW=>bE W w.heap.size 0 g/\bE W P 2049 aa) (by kernel_rfl) ⟨b.out.drew,d.out.drew⟩ (λj=>?_);refine aCc (i:=0) (oi:={ dst:=some 5,op:=Op.load 61 (.tmp 3),type:=_,pos:=_,after:=_,guard:=none }) (v:=(Value.agg (gv g).toArray)) rfl (by kernel_rfl) (by kernel_rfl) (by kernel_rfl) (λ_ _ _ h=>h) (yieldsIf_load_mid (by rfl) 61 (.tmp 3) rfl w.heap.size 0 rfl (gv g) _ (λW h=>h.1.ww) Tryz.jM rfl (Tryz.qh g)) (by assumption) ?_;simp only[Act.put,aB1,aB5,aB6];refine aCc (i:=1) (oi:={ dst:=some 6,op:=Op.move (.tmp 0),type:=_,pos:=_,after:=_,guard:=none }) (v:=(Value.pointer (some ⟨P,0,none⟩))) rfl (by kernel_rfl) (by kernel_rfl) (by kernel_rfl) (λ_ _ _ h=>h) (aCa ⟨by rfl,by intro w' a;(try dsimp only at a);go_simp⟩) (by assumption) ?_
 simp only[Act.put,aB1,aB5,aB6];refine aCc (i:=2) (oi:={ dst:=some 7,op:=Op.nilCheck (.tmp 6),type:=_,pos:=_,after:=_,guard:=none }) (v:=(Value.pointer (some ⟨P,0,none⟩))) rfl (by kernel_rfl) (by kernel_rfl) (by kernel_rfl) (λ_ _ _ h=>h) (aCa ⟨by rfl,by intro w' a;(try dsimp only at a);go_simp⟩) (by assumption) ?_
 simp only[Act.put,aB1,aB5,aB6];refine aCc (i:=3) (oi:={ dst:=some 8,op:=Op.fieldAddr _ (.tmp 7) 2,type:=_,pos:=_,after:=_,guard:=none }) (v:=(Value.pointer (some ⟨P,2049,none⟩))) rfl (by kernel_rfl) (by kernel_rfl) (by kernel_rfl) (λ_ _ _ h=>h) (aCa ⟨by rfl,by intro w' a;(try dsimp only at a);go_simp⟩) (by assumption) ?_
 simp only[Act.put,aB1,aB5,aB6];refine aCc (i:=4) (oi:={ dst:=some 9,op:=Op.load 61 (.tmp 8),type:=_,pos:=_,after:=_,guard:=none }) (v:=(Value.agg (gv aa).toArray)) rfl (by kernel_rfl) (by kernel_rfl) (by kernel_rfl) (λ_ _ _ h=>h) (yieldsIf_load_mid (by rfl) 61 (.tmp 8) rfl P 2049 rfl (gv aa) _ (λW h=>h.2.ww) Tryz.jM rfl (Tryz.qh aa)) (by assumption) ?_;simp only[Act.put,aB1,aB5,aB6];refine aCc (i:=5) (oi:={ dst:=some 10,op:=Op.binOp BinOp.eql 61 (.tmp 5) (.tmp 9) 61,type:=_,pos:=_,after:=_,guard:=none }) (v:=(Value.bool (geq g aa))) rfl (by kernel_rfl) (by kernel_rfl) (by kernel_rfl) (λ_ _ _ h=>h) (aCa ⟨by rfl,by intro w' a;go_simp⟩) (by assumption) ?_;simp only[Act.put,aB1,aB5,aB6];refine aC0 (by kernel_rfl) ?_ _;have c:Hid (rE aa g=if geq g aa=true then 1 else if geq g (λ_=>false)=true then 2 else 0):=hid rfl;have b:=hid j.1;clear j d;cases e1:geq g aa with
 | true=>
  go_wp2_with fail;go_ret;exact⟨by rw[c.out,e1];rfl,((aB4 _ _).alloc (aB2 _) _).drew⟩
 | false=>
  rw[e1]at c;clear e1;cases e2:geq g (λ_=>false) with
  | true=>
   rw[e2]at f;go_wp2_with (refine aN rfl (.tmp 3) rfl w.heap.size 0 g rfl b.out ?_);go_ret;exact⟨by rw[c.out,e2];rfl,((aB4 _ _).alloc (aB2 _) _).drew⟩
  | false=>
   rw[e2]at f;go_wp2_with (refine aN rfl (.tmp 3) rfl w.heap.size 0 g rfl b.out ?_);go_ret;exact⟨by rw[c.out,e2];rfl,((aB4 _ _).alloc (aB2 _) _).drew⟩
def dR(ns:List Nd)(aa:Nat->Bool)(g:Nat->Bool)(us:List Nat):Nat->Bool:=us.foldl (λg x=>stepG ns aa g x) g
theorem qH(ns:List Nd)(aa g:Nat->Bool)(us:List Nat)(x:Nat):dR ns aa g (us++[x])=stepG ns aa (dR ns aa g us) x:=by simp[dR]
theorem aeG{zs:List Int}{j:Nat}(h:j<zs.length){x:Nat}(hx:zs.getD j 0=(x:Int)):(zs.map Int.toNat).take (j+1)=(zs.map Int.toNat).take j++[x]:=by
 rw[List.take_succ_eq_append_getElem (by simpa using h)];have:zs[j]=(x:Int):=by simpa [List.getD,aB3 h] using hx
 simp[this]
theorem ZH(P:Nat)(ns:List Nd)(aa aJ:Nat->Bool)(ao:Option Addr)(len cap:Nat)(zs:List Int)(w:World)(h8:ns.length<=8)(ho:vZ w P ns aa aJ)(hi:Ints w ao len cap zs)(ha:dh zs=true) :
  Calls Tryz.prog 103 #[.pointer (some ⟨P,0,none⟩),.slice ao len cap] w λe w'=>e=.returned (.int .i64 (rE aa (dR ns aa aJ (zs.map Int.toNat)):Nat))/\Below w.heap.size w w':=by
 have A:=ho.lt;have m:=hid ho;have F:=hid hi;have B:=hi.hlen;have V:=hi.hcap;have X:=hi.hmax;have G:=hid ha;have n:=hid B;clear ho hi ha B;go_enter Tryz.func103,Tryz.ntmps103;go_wp2_with fail;refine(QE P aJ _ m.out.aJ).mono ?_;rintro e q ⟨rfl,r⟩;have d:=r.size;go_wp2_with (refine bM rfl (.tmp 5) (.tmp 9) rfl q.heap.size 0 aJ rfl rfl (ig q).there ?_);intro H s;have I:=hid s.at_;have J:Hid (Below w.heap.size w H):=hid (s.bD _ _ d (r.alloc d _));clear s r;generalize q.heap.size=gb at *;go_wp2_with fail
 go_loopw [12] (λi C=>∃ j:Nat,j<=len/\i=.int .i64 j/\Hid (bE C gb 0 (dR ns aa aJ ((zs.map Int.toNat).take j)))/\Hid (Below w.heap.size w C)) (λi _=>len - (intOf i).toNat)
 case atStart=>exact⟨0,aCg _,rfl,by simpa [dR] using I,J⟩
 case round=>
  obtain⟨j,Y,rfl,l,f⟩:=hrel;rename World=>W0;by_cases g:j<len
  ·obtain⟨b,t,rfl,K,a⟩:=F.out.hcell (by omega);have c:=(f.out.cell (p:=⟨b,t+j,none⟩) K).trans (a j g);have u:qO (zs.getD j 0)=true:=by
    have v:=G.out;unfold dh at v;rw[List.all_eq_true]at v;have D:j<zs.length:=by rw[n.out];exact g
    have L:zs.getD j 0=zs[j]:=by simp[List.getD,aB3 D]
    rw[L];exact v _ (List.getElem_mem D)
   obtain⟨x,y⟩:∃ x:Nat,zs.getD j 0=(x:Int):=⟨(zs.getD j 0).toNat,by have:=(ja.1 u).1;omega⟩;have M:x<8:=by have:=(ja.1 u).2;omega
   have N:=hid (aeG (zs:=zs) (j:=j) (by rw[n.out];exact g) y);rw[y]at c;clear y u a;have E:=λfr W (h:vZ W P ns aa aJ)=>Sa P x ns aa aJ fr W M h8 h;have o:=hid (m.out.below f.out A);go_wp2_with (refine aN rfl (.tmp 5) rfl gb 0 _ rfl l.out ?_);refine(E _ _ o.out).mono ?_;rintro e O ⟨rfl,k⟩;have Q:=hid (l.out.below k l.out.lt);have R:=hid (f.out.trans (k.mono f.out.size));clear k E o;go_wp2_with (refine bM rfl (.tmp 5) (.tmp 19) rfl gb 0 (stepG ns aa (dR ns aa aJ ((zs.map Int.toNat).take j)) x) rfl rfl Q.out.there ?_);intro Z z;have S:=hid z.at_;have T:=hid (z.bD _ _ d R.out);clear z;go_wp2_with fail;go_roundw
   case rel=>exact⟨j+1,by omega,by go_num,by rw[N.out,qH];exact S,T⟩
   case measure=>simp[intOf];omega
  ·obtain rfl:j=len:=by omega
   have o:=hid (m.out.below f.out A);have U:Hid ((zs.map Int.toNat).take j=zs.map Int.toNat):=hid (List.take_of_length_le (by simp[n.out]));go_wp2_with (refine aN rfl (.tmp 5) rfl gb 0 _ rfl l.out ?_);refine(Jl P ns aa aJ _ _ o.out).mono ?_;rintro e O ⟨rfl,k⟩;go_wp2_with fail;go_ret;exact⟨by rw[U.out];rfl,f.out.trans (k.mono f.out.size)⟩
def rv(c:Nat->Value)(N:Nat):List Value:=(List.range N).map c
theorem qG(c:Nat->Value)(N:Nat):(rv c N).length=N:=by simp[rv]
theorem abk(c:Nat->Value){N i:Nat}(h:i<N):(rv c N)[i]?=some (c i):=by simp[rv,h]
def One(c:Nat->Value)(N:Nat):Prop:=∀ i,i<N->(c i).oneCell'=true
theorem akJ{c:Nat->Value}{N:Nat}(h:One c N):∀ v∈rv c N,v.oneCell'=true:=by
 intro v a;simp only[rv,aCU,aCQ]at a;obtain⟨j,b,rfl⟩:=a;exact h j b
structure dK (w:World) (b N:Nat) (c:Nat->Value):Prop where
 c:∀ i,i<N->w.cell? ⟨b,i,none⟩=some (c i)
 f:∀ i,i<N->w.frozen? ⟨b,i,none⟩=false
theorem dK.ww{w:World}{b N:Nat}{c:Nat->Value}(h:dK w b N c):w.rangeAt b 0 (rv c N):=λj v hv=>by
 have hj:j<N:=by have:=(aB9.1 hv).1;rwa [qG]at this
 rw[abk c hj]at hv;rw[aCw,h.c j hj,hv]
theorem dK.there{w:World}{b N:Nat}{c:Nat->Value}(h:dK w b N c)(o n:Nat)(hn:o+n<=N):w.there b o n:=λj hj=>⟨by rw[h.c (o+j) (by omega)];rfl,h.f (o+j) (by omega)⟩
theorem dK.below{B:Nat}{w w':World}{b N:Nat}{c:Nat->Value}(h:dK w b N c)(hb:Below B w w')(hlt:b<B):dK w' b N c:=
 ⟨λj hj=>(hb.cell (p:=⟨b,j,none⟩) hlt).trans (h.c j hj),λj hj=>(hb.frozen (p:=⟨b,j,none⟩) hlt).trans (h.f j hj)⟩
theorem dK.congr{w:World}{b N:Nat}{c d:Nat->Value}(h:dK w b N c)(e:∀ j,j<N->c j=d j):dK w b N d:=⟨λj hj=>by rw[h.c j hj,e j hj],h.f⟩
def BL(c:Nat->Value)(i:Nat)(v:Value):Nat->Value:=λj=>if j=i then v else c j
theorem dK.set{w:World}{b N:Nat}{c:Nat->Value}(h:dK w b N c)(i:Nat)(v:Value):dK (w.setCell ⟨b,i,none⟩ v) b N (BL c i v):=by
 refine⟨λj a=>?_,λj a=>by rw[aCm];exact h.f j a⟩;by_cases e:j=i
 ·subst e;rw[aCz _ _ _ (h.c j a)];simp[BL]
 ·rw[aB8 _ ⟨b,i,none⟩ ⟨b,j,none⟩ _ (λq=>e (by have:=congrArg Addr.off q;simp at this;omega)),h.c j a];simp[BL,e]
theorem dK.other{w:World}{b N:Nat}{c:Nat->Value}(h:dK w b N c)(p:Addr)(v:Value)(hp:p.block≠b):dK (w.setCell p v) b N c:=by
 refine⟨λj a=>?_,λj a=>by rw[aCm];exact h.f j a⟩;rw[aB8 _ p ⟨b,j,none⟩ _ (λq=>hp (congrArg Addr.block q))];exact h.c j a
theorem mW(w:World)(c:Nat->Value)(N:Nat)(t:TypeId):dK (w.alloc (.cells (rv c N).toArray t)) w.heap.size N c:=by
 refine⟨λj a=>?_,λj a=>?_⟩
 ·rw[aCR (w.alloc (.cells (rv c N).toArray t)) w.heap.size j (rv c N).toArray t (0,0) (heap_alloc_last w _)];simp[rv,a]
 ·simp
structure CZ (w:World) (b N:Nat) (c:Nat->Value) (w1:World):Prop where
 at_:dK w1 b N c
 size:w1.heap.size=w.heap.size
 bD:∀ B a,B<=b->Below B a w->Below B a w1
 cell:∀ p:Addr,p.block≠b->w1.cell? p=w.cell? p
 fz:∀ p,w1.frozen? p=w.frozen? p
theorem Nw{w:World}{b N:Nat}(h:w.there b 0 N)(c:Nat->Value):CZ w b N c (w.setCells b 0 (rv c N)):=by
 refine⟨⟨λj d=>?_,λj d=>?_⟩,size_setCells _ _ _ _,λB a f e=>below_setCells f _ _ _ e,λp g=>?_,λp=>World.frozen?_setCells _ _ _ _ _⟩
 ·have:=World.rangeAt_setCells_same w b 0 (rv c N) (by rw[qG];exact h) j _ (abk c d);rwa [aCw]at this
 ·rw[World.frozen?_setCells];have:=(h j d).2;rwa [aCw]at this
 ·rw[World.cell?_setCells_out b (rv c N) 0 w p (λe _=>absurd e g)]
theorem CZ.raw{w w1:World}{b N:Nat}{c:Nat->Value}(h:CZ w b N c w1){b' N':Nat}{c':Nat->Value}(k:dK w b' N' c')(hp:b'≠b):dK w1 b' N' c':=
 ⟨λj hj=>by rw[h.cell ⟨b',j,none⟩ hp];exact k.c j hj,λj hj=>by rw[h.fz];exact k.f j hj⟩
theorem eP{ops:Array Oper}{rest:List Oper}{op:Oper}{a:Act}{w:World}{Q:Exit->Act->World->Prop}(nZ:op.guard=none)(ty:TypeId)(x y:Operand)(ho:op.op=.store ty x y)
  (b N:Nat) (c:Nat->Value) (hx:a.eval x=.pointer (some ⟨b,0,none⟩)) (hy:a.eval y=.agg (rv c N).toArray) (ht:w.there b 0 N) (hs:(Tryz.prog.info? ty).map (·.size)=some N) (h1:One c N)
  (h:∀ w1,CZ w b N c w1->wpList Tryz.prog ops Q rest (a.put op.dst undef) w1):wpList Tryz.prog ops Q (op::rest) a w:=by
 refine wpList_store_mid nZ ty x y ho b 0 (rv c N).toArray hx hy (by simp only[List.size_toArray,qG];exact ht) (by simp only[List.size_toArray,qG];exact hs) (all_oneCell_toArray (akJ h1)) ?_;exact h _ (Nw ht c)
theorem ql{ops:Array Oper}{rest:List Oper}{op:Oper}{a:Act}{w:World}{Q:Exit->Act->World->Prop}(nZ:op.guard=none)(ty:TypeId)(x:Operand)(ho:op.op=.load ty x)
  (b N:Nat) (c:Nat->Value) (d:TypeDesc) (hx:a.eval x=.pointer (some ⟨b,0,none⟩)) (hg:dK w b N c) (hu:Tryz.prog.underlying ty=some d) (hd:d.isRow=true) (hs:(Tryz.prog.info? ty).map (·.size)=some N)
  (h:wpList Tryz.prog ops Q rest (a.put op.dst (.agg (rv c N).toArray)) w):wpList Tryz.prog ops Q (op::rest) a w:=
 wpList_load_mid nZ ty x ho b 0 hx (rv c N) d hg.ww hu hd (by rw[qG];exact hs) h
def dL(bf:Nat->Nat)(sl:Value)(aa aJ:Nat->Bool):Nat->Value:=λi=>
 if i<2048 then .int .u8 (bf i:Nat) else if i=2048 then sl else if i<2305 then .bool (aa (i - 2049)) else .bool (aJ (i - 2305))
theorem Tryz.zN:Tryz.zeroCells63=(rv (dL (λ_=>0) (.slice none 0 0) (λ_=>false) (λ_=>false)) 2561).toArray:=by kernel_rfl
theorem Tryz.um:(Tryz.prog.info? 63).map (·.size)=some 2561:=by kernel_rfl
theorem wN(bf:Nat->Nat){sl:Value}(aa aJ:Nat->Bool)(h:sl.oneCell'=true):One (dL bf sl aa aJ) 2561:=λi hi=>by
 unfold dL
 split
 ·rfl
 ·split
  ·exact h
  ·split <;> rfl
def YV(f:Nat->Nat)(i v:Nat):Nat->Nat:=λj=>if j=i then v else f j
theorem afr(bf:Nat->Nat)(sl:Value)(aa aJ:Nat->Bool){i:Nat}(hi:i<2048)(v:Nat):BL (dL bf sl aa aJ) i (.int .u8 (v:Nat))=dL (YV bf i v) sl aa aJ:=by
 funext j;unfold BL dL YV;by_cases e:j=i
 ·subst e;simp[hi]
 ·simp[e]
theorem ajv(bf:Nat->Nat)(sl sl':Value)(aa aJ:Nat->Bool):BL (dL bf sl aa aJ) 2048 sl'=dL bf sl' aa aJ:=by
 funext j;unfold BL dL;by_cases e:j=2048
 ·subst e;simp
 ·simp[e]
theorem afq(bf:Nat->Nat)(sl:Value)(aa aJ:Nat->Bool){i:Nat}(hi:i<256)(v:Bool):BL (dL bf sl aa aJ) (2305+i) (.bool v)=dL bf sl aa (upd aJ i v):=by
 funext j;unfold BL dL upd;by_cases e:j=2305+i
 ·subst e;rw[aC2 rfl,aC1 (by omega),aC1 (by omega),aC1 (by omega),aC2 (by omega)]
 ·rw[aC1 e];by_cases a:j<2048
  ·rw[aC2 a,aC2 a]
  ·rw[aC1 a,aC1 a];by_cases b:j=2048
   ·rw[aC2 b,aC2 b]
   ·rw[aC1 b,aC1 b];by_cases c:j<2305
    ·rw[aC2 c,aC2 c]
    ·rw[aC1 c,aC1 c,aC1 (by omega)]
theorem ajq{w w1:World}{b:Nat}{bf:Nat->Nat}{sl:Value}{aa aJ g:Nat->Bool}(h:dK w b 2561 (dL bf sl aa aJ))(s:wV w b 2049 g w1):dK w1 b 2561 (dL bf sl g aJ):=by
 refine⟨λi d=>?_,λi d=>by rw[s.fz];exact h.f i d⟩;by_cases j:i<2049
 ·rw[s.cell ⟨b,i,none⟩ (aCb (aCa j)),h.c i d];unfold dL;by_cases a:i<2048
  ·rw[aC2 a,aC2 a]
  ·have e:i=2048:=by omega
   rw[aC1 a,aC1 a,aC2 e,aC2 e]
 ·by_cases a:i<2305
  ·have:=s.at_.c (i - 2049) (by omega);rw[show 2049+(i - 2049)=i by omega]at this;rw[this];unfold dL;rw[aC1 (by omega),aC1 (by omega),aC2 a]
  ·rw[s.cell ⟨b,i,none⟩ (aCb (aCb (by show 2049+256<=i;omega))),h.c i d];unfold dL;rw[aC1 (by omega),aC1 (by omega),aC1 a,aC1 (by omega),aC1 (by omega),aC1 a]
theorem Pw{w:World}{b:Nat}{bf:Nat->Nat}{sl:Value}{aa aJ:Nat->Bool}(h:dK w b 2561 (dL bf sl aa aJ)):bE w b 2049 aa:=by
 refine⟨λj a=>?_,λj a=>h.f _ (by omega)⟩;rw[h.c _ (by omega)];unfold dL;rw[aC1 (by omega),aC1 (by omega),aC2 (by omega),show 2049+j - 2049=j by omega]
theorem abA{w:World}{b:Nat}{bf:Nat->Nat}{sl:Value}{aa aJ:Nat->Bool}(h:dK w b 2561 (dL bf sl aa aJ)):bE w b 2305 aJ:=by
 refine⟨λj a=>?_,λj a=>h.f _ (by omega)⟩;rw[h.c _ (by omega)];unfold dL;rw[aC1 (by omega),aC1 (by omega),aC1 (by omega),show 2305+j - 2305=j by omega]
def oo(ns:List Nd):Nat->Nat:=λi=>gF ns (i / 256) (i % 256)
theorem Sz{w:World}{b:Nat}{ns:List Nd}{sl:Value}{aa aJ:Nat->Bool}(h:dK w b 2561 (dL (oo ns) sl aa aJ)):wZ w b ns:=λx N hx hN=>by
 rw[h.c _ (by omega)];unfold dL oo;rw[aC2 (by omega),show (x*256+N) / 256=x by omega,show (x*256+N) % 256=N by omega]
theorem FZ{w:World}{b:Nat}{bf:Nat->Nat}{sl:Value}{aa aJ:Nat->Bool}(h:dK w b 2561 (dL bf sl aa aJ)):w.cell? ⟨b,2048,none⟩=some sl:=by
 rw[h.c _ (by omega)];simp[dL]
theorem IW{w:World}{b:Nat}{ns:List Nd}{sl:Value}{aa aJ:Nat->Bool}(h:dK w b 2561 (dL (oo ns) sl aa aJ)):vZ w b ns aa aJ:=⟨Sz h,Pw h,abA h⟩
def EL(w:World)(sl:Value)(cs:List (Nat->Bool)):Prop:=∃ ao cap,sl=.slice ao cs.length cap/\(0<cs.length->∃ gc,ao=some ⟨gc,0,none⟩/\gc<w.heap.size/\∀ k c,cs[k]?=some c->bE w gc (k*256) c)
theorem EL.below{w w':World}{sl:Value}{cs:List (Nat->Bool)}(h:EL w sl cs)(hb:Below w.heap.size w w'):EL w' sl cs:=by
 obtain⟨b,cap,d,e⟩:=h;refine⟨b,cap,d,λf=>?_⟩;obtain⟨g,i,a,j⟩:=e f;exact⟨g,i,aCq a hb.size,λk c l=>(j k c l).below hb a⟩
theorem agI{w:World}{b:Nat}{bf:Nat->Nat}{sl:Value}{aa aJ:Nat->Bool}{cs:List (Nat->Bool)}(h:dK w b 2561 (dL bf sl aa aJ))(hv:EL w sl cs):pK w b cs:=by
 obtain⟨a,cap,rfl,c⟩:=hv;exact⟨a,cap,FZ h,c⟩
def qz(cs:List (Nat->Bool)):List Value:=cs.flatMap gv
theorem ac0{cs:List (Nat->Bool)}{k:Nat}{c:Nat->Bool}(h:cs[k]?=some c){j:Nat}(hj:j<256):(qz cs)[k*256+j]?=some (.bool (c j)):=by
 induction cs generalizing k with
 | nil=>simp at h
 | cons p ps ih=>
  rw[show qz (p::ps)=gv p++qz ps by simp[qz]];cases k with
  | zero=>
   simp at h;subst h;rw[aCh (by rw[mG];omega),Nat.zero_mul,aCw];exact zZ p hj
  | succ k=>
   rw[aCi (by rw[mG];omega),mG,show (k+1)*256+j - 256=k*256+j by omega];exact ih (by simpa using h)
theorem H9{w:World}{B:Nat}{sl:Value}{cs:List (Nat->Bool)}(h:w.ownsRow B 61 256 sl cs.length (qz cs)):EL w sl cs:=by
 obtain⟨d,cap,rfl⟩:=ak h;refine⟨d,cap,rfl,λe=>?_⟩;obtain⟨f,rfl,l,g,m⟩:=eZ h e;refine⟨f,rfl,g,λk c a=>⟨λj b=>?_,λj b=>h.frozenAt _⟩⟩;have i:=(aB9.1 a).1;rw[h.cellAt (k*256+j) (by have:(k+1)*256<=cs.length*256:=Nat.mul_le_mul_right _ i;omega)];exact ac0 a b
theorem fold_size(off:Nat):∀ (xs:List Value) (k:Nat) (base:Array Value),((xs.zipIdx k).foldl (λcs p=>cs.setIfInBounds (off+p.2) p.1) base).size=base.size
 | [],_,_=>rfl
 | x::xs,k,base=>by
  rw[List.zipIdx_cons,List.foldl_cons,fold_size off xs (k+1)];simp
theorem UW:∀ (xs:List Value) (k:Nat) (base:Array Value) (i:Nat),i<base.size ->
  ((xs.zipIdx k).foldl (λcs p=>cs.setIfInBounds (0+p.2) p.1) base)[i]?=if k<=i/\i<k+xs.length then xs[i - k]? else base[i]?
 | [],k,base,i,_=>by simp;intro h1 h2;omega
 | x::xs,k,base,i,hi=>by
  rw[List.zipIdx_cons,List.foldl_cons,UW xs (k+1) _ i (by simpa using hi)];by_cases e:i=k
  ·subst e;rw[aC1 (by omega),aC2 (by simp)];simp[hi]
  ·by_cases h:k+1<=i/\i<k+1+xs.length
   ·rw[aC2 h,aC2 (by simp;omega),show i - k=(i - (k+1))+1 by omega];simp
   ·rw[aC1 h,aC1 (by simp;omega)];simp[Array.getElem?_setIfInBounds];intro h2;omega
theorem agt(c base:Array Value)(n:Nat)(hc:c.size=n)(hb:base.size=n):Instr.fill (λi=>some (i*n,n)) base [(0,.agg c)]=some c:=by
 have b:(Value.agg c).cells=c:=rfl;simp only[Instr.fill,b,Nat.zero_mul,aCw,hc,hb,ne_eq,not_true,decide_false,Bool.false_or,gt_iff_lt,Nat.lt_irrefl,decide_false,Bool.false_eq_true,if_false];congr 1;apply Array.ext_getElem?;intro i;rw[<-Array.foldl_toList,Array.toList_zipIdx];by_cases d:i<n
 ·have:=UW c.toList 0 base i (by omega);simp only[aCw]at this;rw[this,aC2 (by simp;omega)];simp
 ·have a:=fold_size 0 c.toList 0 base;simp only[aCw]at a;rw[Array.getElem?_eq_none (by rw[a];omega),Array.getElem?_eq_none (by omega)]
theorem xw(g:Nat->Bool)(w:World):(Instr.buildSlice 59 1 #[(0,.agg (gv g).toArray)]).run Tryz.prog w=.ok (.slice (some ⟨w.heap.size,0,none⟩) 1 1) (w.alloc (.cells (gv g).toArray 61)):=by
 have a:=agt (gv g).toArray ((Array.range 256).map λx=>(Value.agg Tryz.zeroCells61).cells[x % (Value.agg Tryz.zeroCells61).cells.size]!) 256 (by simp[mG]) (by simp);simp[Instr.buildSlice,Tryz.runUnderlying59,Tryz.sizeOf61,Tryz.zeroValue61,newRow];rw[a];simp
theorem zw{ops:Array Oper}{rest:List Oper}{op:Oper}{a:Act}{w:World}{Q:Exit->Act->World->Prop}(nZ:op.guard=none)(x:Operand)(ho:op.op=.buildSlice 59 1 #[(0,x)])
  (g:Nat->Bool) (hx:a.eval x=.agg (gv g).toArray)
  (h:wpList Tryz.prog ops Q rest (a.put op.dst (.slice (some ⟨w.heap.size,0,none⟩) 1 1)) (w.alloc (.cells (gv g).toArray 61))):wpList Tryz.prog ops Q (op::rest) a w:=
 wpList_plain nZ λ_ hK=>by
  unfold Oper.wp execOp;have:=xw g w;simp only[ho,hx,List.map_toArray,List.map_cons,List.map_nil,Sem.run_bind,this,Result.andThen_ok,Sem.run_pure];exact hK _ _ h
def Aq(f:Nat->Nat)(k:Nat):Nat->Nat:=λi=>if i<k then f i else 0
theorem YX(f:Nat->Nat)(k:Nat):YV (Aq f k) k (f k)=Aq f (k+1):=by
 funext j;unfold YV Aq;by_cases e:j=k
 ·subst e;simp
 ·by_cases h:j<k
  ·rw[aC1 e,aC2 h,aC2 (by omega)]
  ·rw[aC1 e,aC1 h,aC1 (by omega)]
theorem YW(f:Nat->Nat):Aq f 0=λ_=>0:=by funext j;simp[Aq]
def aW(ns:List Nd)(k:Nat):List (Nat->Bool):=((List.range k).filter λi=>mo (au ns i).op).map λi=>kR i (iV (au ns i))
theorem Hz(ns:List Nd)(k:Nat):aW ns (k+1)=aW ns k++(if mo (au ns k).op=true then [kR k (iV (au ns k))] else []):=by
 unfold aW;rw[aCT,List.filter_append,aCM];cases e:mo (au ns k).op <;> simp[e]
theorem sO(ns:List Nd):∀ k,(aW ns k).length<=k
 | 0=>by simp[aW]
 | k+1=>by
  have:=sO ns k;rw[Hz,aCd]
  split <;> simp <;> omega
theorem Mr(cs:List (Nat->Bool))(c:Nat->Bool):qz (cs++[c])=qz cs++gv c:=by simp[qz]
theorem JG.drew{w:World}{gn:Nat}{ns:List Nd}(h:JG w gn ns):JG w.drew gn ns:=⟨h.lt,h.c0,h.c1,h.c2⟩
theorem dK.drew{w:World}{b N:Nat}{c:Nat->Value}(h:dK w b N c):dK w.drew b N c:=⟨h.c,h.f⟩
theorem Wy{w:World}{b o n:Nat}(h:w.there b o n):w.drew.there b o n:=h
theorem UL(w:World)(g:Nat->Bool)(t:TypeId):∀ j u,(gv g)[j]?=some u->(w.alloc (.cells (gv g).toArray t)).cell? ((⟨w.heap.size,0,none⟩:Addr).add j)=some u:=λj u hj=>by
 rw[Addr.add_mid];exact(wQ w g t).ww j u hj
def mK(w:World)(B:Nat)(sl:Value)(cs:List (Nat->Bool)):Prop:=∃ ao cap,sl=.slice ao cs.length cap/\(0<cs.length->∃ gc,ao=some ⟨gc,0,none⟩/\B<=gc/\gc<w.heap.size/\∀ k c,cs[k]?=some c->bE w gc (k*256) c)
theorem adt{w:World}{B:Nat}{sl:Value}{cs:List (Nat->Bool)}(h:w.ownsRow B 61 256 sl cs.length (qz cs)):mK w B sl cs:=by
 obtain⟨a,cap,e,b⟩:=H9 h;refine⟨a,cap,e,λc=>?_⟩;obtain⟨d,f,g,i⟩:=b c;subst f;subst e;exact⟨d,rfl,(h.lt _ rfl).1,g,i⟩
theorem mK.v{w:World}{B:Nat}{sl:Value}{cs:List (Nat->Bool)}(h:mK w B sl cs):EL w sl cs:=by
 obtain⟨d,cap,e,f⟩:=h;exact⟨d,cap,e,λg=>(f g).imp λi ⟨a,_,b,c⟩=>⟨a,b,c⟩⟩
theorem mK.one{w:World}{B:Nat}{sl:Value}{cs:List (Nat->Bool)}(h:mK w B sl cs):sl.oneCell'=true:=by
 obtain⟨a,cap,rfl,_⟩:=h;rfl
theorem mK.below{w w':World}{B:Nat}{sl:Value}{cs:List (Nat->Bool)}(h:mK w B sl cs)(hb:Below w.heap.size w w'):mK w' B sl cs:=by
 obtain⟨b,cap,d,e⟩:=h;refine⟨b,cap,d,λf=>?_⟩;obtain⟨g,i,j,a,l⟩:=e f;exact⟨g,i,j,aCq a hb.size,λk c m=>(l k c m).below hb a⟩
theorem mK.stored{w w1:World}{B b o:Nat}{sl:Value}{cs:List (Nat->Bool)}{g:Nat->Bool}(h:mK w B sl cs)(s:wV w b o g w1)(hb:b<B):mK w1 B sl cs:=by
 obtain⟨a,cap,d,e⟩:=h;refine⟨a,cap,d,λf=>?_⟩;obtain⟨i,j,l,m,n⟩:=e f;exact⟨i,j,l,by rw[s.size];exact m,λk c p=>s.z8 (n k c p) (aCa (by omega))⟩
theorem mK.Nw{w w1:World}{B b N:Nat}{sl:Value}{cs:List (Nat->Bool)}{r:Nat->Value}(h:mK w B sl cs)(s:CZ w b N r w1)(hb:b<B):mK w1 B sl cs:=by
 obtain⟨i,cap,l,m⟩:=h;refine⟨i,cap,l,λn=>?_⟩;obtain⟨a,o,p,q,e⟩:=m n;exact⟨a,o,p,by rw[s.size];exact q,λk c g=>⟨λj d=>by rw[s.cell ⟨a,k*256+j,none⟩ (by show a≠b;omega)];exact(e k c g).c j d,λj d=>by rw[s.fz];exact(e k c g).f j d⟩⟩
theorem mK.set{w:World}{B:Nat}{sl:Value}{cs:List (Nat->Bool)}(h:mK w B sl cs)(p:Addr)(v:Value)(hb:p.block<B):mK (w.setCell p v) B sl cs:=by
 obtain⟨a,cap,b,d⟩:=h;refine⟨a,cap,b,λe=>?_⟩;obtain⟨f,g,i,j,l⟩:=d e;exact⟨f,g,i,by rw[aCr];exact j,λk c m=>(l k c m).other p v (aCa (by omega))⟩
theorem ajo{fn:Func}{p b N:Nat}{ty:TypeId}{d:TypeDesc}{c:Nat->Value}{a:Act}{w:World}{R:Ending->World->Prop}(h:fn.results=#[.cell p ty])(hd:a.defers=[])(hp:a.tmps.getD p undef=.pointer (some ⟨b,0,none⟩))
  (hg:dK w b N c) (hu:Tryz.prog.underlying ty=some d) (hr:d.isRow=true) (hs:(Tryz.prog.info? ty).map (·.size)=some N) (hR:R (.returned (.agg (rv c N).toArray)) w):bodyPost Tryz.prog fn R .ret a w:=by
 refine bodyPost_ret (v:=.agg (rv c N).toArray) ?_ hd hR;rw[o6 h,hp];simp only[asAddr,Sem.run_pure,Result.andThen_ok];exact run_loadVar_mid w b 0 _ (rv c N) d hg.ww hu hr (by rw[qG];exact hs)
def aL(ns:List Nd)(aa:Nat->Bool):Nat->Bool:=λv=>aa v&&v.testBit (ns.length - 1)
theorem Tryz.Ta:∃ d,Tryz.prog.underlying 63=some d/\d.isRow=true:=⟨_,Tryz.underlying63,rfl⟩
theorem DY(gn m1 DW:Nat)(ns:List Nd)(w:World)(hm:JG w gn ns)(hg:Good ns)(LZ:ns.length=m1+1) :
  Calls Tryz.prog 31 #[.slice (some ⟨gn,0,none⟩) (m1+1) DW] w λe w'=>∃ sl aa,e=.returned (.agg (rv (dL (oo ns) sl aa (aL ns aa)) 2561).toArray)/\jf ns (aW ns ns.length) aa/\EL w' sl (aW ns ns.length)/\sl.oneCell'=true/\Below w.heap.size w w':=by
 have h8:=hg.le;have HG:=hid hg;have HM:=hid hm;have wz:=hm.lt;have I:=hid LZ;have hm8:m1+1<=8:=by omega
 obtain⟨od,hod,XU⟩:=Tryz.Ta;have B:=hid (And.intro hod XU);have uN:=hid Tryz.zN;have HZC:Hid ((Value.agg (gv λ_=>false).toArray).cells.size=256):=hid (by show (gv λ_=>false).toArray.size=256;rw[List.size_toArray,mG]);obtain⟨i0,hi,aT,aP,aO⟩:=info_parts Tryz.Gm;clear hg hm LZ hod XU;go_enter Tryz.func31,Tryz.ntmps31;go_wp2_with (refine eP rfl 63 (.tmp 3) (.tmp 11) rfl (w.heap.size+1) 2561 (dL (λ_=>0) (.slice none 0 0) (λ_=>false) (λ_=>false)) rfl (congrArg Value.agg uN.out) ?t1 Tryz.um (wN _ _ _ rfl) ?_)
 case t1=>
  have:=mW (w.alloc (.cells Tryz.zeroCells63 63)) (dL (λ_=>0) (.slice none 0 0) (λ_=>false) (λ_=>false)) 2561 63;rw[<-uN.out,size_alloc]at this;exact this.there 0 2561 (by omega)
 intro w1 S1;have R3:=hid S1.at_;have R2:Hid (dK w1 w.heap.size 2561 (dL (λ_=>0) (.slice none 0 0) (λ_=>false) (λ_=>false))):=by
  have:=mW w (dL (λ_=>0) (.slice none 0 0) (λ_=>false) (λ_=>false)) 2561 63;rw[<-uN.out]at this;exact hid (S1.raw (this.below ((aB4 (w.heap.size+1) _).alloc (by simp) (.cells Tryz.zeroCells63 63)) (by omega)) (by omega))
 have aK:Hid (Below w.heap.size w w1):=hid (S1.bD _ _ (by omega) (((aB4 _ _).alloc (aB2 _) _).alloc (by simp) _));have hs1:w.heap.size+1<w1.heap.size:=by rw[S1.size];simp
 have R2:=hid (R2.out.there 0 2561 (by omega));clear S1;go_wp2_with fail
 go_loopw [12] (λi b=>∃ x:Nat,x<=8/\i=.int .i64 x/\Hid (dK b (w.heap.size+1) 2561 (dL (Aq (oo ns) (x*256)) (.slice none 0 0) (λ_=>false) (λ_=>false)))/\Hid (b.there w.heap.size 0 2561)/\w.heap.size+1<b.heap.size/\Hid (Below w.heap.size w b)) (λi _=>8 - (intOf i).toNat)
 case atStart=>exact⟨0,by omega,rfl,by rw[Nat.zero_mul,YW];exact R3,R2,hs1,aK⟩
 case round=>
  obtain⟨x,hx,rfl,a,m,s,g⟩:=hrel;rename World=>W0;by_cases gD:x<8
  ·go_wp2_with fail
   go_loopw [15] (λi b=>∃ N:Nat,N<=256/\i=.int .i64 N/\Hid (dK b (w.heap.size+1) 2561 (dL (Aq (oo ns) (x*256+N)) (.slice none 0 0) (λ_=>false) (λ_=>false)))/\Hid (b.there w.heap.size 0 2561)/\w.heap.size+1<b.heap.size/\Hid (Below w.heap.size w b)) (λi _=>256 - (intOf i).toNat)
   case atStart=>exact⟨0,by omega,rfl,a,m,s,g⟩
   case round=>
    obtain⟨N,hN,rfl,a,m,s,g⟩:=hrel;rename World=>W3;by_cases hlN:N<256
    ·have BF:=λW (h:JG W gn ns)=>aat gn (m1+1) DW x N ns W h HG.out I.out gD hlN;have HND:=hid (HM.out.below g.out wz).drew;have a:=hid a.out.drew;have m:=hid (Wy m.out);have g:=hid g.out.drew;have C:w.heap.size+1<W3.drew.heap.size:=s;have HE:Hid (oo ns (x*256+N)=gF ns x N):=hid (by unfold oo;rw[show (x*256+N) / 256=x by omega,show (x*256+N) % 256=N by omega]);go_wp2_with fail
     go_region_held3 (λ_=>True) (trivial) ((go_at_call 62;refine(BF _ (by exact HND.out)).mono ?_;rintro e w9 ⟨rfl,J⟩;have q0:=(a.out.below J C).f (x*256+N) (by omega);have q1:=(a.out.below J C).c (x*256+N) (by omega)))
     have o:=hid ((a.out.below J C).set (x*256+N) (.int .u8 (gF ns x N:Nat)));rw[afr _ _ _ _ (by omega),<-HE.out,YX,HE.out]at o;have D:Hid ((w9.setCell ⟨w.heap.size+1,x*256+N,none⟩ (.int .u8 (gF ns x N:Nat))).there w.heap.size 0 2561):=hid (λj n=>by
      obtain⟨a1,a2⟩:=m.out j n;rw[aCm,aB8 _ _ _ _ (λe=>by have:=congrArg Addr.block e;simp at this),J.cell (p:=⟨w.heap.size,0+j,none⟩) (by show w.heap.size<W3.drew.heap.size;omega),J.frozen (p:=⟨w.heap.size,0+j,none⟩) (by show w.heap.size<W3.drew.heap.size;omega)];exact⟨a1,a2⟩)
     have E:=hid ((g.out.trans (J.mono (by have:=g.out.size;omega))).setCell (p:=⟨w.heap.size+1,x*256+N,none⟩) (by show w.heap.size<=w.heap.size+1;omega) (.int .u8 (gF ns x N:Nat)));have hz9:w.heap.size+1<w9.heap.size:=aCq C J.size;clear J q0 q1 a m g BF;go_wp2_with fail;go_roundw
     case rel=>exact⟨N+1,by omega,by go_num,o,D,by simp;omega,E⟩
     case measure=>simp[intOf];omega
    ·obtain rfl:N=256:=by omega
     go_wp2_with fail;go_roundw
     case rel=>exact⟨x+1,by omega,by go_num,by rw[show (x+1)*256=x*256+256 by omega];exact a,m,s,g⟩
     case measure=>simp[intOf];omega
  ·obtain rfl:x=8:=by omega
   have a:=hid (a.out.congr (d:=dL (oo ns) (.slice none 0 0) (λ_=>false) (λ_=>false)) (λj n=>by
    unfold dL Aq;by_cases t:j<2048
    ·rw[aC2 t,aC2 t,aC2 (by omega)]
    ·rw[aC1 t,aC1 t]))
   go_wp2_with fail
   go_loopw [31] (λi b=>∃ (k:Nat) (sl:Value),k<=m1+1/\i=.int .i64 k/\Hid (dK b (w.heap.size+1) 2561 (dL (oo ns) sl (λ_=>false) (λ_=>false)))/\Hid (b.ownsRow (w.heap.size+2) 61 256 sl (aW ns k).length (qz (aW ns k)))/\Hid (b.there w.heap.size 0 2561)/\w.heap.size+1<b.heap.size/\Hid (Below w.heap.size w b)) (λi _=>m1+1 - (intOf i).toNat)
   case atStart=>exact⟨0,_,by omega,rfl,a,hid (aCp _ _ _ _),m,s,g⟩
   case round=>
    obtain⟨k,sl,hk,rfl,a,HO,m,s,g⟩:=hrel;rename World=>W4;by_cases F:k<m1+1
    ·have P7:k<8:=by omega
     obtain⟨t,R⟩:=iH.small HG.out.wf HG.out.le (l9 (ns:=ns) (k:=k) (by rw[I.out];exact F));have n0:=(g.out.cell (p:=⟨gn,k*3,none⟩) wz).trans (HM.out.c0 k (by rw[I.out];exact F));have n1:=(g.out.cell (p:=⟨gn,k*3+1,none⟩) wz).trans (HM.out.c1 k (by rw[I.out];exact F));have n2:=(g.out.cell (p:=⟨gn,k*3+2,none⟩) wz).trans (HM.out.c2 k (by rw[I.out];exact F));have HS:=hid (Hz ns k);have hcl:=sO ns k;have LW:=λW=>aaQ (au ns k) W;have LS:=λW=>WI (au ns k) k W P7 t R;unfold ym at LW LS;generalize au ns k=nd at *;generalize aW ns k=cs at *;go_wp2_with fail;refine(LW _).mono ?_;rintro e A ⟨rfl,q⟩;have K:Below W4.heap.size W4 A:=((aB4 _ _).alloc (aB2 _) (.cells #[.int .u8 nd.op,.int .i64 nd.l,.int .i64 nd.r] 109)).trans (q.mono (by simp));have L:=hid (a.out.below K s);have Ng:=hid (ai HO.out K);have S:Hid (A.there w.heap.size 0 2561):=hid (λj n=>by
      rw[K.cell (p:=⟨w.heap.size,0+j,none⟩) (by show w.heap.size<_;omega),K.frozen (p:=⟨w.heap.size,0+j,none⟩) (by show w.heap.size<_;omega)];exact m.out j n)
     have T:=hid (g.out.trans (K.mono (by omega)));have vB:=K.size;have b0:A.cell? ⟨W4.heap.size,0,none⟩=some (.int .u8 nd.op):=(q.cell (p:=⟨W4.heap.size,0,none⟩) (by simp)).trans (by simp);have b1:A.cell? ⟨W4.heap.size,1,none⟩=some (.int .i64 nd.l):=(q.cell (p:=⟨W4.heap.size,1,none⟩) (by simp)).trans (by simp);have b2:A.cell? ⟨W4.heap.size,2,none⟩=some (.int .i64 nd.r):=(q.cell (p:=⟨W4.heap.size,2,none⟩) (by simp)).trans (by simp);clear q K a HO m g n0 n1 n2 LW;cases hwv:mo nd.op with
     | false=>
      rw[hwv]at HS;clear hwv;go_wp2_with fail;go_roundw
      case rel=>exact⟨k+1,sl,by omega,by go_num,L,by rw[HS.out];simpa using Ng,S,by omega,T⟩
      case measure=>simp[intOf];omega
     | true=>
      rw[hwv]at HS;clear hwv;go_wp2_with fail;refine(LS _).mono ?_;rintro e M ⟨rfl,gT⟩;have vz:=gT.size;clear LS b0 b1 b2;go_wp2_with (refine bM rfl (.tmp 8) (.tmp 40) rfl M.heap.size 0 (kR k (iV nd)) rfl rfl (ig M).there ?_);intro U S7;have V:Below A.heap.size A U:=S7.bD _ _ vz (gT.alloc vz _);have G:=hid (L.out.below V (by omega));have O:=hid (ai Ng.out V);have H27:Hid (U.there w.heap.size 0 2561):=hid (λj n=>by
       rw[V.cell (p:=⟨w.heap.size,0+j,none⟩) (by show w.heap.size<_;omega),V.frozen (p:=⟨w.heap.size,0+j,none⟩) (by show w.heap.size<_;omega)];exact S.out j n)
      have jE:=hid (T.out.trans (V.mono (by omega)));have A8:=hid S7.at_;have uz:U.heap.size=M.heap.size+1:=by rw[S7.size];simp
      have csl:=FZ G.out;have cfz:=G.out.f 2048 (by omega);clear S7 V gT L Ng S T;generalize CO:kR k (iV nd)=gc at *;go_wp2_with (first | (refine aN rfl (.tmp 8) rfl M.heap.size 0 gc rfl A8.out ?_) | (refine zw rfl (.tmp 43) rfl gc rfl ?_) | (at_builtin;go_must (refine wpList_append_own _ rfl (.tmp 42) (.tmp 44) 59 rfl (w.heap.size+2) 61 i0 (.agg (gv λ_=>false).toArray) 256 256 Tryz.underlying59 hi aT aP aO HZC.out (by decide) _ _ _ rfl (O.out.alloc _) ⟨U.heap.size,0,none⟩ 1 1 (gv gc) rfl (by rw[mG]) (UL U gc _) (Mh gc) (by unfold maxLen;omega) (by omega) (by simp;omega) ?_)))
      intro v8 X u y _;have Y:Below (w.heap.size+2) U X:=((aB4 _ _).alloc (by omega) _).grown y (by simp;omega) (λk h=>(O.out.lt k h).1);obtain⟨z,Vp,rfl⟩:=ak u;have H:=G.out.below Y (by omega);have azG:=FZ H;have azH:=H.f 2048 (by omega);have o:=hid (H.set 2048 (.slice z (cs.length+1) Vp));rw[ajv]at o;have DO:Hid ((X.setCell ⟨w.heap.size+1,2048,none⟩ (.slice z (cs.length+1) Vp)).ownsRow (w.heap.size+2) 61 256 (.slice z (cs.length+1) Vp) (aW ns (k+1)).length (qz (aW ns (k+1)))):=hid (by
       rw[HS.out,aC2 (by trivial),aCd,Mr];exact aB u (k:=w.heap.size+1) (by omega) 2048 _)
      have D:Hid ((X.setCell ⟨w.heap.size+1,2048,none⟩ (.slice z (cs.length+1) Vp)).there w.heap.size 0 2561):=hid (λj n=>by
       obtain⟨a1,a2⟩:=H27.out j n;rw[aCm,aB8 _ _ _ _ (λe=>by have:=congrArg Addr.block e;simp at this),Y.cell (p:=⟨w.heap.size,0+j,none⟩) (by show w.heap.size<_;omega),Y.frozen (p:=⟨w.heap.size,0+j,none⟩) (by show w.heap.size<_;omega)];exact⟨a1,a2⟩)
      have E:=hid ((jE.out.trans (Y.mono (by omega))).setCell (p:=⟨w.heap.size+1,2048,none⟩) (by show w.heap.size<=w.heap.size+1;omega) (.slice z (cs.length+1) Vp));have hz8:w.heap.size+1<X.heap.size:=by have:=Y.size;omega
      clear u y Y H G O H27 jE csl cfz;go_wp2_with fail;go_roundw
      case rel=>exact⟨k+1,_,by omega,by go_num,o,DO,D,by simp;omega,E⟩
      case measure=>simp[intOf];omega
    ·obtain rfl:k=m1+1:=by omega
     have hcl:=sO ns (m1+1);have P:=hid (adt HO.out);clear HO;go_wp2_with fail;refine(Om (w.heap.size+1) ns (aW ns (m1+1)) W4 h8 (Sz a.out) s (agI a.out P.out.v) (by omega)).mono ?_;rintro e A ⟨aa,rfl,Z,q⟩;have mJ:=hid Z;have L:=hid (a.out.below q s);have CN5:=hid (P.out.below q);have S:Hid (A.there w.heap.size 0 2561):=hid (λj n=>by
      rw[q.cell (p:=⟨w.heap.size,0+j,none⟩) (by show w.heap.size<_;omega),q.frozen (p:=⟨w.heap.size,0+j,none⟩) (by show w.heap.size<_;omega)];exact m.out j n)
     have T:=hid (g.out.trans (q.mono (by omega)));have hz5:w.heap.size+1<A.heap.size:=aCq s q.size;clear q Z a m g P;go_wp2_with (refine bM rfl (.tmp 49) (.tmp 48) rfl (w.heap.size+1) 2049 aa rfl rfl (L.out.there 2049 256 (by omega)) ?_);intro M Q;have H36:=hid (ajq L.out Q);have CN6:=hid (CN5.out.stored Q (by omega));have H26:Hid (M.there w.heap.size 0 2561):=hid (λj n=>by
      rw[Q.cell ⟨w.heap.size,0+j,none⟩ (aCa (by show w.heap.size≠w.heap.size+1;omega)),Q.fz];exact S.out j n)
     have jV:=hid (Q.bD _ _ (by omega) T.out);have hz6:w.heap.size+1<M.heap.size:=by rw[Q.size];exact hz5
     clear Q L CN5 S T;go_wp2_with fail
     go_loopw [50] (λi b=>∃ v:Nat,v<=256/\i=.int .i64 v/\Hid (dK b (w.heap.size+1) 2561 (dL (oo ns) sl aa (upTo (aL ns aa) v)))/\Hid (mK b (w.heap.size+2) sl (aW ns (m1+1)))/\Hid (b.there w.heap.size 0 2561)/\w.heap.size+1<b.heap.size/\Hid (Below w.heap.size w b)) (λi _=>256 - (intOf i).toNat)
     case atStart=>exact⟨0,by omega,rfl,by rw[ug];exact H36,CN6,H26,hz6,jV⟩
     case round=>
      obtain⟨v,hv,rfl,a,P,m,s,g⟩:=hrel;rename World=>W7;by_cases Z:v<256
      ·have HA:=λW=>bN v m1 W Z (by omega);have c1:=(Pw a.out).c v Z;have q0:=a.out.f (2305+v) (by omega);have q1:=a.out.c (2305+v) (by omega);have Qd:aL ns aa v=(aa v&&v.testBit m1):=by unfold aL;rw[I.out];rfl
       have o:=hid (a.out.set (2305+v) (.bool (aL ns aa v)));rw[afq _ _ _ _ Z,uh]at o;have DN:=hid (P.out.set ⟨w.heap.size+1,2305+v,none⟩ (.bool (aL ns aa v)) (by show w.heap.size+1<w.heap.size+2;omega));have D:Hid ((W7.setCell ⟨w.heap.size+1,2305+v,none⟩ (.bool (aL ns aa v))).there w.heap.size 0 2561):=hid (λj n=>by
        rw[aCm,aB8 _ _ _ _ (λe=>by have:=congrArg Addr.block e;simp at this)];exact m.out j n)
       have E:=hid (g.out.setCell (p:=⟨w.heap.size+1,2305+v,none⟩) (by show w.heap.size<=w.heap.size+1;omega) (.bool (aL ns aa v)));rw[Qd]at DN D E;have o:Hid (dK (W7.setCell ⟨w.heap.size+1,2305+v,none⟩ (.bool (aa v&&v.testBit m1))) (w.heap.size+1) 2561 (dL (oo ns) sl aa (upTo (aL ns aa) (v+1)))):=by rw[<-Qd];exact o
       clear Qd;generalize dL (oo ns) sl aa (upTo (aL ns aa) v) (2305+v)=ov at *;generalize atj:aa v=lv at *;generalize aaf:v.testBit m1=bv at *;clear atj aaf;cases lv with
       | false=>
        simp only[Bool.false_and]at o DN D E;go_wp2_with fail;refine(HA _).mono ?_;rintro e X ⟨rfl,rfl⟩;clear HA;go_wp2_with fail;go_roundw
        case rel=>exact⟨v+1,by omega,by go_num,o,DN,D,by simp;omega,E⟩
        case measure=>simp[intOf];omega
       | true=>
        simp only[Bool.true_and]at o DN D E;go_wp2_with fail;refine(HA _).mono ?_;rintro e X ⟨rfl,rfl⟩;clear HA;go_wp2_with fail;go_roundw
        case rel=>exact⟨v+1,by omega,by go_num,o,DN,D,by simp;omega,E⟩
        case measure=>simp[intOf];omega
      ·obtain rfl:v=256:=by omega
       have a:=hid (a.out.congr (d:=dL (oo ns) sl aa (aL ns aa)) (λj n=>by
        unfold dL;by_cases t:j<2048
        ·rw[aC2 t,aC2 t]
        ·rw[aC1 t,aC1 t];by_cases R:j=2048
         ·rw[aC2 R,aC2 R]
         ·rw[aC1 R,aC1 R];by_cases h3:j<2305
          ·rw[aC2 h3,aC2 h3]
          ·rw[aC1 h3,aC1 h3,JV _ (by omega)]))
       have Js:=P.out.one;go_wp2_with (first | (refine ql rfl 63 (.tmp 3) rfl (w.heap.size+1) 2561 (dL (oo ns) sl aa (aL ns aa)) od rfl a.out B.out.1 B.out.2 Tryz.um ?_) | (refine eP rfl 63 (.tmp 2) (.tmp 69) rfl w.heap.size 2561 (dL (oo ns) sl aa (aL ns aa)) rfl rfl m.out Tryz.um (wN _ _ _ Js) ?_))
       intro w9 S9;have CN9:=hid (P.out.Nw S9 (by omega));have Q5:=hid (S9.bD _ _ (aB2 _) g.out);have R9:=hid S9.at_;clear S9;go_wp2_with fail;refine ajo Tryz.results31 ?_ ?_ R9.out B.out.1 B.out.2 Tryz.um ?_
       ·rfl
       ·rfl
       ·exact⟨sl,aa,rfl,by rw[I.out];exact mJ.out,by rw[I.out];exact CN9.out.v,Js,Q5.out⟩
