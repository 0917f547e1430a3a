import Derived.Test.YtjagijohfkffiabGreatFREM17
set_option maxHeartbeats 16000000
set_option maxRecDepth 100000
set_option linter.unusedSimpArgs false
namespace Go.Proofs.YtjagijohfkffiabGreat
open Go.RowKit
set_option linter.unusedVariables false
theorem Tryz.NY:(Tryz.prog.info? 222).map (λi=>(i.zero,i.size,i.bytes))=some (some (.slice none 0 0),1,24):=by kernel_rfl
theorem Tryz.acK:(Tryz.prog.info? 159).map (·.size)=some 1:=by kernel_rfl
theorem QR{fn:Func}{c b:Nat}{v:Value}{a:Act}{w:World}{R:Ending->World->Prop}(h:fn.results=#[.cell c 159])(hd:a.defers=[])(hp:a.tmps.getD c undef=.pointer (some ⟨b,0,none⟩))
  (hg:w.cell? ⟨b,0,none⟩=some v) (hR:R (.returned (.agg #[v])) w):bodyPost Tryz.prog fn R .ret a w:=by
 refine bodyPost_ret (v:=.agg #[v]) ?_ hd hR;rw[mM h,hp];simp only[asAddr,Sem.run_pure,Result.andThen_ok];refine run_loadVar_mid w b 0 _ [v] _ (λj u hj=>?_) Tryz.underlying159 rfl Tryz.acK;cases j with
 | zero=>simp at hj;subst hj;simpa using hg
 | succ j=>simp at hj
def fD(k:Nat):Nat->List (Nat × Nat):=λt=>if t=0 then (List.range k).map λl=>(0,l) else []
theorem TR:fD 0=λ_=>[]:=by funext t;simp[fD]
theorem TT(k:Nat):Cj (fD k) 0 (fD k 0++[(0,k)])=fD (k+1):=by
 funext t;unfold Cj fD;by_cases e:t=0
 ·simp[e,aBL]
 ·simp[e]
theorem TS:uV 1 (fD 8):=⟨by omega,λt ht st hs=>by
 obtain rfl:t=0:=by omega
 simp[fD]at hs;obtain⟨l,hl,rfl⟩:=hs;exact⟨by omega,hl⟩,λt ht=>by
 obtain rfl:t=0:=by omega
 simp[fD]⟩
theorem YV(w:World):Calls Tryz.prog 118 #[] w λe w'=>∃ g,e=.returned (.agg #[.slice (some ⟨g,0,none⟩) 1 1])/\nY w' g 1 (fD 8)/\Below w.heap.size w w':=by
 obtain⟨i0,hi,aR,aP,aN⟩:=info_parts Tryz.NY;go_enter Tryz.func118,Tryz.ntmps118;go_wp2_with (at_make;go_must (refine aBA _ rfl (.const (.int .i64 1)) (.const (.int .i64 1)) 157 rfl (w.heap.size+1) 222 i0 (.slice none 0 0) 1 Tryz.underlying157 hi aR aP .i64 .i64 1 1 1 rfl rfl rfl rfl ?m2 ?m3 (by simp) ?_))
 case m2=>rw[aN];omega
 case m3=>unfold maxLen;omega
 intro w1 aF aZ;have eo:(madeCells #[Value.slice none 0 0] (1*1)).toList=(List.range 1).map (λ_=>Value.slice none 0 0):=by rw[aBq];rfl
 have o1:w1.ownsRow (w.heap.size+1) 222 1 (.slice (some ⟨w.heap.size+1,0,none⟩) 1 1) 1 ((List.range 1).map (λ_=>Value.slice none 0 0)):=by rw[<-eo];exact aF
 have hlt:w.heap.size+1<w1.heap.size:=(o1.lt _ rfl).2;have b0:=((aAW (w.heap.size+1) (w.alloc (.cells #[.slice none 0 0] 159))).grown aZ (by simp) (λk h=>by cases h));have R0:w1.cell? ⟨w.heap.size,0,none⟩=some (.slice none 0 0):=(b0.cell (p:=⟨w.heap.size,0,none⟩) (by show w.heap.size<w.heap.size+1;omega)).trans (by simp);have R1:w1.frozen? ⟨w.heap.size,0,none⟩=false:=(b0.frozen (p:=⟨w.heap.size,0,none⟩) (by show w.heap.size<w.heap.size+1;omega)).trans (by simp);have aK:Hid (Below w.heap.size w w1):=hid (((aAW w.heap.size w).alloc (aAU _) (.cells #[.slice none 0 0] 159)).trans (b0.mono (by omega)));have M1:Hid (nG (w1.alloc (.cells #[.slice (some ⟨w.heap.size+1,0,none⟩) 1 1] 159)) w1.heap.size (w.heap.size+1) 1 (λ_=>.slice none 0 0) (fD 0)):=hid ⟨hlt,by simp,o1.alloc _,λj hj=>by rw[TR];exact aBh _ _ _ _,λi j hi hj h=>by omega⟩;have HR:Hid ((w1.alloc (.cells #[.slice (some ⟨w.heap.size+1,0,none⟩) 1 1] 159)).cell? ⟨w.heap.size,0,none⟩=some (.slice none 0 0)/\(w1.alloc (.cells #[.slice (some ⟨w.heap.size+1,0,none⟩) 1 1] 159)).frozen? ⟨w.heap.size,0,none⟩=false):=hid ⟨by rw[aBt _ _ _ (by show w.heap.size<w1.heap.size;omega)];exact R0,by rw[aBK _ _ _ (by show w.heap.size<w1.heap.size;omega)];exact R1⟩;have aW:=hid (aK.out.alloc (by omega) (.cells #[.slice (some ⟨w.heap.size+1,0,none⟩) 1 1] 159));clear aF aZ eo o1 b0 R0 R1 aK;go_wp2_with fail;generalize w1.heap.size=T at *
 go_loopw [2] (λi wq=>∃ (k:Nat) (V:Nat->Value),k<=8/\i=.int .i64 k/\Hid (nG wq T (w.heap.size+1) 1 V (fD k))/\Hid (wq.cell? ⟨w.heap.size,0,none⟩=some (.slice none 0 0)/\wq.frozen? ⟨w.heap.size,0,none⟩=false)/\Hid (Below w.heap.size w wq)) (λi _=>8 - (intOf i).toNat)
 case atStart=>exact⟨0,_,by omega,rfl,M1,HR,aW⟩
 case round=>
  obtain⟨k,V,hk,rfl,HM,HR,HB⟩:=hrel;rename World=>W0;by_cases hlk:k<8
  ·go_wp2_with fail;refine(acM T (w.heap.size+1) 1 0 k 0 V (fD k) W0 HM.out (by omega) (by omega) hlk (by omega) (by simp[fD];omega)).mono ?_;rintro e w2 ⟨rfl,⟨V',hm⟩,hb⟩;rw[TT]at hm;have uh:=hid hm;have jR:=hid (And.intro ((hb.cell (p:=⟨w.heap.size,0,none⟩) (by show w.heap.size<w.heap.size+1;omega)).trans HR.out.1) ((hb.frozen (p:=⟨w.heap.size,0,none⟩) (by show w.heap.size<w.heap.size+1;omega)).trans HR.out.2));have cu:=hid (HB.out.trans (hb.mono (by omega)));clear hm hb;go_wp2_with fail;go_roundw
   case rel=>exact⟨k+1,V',by omega,by go_num,uh,jR,cu⟩
   case measure=>simp[intOf];omega
  ·obtain rfl:k=8:=by omega
   have c1:=HM.out.cell;have r0:=HR.out.1;have r1:=HR.out.2;have hw:=HM.out.ways;have HW:Hid (nY (W0.setCell ⟨w.heap.size,0,none⟩ (.slice (some ⟨w.heap.size+1,0,none⟩) 1 1)) (w.heap.size+1) 1 (fD 8)):=hid (by
    obtain⟨ao,cap,h1,h2⟩:=hw.row 0 (by omega);refine⟨by simpa using hw.lt,λt ht=>?_⟩;obtain rfl:t=0:=by omega
    refine⟨ao,cap,?_,λh0=>?_⟩
    ·rw[aA0 _ _ _ _ (λe=>by have:=congrArg Addr.block e;simp at this)];exact h1
    ·obtain⟨gr,h3,h4,h5⟩:=h2 h0;have hne:gr≠w.heap.size:=λe=>by
      have h6:=(h5 0 (0,0) (by simp[fD])).1;rw[e,Nat.zero_mul,r0]at h6;cases h6
     refine⟨gr,h3,by simpa using h4,λj st hj=>?_⟩;obtain⟨h6,h7⟩:=h5 j st hj;exact⟨by rw[aA0 _ _ _ _ (λe=>hne (by have:=congrArg Addr.block e;simpa using this.symm))];exact h6,by rw[aA0 _ _ _ _ (λe=>hne (by have:=congrArg Addr.block e;simpa using this.symm))];exact h7⟩)
   have iN:=hid (HB.out.setCell (p:=⟨w.heap.size,0,none⟩) (aAU _) (.slice (some ⟨w.heap.size+1,0,none⟩) 1 1));have HCC:Hid ((W0.setCell ⟨w.heap.size,0,none⟩ (.slice (some ⟨w.heap.size+1,0,none⟩) 1 1)).cell? ⟨w.heap.size,0,none⟩=some (.slice (some ⟨w.heap.size+1,0,none⟩) 1 1)):=hid (aBr _ _ _ r0);clear hw;go_wp2_with fail;refine QR Tryz.results118 ?_ ?_ HCC.out ?_
   ·rfl
   ·rfl
   ·exact⟨_,rfl,HW.out,iN.out⟩
def jQ(ns:List Nd)(cs:List (Nat->Bool))(aa:Nat->Bool):Prop:=∀ v,aa v=true↔iI (Ew 1 ns (fD 8)) (spreads cs) v
theorem MG(P:Nat)(ns:List Nd)(cs:List (Nat->Bool))(w:World)(h8:ns.length<=8)(mF:uN w P ns)(hP:P<w.heap.size)(hcm:qC w P cs)(hcl:cs.length<=8) :
  Calls Tryz.prog 65 #[.pointer (some ⟨P,0,none⟩)] w λe w'=>∃ aa,e=.returned (.agg (gv aa).toArray)/\jQ ns cs aa/\Below w.heap.size w w':=by
 have HM:=hid mF;have HC:=hid hcm;clear mF hcm;go_enter Tryz.func65,Tryz.ntmps65;go_wp2_with fail;refine(YV _).mono ?_;rintro e w1 ⟨g,rfl,hw,aM⟩;simp only[aAZ]at aM;have G2:=hid ((gN w).below aM (by omega));have aK:=hid (((aAW w.heap.size w).alloc (aAU _) (.cells Tryz.zeroCells61 61)).trans (aM.mono (by omega)));have hs1:w.heap.size<w1.heap.size:=by have:=aM.size;simp at this;omega
 have HW:=hid (hw.below ((aAW w1.heap.size w1).alloc (aAU _) (.cells #[.slice (some ⟨g,0,none⟩) 1 1] 159)));clear hw aM;have aW:=hid (aK.out.alloc (by omega) (.cells #[.slice (some ⟨g,0,none⟩) 1 1] 159));have G2:=hid (G2.out.alloc (.cells #[.slice (some ⟨g,0,none⟩) 1 1] 159));go_wp2_with fail;refine(Hr P g 1 1 ns (fD 8) cs _ h8 TS (HM.out.below aW.out hP) (by simp;omega) (HC.out.below aW.out hP) hcl HW.out).mono ?_;rintro e w3 ⟨g3,f,rfl,hg3,YB,F3,HL,aI⟩;simp only[aAZ]at aI hg3;have G2:=hid (G2.out.below aI (by omega));have cu:=hid (aW.out.trans (aI.mono (by omega)));have F3:=hid (F3.zG (t:=0) (by omega));have uj:=hid HL;clear aI HL;go_wp2_with (first | (refine aQ rfl (.tmp 14) rfl g3 0 f rfl (by simpa using F3.out) ?_) | (refine bW rfl (.tmp 2) (.tmp 15) rfl w.heap.size 0 f rfl rfl G2.out.there ?_))
 intro w4 S4;go_wp2_with fail;refine ze Tryz.results65 ?_ ?_ S4.at_ ?_
 ·rfl
 ·rfl
 ·exact⟨f,rfl,uj.out,S4.bG _ _ (aAU _) cu.out⟩
structure Au (w:World) (P:Nat) (ns:List Nd) (aa aX:Nat->Bool):Prop where
 gY:∀ x N,x<8->N<256->w.cell? ⟨P,x*256+N,none⟩=some (.int .u8 (gY ns x N:Nat))
 aa:bC w P 2049 aa
 aX:bC w P 2305 aX
theorem Au.lt{w:World}{P:Nat}{ns:List Nd}{aa aX:Nat->Bool}(h:Au w P ns aa aX):P<w.heap.size:=h.aa.lt
theorem Au.below{B:Nat}{w w':World}{P:Nat}{ns:List Nd}{aa aX:Nat->Bool}(h:Au w P ns aa aX)(hb:Below B w w')(hlt:P<B):Au w' P ns aa aX:=
 ⟨λx N hx hN=>(hb.cell (p:=⟨P,x*256+N,none⟩) hlt).trans (h.gY x N hx hN),h.aa.below hb hlt,h.aX.below hb hlt⟩
def stepG(ns:List Nd)(aa fr:Nat->Bool)(x:Nat):Nat->Bool:=λN=>aa N&&fr (gY ns x N)
theorem ac0(P x:Nat)(ns:List Nd)(aa aX fr:Nat->Bool)(w:World)(hx:x<8)(h8:ns.length<=8)(ho:Au w P ns aa aX) :
  Calls Tryz.prog 69 #[.pointer (some ⟨P,0,none⟩),.agg (gv fr).toArray,.int .i64 x] w λe w'=>e=.returned (.agg (gv (stepG ns aa fr x)).toArray)/\Below w.heap.size w w':=by
 have HZ:=hid Tryz.sM;have hP:=ho.lt;have HO:=hid ho;have k1:((x:Int)<0)=False:=by simp
 clear ho;go_enter Tryz.func69,Tryz.ntmps69;go_wp2_with (refine bW rfl (.tmp 7) (.tmp 9) rfl (w.heap.size+1+1) 0 (λ_=>false) rfl (congrArg Value.agg HZ.out) ?t1 ?_)
 case t1=>
  have:=(gN ((w.alloc (.cells (gv fr).toArray 61)).alloc (.cells Tryz.zeroCells61 61))).there;simpa using this
 intro w1 S1;have G7:=hid S1.at_;have G6:Hid (bC w1 (w.heap.size+1) 0 (λ_=>false)):=by
  have z:=(gN (w.alloc (.cells (gv fr).toArray 61))).alloc (.cells Tryz.zeroCells61 61);rw[size_alloc]at z;exact hid (S1.zG z (aA2 (by omega)))
 have G4:Hid (bC w1 w.heap.size 0 fr):=hid (S1.zG (((uF w fr 61).alloc _).alloc _) (aA2 (by omega)));have aK:Hid (Below w.heap.size w w1):=hid (S1.bG _ _ (by omega) ((((aAW _ _).alloc (aAU _) _).alloc (by simp) _).alloc (by simp;omega) _));clear S1;go_wp2_with fail
 go_loopw [17] (λi wq=>∃ j:Nat,j<=256/\i=.int .i64 j/\Hid (bC wq (w.heap.size+1+1) 0 (upTo (stepG ns aa fr x) j))/\Hid (bC wq (w.heap.size+1) 0 (λ_=>false))/\Hid (bC wq w.heap.size 0 fr)/\Hid (Below w.heap.size w wq)) (λi _=>256 - (intOf i).toNat)
 case atStart=>exact⟨0,by omega,rfl,by rw[qU];exact G7,G6,G4,aK⟩
 case round=>
  obtain⟨j,hj,rfl,H7,H6,H4,HB⟩:=hrel;rename World=>W0;by_cases eQ:j<256
  ·have q0:W0.frozen? ⟨w.heap.size+1+1,j,none⟩=false:=by have:=H7.out.f j eQ;rwa [aBo]at this
   have q1:W0.cell? ⟨w.heap.size+1+1,j,none⟩=some (.bool (upTo (stepG ns aa fr x) j j)):=by have:=H7.out.c j eQ;rwa [aBo]at this
   have o:=HO.out.below HB.out hP;have c1:=o.aa.c j eQ;have c2:=o.gY x j hx eQ;have dV:=vU h8 x j;have c3:W0.cell? ⟨w.heap.size,gY ns x j,none⟩=some (.bool (fr (gY ns x j))):=by have:=H4.out.c _ dV;rwa [aBo]at this
   have D7:=hid (H7.out.set eQ (stepG ns aa fr x j));have D6:=hid (H6.out.other ⟨w.heap.size+1+1,j,none⟩ (.bool (stepG ns aa fr x j)) (aA2 (by simp)));have D4:=hid (H4.out.other ⟨w.heap.size+1+1,j,none⟩ (.bool (stepG ns aa fr x j)) (aA2 (by simp;omega)));have DB:=hid (HB.out.setCell (p:=⟨w.heap.size+1+1,j,none⟩) (by show w.heap.size<=w.heap.size+1+1;omega) (.bool (stepG ns aa fr x j)));rw[qV,aBo]at D7;have e0:stepG ns aa fr x j=(aa j&&fr (gY ns x j)):=rfl;generalize upTo (stepG ns aa fr x) j j=ov at *;generalize stepG ns aa fr x j=sv at *;generalize gY ns x j=bv at *;generalize aa j=lv at *;generalize fr bv=fv at *;clear o;subst e0;cases lv with
   | false=>
    simp only[Bool.false_and]at D7 D6 D4 DB;go_wp2_with fail;go_roundw
    case rel=>exact⟨j+1,by omega,by go_num,D7,D6,D4,DB⟩
    case measure=>simp[intOf];omega
   | true=>
    simp only[Bool.true_and]at D7 D6 D4 DB;go_wp2_with fail;go_roundw
    case rel=>exact⟨j+1,by omega,by go_num,D7,D6,D4,DB⟩
    case measure=>simp[intOf];omega
  ·obtain rfl:j=256:=by omega
   have G:=hid (H7.out.congr (λj hj=>IJ (stepG ns aa fr x) hj));go_wp2_with (first | (refine aQ rfl (.tmp 7) rfl (w.heap.size+1+1) 0 _ rfl G.out ?_) | (refine bW rfl (.tmp 6) (.tmp 41) rfl (w.heap.size+1) 0 (stepG ns aa fr x) rfl rfl H6.out.there ?_))
   intro w5 S5;go_wp2_with fail;refine ze Tryz.results69 ?_ ?_ S5.at_ ?_
   ·rfl
   ·rfl
   ·exact⟨rfl,S5.bG _ _ (by omega) HB.out⟩
def qx(aa g:Nat->Bool):Nat:=if geq g aa=true then 1 else if geq g (λ_=>false)=true then 2 else 0
theorem UV(P:Nat)(ns:List Nd)(aa aX g:Nat->Bool)(w:World)(ho:Au w P ns aa aX) :
  Calls Tryz.prog 68 #[.pointer (some ⟨P,0,none⟩),.agg (gv g).toArray] w λe w'=>e=.returned (.int .i64 (qx aa g:Nat))/\Below w.heap.size w w':=by
 have HZ:=hid Tryz.sM;have HO:=hid ho;have G3:=hid (uF w g 61);have GL:=hid (ho.aa.alloc (.cells (gv g).toArray 61));have EQ:=λg h W=>ni 9998 g h W;have EZ:∀ W,(Op.equalIn 10000 61 (.agg (gv g).toArray) (.agg Tryz.zeroCells61)).run Tryz.prog W=.ok (geq g λ_=>false) W:=λW=>by rw[Tryz.sM];exact ni 9998 g _ W
 clear ho;go_enter Tryz.func68,Tryz.ntmps68;go_wp2_with fail;refine wp_region_held_drew (S:=λW=>bC W w.heap.size 0 g/\bC W P 2049 aa) (by kernel_rfl) ⟨G3.out.drew,GL.out.drew⟩ (λau=>?_);refine aA4 (i:=0) (oi:={ dst:=some 5,op:=Op.load 61 (.tmp 3),type:=_,pos:=_,after:=_,guard:=none }) (v:=(Value.agg (gv g).toArray)) rfl (by kernel_rfl) (by kernel_rfl) (by kernel_rfl) (λ_ _ _ h=>h) (yieldsIf_load_mid (by rfl) 61 (.tmp 3) rfl w.heap.size 0 rfl (gv g) _ (λW h=>h.1.tJ) Tryz.je rfl (Tryz.nM g)) (by assumption) ?_;simp only[Act.put,aAT,aAX,aAY];refine aA4 (i:=1) (oi:={ dst:=some 6,op:=Op.move (.tmp 0),type:=_,pos:=_,after:=_,guard:=none }) (v:=(Value.pointer (some ⟨P,0,none⟩))) rfl (by kernel_rfl) (by kernel_rfl) (by kernel_rfl) (λ_ _ _ h=>h) (aA2 ⟨by rfl,by intro w' af;(try dsimp only at af);go_simp⟩) (by assumption) ?_
 simp only[Act.put,aAT,aAX,aAY];refine aA4 (i:=2) (oi:={ dst:=some 7,op:=Op.nilCheck (.tmp 6),type:=_,pos:=_,after:=_,guard:=none }) (v:=(Value.pointer (some ⟨P,0,none⟩))) rfl (by kernel_rfl) (by kernel_rfl) (by kernel_rfl) (λ_ _ _ h=>h) (aA2 ⟨by rfl,by intro w' af;(try dsimp only at af);go_simp⟩) (by assumption) ?_
 simp only[Act.put,aAT,aAX,aAY];refine aA4 (i:=3) (oi:={ dst:=some 8,op:=Op.fieldAddr _ (.tmp 7) 2,type:=_,pos:=_,after:=_,guard:=none }) (v:=(Value.pointer (some ⟨P,2049,none⟩))) rfl (by kernel_rfl) (by kernel_rfl) (by kernel_rfl) (λ_ _ _ h=>h) (aA2 ⟨by rfl,by intro w' af;(try dsimp only at af);go_simp⟩) (by assumption) ?_
 simp only[Act.put,aAT,aAX,aAY];refine aA4 (i:=4) (oi:={ dst:=some 9,op:=Op.load 61 (.tmp 8),type:=_,pos:=_,after:=_,guard:=none }) (v:=(Value.agg (gv aa).toArray)) rfl (by kernel_rfl) (by kernel_rfl) (by kernel_rfl) (λ_ _ _ h=>h) (yieldsIf_load_mid (by rfl) 61 (.tmp 8) rfl P 2049 rfl (gv aa) _ (λW h=>h.2.tJ) Tryz.je rfl (Tryz.nM aa)) (by assumption) ?_;simp only[Act.put,aAT,aAX,aAY];refine aA4 (i:=5) (oi:={ dst:=some 10,op:=Op.binOp BinOp.eql 61 (.tmp 5) (.tmp 9) 61,type:=_,pos:=_,after:=_,guard:=none }) (v:=(Value.bool (geq g aa))) rfl (by kernel_rfl) (by kernel_rfl) (by kernel_rfl) (λ_ _ _ h=>h) (aA2 ⟨by rfl,by intro w' af;go_simp⟩) (by assumption) ?_;simp only[Act.put,aAT,aAX,aAY];refine aBS (by kernel_rfl) ?_ _;have HV:Hid (qx aa g=if geq g aa=true then 1 else if geq g (λ_=>false)=true then 2 else 0):=hid rfl;have G3:=hid au.1;clear au GL;cases e1:geq g aa with
 | true=>
  go_wp2_with fail;go_ret;exact⟨by rw[HV.out,e1];rfl,((aAW _ _).alloc (aAU _) _).drew⟩
 | false=>
  rw[e1]at HV;clear e1;cases e2:geq g (λ_=>false) with
  | true=>
   rw[e2]at EZ;go_wp2_with (refine aQ rfl (.tmp 3) rfl w.heap.size 0 g rfl G3.out ?_);go_ret;exact⟨by rw[HV.out,e2];rfl,((aAW _ _).alloc (aAU _) _).drew⟩
  | false=>
   rw[e2]at EZ;go_wp2_with (refine aQ rfl (.tmp 3) rfl w.heap.size 0 g rfl G3.out ?_);go_ret;exact⟨by rw[HV.out,e2];rfl,((aAW _ _).alloc (aAU _) _).drew⟩
def dW(ns:List Nd)(aa:Nat->Bool)(g:Nat->Bool)(us:List Nat):Nat->Bool:=us.foldl (λg x=>stepG ns aa g x) g
theorem qY(ns:List Nd)(aa g:Nat->Bool)(us:List Nat)(x:Nat):dW ns aa g (us++[x])=stepG ns aa (dW ns aa g us) x:=by simp[dW]
def rv(c:Nat->Value)(N:Nat):List Value:=(List.range N).map c
theorem oJ(c:Nat->Value)(N:Nat):(rv c N).length=N:=by simp[rv]
theorem ZH(c:Nat->Value){N i:Nat}(h:i<N):(rv c N)[i]?=some (c i):=by simp[rv,h]
def One(c:Nat->Value)(N:Nat):Prop:=∀ i,i<N->(c i).oneCell'=true
theorem ai1{c:Nat->Value}{N:Nat}(h:One c N):∀ v∈rv c N,v.oneCell'=true:=by
 intro v hv;simp only[rv,aBM,aBI]at hv;obtain⟨j,hj,rfl⟩:=hv;exact h j hj
structure dE (w:World) (b N:Nat) (c:Nat->Value):Prop where
 c:∀ i,i<N->w.cell? ⟨b,i,none⟩=some (c i)
 f:∀ i,i<N->w.frozen? ⟨b,i,none⟩=false
theorem dE.tJ{w:World}{b N:Nat}{c:Nat->Value}(h:dE w b N c):w.rangeAt b 0 (rv c N):=λj v hv=>by
 have hj:j<N:=by have:=(aA1.1 hv).1;rwa [oJ]at this
 rw[ZH c hj]at hv;rw[aBo,h.c j hj,hv]
theorem dE.there{w:World}{b N:Nat}{c:Nat->Value}(h:dE w b N c)(o n:Nat)(hn:o+n<=N):w.there b o n:=λj hj=>⟨by rw[h.c (o+j) (by omega)];rfl,h.f (o+j) (by omega)⟩
theorem dE.below{B:Nat}{w w':World}{b N:Nat}{c:Nat->Value}(h:dE w b N c)(hb:Below B w w')(hlt:b<B):dE w' b N c:=
 ⟨λj hj=>(hb.cell (p:=⟨b,j,none⟩) hlt).trans (h.c j hj),λj hj=>(hb.frozen (p:=⟨b,j,none⟩) hlt).trans (h.f j hj)⟩
theorem dE.congr{w:World}{b N:Nat}{c d:Nat->Value}(h:dE w b N c)(e:∀ j,j<N->c j=d j):dE w b N d:=⟨λj hj=>by rw[h.c j hj,e j hj],h.f⟩
def Af(c:Nat->Value)(i:Nat)(v:Value):Nat->Value:=λj=>if j=i then v else c j
theorem dE.set{w:World}{b N:Nat}{c:Nat->Value}(h:dE w b N c)(i:Nat)(v:Value):dE (w.setCell ⟨b,i,none⟩ v) b N (Af c i v):=by
 refine⟨λj hj=>?_,λj hj=>by rw[aBe];exact h.f j hj⟩;by_cases e:j=i
 ·subst e;rw[aBr _ _ _ (h.c j hj)];simp[Af]
 ·rw[aA0 _ ⟨b,i,none⟩ ⟨b,j,none⟩ _ (λq=>e (by have:=congrArg Addr.off q;simp at this;omega)),h.c j hj];simp[Af,e]
theorem dE.other{w:World}{b N:Nat}{c:Nat->Value}(h:dE w b N c)(p:Addr)(v:Value)(hp:p.block≠b):dE (w.setCell p v) b N c:=by
 refine⟨λj hj=>?_,λj hj=>by rw[aBe];exact h.f j hj⟩;rw[aA0 _ p ⟨b,j,none⟩ _ (λq=>hp (congrArg Addr.block q))];exact h.c j hj
theorem pE(w:World)(c:Nat->Value)(N:Nat)(t:TypeId):dE (w.alloc (.cells (rv c N).toArray t)) w.heap.size N c:=by
 refine⟨λj hj=>?_,λj hj=>?_⟩
 ·rw[aBJ (w.alloc (.cells (rv c N).toArray t)) w.heap.size j (rv c N).toArray t (0,0) (heap_alloc_last w _)];simp[rv,hj]
 ·simp
structure Bw (w:World) (b N:Nat) (c:Nat->Value) (w1:World):Prop where
 at_:dE w1 b N c
 size:w1.heap.size=w.heap.size
 bG:∀ B a,B<=b->Below B a w->Below B a w1
 cell:∀ p:Addr,p.block≠b->w1.cell? p=w.cell? p
 fz:∀ p,w1.frozen? p=w.frozen? p
theorem LU{w:World}{b N:Nat}(h:w.there b 0 N)(c:Nat->Value):Bw w b N c (w.setCells b 0 (rv c N)):=by
 refine⟨⟨λj hj=>?_,λj hj=>?_⟩,size_setCells _ _ _ _,λB a hB hb=>below_setCells hB _ _ _ hb,λp hp=>?_,λp=>World.frozen?_setCells _ _ _ _ _⟩
 ·have:=World.rangeAt_setCells_same w b 0 (rv c N) (by rw[oJ];exact h) j _ (ZH c hj);rwa [aBo]at this
 ·rw[World.frozen?_setCells];have:=(h j hj).2;rwa [aBo]at this
 ·rw[World.cell?_setCells_out b (rv c N) 0 w p (λhb _=>absurd hb hp)]
theorem Bw.raw{w w1:World}{b N:Nat}{c:Nat->Value}(h:Bw w b N c w1){b' N':Nat}{c':Nat->Value}(k:dE w b' N' c')(hp:b'≠b):dE w1 b' N' c':=
 ⟨λj hj=>by rw[h.cell ⟨b',j,none⟩ hp];exact k.c j hj,λj hj=>by rw[h.fz];exact k.f j hj⟩
theorem fH{ops:Array Oper}{rest:List Oper}{op:Oper}{a:Act}{w:World}{Q:Exit->Act->World->Prop}(lX:op.guard=none)(ty:TypeId)(x y:Operand)(ho:op.op=.store ty x y)
  (b N:Nat) (c:Nat->Value) (hx:a.eval x=.pointer (some ⟨b,0,none⟩)) (hy:a.eval y=.agg (rv c N).toArray) (ht:w.there b 0 N) (hs:(Tryz.prog.info? ty).map (·.size)=some N) (h1:One c N)
  (h:∀ w1,Bw w b N c w1->wpList Tryz.prog ops Q rest (a.put op.dst undef) w1):wpList Tryz.prog ops Q (op::rest) a w:=by
 refine wpList_store_mid lX ty x y ho b 0 (rv c N).toArray hx hy (by simp only[List.size_toArray,oJ];exact ht) (by simp only[List.size_toArray,oJ];exact hs) (all_oneCell_toArray (ai1 h1)) ?_;exact h _ (LU ht c)
theorem nP{ops:Array Oper}{rest:List Oper}{op:Oper}{a:Act}{w:World}{Q:Exit->Act->World->Prop}(lX:op.guard=none)(ty:TypeId)(x:Operand)(ho:op.op=.load ty x)
  (b N:Nat) (c:Nat->Value) (d:TypeDesc) (hx:a.eval x=.pointer (some ⟨b,0,none⟩)) (hg:dE w b N c) (hu:Tryz.prog.underlying ty=some d) (hd:d.isRow=true) (hs:(Tryz.prog.info? ty).map (·.size)=some N)
  (h:wpList Tryz.prog ops Q rest (a.put op.dst (.agg (rv c N).toArray)) w):wpList Tryz.prog ops Q (op::rest) a w:=
 wpList_load_mid lX ty x ho b 0 hx (rv c N) d hg.tJ hu hd (by rw[oJ];exact hs) h
def dM(bf:Nat->Nat)(sl:Value)(aa aX:Nat->Bool):Nat->Value:=λi=>
 if i<2048 then .int .u8 (bf i:Nat) else if i=2048 then sl else if i<2305 then .bool (aa (i - 2049)) else .bool (aX (i - 2305))
theorem Tryz.IW:Tryz.zeroCells63=(rv (dM (λ_=>0) (.slice none 0 0) (λ_=>false) (λ_=>false)) 2561).toArray:=by kernel_rfl
theorem Tryz.xA:(Tryz.prog.info? 63).map (·.size)=some 2561:=by kernel_rfl
theorem CB(bf:Nat->Nat){sl:Value}(aa aX:Nat->Bool)(h:sl.oneCell'=true):One (dM bf sl aa aX) 2561:=λi hi=>by
 unfold dM
 split
 ·rfl
 ·split
  ·exact h
  ·split <;> rfl
def Xt(f:Nat->Nat)(i v:Nat):Nat->Nat:=λj=>if j=i then v else f j
theorem adE(bf:Nat->Nat)(sl:Value)(aa aX:Nat->Bool){i:Nat}(hi:i<2048)(v:Nat):Af (dM bf sl aa aX) i (.int .u8 (v:Nat))=dM (Xt bf i v) sl aa aX:=by
 funext j;unfold Af dM Xt;by_cases e:j=i
 ·subst e;simp[hi]
 ·simp[e]
theorem ahU(bf:Nat->Nat)(sl sl':Value)(aa aX:Nat->Bool):Af (dM bf sl aa aX) 2048 sl'=dM bf sl' aa aX:=by
 funext j;unfold Af dM;by_cases e:j=2048
 ·subst e;simp
 ·simp[e]
theorem adD(bf:Nat->Nat)(sl:Value)(aa aX:Nat->Bool){i:Nat}(hi:i<256)(v:Bool):Af (dM bf sl aa aX) (2305+i) (.bool v)=dM bf sl aa (upd aX i v):=by
 funext j;unfold Af dM upd;by_cases e:j=2305+i
 ·subst e;rw[aBU rfl,aBT (by omega),aBT (by omega),aBT (by omega),aBU (by omega)]
 ·rw[aBT e];by_cases h1:j<2048
  ·rw[aBU h1,aBU h1]
  ·rw[aBT h1,aBT h1];by_cases h2:j=2048
   ·rw[aBU h2,aBU h2]
   ·rw[aBT h2,aBT h2];by_cases h3:j<2305
    ·rw[aBU h3,aBU h3]
    ·rw[aBT h3,aBT h3,aBT (by omega)]
theorem ahP{w w1:World}{b:Nat}{bf:Nat->Nat}{sl:Value}{aa aX g:Nat->Bool}(h:dE w b 2561 (dM bf sl aa aX))(s:uK w b 2049 g w1):dE w1 b 2561 (dM bf sl g aX):=by
 refine⟨λi hi=>?_,λi hi=>by rw[s.fz];exact h.f i hi⟩;by_cases h1:i<2049
 ·rw[s.cell ⟨b,i,none⟩ (aA3 (aA2 h1)),h.c i hi];unfold dM;by_cases h2:i<2048
  ·rw[aBU h2,aBU h2]
  ·have h3:i=2048:=by omega
   rw[aBT h2,aBT h2,aBU h3,aBU h3]
 ·by_cases h2:i<2305
  ·have:=s.at_.c (i - 2049) (by omega);rw[show 2049+(i - 2049)=i by omega]at this;rw[this];unfold dM;rw[aBT (by omega),aBT (by omega),aBU h2]
  ·rw[s.cell ⟨b,i,none⟩ (aA3 (aA3 (by show 2049+256<=i;omega))),h.c i hi];unfold dM;rw[aBT (by omega),aBT (by omega),aBT h2,aBT (by omega),aBT (by omega),aBT h2]
theorem Nq{w:World}{b:Nat}{bf:Nat->Nat}{sl:Value}{aa aX:Nat->Bool}(h:dE w b 2561 (dM bf sl aa aX)):bC w b 2049 aa:=by
 refine⟨λj hj=>?_,λj hj=>h.f _ (by omega)⟩;rw[h.c _ (by omega)];unfold dM;rw[aBT (by omega),aBT (by omega),aBU (by omega),show 2049+j - 2049=j by omega]
theorem ZV{w:World}{b:Nat}{bf:Nat->Nat}{sl:Value}{aa aX:Nat->Bool}(h:dE w b 2561 (dM bf sl aa aX)):bC w b 2305 aX:=by
 refine⟨λj hj=>?_,λj hj=>h.f _ (by omega)⟩;rw[h.c _ (by omega)];unfold dM;rw[aBT (by omega),aBT (by omega),aBT (by omega),show 2305+j - 2305=j by omega]
def nO(ns:List Nd):Nat->Nat:=λi=>gY ns (i / 256) (i % 256)
theorem QT{w:World}{b:Nat}{ns:List Nd}{sl:Value}{aa aX:Nat->Bool}(h:dE w b 2561 (dM (nO ns) sl aa aX)):uN w b ns:=λx N hx hN=>by
 rw[h.c _ (by omega)];unfold dM nO;rw[aBU (by omega),show (x*256+N) / 256=x by omega,show (x*256+N) % 256=N by omega]
theorem JS{w:World}{b:Nat}{bf:Nat->Nat}{sl:Value}{aa aX:Nat->Bool}(h:dE w b 2561 (dM bf sl aa aX)):w.cell? ⟨b,2048,none⟩=some sl:=by
 rw[h.c _ (by omega)];simp[dM]
theorem VL{w:World}{b:Nat}{ns:List Nd}{sl:Value}{aa aX:Nat->Bool}(h:dE w b 2561 (dM (nO ns) sl aa aX)):Au w b ns aa aX:=⟨QT h,Nq h,ZV h⟩
def Du(w:World)(sl:Value)(cs:List (Nat->Bool)):Prop:=∃ ao cap,sl=.slice ao cs.length cap/\(0<cs.length->∃ gc,ao=some ⟨gc,0,none⟩/\gc<w.heap.size/\∀ k c,cs[k]?=some c->bC w gc (k*256) c)
theorem Du.below{w w':World}{sl:Value}{cs:List (Nat->Bool)}(h:Du w sl cs)(hb:Below w.heap.size w w'):Du w' sl cs:=by
 obtain⟨ao,cap,h1,h2⟩:=h;refine⟨ao,cap,h1,λh0=>?_⟩;obtain⟨gc,h3,h4,h5⟩:=h2 h0;exact⟨gc,h3,aBi h4 hb.size,λk c hk=>(h5 k c hk).below hb h4⟩
theorem aeV{w:World}{b:Nat}{bf:Nat->Nat}{sl:Value}{aa aX:Nat->Bool}{cs:List (Nat->Bool)}(h:dE w b 2561 (dM bf sl aa aX))(hv:Du w sl cs):qC w b cs:=by
 obtain⟨ao,cap,rfl,h2⟩:=hv;exact⟨ao,cap,JS h,h2⟩
def mV(cs:List (Nat->Bool)):List Value:=cs.flatMap gv
theorem abl{cs:List (Nat->Bool)}{k:Nat}{c:Nat->Bool}(h:cs[k]?=some c){j:Nat}(hj:j<256):(mV cs)[k*256+j]?=some (.bool (c j)):=by
 induction cs generalizing k with
 | nil=>simp at h
 | cons p ps ih=>
  rw[show mV (p::ps)=gv p++mV ps by simp[mV]];cases k with
  | zero=>
   simp at h;subst h;rw[aA9 (by rw[kD];omega),Nat.zero_mul,aBo];exact yz p hj
  | succ k=>
   rw[aBa (by rw[kD];omega),kD,show (k+1)*256+j - 256=k*256+j by omega];exact ih (by simpa using h)
theorem F9{w:World}{B:Nat}{sl:Value}{cs:List (Nat->Bool)}(h:w.ownsRow B 61 256 sl cs.length (mV cs)):Du w sl cs:=by
 obtain⟨ao,cap,rfl⟩:=ai h;refine⟨ao,cap,rfl,λh0=>?_⟩;obtain⟨gc,rfl,h1,h2,h3⟩:=dX h h0;refine⟨gc,rfl,h2,λk c hk=>⟨λj hj=>?_,λj hj=>h.frozenAt _⟩⟩;have ql:=(aA1.1 hk).1;rw[h.cellAt (k*256+j) (by have:(k+1)*256<=cs.length*256:=Nat.mul_le_mul_right _ ql;omega)];exact abl hk hj
theorem fold_size(off:Nat):∀ (xs:List Value) (k:Nat) (base:Array Value),((xs.zipIdx k).foldl (λcs p=>cs.setIfInBounds (off+p.2) p.1) base).size=base.size
 | [],_,_=>rfl
 | x::xs,k,base=>by
  rw[List.zipIdx_cons,List.foldl_cons,fold_size off xs (k+1)];simp
theorem Sy:∀ (xs:List Value) (k:Nat) (base:Array Value) (i:Nat),i<base.size ->
  ((xs.zipIdx k).foldl (λcs p=>cs.setIfInBounds (0+p.2) p.1) base)[i]?=if k<=i/\i<k+xs.length then xs[i - k]? else base[i]?
 | [],k,base,i,_=>by simp;intro h1 h2;omega
 | x::xs,k,base,i,hi=>by
  rw[List.zipIdx_cons,List.foldl_cons,Sy xs (k+1) _ i (by simpa using hi)];by_cases e:i=k
  ·subst e;rw[aBT (by omega),aBU (by simp)];simp[hi]
  ·by_cases h:k+1<=i/\i<k+1+xs.length
   ·rw[aBU h,aBU (by simp;omega),show i - k=(i - (k+1))+1 by omega];simp
   ·rw[aBT h,aBT (by simp;omega)];simp[Array.getElem?_setIfInBounds];intro h2;omega
theorem aeI(c base:Array Value)(n:Nat)(hc:c.size=n)(hb:base.size=n):Instr.fill (λi=>some (i*n,n)) base [(0,.agg c)]=some c:=by
 have h1:(Value.agg c).cells=c:=rfl;simp only[Instr.fill,h1,Nat.zero_mul,aBo,hc,hb,ne_eq,not_true,decide_false,Bool.false_or,gt_iff_lt,Nat.lt_irrefl,decide_false,Bool.false_eq_true,if_false];congr 1;apply Array.ext_getElem?;intro i;rw[<-Array.foldl_toList,Array.toList_zipIdx];by_cases hi:i<n
 ·have:=Sy c.toList 0 base i (by omega);simp only[aBo]at this;rw[this,aBU (by simp;omega)];simp
 ·have hs:=fold_size 0 c.toList 0 base;simp only[aBo]at hs;rw[Array.getElem?_eq_none (by rw[hs];omega),Array.getElem?_eq_none (by omega)]
theorem uZ(g:Nat->Bool)(w:World):(Instr.buildSlice 59 1 #[(0,.agg (gv g).toArray)]).run Tryz.prog w=.ok (.slice (some ⟨w.heap.size,0,none⟩) 1 1) (w.alloc (.cells (gv g).toArray 61)):=by
 have hf:=aeI (gv g).toArray ((Array.range 256).map λx=>(Value.agg Tryz.zeroCells61).cells[x % (Value.agg Tryz.zeroCells61).cells.size]!) 256 (by simp[kD]) (by simp);simp[Instr.buildSlice,Tryz.runUnderlying59,Tryz.sizeOf61,Tryz.zeroValue61,newRow];rw[hf];simp
theorem xM{ops:Array Oper}{rest:List Oper}{op:Oper}{a:Act}{w:World}{Q:Exit->Act->World->Prop}(lX:op.guard=none)(x:Operand)(ho:op.op=.buildSlice 59 1 #[(0,x)])
  (g:Nat->Bool) (hx:a.eval x=.agg (gv g).toArray)
  (h:wpList Tryz.prog ops Q rest (a.put op.dst (.slice (some ⟨w.heap.size,0,none⟩) 1 1)) (w.alloc (.cells (gv g).toArray 61))):wpList Tryz.prog ops Q (op::rest) a w:=
 wpList_plain lX λ_ hK=>by
  unfold Oper.wp execOp;have:=uZ g w;simp only[ho,hx,List.map_toArray,List.map_cons,List.map_nil,Sem.run_bind,this,Result.andThen_ok,Sem.run_pure];exact hK _ _ h
