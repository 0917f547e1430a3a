import Derived.Test.YtjagijohfkffiabGreatFREM37
set_option maxHeartbeats 16000000
set_option maxRecDepth 100000
set_option linter.unusedSimpArgs false
namespace Go.Proofs.YtjagijohfkffiabGreat
open Go.RowKit
set_option linter.unusedVariables false
structure sZ (w:World) (lo:Nat) (v1 v2:Value) (n:Nat) (V:Nat->Value):Prop where
 o1:∃ xs,w.ownsRow lo 3 1 v1 n xs
 o2:w.ownsRow lo 22 1 v2 n ((List.range n).map V)
 ov:∀ i,i<n->∃ xs,w.ownsRow lo 3 1 (V i) 8 xs
 sep:∀ i j,i<j->j<n->(V i).ownBlock≠(V j).ownBlock
 far:∀ i,i<n->v1.ownBlock≠(V i).ownBlock
theorem Re{w:World}{B:Nat}{v1 v2:Value}{V:Nat->Value}{ss:List St}{j:Nat}(h:lu w B v1 v2 V ss j):sZ w B v1 v2 j V:=⟨⟨_,h.out⟩,h.nS,λi hi=>⟨_,h.row i hi⟩,h.sep,h.far⟩
theorem EF(w:World)(B:Nat)(V:Nat->Value):sZ w B (.slice none 0 0) (.slice none 0 0) 0 V:=⟨⟨[],aBh _ _ _ _⟩,aBh _ _ _ _,λi h=>by omega,λi j _ h=>by omega,λi h=>by omega⟩
theorem sZ.keeps{w w':World}{lo:Nat}{v1 v2:Value}{n:Nat}{V:Nat->Value}(h:sZ w lo v1 v2 n V)(hb:Below w.heap.size w w'):sZ w' lo v1 v2 n V:=
 ⟨h.o1.imp λ_ k=>ae k hb,ae h.o2 hb,λi hi=>(h.ov i hi).imp λ_ k=>ae k hb,h.sep,h.far⟩
def Qk(s:ByteArray)(os:List Int)(ls:List (List Int)):Prop:=
 ((aB s).1≠0/\os=[]/\ls=[])\/((aB s).1=0/\∃ n out nx,Av (aB s).2 n out nx/\n<=8/\os=pK ((List.range n).map out)/\ls=(List.range n).map λi=>pK ((List.range 8).map λl=>nx i l))\/((aB s).1=0/\Big (aB s).2/\os=[]/\ls=[])
theorem Zw{s:ByteArray}{os os':List Int}{ls ls':List (List Int)}(h:Qk s os ls)(h':Qk s os' ls'):os=os'/\ls=ls':=by
 rcases h with⟨h0,e1,e2⟩ | ⟨h0,n,out,nx,hM,hn,e1,e2⟩ | ⟨h0,hB,e1,e2⟩
 ·rcases h' with⟨_,f1,f2⟩ | ⟨k0,_⟩ | ⟨k0,_⟩
  ·exact⟨e1.trans f1.symm,e2.trans f2.symm⟩
  ·exact absurd k0 h0
  ·exact absurd k0 h0
 ·rcases h' with⟨k0,_⟩ | ⟨_,n',out',nx',Sk,hn',f1,f2⟩ | ⟨_,hB',_⟩
  ·exact absurd h0 k0
  ·obtain⟨rfl,g1,g2⟩:=I8 hM Sk;refine⟨?_,?_⟩
   ·rw[e1,f1];congr 1;exact aBP λi hi=>g1 i (aBI.1 hi)
   ·rw[e2,f2];refine aBP λi hi=>?_;congr 1;exact aBP λl hl=>g2 i l (aBI.1 hi) (aBI.1 hl)
  ·have:=hB' _ _ _ hM;omega
 ·rcases h' with⟨k0,_⟩ | ⟨_,n',out',nx',Sk,hn',f1,f2⟩ | ⟨_,hB',f1,f2⟩
  ·exact absurd h0 k0
  ·have:=hB _ _ _ Sk;omega
  ·exact⟨e1.trans f1.symm,e2.trans f2.symm⟩
theorem yl(W:World):Ints W none 0 0 []:=⟨rfl,aAU _,by omega,λ_=>⟨rfl,rfl⟩,λh=>by omega⟩
theorem vC(W:World):Lists W none 0 0 []:=⟨rfl,aAU _,by omega,λ_=>⟨rfl,rfl⟩,λh=>by omega⟩
theorem UT{s:ByteArray}{w w':World}{e:Ending}(h:xJ s w e w'):∃ a1 n c1 a2 c2 V os ls er,e=.returned (.tuple #[.agg #[.slice a1 n c1,.slice a2 n c2],.int .i64 (er:Nat)])/\Below w.heap.size w w'/\sZ w' w.heap.size (.slice a1 n c1) (.slice a2 n c2) n V/\n<=8/\Ints w' a1 n c1 os/\Lists w' a2 n c2 ls/\Qk s os ls:=by
 obtain⟨v1,v2,er,rfl,p1,q1,hb⟩:=h;by_cases h0:(aB s).1=0
 ·rcases q1 h0 with⟨h1,ss,V,hl,_,h3,h4⟩ | ⟨h1,rfl,rfl,h4⟩
  ·obtain⟨a1,c1,e1,I1⟩:=hl.ints;obtain⟨a2,c2,e2,L1⟩:=hl.lists;subst e1;subst e2;obtain⟨out,nx,hM,hs⟩:=h4;obtain⟨f1,f2,f3⟩:=watches.Vj ⟨out,nx,hM,hs⟩ hM;exact⟨a1,_,c1,a2,c2,V,_,_,er,rfl,hb,Re hl,h3,I1,L1,aA3 (aA2 ⟨h0,_,out,nx,hM,h3,f2,f3⟩)⟩
  ·exact⟨none,0,0,none,0,λ_=>.slice none 0 0,[],[],er,rfl,hb,EF _ _ _,by omega,yl _,vC _,aA3 (aA3 ⟨h0,h4,rfl,rfl⟩)⟩
 ·obtain⟨h1,rfl,rfl⟩:=p1 h0;exact⟨none,0,0,none,0,λ_=>.slice none 0 0,[],[],er,rfl,hb,EF _ _ _,by omega,yl _,vC _,aA2 ⟨h0,rfl,rfl⟩⟩
theorem QM{s:ByteArray}{w w':World}{e:Ending}(h:uL s w e w'):∃ a1 n1 c1 a2 n2 c2 os ls er,e=.returned (.tuple #[.agg #[.slice a1 n1 c1,.slice a2 n2 c2],.int .i64 (er:Nat)])/\Below w.heap.size w w'/\Ints w' a1 n1 c1 os/\Lists w' a2 n2 c2 ls/\Qk s os ls:=by
 obtain⟨v1,v2,er,rfl,p1,q1,hb⟩:=h;by_cases h0:(aB s).1=0
 ·rcases q1 h0 with⟨h1,n,out,nx,hM,h3,⟨a,c,k4,k5⟩,⟨a',c',k6,k7⟩⟩ | ⟨h1,rfl,rfl,h4⟩
  ·subst k4;subst k6;exact⟨a,_,c,a',_,c',_,_,er,rfl,hb,k5,k7,aA3 (aA2 ⟨h0,n,out,nx,hM,h3,rfl,rfl⟩)⟩
  ·exact⟨none,0,0,none,0,0,[],[],er,rfl,hb,yl _,vC _,aA3 (aA3 ⟨h0,h4,rfl,rfl⟩)⟩
 ·obtain⟨h1,rfl,rfl⟩:=p1 h0;exact⟨none,0,0,none,0,0,[],[],er,rfl,hb,yl _,vC _,aA2 ⟨h0,rfl,rfl⟩⟩
theorem ZT{s:ByteArray}{w w':World}{e:Ending}(h:jF s w e w'):∃ a1 n c1 a2 c2 V os ls,e=.returned (.tuple #[.agg #[.slice a1 n c1,.slice a2 n c2],.int .i64 (iH s)])/\Below w.heap.size w w'/\sZ w' w.heap.size (.slice a1 n c1) (.slice a2 n c2) n V/\n<=255/\Ints w' a1 n c1 os/\Lists w' a2 n c2 ls /\
  os=(if gI s=true then gT (cK s (bt s 0)) (bt s 0) else [])/\ls=(if gI s=true then iX (cK s (bt s 0)) (bt s 0) else []):=by
 obtain⟨hb,v1,v2,he,⟨hr,rfl,rfl⟩ | ⟨hr,V,L⟩⟩:=h
 ·exact⟨none,0,0,none,0,λ_=>.slice none 0 0,[],[],he,hb,EF _ _ _,by omega,yl _,vC _,by simp[hr],by simp[hr]⟩
 ·obtain⟨a1,c1,rfl,hI⟩:=L.ints;obtain⟨a2,c2,rfl,hL⟩:=L.lists;have:=nD s 0;exact⟨a1,_,c1,a2,c2,V,_,_,he,hb,Re L,by omega,hI,hL,by simp[hr],by simp[hr]⟩
def MIn(v1 v2:Value)(n:Nat)(V:Nat->Value)(lo hi:Nat):Prop:=∀ X,(X=v1\/X=v2\/∃ i,i<n/\X=V i)->∀ g,X.ownBlock=some g->lo<=g/\g<hi
theorem Rf{w:World}{lo:Nat}{v1 v2:Value}{n:Nat}{V:Nat->Value}(h:sZ w lo v1 v2 n V):MIn v1 v2 n V lo w.heap.size:=λX hX g hg=>by
 rcases hX with rfl | rfl | ⟨i,hi,rfl⟩
 ·obtain⟨xs,hx⟩:=h.o1;exact hx.lt g hg
 ·exact h.o2.lt g hg
 ·obtain⟨xs,hx⟩:=h.ov i hi;exact hx.lt g hg
structure UO (ES:List (Value × Nat)) (OS:List (Value × Nat × Nat)) (vL vO:Value) (lo hi:Nat):Prop where
 us:∀ g,qO ES OS g->g<lo\/hi<=g
 al:∀ g,vL.ownBlock=some g->g<lo\/hi<=g
 ao:∀ g,vO.ownBlock=some g->g<lo\/hi<=g
theorem rF{w:World}{M:Nat}{vL vO:Value}{q r:Nat}{ES:List (Value × Nat)}{OS:List (Value × Nat × Nat)}(h:Book w M vL vO q r ES OS){lo hi:Nat}(hl:w.heap.size<=lo):UO ES OS vL vO lo hi:=
 ⟨λg hg=>aA2 (by have:=Vx h hg;omega),λg hg=>aA2 (by have:=(h.hL.lt g hg).2;omega),λg hg=>aA2 (by have:=(h.hO.lt g hg).2;omega)⟩
theorem Q4{w:World}{lo hi n:Nat}{v1 v2 vL vO:Value}{V:Nat->Value}{ES:List (Value × Nat)}{OS:List (Value × Nat × Nat)}(h:sZ w lo v1 v2 n V)(hin:MIn v1 v2 n V lo hi)(ha:UO ES OS vL vO lo hi)(hn:n<=1048576):KZ w vL v1 v2 n n V (λ_=>8) ES OS:=by
 have hno:∀ X,(X=v1\/X=v2\/∃ i,i<n/\X=V i)->∀ g,X.ownBlock=some g->¬ qO ES OS g:=λX hX g hg hu=>by
  have h1:=hin X hX g hg;rcases ha.us g hu with h2 | h2 <;> omega
 refine⟨h.o1.imp λ_ k=>bJ k (aA8 _),bJ h.o2 (aA8 _),λi hi=>(h.ov i hi).imp λ_ k=>bJ k (aA8 _),hno _ (aA2 rfl),hno _ (aA3 (aA2 rfl)),λi hi g hg=>⟨hno _ (aA3 (aA3 ⟨i,hi,rfl⟩)) g hg,λe=>h.far i hi (by rw[e,hg])⟩,λi j hij hj g hg e=>h.sep i j hij hj (by rw[e,hg]),?_,hn,hn,λi hi=>by omega⟩;cases hb:v2.ownBlock with
 | none=>exact aA2 rfl
 | some g=>
  refine aA3 λe=>?_;have h1:=hin v2 (aA3 (aA2 rfl)) g hb;rcases ha.al g e.symm with h2 | h2 <;> omega
theorem uz{w w':World}{B e n:Nat}{v:Value}{xs:List Value}{S:Nat->Prop}(h:w.ownsRow B e 1 v n xs)(c:Xm w w' S)(hS:∀ g,v.ownBlock=some g->¬ S g):w'.ownsRow B e 1 v n xs:=by
 refine⟨h.1,?_⟩;rcases h.2 with hn | ⟨g,cap,cur,rfl,hb,hg,rest⟩
 ·exact .inl hn
 ·exact .inr ⟨g,cap,cur,rfl,hb,(c.block g (cZ hg) (hS g rfl)).trans hg,rest⟩
theorem aaa{w w':World}{lo hi n:Nat}{v1 v2:Value}{V:Nat->Value}{S:Nat->Prop}(h:sZ w lo v1 v2 n V)(hin:MIn v1 v2 n V lo hi)(c:Xm w w' S)(hS:∀ g,lo<=g->g<hi->¬ S g):sZ w' lo v1 v2 n V:=by
 have hX:∀ X,(X=v1\/X=v2\/∃ i,i<n/\X=V i)->∀ g,X.ownBlock=some g->¬ S g:=λX hX g hg=>by
  have:=hin X hX g hg;exact hS g this.1 this.2
 exact⟨h.o1.imp λ_ k=>uz k c (hX _ (aA2 rfl)),uz h.o2 c (hX _ (aA3 (aA2 rfl))),λi hi=>(h.ov i hi).imp λ_ k=>uz k c (hX _ (aA3 (aA3 ⟨i,hi,rfl⟩))),h.sep,h.far⟩
theorem GU{M la ha lo hi n:Nat}{vL vO v1 v2:Value}{V:Nat->Value}{ES:List (Value × Nat)}{OS:List (Value × Nat × Nat)}(hin:MIn v1 v2 n V la ha)(Wi:UO ES OS vL vO lo hi)(hM:M<lo)(hd:ha<=lo\/hi<=la):∀ g,lo<=g->g<hi->¬ Hit M vL vO v1 v2 V n g:=λg h1 h2 hg=>by
 have hm:∀ X,(X=v1\/X=v2\/∃ i,i<n/\X=V i)->X.ownBlock=some g->False:=λX hX e=>by
  have:=hin X hX g e;omega
 rcases hg with h | h | h | h | h | ⟨i,hi,h⟩
 ·omega
 ·rcases Wi.al g h with h3 | h3 <;> omega
 ·rcases Wi.ao g h with h3 | h3 <;> omega
 ·exact hm _ (aA2 rfl) h
 ·exact hm _ (aA3 (aA2 rfl)) h
 ·exact hm _ (aA3 (aA3 ⟨i,hi,rfl⟩)) h
theorem wE{w:World}{la ha lo hi n:Nat}{vL vO v1 v2 fC nQ:Value}{V:Nat->Value}{ES lV:List (Value × Nat)}{OS K7:List (Value × Nat × Nat)}(hin:MIn v1 v2 n V la ha)(Wi:UO ES OS vL vO lo hi)(hhi:hi<=w.heap.size)(hd:ha<=lo\/hi<=la)
  (us:∀ g,qO lV K7 g->qO ES OS g\/v1.ownBlock=some g\/v2.ownBlock=some g\/(∃ i,i<n/\(V i).ownBlock=some g)\/w.heap.size<=g) (lb:fC.ownBlock=vL.ownBlock\/∃ g',fC.ownBlock=some g'/\w.heap.size<=g') (ob:nQ.ownBlock=vO.ownBlock\/∃ g',nQ.ownBlock=some g'/\w.heap.size<=g'):UO lV K7 fC nQ lo hi:=by
 have hm:∀ X,(X=v1\/X=v2\/∃ i,i<n/\X=V i)->∀ g,X.ownBlock=some g->g<lo\/hi<=g:=λX hX g e=>by
  have:=hin X hX g e;omega
 refine⟨λg hg=>?_,λg hg=>?_,λg hg=>?_⟩
 ·rcases us g hg with h | h | h | ⟨i,zB,h⟩ | h
  ·exact Wi.us g h
  ·exact hm _ (aA2 rfl) g h
  ·exact hm _ (aA3 (aA2 rfl)) g h
  ·exact hm _ (aA3 (aA3 ⟨i,zB,rfl⟩)) g h
  ·exact aA3 (by omega)
 ·rcases lb with h | ⟨g',h,h2⟩
  ·exact Wi.al g (h.symm.trans hg)
  ·rw[hg]at h;have:=Option.some.inj h;exact aA3 (by omega)
 ·rcases ob with h | ⟨g',h,h2⟩
  ·exact Wi.ao g (h.symm.trans hg)
  ·rw[hg]at h;have:=Option.some.inj h;exact aA3 (by omega)
theorem zR{w0 w w':World}{M:Nat}{S:Nat->Prop}(hb:Below M w0 w)(c:Xm w w' S)(hM:M<=w.heap.size)(hS:∀ g,S g->M<=g):Below M w0 w':=⟨c.os.trans hb.os,c.tape.trans hb.tape,c.output.trans hb.output,aBO hb.size c.size,λk hk=>(c.block k (by omega) (λh=>by have:=hS k h;omega)).trans (hb.block k hk)⟩
theorem abL{w w':World}{M:Nat}{r1 r2:Option Nat}(h:KB w w' M r1 r2):Xm w w' (λk=>k=M\/r1=some k\/r2=some k):=⟨h.os,h.tape,h.output,h.size,λk hk hs=>h.block k hk (λe=>hs (aA2 e)) (λe=>hs (aA3 (aA2 e.symm))) (λe=>hs (aA3 (aA3 e.symm)))⟩
def nz(zs:List Int)(j:Nat):Bool:=zs.any λz=>z==(j:Int)
def fI(n:Nat)(zs:List Int):Bool:=zs.all λz=>decide (0<=z)&&decide (z<(n:Int))
theorem oN{n:Nat}{zs:List Int}:fI n zs=true↔∀ z∈zs,0<=z/\z<(n:Int):=by simp[fI,List.all_eq_true]
theorem xH{zs:List Int}{j:Nat}:nz zs j=true↔(j:Int)∈zs:=by
 unfold nz;rw[List.any_eq_true];constructor
 ·rintro ⟨z,h1,h2⟩;have:z=(j:Int):=by simpa using h2
  rw[<-this];exact h1
 ·intro h;exact⟨_,h,by simp⟩
theorem ad4{zs:List Int}{k:Nat}{z:Int}(h:zs[k]?=some z)(j:Nat):nz (zs.take (k+1)) j=(nz (zs.take k) j||z==(j:Int)):=by
 unfold nz;rw[List.take_add_one,h];simp
def six(e:Nat->Bool):Array Value:=#[.bool (e 0),.bool (e 1),.bool (e 2),.bool (e 3),.bool (e 4),.bool (e 5)]
theorem Tryz.kT:(Tryz.prog.info? 151).map (·.size)=some 6:=by kernel_rfl
theorem AQ(e:Nat->Bool):One (λi=>Value.bool (e i)) 6:=λi _=>rfl
def mq(n:Nat)(zs:List Int)(w:World)(e:Ending)(w':World):Prop:=
 ∃ f,e=.returned (.tuple #[.agg (six f),.bool (fI n zs)])/\(fI n zs=true->∀ j,j<6->f j=nz zs j)/\Below w.heap.size w w'
theorem Gg(a:Option Addr)(l c n:Nat)(zs:List Int)(w:World)(h:Ints w a l c zs)(hn:n<=6) :
  Calls Tryz.prog 87 #[.slice a l c,.int .i64 (n:Nat)] w (mq n zs w):=by
 have hl:=h.hlen;have hcap:=h.hcap;have hmax:=h.hmax;have HI:=hid (λW (b:Below w.heap.size w W)=>h.below b);clear h;have R0:dE (w.alloc (.cells #[.bool false,.bool false,.bool false,.bool false,.bool false,.bool false] 151)) w.heap.size 6 (λ_=>Value.bool false):=pE w (λ_=>Value.bool false) 6 151;have I0:dE ((w.alloc (.cells #[.bool false,.bool false,.bool false,.bool false,.bool false,.bool false] 151)).alloc (.cells #[.bool false,.bool false,.bool false,.bool false,.bool false,.bool false] 151)) (w.heap.size+1) 6 (λi=>Value.bool (nz (zs.take 0) i)):=by
  have h1:=pE (w.alloc (.cells #[.bool false,.bool false,.bool false,.bool false,.bool false,.bool false] 151)) (λ_=>Value.bool false) 6 151;rw[show (w.alloc (.cells #[.bool false,.bool false,.bool false,.bool false,.bool false,.bool false] 151)).heap.size=w.heap.size+1 by simp]at h1;exact h1
 have ba:=(aAW w.heap.size w).alloc (aAU _) (.cells #[.bool false,.bool false,.bool false,.bool false,.bool false,.bool false] 151);have HR0:=hid (R0.below ((aAW (w.heap.size+1) (w.alloc (.cells #[.bool false,.bool false,.bool false,.bool false,.bool false,.bool false] 151))).alloc (by simp) (.cells #[.bool false,.bool false,.bool false,.bool false,.bool false,.bool false] 151)) (by omega));have Lv:=hid I0;have iQ:=hid (ba.alloc (by simp) (.cells #[.bool false,.bool false,.bool false,.bool false,.bool false,.bool false] 151));clear R0 I0 ba;go_enter Tryz.func87,Tryz.ntmps87;go_wp2_with fail;generalize hW:((w.alloc (.cells #[.bool false,.bool false,.bool false,.bool false,.bool false,.bool false] 151)).alloc (.cells #[.bool false,.bool false,.bool false,.bool false,.bool false,.bool false] 151))=W at *;have DT:W.heap.size=w.heap.size+2:=by rw[<-hW];simp
 clear hW
 go_loopw [12] (λi wq=>∃ k:Nat,k<=l/\i=.int .i64 k/\Hid (fI n (zs.take k)=true)/\Hid (dE wq (w.heap.size+1) 6 (λi=>Value.bool (nz (zs.take k) i)))/\Hid (dE wq w.heap.size 6 (λ_=>Value.bool false))/\Hid (Below w.heap.size w wq)/\wq.heap.size=w.heap.size+2) (λi _=>l - (intOf i).toNat)
 case atStart=>exact⟨0,aA8 _,rfl,hid (by simp[fI]),Lv,HR0,iQ,DT⟩
 case round=>
  obtain⟨k,hk,rfl,HN,HA,HR,HB,hsz⟩:=hrel;rename World=>W0;clear Lv HR0 iQ;by_cases hlk:k<l
  ·obtain⟨z,hz⟩:∃ z,zs[k]?=some z:=⟨_,aAV (by omega)⟩;obtain⟨b,o,eb,hb,hc⟩:=(HI.out W0 HB.out).hcell (by omega);subst eb;have ck:=hc k hlk;rw[show zs.getD k 0=z by simp[List.getD,hz]]at ck;have HZM:=hid (aBB hz);have WV:Hid (fI n (zs.take (k+1))=(fI n (zs.take k)&&(decide (0<=z)&&decide (z<(n:Int))))):=hid (by unfold fI;rw[List.take_add_one,hz];simp);have HIT:=hid (ad4 hz);clear hc hz;by_cases g1:z<0
   ·have nI:Hid (fI n zs=false):=hid (by
     cases e:fI n zs with
     | false=>rfl
     | true=>have:=oN.1 e z HZM.out;omega)
    go_wp2_with (first | (refine nP rfl 151 (.tmp 6) rfl (w.heap.size+1) 6 _ _ rfl HA.out Tryz.underlying151 rfl Tryz.kT ?_) | (refine fH rfl 151 (.tmp 4) (.tmp 27) rfl w.heap.size 6 _ rfl rfl (HR.out.there 0 6 (by omega)) Tryz.kT (AQ _) ?_))
    intro w3 S3;have cu:=hid (S3.bG _ _ (aAU _) HB.out);have RG:=S3.at_.tJ;clear S3;go_wp2_with fail;refine fM (cs:=rv (λi=>Value.bool (nz (zs.take k) i)) 6) (v:=.bool false) (b:=w.heap.size) Tryz.results87 ?_ ?_ ?_ ?_ Tryz.underlying151 rfl (by rw[oJ];exact Tryz.kT) ?_
    ·rfl
    ·rfl
    ·rfl
    ·exact RG
    ·unfold mq;exact⟨nz (zs.take k),(by rw[nI.out];rfl),(λh=>by rw[nI.out]at h;cases h),cu.out⟩
   ·have g1':decide (z<0)=false:=by simp;omega
    by_cases g2:(n:Int)<=z
    ·have nI:Hid (fI n zs=false):=hid (by
      cases e:fI n zs with
      | false=>rfl
      | true=>have:=oN.1 e z HZM.out;omega)
     go_wp2_with (first | (refine nP rfl 151 (.tmp 6) rfl (w.heap.size+1) 6 _ _ rfl HA.out Tryz.underlying151 rfl Tryz.kT ?_) | (refine fH rfl 151 (.tmp 4) (.tmp 27) rfl w.heap.size 6 _ rfl rfl (HR.out.there 0 6 (by omega)) Tryz.kT (AQ _) ?_))
     intro w3 S3;have cu:=hid (S3.bG _ _ (aAU _) HB.out);have RG:=S3.at_.tJ;clear S3;go_wp2_with fail;refine fM (cs:=rv (λi=>Value.bool (nz (zs.take k) i)) 6) (v:=.bool false) (b:=w.heap.size) Tryz.results87 ?_ ?_ ?_ ?_ Tryz.underlying151 rfl (by rw[oJ];exact Tryz.kT) ?_
     ·rfl
     ·rfl
     ·rfl
     ·exact RG
     ·unfold mq;exact⟨nz (zs.take k),(by rw[nI.out];rfl),(λh=>by rw[nI.out]at h;cases h),cu.out⟩
    ·have g2':decide ((n:Int)<=z)=false:=by simp;omega
     obtain⟨m,rfl⟩:∃ m:Nat,z=(m:Int):=⟨z.toNat,by omega⟩;have g2n:decide (n<=m)=false:=by simp;omega
     have g3:decide ((6:Int)<=(m:Int))=false:=by simp;omega
     have g3n:decide (6<=m)=false:=by simp;omega
     have hm6:m<6:=by omega
     have zZ:Hid (fI n (zs.take (k+1))=true):=hid (by
      rw[WV.out,HN.out];have e1:decide ((0:Int)<=(m:Int))=true:=by simp
      have e2:decide ((m:Int)<(n:Int))=true:=by simp;omega
      rw[e1,e2];rfl)
     have a0:=HA.out.c m hm6;have a1:=HA.out.f m hm6;have tu:=hid (HA.out.set m (.bool true));have Xk:=hid (tu.out.congr (d:=λi=>Value.bool (nz (zs.take (k+1)) i)) (λj hj=>by
      unfold Af;rw[HIT.out j];by_cases e:j=m
      ·subst e;simp
      ·rw[aBT e];have:((m:Int)==(j:Int))=false:=aA6.2 (by omega);rw[this];simp))
     have jR:=hid (HR.out.other ⟨w.heap.size+1,m,none⟩ (.bool true) (by show w.heap.size+1≠w.heap.size;omega));have aW:=hid (HB.out.setCell (p:=⟨w.heap.size+1,m,none⟩) (by show w.heap.size<=w.heap.size+1;omega) (.bool true));have i1:(0:Int)<=(m:Int):=by omega
     have i2:(m:Int)<6:=by omega
     clear g1 g2;go_wp2_with fail;go_roundw
     case rel=>exact⟨k+1,by omega,by go_num,zZ,Xk,jR,aW,by simp;omega⟩
     case measure=>simp[intOf] <;> omega
  ·obtain rfl:k=l:=by omega
   have UA:Hid (zs.take k=zs):=hid (List.take_of_length_le (by omega));have asz:Hid (fI n zs=true):=hid (by have:=HN.out;rwa [UA.out]at this);rw[UA.out]at HA;go_wp2_with (first | (refine nP rfl 151 (.tmp 6) rfl (w.heap.size+1) 6 _ _ rfl HA.out Tryz.underlying151 rfl Tryz.kT ?_) | (refine fH rfl 151 (.tmp 4) (.tmp 31) rfl w.heap.size 6 _ rfl rfl (HR.out.there 0 6 (by omega)) Tryz.kT (AQ _) ?_))
   intro w3 S3;have cu:=hid (S3.bG _ _ (aAU _) HB.out);have RG:=S3.at_.tJ;clear S3;go_wp2_with fail;refine fM (cs:=rv (λi=>Value.bool (nz zs i)) 6) (v:=.bool true) (b:=w.heap.size) Tryz.results87 ?_ ?_ ?_ ?_ Tryz.underlying151 rfl (by rw[oJ];exact Tryz.kT) ?_
   ·rfl
   ·rfl
   ·rfl
   ·exact RG
   ·unfold mq;exact⟨nz zs,by rw[asz.out];rfl,λ_ j _=>rfl,cu.out⟩
def pX(i:Nat)(zs:List Int):List Int:=if zs.length=0 then [(i:Int)] else zs
theorem abB(a:Option Addr)(l c i n:Nat)(zs:List Int)(w:World)(h:Ints w a l c zs)(hn:n<=6) :
  Calls Tryz.prog 88 #[.slice a l c,.int .i64 (i:Nat),.int .i64 (n:Nat)] w (mq n (pX i zs) w):=by
 have hl:=h.hlen;have hcap:=h.hcap;have hmax:=h.hmax;have ba:=(aAW w.heap.size w).alloc (aAU _) (.cells #[.bool false,.bool false,.bool false,.bool false,.bool false,.bool false] 151);have R0:dE (w.alloc (.cells #[.bool false,.bool false,.bool false,.bool false,.bool false,.bool false] 151)) w.heap.size 6 (λ_=>Value.bool false):=pE w (λ_=>Value.bool false) 6 151;have HR0:=hid R0;have iQ:=hid ba;by_cases h0:l=0
 ·subst h0;have HO:Hid (pX i zs=[(i:Int)]):=hid (by unfold pX;rw[aBU hl]);have b1:=(aAW (w.heap.size+1) (w.alloc (.cells #[.bool false,.bool false,.bool false,.bool false,.bool false,.bool false] 151))).alloc (by simp) (.cells #[.int .i64 (i:Nat)] 3);have HR1:=hid (R0.below b1 (by omega));have aK:=hid (ba.trans (b1.mono (by omega)));have I1:Ints ((w.alloc (.cells #[.bool false,.bool false,.bool false,.bool false,.bool false,.bool false] 151)).alloc (.cells #[.int .i64 (i:Nat)] 3)) (some ⟨w.heap.size+1,0,none⟩) 1 1 [(i:Int)]:=by
   have h1:=adY (w.alloc (.cells #[.bool false,.bool false,.bool false,.bool false,.bool false,.bool false] 151)) i;rw[show (w.alloc (.cells #[.bool false,.bool false,.bool false,.bool false,.bool false,.bool false] 151)).heap.size=w.heap.size+1 by simp]at h1;exact h1
  have AM:=hid (Gg _ 1 1 n [(i:Int)] _ I1 hn);clear ba R0 b1 I1 h;rw[HO.out];go_enter Tryz.func88,Tryz.ntmps88;go_wp2_with fail;refine(AM.out.mono ?_);intro e w2 Fp;unfold mq at Fp;obtain⟨f,rfl,hf,ak⟩:=Fp;simp only[aAZ]at ak;have jR:=hid (HR1.out.below ak (by omega));have aW:=hid (aK.out.trans (ak.mono (by omega)));have HF:=hid hf;clear hf ak AM;go_wp2_with (refine fH rfl 151 (.tmp 6) (.tmp 15) rfl w.heap.size 6 (λi=>Value.bool (f i)) rfl rfl (jR.out.there 0 6 (by omega)) Tryz.kT (AQ _) ?_);intro w3 S3;have cu:=hid (S3.bG _ _ (aAU _) aW.out);have RG:=S3.at_.tJ;clear S3;go_wp2_with fail;refine fM (cs:=rv (λi=>Value.bool (f i)) 6) (v:=.bool (fI n [(i:Int)])) (b:=w.heap.size) Tryz.results88 ?_ ?_ ?_ ?_ Tryz.underlying151 rfl (by rw[oJ];exact Tryz.kT) ?_
  ·rfl
  ·rfl
  ·rfl
  ·exact RG
  ·unfold mq;exact⟨f,rfl,HF.out,cu.out⟩
 ·have HO:Hid (pX i zs=zs):=hid (by unfold pX;rw[aBT (by omega)]);have AM:=hid (Gg a l c n zs _ (h.below ba) hn);have hz:((l:Int)==0)=false:=aA6.2 (by omega);clear ba R0 h;rw[HO.out];go_enter Tryz.func88,Tryz.ntmps88;go_wp2_with fail;refine(AM.out.mono ?_);intro e w2 Fp;unfold mq at Fp;obtain⟨f,rfl,hf,ak⟩:=Fp;simp only[aAZ]at ak;have jR:=hid (HR0.out.below ak (by omega));have aW:=hid (iQ.out.trans (ak.mono (by omega)));have HF:=hid hf;clear hf ak AM;go_wp2_with (refine fH rfl 151 (.tmp 6) (.tmp 20) rfl w.heap.size 6 (λi=>Value.bool (f i)) rfl rfl (jR.out.there 0 6 (by omega)) Tryz.kT (AQ _) ?_);intro w3 S3;have cu:=hid (S3.bG _ _ (aAU _) aW.out);have RG:=S3.at_.tJ;clear S3;go_wp2_with fail;refine fM (cs:=rv (λi=>Value.bool (f i)) 6) (v:=.bool (fI n zs)) (b:=w.heap.size) Tryz.results88 ?_ ?_ ?_ ?_ Tryz.underlying151 rfl (by rw[oJ];exact Tryz.kT) ?_
  ·rfl
  ·rfl
  ·rfl
  ·exact RG
  ·unfold mq;exact⟨f,rfl,HF.out,cu.out⟩
theorem Zh(T g2 n fr l to:Nat)(V:Nat->Value)(tl:Nat->List (Nat × Nat))(w:World)(hm:nG w T g2 n V tl)(hn:n<=1099511627776)(Kr:fr<n)(hl:l<8)(hto:to<n)(hlen:(tl to).length<=1099511627776) :
  Calls Tryz.prog 130 #[.pointer (some ⟨T,0,none⟩),.int .i64 fr,.int .i64 l,.int .i64 to] w λe w'=>e=.returned (.tuple #[])/\(∃ V',nG w' T g2 n V' (Cj tl to (tl to++[(fr,l)]))/\∀ NB,NB<w.heap.size->NB≠g2->(∀ j,j<n->(V j).ownBlock≠some NB)->(∀ o,w'.cell? ⟨NB,o,none⟩=w.cell? ⟨NB,o,none⟩)/\∀ j,j<n->(V' j).ownBlock≠some NB)/\Below g2 w w':=by
 obtain⟨i0,hi,aR,aP,aN⟩:=info_parts Tryz.Rt;have cT:=hm.cell;have hT:=hm.Tlt;have hgT:=hm.lt;have own:=hm.row to hto;have cV:w.cell? ⟨g2,to,none⟩=some (V to):=(hm.out.cellAt to (by omega)).trans (by simp[aBk,aBx hto]);have HM:=hid hm;have oV:g2<w.heap.size:=by omega
 obtain⟨ao,cp,eV⟩:=ai own;have HV:=hid eV;rw[eV]at cV own;generalize Ko:(tl to).length=ln at *;have bZ:=hid Ko;have OW:=hid own;clear hm eV Ko own;go_enter Tryz.func130,Tryz.ntmps130;go_wp2_with fail;refine wp_region_held_drew (S:=λw'=>w'.cell? ⟨T,0,none⟩=some (.slice (some ⟨g2,0,none⟩) n n)) (by kernel_rfl) cT (λau=>?_);refine aA4 (i:=0) (oi:={ dst:=some 36,op:=Op.move (.tmp 0),type:=_,pos:=_,after:=_,guard:=none }) (v:=(Value.pointer (some ⟨T,0,none⟩))) rfl (by kernel_rfl) (by kernel_rfl) (by kernel_rfl) (λ_ _ _ h=>h) (aA2 ⟨by rfl,by intro w' af;(try dsimp only at af);go_simp⟩) (by assumption) ?_
 simp only[Act.put,aAT,aAX,aAY];refine aA4 (i:=1) (oi:={ dst:=some 37,op:=Op.nilCheck (.tmp 36),type:=_,pos:=_,after:=_,guard:=none }) (v:=(Value.pointer (some ⟨T,0,none⟩))) rfl (by kernel_rfl) (by kernel_rfl) (by kernel_rfl) (λ_ _ _ h=>h) (aA2 ⟨by rfl,by intro w' af;(try dsimp only at af);go_simp⟩) (by assumption) ?_
 simp only[Act.put,aAT,aAX,aAY];refine aA4 (i:=2) (oi:={ dst:=some 38,op:=Op.fieldAddr _ (.tmp 37) 0,type:=_,pos:=_,after:=_,guard:=none }) (v:=(Value.pointer (some ⟨T,0,none⟩))) rfl (by kernel_rfl) (by kernel_rfl) (by kernel_rfl) (λ_ _ _ h=>h) (aA2 ⟨by rfl,by intro w' af;(try dsimp only at af);go_simp⟩) (by assumption) ?_
 simp only[Act.put,aAT,aAX,aAY];refine aA4 (i:=3) (oi:={ dst:=some 39,op:=Op.load _ (.tmp 38),type:=_,pos:=_,after:=_,guard:=none }) (v:=(Value.slice (some ⟨g2,0,none⟩) n n)) rfl (by kernel_rfl) (by kernel_rfl) (by kernel_rfl) (λ_ _ _ h=>h) (aA2 ⟨by rfl,by intro w' af;(try dsimp only at af);go_simp⟩) (by assumption) ?_
 simp only[Act.put,aAT,aAX,aAY];refine aA4 (i:=4) (oi:={ dst:=some 40,op:=Op.move (.tmp 3),type:=_,pos:=_,after:=_,guard:=none }) (v:=(Value.int .i64 (to:Nat))) rfl (by kernel_rfl) (by kernel_rfl) (by kernel_rfl) (λ_ _ _ h=>h) (aA2 ⟨by rfl,by intro w' af;(try dsimp only at af);go_simp⟩) (by assumption) ?_
 simp only[Act.put,aAT,aAX,aAY];refine aA4 (i:=5) (oi:={ dst:=some 41,op:=Op.move (.tmp 0),type:=_,pos:=_,after:=_,guard:=none }) (v:=(Value.pointer (some ⟨T,0,none⟩))) rfl (by kernel_rfl) (by kernel_rfl) (by kernel_rfl) (λ_ _ _ h=>h) (aA2 ⟨by rfl,by intro w' af;(try dsimp only at af);go_simp⟩) (by assumption) ?_
 simp only[Act.put,aAT,aAX,aAY];refine aA4 (i:=6) (oi:={ dst:=some 42,op:=Op.nilCheck (.tmp 41),type:=_,pos:=_,after:=_,guard:=none }) (v:=(Value.pointer (some ⟨T,0,none⟩))) rfl (by kernel_rfl) (by kernel_rfl) (by kernel_rfl) (λ_ _ _ h=>h) (aA2 ⟨by rfl,by intro w' af;(try dsimp only at af);go_simp⟩) (by assumption) ?_
 simp only[Act.put,aAT,aAX,aAY];refine aA4 (i:=7) (oi:={ dst:=some 43,op:=Op.fieldAddr _ (.tmp 42) 0,type:=_,pos:=_,after:=_,guard:=none }) (v:=(Value.pointer (some ⟨T,0,none⟩))) rfl (by kernel_rfl) (by kernel_rfl) (by kernel_rfl) (λ_ _ _ h=>h) (aA2 ⟨by rfl,by intro w' af;(try dsimp only at af);go_simp⟩) (by assumption) ?_
 simp only[Act.put,aAT,aAX,aAY];refine aA4 (i:=8) (oi:={ dst:=some 44,op:=Op.load _ (.tmp 43),type:=_,pos:=_,after:=_,guard:=none }) (v:=(Value.slice (some ⟨g2,0,none⟩) n n)) rfl (by kernel_rfl) (by kernel_rfl) (by kernel_rfl) (λ_ _ _ h=>h) (aA2 ⟨by rfl,by intro w' af;(try dsimp only at af);go_simp⟩) (by assumption) ?_
 simp only[Act.put,aAT,aAX,aAY];refine aA4 (i:=9) (oi:={ dst:=some 45,op:=Op.move (.tmp 3),type:=_,pos:=_,after:=_,guard:=none }) (v:=(Value.int .i64 (to:Nat))) rfl (by kernel_rfl) (by kernel_rfl) (by kernel_rfl) (λ_ _ _ h=>h) (aA2 ⟨by rfl,by intro w' af;(try dsimp only at af);go_simp⟩) (by assumption) ?_
 simp only[Act.put,aAT,aAX,aAY];refine aA4 (i:=10) (oi:={ dst:=some 46,op:=Op.indexAddr _ (.tmp 44) (.tmp 45),type:=_,pos:=_,after:=_,guard:=none }) (v:=(Value.pointer (some ⟨g2,to,none⟩))) rfl (by kernel_rfl) (by kernel_rfl) (by kernel_rfl) (λ_ _ _ h=>h) (aA2 ⟨by rfl,by intro w' af;(try dsimp only at af);go_simp⟩) (by assumption) ?_
 simp only[Act.put,aAT,aAX,aAY];refine aA4 (i:=12) (oi:={ dst:=some 48,op:=Op.move (.tmp 1),type:=_,pos:=_,after:=_,guard:=none }) (v:=(Value.int .i64 (fr:Nat))) rfl (by kernel_rfl) (by kernel_rfl) (by kernel_rfl) (λ_ _ _ h=>h) (aA2 ⟨by rfl,by intro w' af;(try dsimp only at af);go_simp⟩) (by assumption) ?_
 simp only[Act.put,aAT,aAX,aAY];refine aA4 (i:=13) (oi:={ dst:=some 49,op:=Op.move (.tmp 2),type:=_,pos:=_,after:=_,guard:=none }) (v:=(Value.int .i64 (l:Nat))) rfl (by kernel_rfl) (by kernel_rfl) (by kernel_rfl) (λ_ _ _ h=>h) (aA2 ⟨by rfl,by intro w' af;(try dsimp only at af);go_simp⟩) (by assumption) ?_
 simp only[Act.put,aAT,aAX,aAY];refine aA4 (i:=14) (oi:={ dst:=some 50,op:=Op.build _ #[(0,.tmp 48),(1,.tmp 49)],type:=_,pos:=_,after:=_,guard:=none }) (v:=(Value.agg #[Value.int .i64 (fr:Nat),Value.int .i64 (l:Nat)])) rfl (by kernel_rfl) (by kernel_rfl) (by kernel_rfl) (λ_ _ _ h=>h) (aA2 ⟨by rfl,by intro w' af;(try dsimp only at af);go_simp⟩) (by assumption) ?_
 simp only[Act.put,aAT,aAX,aAY];refine aBc (rs:=[11,15]) (by kernel_rfl) (by simp) ?_;refine aA7 rfl (λK hK=>?_) (aA7 rfl (λK hK=>?_) aBb)
 ·go_simp
  refine hK.out _ _ (by assumption) (λau=>?_);clear hK K;refine aBc (rs:=[15]) (by kernel_rfl) (by simp) ?_;refine aA7 rfl (λK hK=>?_) aBb
  go_simp
  refine hK.out _ _ ?hs (λau=>?_)
  case hs=>first | go_keep | simp[*]
  clear hK K;refine aBc (rs:=[16]) (by kernel_rfl) (by simp) ?_;refine aA7 rfl (λK hK=>?_) aBb;refine aBN _ (by rfl) (.tmp 47) (.tmp 51) 222 (by rfl) (T+1) 224 i0 (.agg #[.int .i64 0,.int .i64 0]) 2 16 Tryz.underlying222 hi aR aP aN rfl (by decide) _ ln (mU (tl to)) (by rfl) ((OW.out.alloc _).drew) ⟨w.heap.size,0,none⟩ 1 1 [.int .i64 (fr:Nat),.int .i64 (l:Nat)] (by rfl) (by rfl) (World.news_of_block (cs:=#[.int .i64 (fr:Nat),.int .i64 (l:Nat)]) (t:=224) (fr:=(0,0)) (heap_alloc_new w _)) (by simp[Value.oneCell']) (by decide) (by unfold maxLen;omega) (by omega) (by simp;omega) (w.heap.size+1) (by simp) ?_;intro gg cc w2 hown hgrow hat gu;have iL:nG (w.alloc (.cells #[.int .i64 (fr:Nat),.int .i64 (l:Nat)] 224)).drew T g2 n V tl:=HM.out.keeps (aBd ((aAW w.heap.size w).alloc (aAU _) (.cells #[.int .i64 (fr:Nat),.int .i64 (l:Nat)] 224)) 1);have jO:(w.alloc (.cells #[.int .i64 (fr:Nat),.int .i64 (l:Nat)] 224)).drew.grownBy w2 (V to).ownBlock:=by rw[HV.out];exact hgrow
  have O2:=iL.out.kept jO (aC iL.out (iL.row to hto) (by decide));have d1:=O2.frozenAt to;have d0:w2.cell? ⟨g2,to,none⟩=some (V to):=(O2.cellAt to (by omega)).trans (by simp[aBk,aBx hto]);have bR:Below (T+1) w w2:=(aBd ((aAW (T+1) w).alloc (by omega) (.cells #[.int .i64 (fr:Nat),.int .i64 (l:Nat)] 224)) 1).grown hgrow (by show T+1<=(w.alloc (.cells #[.int .i64 (fr:Nat),.int .i64 (l:Nat)] 224)).heap.size;rw[aAZ];omega) (λx h=>(OW.out.lt x h).1);have TM:=hid (Cf iL hto (s:=(fr,l)) jO (by rw[bZ.out];exact hown) (by rw[HV.out];rcases hat with h | h;exact aA2 h;exact aA3 (by rw[h];exact(aAZ ..).symm)));rw[bZ.out]at TM;have BB:=hid ((bR.mono (by omega:g2<=T+1)).setCell (p:=⟨g2,to,none⟩) (aAU _) (.slice (some ⟨gg,0,none⟩) (ln+1) cc));have ae7:Hid (∀ NB,NB<w.heap.size->NB≠g2->(∀ j,j<n->(V j).ownBlock≠some NB)->(∀ o,(w2.setCell ⟨g2,to,none⟩ (.slice (some ⟨gg,0,none⟩) (ln+1) cc)).cell? ⟨NB,o,none⟩=w.cell? ⟨NB,o,none⟩)/\∀ j,j<n->((λi=>if i=to then Value.slice (some ⟨gg,0,none⟩) (ln+1) cc else V i) j).ownBlock≠some NB):=hid (λNB h1 h2 h3=>by
   refine⟨λo=>?_,λj hj=>?_⟩
   ·rw[aA0 _ _ _ _ (λe=>h2 (by have:=congrArg Addr.block e;simpa using this.symm))];rw[jO.cell_far ⟨NB,o,none⟩ (by show NB<(w.alloc (.cells #[.int .i64 (fr:Nat),.int .i64 (l:Nat)] 224)).heap.size;rw[aAZ];omega) (λe=>h3 to hto e.symm)];show (w.alloc (.cells #[.int .i64 (fr:Nat),.int .i64 (l:Nat)] 224)).cell? ⟨NB,o,none⟩=_;rw[aBt _ _ _ h1]
   ·by_cases e:j=to
    ·simp only[e,if_true];rcases hat with h | h
     ·intro e2;have h4:=h3 to hto;rw[HV.out,h]at h4;exact h4 e2
     ·intro e2;simp[Value.ownBlock]at e2;omega
    ·simp only[e,if_false];exact h3 j hj)
  have e1:w2.cell? ⟨T,0,none⟩=some (.slice (some ⟨g2,0,none⟩) n n):=(bR.cell (p:=⟨T,0,none⟩) (aBs _)).trans cT;have jw:=hid (TM.out.cell);refine hK.out _ _ e1 (λau=>?_);clear hK K O2 iL bR hown hgrow jO hat;simp only[Act.put,aAT];refine aA4 (i:=17) (oi:={ dst:=some 53,op:=Op.indexAddr _ (.tmp 39) (.tmp 40),type:=_,pos:=_,after:=_,guard:=none }) (v:=(Value.pointer (some ⟨g2,to,none⟩))) rfl (by kernel_rfl) (by kernel_rfl) (by kernel_rfl) (λ_ _ _ h=>h) (aA2 ⟨by rfl,by intro w' af;(try dsimp only at af);go_simp⟩) (by assumption) ?_
  simp only[Act.put];refine aBc (rs:=[18]) (by kernel_rfl) (by simp) ?_;refine aA7 rfl (λK hK=>?_) aBb
  go_simp
  refine hK.out _ _ jw.out (λau=>?_);clear hK K;refine aBS (by kernel_rfl) ?_ _;clear au e1 d0 d1;go_wp2_with fail
  go_end0
  exact⟨rfl,⟨_,TM.out,ae7.out⟩,BB.out⟩
 ·go_simp
  refine hK.out _ _ ?hs (λau=>?_)
  case hs=>first | go_keep | simp[*]
  clear hK K;refine aBc (rs:=[11]) (by kernel_rfl) (by simp) ?_;refine aA7 rfl (λK hK=>?_) aBb
  go_simp
  refine hK.out _ _ (by assumption) (λau=>?_);clear hK K;refine aBc (rs:=[16]) (by kernel_rfl) (by simp) ?_;refine aA7 rfl (λK hK=>?_) aBb;refine aBN _ (by rfl) (.tmp 47) (.tmp 51) 222 (by rfl) (T+1) 224 i0 (.agg #[.int .i64 0,.int .i64 0]) 2 16 Tryz.underlying222 hi aR aP aN rfl (by decide) _ ln (mU (tl to)) (by rfl) ((OW.out.alloc _).drew) ⟨w.heap.size,0,none⟩ 1 1 [.int .i64 (fr:Nat),.int .i64 (l:Nat)] (by rfl) (by rfl) (World.news_of_block (cs:=#[.int .i64 (fr:Nat),.int .i64 (l:Nat)]) (t:=224) (fr:=(0,0)) (heap_alloc_new w _)) (by simp[Value.oneCell']) (by decide) (by unfold maxLen;omega) (by omega) (by simp;omega) (w.heap.size+1) (by simp) ?_;intro gg cc w2 hown hgrow hat gu;have iL:nG (w.alloc (.cells #[.int .i64 (fr:Nat),.int .i64 (l:Nat)] 224)).drew T g2 n V tl:=HM.out.keeps (aBd ((aAW w.heap.size w).alloc (aAU _) (.cells #[.int .i64 (fr:Nat),.int .i64 (l:Nat)] 224)) 1);have jO:(w.alloc (.cells #[.int .i64 (fr:Nat),.int .i64 (l:Nat)] 224)).drew.grownBy w2 (V to).ownBlock:=by rw[HV.out];exact hgrow
  have O2:=iL.out.kept jO (aC iL.out (iL.row to hto) (by decide));have d1:=O2.frozenAt to;have d0:w2.cell? ⟨g2,to,none⟩=some (V to):=(O2.cellAt to (by omega)).trans (by simp[aBk,aBx hto]);have bR:Below (T+1) w w2:=(aBd ((aAW (T+1) w).alloc (by omega) (.cells #[.int .i64 (fr:Nat),.int .i64 (l:Nat)] 224)) 1).grown hgrow (by show T+1<=(w.alloc (.cells #[.int .i64 (fr:Nat),.int .i64 (l:Nat)] 224)).heap.size;rw[aAZ];omega) (λx h=>(OW.out.lt x h).1);have TM:=hid (Cf iL hto (s:=(fr,l)) jO (by rw[bZ.out];exact hown) (by rw[HV.out];rcases hat with h | h;exact aA2 h;exact aA3 (by rw[h];exact(aAZ ..).symm)));rw[bZ.out]at TM;have BB:=hid ((bR.mono (by omega:g2<=T+1)).setCell (p:=⟨g2,to,none⟩) (aAU _) (.slice (some ⟨gg,0,none⟩) (ln+1) cc));have ae7:Hid (∀ NB,NB<w.heap.size->NB≠g2->(∀ j,j<n->(V j).ownBlock≠some NB)->(∀ o,(w2.setCell ⟨g2,to,none⟩ (.slice (some ⟨gg,0,none⟩) (ln+1) cc)).cell? ⟨NB,o,none⟩=w.cell? ⟨NB,o,none⟩)/\∀ j,j<n->((λi=>if i=to then Value.slice (some ⟨gg,0,none⟩) (ln+1) cc else V i) j).ownBlock≠some NB):=hid (λNB h1 h2 h3=>by
   refine⟨λo=>?_,λj hj=>?_⟩
   ·rw[aA0 _ _ _ _ (λe=>h2 (by have:=congrArg Addr.block e;simpa using this.symm))];rw[jO.cell_far ⟨NB,o,none⟩ (by show NB<(w.alloc (.cells #[.int .i64 (fr:Nat),.int .i64 (l:Nat)] 224)).heap.size;rw[aAZ];omega) (λe=>h3 to hto e.symm)];show (w.alloc (.cells #[.int .i64 (fr:Nat),.int .i64 (l:Nat)] 224)).cell? ⟨NB,o,none⟩=_;rw[aBt _ _ _ h1]
   ·by_cases e:j=to
    ·simp only[e,if_true];rcases hat with h | h
     ·intro e2;have h4:=h3 to hto;rw[HV.out,h]at h4;exact h4 e2
     ·intro e2;simp[Value.ownBlock]at e2;omega
    ·simp only[e,if_false];exact h3 j hj)
  have e1:w2.cell? ⟨T,0,none⟩=some (.slice (some ⟨g2,0,none⟩) n n):=(bR.cell (p:=⟨T,0,none⟩) (aBs _)).trans cT;have jw:=hid (TM.out.cell);refine hK.out _ _ e1 (λau=>?_);clear hK K O2 iL bR hown hgrow jO hat;simp only[Act.put,aAT];refine aA4 (i:=17) (oi:={ dst:=some 53,op:=Op.indexAddr _ (.tmp 39) (.tmp 40),type:=_,pos:=_,after:=_,guard:=none }) (v:=(Value.pointer (some ⟨g2,to,none⟩))) rfl (by kernel_rfl) (by kernel_rfl) (by kernel_rfl) (λ_ _ _ h=>h) (aA2 ⟨by rfl,by intro w' af;(try dsimp only at af);go_simp⟩) (by assumption) ?_
  simp only[Act.put];refine aBc (rs:=[18]) (by kernel_rfl) (by simp) ?_;refine aA7 rfl (λK hK=>?_) aBb
  go_simp
  refine hK.out _ _ jw.out (λau=>?_);clear hK K;refine aBS (by kernel_rfl) ?_ _;clear au e1 d0 d1;go_wp2_with fail
  go_end0
  exact⟨rfl,⟨_,TM.out,ae7.out⟩,BB.out⟩
