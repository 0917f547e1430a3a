import Derived.Test.YtjagijohfkffiabGreatALLM02
set_option maxHeartbeats 16000000
set_option maxRecDepth 100000
set_option linter.unusedSimpArgs false
namespace Go.Proofs.YtjagijohfkffiabGreat
open Go.RowKit
set_option linter.unusedVariables false
theorem zG(a1 a2:Option Addr)(l c1 c2:Nat)(zs:List Int)(w:World)(h1:Ints w a1 l c1 zs)(h2:Ints w a2 l c2 zs) :
  Calls Tryz.prog 21 #[.slice a1 l c1,.slice a2 l c2] w λe w'=>e=.returned (.bool true)/\∃ n,w'=w.drewN n:=by
 have m1:=h1.hmax;have m3:=h1.hcap;have g:=h2.hmax;have m4:=h2.hcap;go_enter Tryz.func21,Tryz.ntmps21;go_wp2_with fail
 go_loopw [5] (λi wr=>∃ j:Nat,j<=l/\i=.int .i64 j/\∃ n,wr=w.drewN n) (λi _=>l - (intOf i).toNat)
 case atStart=>exact⟨0,aCg _,rfl,0,rfl⟩
 case round=>
  obtain⟨j,h,rfl,n,rfl⟩:=hrel;by_cases a:j<l
  ·obtain⟨k,m,rfl,o,b⟩:=h1.hcell (by omega);obtain⟨p,q,rfl,r,f⟩:=h2.hcell (by omega);have c:=b j a;have d:=f j a;generalize zs.getD j 0=x at *;clear b f;go_wp2_with fail
   go_quiet (fail)
   go_wp2_with fail;go_roundw
   case rel=>exact⟨j+1,by omega,by go_num,_,rfl⟩
   case measure=>simp[intOf];omega
  ·go_wp2_with fail;go_ret;exact⟨rfl,n,rfl⟩
theorem Ints.drewN{w:World}{a:Option Addr}{l c:Nat}{zs:List Int}(h:Ints w a l c zs)(n:Nat):Ints (w.drewN n) a l c zs:=h.below (aCl (aB4 _ _) n)
theorem EP(a1 a2:Option Addr)(l c1 c2:Nat)(zs:List (List Int))(w:World)(h1:Lists w a1 l c1 zs)(h2:Lists w a2 l c2 zs) :
  Calls Tryz.prog 22 #[.slice a1 l c1,.slice a2 l c2] w λe w'=>e=.returned (.bool true)/\∃ n,w'=w.drewN n:=by
 have m1:=h1.hmax;have m3:=h1.hcap;have y:=h2.hmax;have m4:=h2.hcap;go_enter Tryz.func22,Tryz.ntmps22;go_wp2_with fail
 go_loopw [5] (λi wr=>∃ j:Nat,j<=l/\i=.int .i64 j/\∃ n,wr=w.drewN n) (λi _=>l - (intOf i).toNat)
 case atStart=>exact⟨0,aCg _,rfl,0,rfl⟩
 case round=>
  obtain⟨j,z,rfl,n,a⟩:=hrel;have r:=hid a;by_cases b:j<l
  ·obtain⟨s,t,rfl,A,f⟩:=h1.hcell (by omega);obtain⟨u,v,rfl,B,o⟩:=h2.hcell (by omega);obtain⟨r1,x,p,c,h⟩:=f j b;obtain⟨r2,g,q,d,k⟩:=o j b;obtain rfl:g=x:=by rw[<-h.hlen,<-k.hlen]
   have D:wr.cell? ⟨s,t+j,none⟩=some (.slice r1 g p):=by rw[a];exact c
   have E:wr.cell? ⟨u,v+j,none⟩=some (.slice r2 g q):=by rw[a];exact d
   have C:=λm=>zG r1 r2 g p q _ (wr.drewN m) (by rw[a];exact(h.drewN n).drewN m) (by rw[a];exact(k.drewN n).drewN m);clear c d;clear f o h k a;go_wp2_with fail
   go_quiet ((go_at_call 21;exact Calls.quiet_of (C _)))
   go_wp2_with fail;go_roundw
   case rel=>exact⟨j+1,by omega,by go_num,_,by rw[r.out,World.drewN_drewN]⟩
   case measure=>simp[intOf];omega
  ·go_wp2_with fail;go_ret;exact⟨rfl,n,rfl⟩
theorem Ay(a1 a2 b1 b2:Option Addr)(l1 c1 l2 c2 d1 d2:Nat)(os:List Int)(ls:List (List Int))(w:World)(h1:Ints w a1 l1 c1 os)(h2:Lists w a2 l2 c2 ls)(k1:Ints w b1 l1 d1 os)(k2:Lists w b2 l2 d2 ls) :
  Calls Tryz.prog 15 #[.agg #[.slice a1 l1 c1,.slice a2 l2 c2],.agg #[.slice b1 l1 d1,.slice b2 l2 d2]] w λe w'=>e=.returned (.bool true)/\Below w.heap.size w w':=by
 have c:=λW (b:Below w.heap.size w W)=>zG a1 b1 l1 c1 d1 os W (h1.below b) (k1.below b);have d:=λW (b:Below w.heap.size w W)=>EP a2 b2 l2 c2 d2 ls W (h2.below b) (k2.below b);have B:=((aB4 w.heap.size w).alloc (aB2 _) (.cells #[.slice a1 l1 c1,.slice a2 l2 c2] 37)).alloc (by simp) (.cells #[.slice b1 l1 d1,.slice b2 l2 d2] 37);have a:=hid B;clear B;go_enter Tryz.func15,Tryz.ntmps15;go_wp2_with fail;refine(c _ a.out).mono ?_;rintro e f ⟨rfl,n,rfl⟩;go_wp2_with fail;refine(d _ (aCl a.out n)).mono ?_;rintro e g ⟨rfl,m,rfl⟩;clear c d;go_wp2_with fail;go_ret;exact⟨rfl,aCl a.out _⟩
theorem mU.ints{w:World}{B:Nat}{v1 v2:Value}{V:Nat->Value}{ss:List St}{j:Nat}(h:mU w B v1 v2 V ss j):∃ a c,v1=.slice a j c/\Ints w a j c (ik ss j):=by
 have b:(ik ss j).length=j:=by simp[ik]
 rcases h.out.2 with⟨rfl,rfl⟩ | ⟨g,cap,cur,rfl,hb,hh,hc,hm,_⟩
 ·exact⟨none,0,rfl,b,aB2 _,by omega,λ_=>⟨rfl,rfl⟩,λh=>by omega⟩
 ·refine⟨_,cap,rfl,b,hc,by unfold maxLen at hm;omega,λh=>by simp at h,λ_=>⟨g,0,rfl,(aCu.1 hh).1,λi d=>?_⟩⟩;rw[aCw,h.out.cellAt i (by omega)];simp[ji,List.getD,aB3 (show i<(ik ss j).length by omega)]
def jc(ss:List St)(j:Nat):List (List Int):=(List.range j).map λi=>(bu ss i).next
theorem zK{w:World}{B n:Nat}{v:Value}{zs:List Int}(h:w.ownsRow B 3 1 v n (ji zs)):∃ a c,v=.slice a n c/\Ints w a n c zs:=by
 have b:zs.length=n:=by have:=h.1;simp[ji]at this;exact this
 rcases h.2 with⟨rfl,rfl⟩ | ⟨g,cap,cur,rfl,hb,hh,hc,hm,_⟩
 ·exact⟨none,0,rfl,b,aB2 _,by omega,λ_=>⟨rfl,rfl⟩,λh=>by omega⟩
 ·refine⟨_,cap,rfl,b,hc,by unfold maxLen at hm;omega,λh=>by simp at h,λ_=>⟨g,0,rfl,(aCu.1 hh).1,λi d=>?_⟩⟩;rw[aCw,h.cellAt i (by omega)];simp[ji,List.getD,aB3 (show i<zs.length by omega)]
theorem mU.lists{w:World}{B:Nat}{v1 v2:Value}{V:Nat->Value}{ss:List St}{j:Nat}(h:mU w B v1 v2 V ss j):∃ a c,v2=.slice a j c/\Lists w a j c (jc ss j):=by
 have d:(jc ss j).length=j:=by simp[jc]
 rcases h.pU.2 with⟨rfl,rfl⟩ | ⟨g,cap,cur,rfl,hb,hh,hc,hm,_⟩
 ·exact⟨none,0,rfl,d,aB2 _,by omega,λ_=>⟨rfl,rfl⟩,λh=>by omega⟩
 ·refine⟨_,cap,rfl,d,hc,by unfold maxLen at hm;omega,λh=>by simp at h,λ_=>⟨g,0,rfl,(aCu.1 hh).1,λi b=>?_⟩⟩;obtain⟨a,c,e,f⟩:=zK (h.row i b);refine⟨a,8,c,?_,?_⟩
  ·rw[aCw,h.pU.cellAt i (by omega)];simp[aCs,aCF b,e]
  ·rw[show (jc ss j).getD i []=(bu ss i).next by simp[jc,List.getD,aCs,aCF b]];exact f
theorem PG{w:World}{B:Nat}{e:TypeId}{g n:Nat}{xs:List Value}(h:w.ownsRow B e 1 (.slice (some ⟨g,0,none⟩) n n) n xs):w.heap[g]?=some (.cells xs.toArray e (0,0)):=by
 rcases h.2 with⟨e1,_⟩ | ⟨g',cap,cur,e1,hb,hh,hc,hm,hs,ht⟩
 ·simp at e1
 ·cases e1;rw[hh];congr 2;rw[<-ht,List.take_of_length_le (by rw[Array.length_toList,hs];exact aB2 _)]
theorem jm{w:World}{g o:Nat}{cs:Array Value}{t:TypeId}(h:w.heap[g]?=some (.cells cs t (0,0))):w.cell? ⟨g,o,none⟩=cs[o]?:=aCR w g o cs t (0,0) h
theorem qY{w:World}{g o:Nat}{cs:Array Value}{t:TypeId}(h:w.heap[g]?=some (.cells cs t (0,0))):w.frozen? ⟨g,o,none⟩=false:=by
 simp[World.frozen?,h]
structure iY (w:World) (g l:Nat) (zs:List Int):Prop where
 hlen:zs.length=l
 blk:w.heap[g]?=some (.cells (zs.map (Value.int .i64)++[Value.int .i64 77,Value.int .i64 77]).toArray 3 (0,0))
theorem iY.lt{w:World}{g l:Nat}{zs:List Int}(h:iY w g l zs):g<w.heap.size:=(aCu.1 h.blk).1
theorem iY.c{w:World}{g l:Nat}{zs:List Int}(h:iY w g l zs)(i:Nat)(hi:i<l):w.cell? ⟨g,i,none⟩=some (.int .i64 (zs.getD i 0)):=by
 have a:=h.hlen;rw[jm h.blk,List.getElem?_toArray,aCh (by simp;omega)];simp[List.getD,aB3 (show i<zs.length by omega)]
theorem iY.m0{w:World}{g l:Nat}{zs:List Int}(h:iY w g l zs):w.cell? ⟨g,l,none⟩=some (.int .i64 77):=by
 have a:=h.hlen;rw[jm h.blk,List.getElem?_toArray,aCi (by simp;omega)];simp[a]
theorem iY.m1{w:World}{g l:Nat}{zs:List Int}(h:iY w g l zs):w.cell? ⟨g,l+1,none⟩=some (.int .i64 77):=by
 have a:=h.hlen;rw[jm h.blk,List.getElem?_toArray,aCi (by simp;omega)];simp[a]
theorem iY.fz{w:World}{g l:Nat}{zs:List Int}(h:iY w g l zs)(o:Nat):w.frozen? ⟨g,o,none⟩=false:=qY h.blk
theorem iY.same{w w':World}{g l:Nat}{zs:List Int}(h:iY w g l zs)(hb:w'.heap[g]?=w.heap[g]?):iY w' g l zs:=⟨h.hlen,hb.trans h.blk⟩
theorem iY.below{w w':World}{g l:Nat}{zs:List Int}(h:iY w g l zs)(hb:Below w.heap.size w w'):iY w' g l zs:=h.same (hb.block g h.lt)
theorem iY.ints{w:World}{g l:Nat}{zs:List Int}(h:iY w g l zs)(hm:l<=2097152):Ints w (some ⟨g,0,none⟩) l (l+2) zs:=
 ⟨h.hlen,by omega,by omega,λe=>by simp at e,λ_=>⟨g,0,rfl,h.lt,λi hi=>by rw[aCw];exact h.c i hi⟩⟩
theorem lF{w:World}{g o:Nat}{cs:Array Value}{t:TypeId}(h:w.heap[g]?=some (.cells cs t (0,0)))(v:Value):(w.setCell ⟨g,o,none⟩ v).heap[g]?=some (.cells (cs.setIfInBounds o v) t (0,0)):=by
 simp[World.setCell,Array.getElem?_modify,h]
theorem nX(a:Option Addr)(l c:Nat)(zs:List Int)(w:World)(h:Ints w a l c zs)(Uo:l<=1048576) :
  Calls Tryz.prog 5 #[.slice a l c] w λe w'=>e=.returned (.slice (some ⟨w.heap.size,0,none⟩) l (l+2))/\iY w' w.heap.size l zs/\Below w.heap.size w w':=by
 have L:=h.hlen;have hc:=h.hcap;have hm:=h.hmax;have K:=hid h;have N:=h.hnil;obtain⟨i0,v,M,A,O⟩:=info_parts Tryz.uw;have n:(Tryz.prog.info? 3).map (·.size)=some 1:=by rw[v];simp[A]
 have B:Hid ((l:Int)+2=((l+2:Nat):Int)):=hid (by omega);clear h;go_enter Tryz.func5,Tryz.ntmps5;go_wp2_with (at_make;go_must (refine aCI _ rfl (.tmp 8) (.tmp 8) 22 rfl w.heap.size 3 i0 (.int .i64 0) 1 Tryz.underlying22 v M A .i64 .i64 _ _ (l+2) rfl rfl ?m0 ?m1 ?m2 ?m3 (aB2 _) ?_))
 case m0=>first | exact B.out | simp | omega
 case m1=>first | exact B.out | simp | omega
 case m2=>rw[O];omega
 case m3=>unfold maxLen;omega
 intro P q C;have r:Below w.heap.size w P:=(aB4 _ _).grown C (aB2 _) (λk h=>by cases h);have D:=PG q;have i:(madeCells #[Value.int .i64 0] (l+2)).toList.length=l+2:=by have:=q.1;omega
 have E:=K.out.below r;have F:=E.src;generalize (madeCells #[Value.int .i64 0] (l+2)).toList=Z at *;have m:=hid i;have Q:=hid r;have s:=hid D;clear q C r D i;go_wp2_with (refine wpList_copy_splice rfl (.tmp 10) (.tmp 11) 22 22 rfl 3 Tryz.underlying22 n (some ⟨w.heap.size,0,none⟩) a (l+2) (l+2) l c rfl rfl w.heap.size 0 Z 3 s.out (zs.map (Value.int .i64)) ?k1 ?k2 ?k3 (uu zs) w.heap.size w Q.out (aB2 _) ?_)
 case k1=>rw[aCO,L];exact(Nat.min_eq_left (by omega)).symm
 case k2=>
  intro R
  try rw[aCO,L]at R
  cases a with
  | none=>have:=(N rfl).1;omega
  | some ad=>exact⟨ad,rfl,λj z S=>F ad rfl j (.int .i64 z) (by rw[aCs,S];rfl)⟩
 case k3=>rw[aCO,L,m.out];omega
 intro f G H;have b:Hid (f.heap[w.heap.size]?=some (.cells ((zs.map (Value.int .i64))++Z.drop l).toArray 3 (0,0))):=hid (by
  have g:=G.out;unfold splice at g;simp only[List.take_zero,List.nil_append,aCw,aCO,L]at g;exact g)
 have d:Hid ((Z.drop l).length=2):=hid (by rw[List.length_drop,m.out];omega);have I:=hid (λo=>qY (o:=o) b.out);have J:=hid (λo=>jm (o:=o) b.out);have iy:w.heap.size<f.heap.size:=(aCu.1 b.out).1;have T:=hid H;obtain⟨u0,EY⟩:∃ u,f.cell? ⟨w.heap.size,l,none⟩=some u:=⟨_,by
  rw[J.out l];exact Array.getElem?_eq_getElem (by simp[L,d.out] <;> (have:=m.out;omega))⟩
 obtain⟨U,V⟩:∃ u,f.cell? ⟨w.heap.size,l+1,none⟩=some u:=⟨_,by
  rw[J.out (l+1)];exact Array.getElem?_eq_getElem (by simp[L,d.out] <;> (have:=m.out;omega))⟩
 have f0:=I.out l;have f1:=I.out (l+1);have d0:(0:Int)<=(l:Int):=by omega
 have d1:(l:Int)<(l:Int)+2:=by omega
 have d2:(l:Int)+1<(l:Int)+2:=by omega
 have d3:(0:Int)<=(l:Int)+1:=by omega
 have W:(f.setCell ⟨w.heap.size,l,none⟩ (.int .i64 77)).cell? ⟨w.heap.size,l+1,none⟩=some U:=by
  rw[aB8 _ _ _ _ (by simp)];exact V
 have X:Hid (iY ((f.setCell ⟨w.heap.size,l,none⟩ (.int .i64 77)).setCell ⟨w.heap.size,l+1,none⟩ (.int .i64 77)) w.heap.size l zs):=hid ⟨L,by
  obtain⟨x,y,t⟩:∃ x y,Z.drop l=[x,y]:=by
   have Y:=d.out
   match hd:Z.drop l,Y with
   | [x,y],_=>exact⟨x,y,rfl⟩
  have g:=b.out;rw[t]at g;rw[lF (lF g _) _];congr 2;have e1:(zs.map (Value.int .i64)++[x,y]).set l (.int .i64 77)=zs.map (Value.int .i64)++[Value.int .i64 77,y]:=by
   rw[List.set_append_right _ _ (by simp;omega)];simp[L]
  have e2:(zs.map (Value.int .i64)++[Value.int .i64 77,y]).set (l+1) (.int .i64 77)=zs.map (Value.int .i64)++[Value.int .i64 77,Value.int .i64 77]:=by
   rw[List.set_append_right _ _ (by simp;omega)];simp[L]
  simp only[aB1];rw[e1,e2]⟩
 have bF:=hid ((T.out.setCell (p:=⟨w.heap.size,l,none⟩) (aB2 _) (.int .i64 77)).setCell (p:=⟨w.heap.size,l+1,none⟩) (aB2 _) (.int .i64 77));clear G H F E;go_wp2_with fail;go_ret;exact⟨rfl,X.out,bF.out⟩
theorem kG(g:Nat)(a:Option Addr)(l c:Nat)(zs:List Int)(w:World)(hS:iY w g l zs)(h:Ints w a l c zs)(Uo:l<=1048576) :
  Calls Tryz.prog 8 #[.slice (some ⟨g,0,none⟩) l (l+2),.slice a l c] w λe w'=>e=.returned (.bool true)/\Below w.heap.size w w':=by
 have S:=hid (zG (some ⟨g,0,none⟩) a l (l+2) c zs w (hS.ints (by omega)) h);have m:=h.hcap;have n:=h.hmax;have f:=hid hS.m0;have i:=hid hS.m1;have b:=hS.lt;clear h hS;go_enter Tryz.func8,Tryz.ntmps8;go_wp2_with fail;refine S.out.mono ?_;rintro e j ⟨rfl,nq,rfl⟩;have d:=aCl (aB4 w.heap.size w) nq;generalize w.drewN nq=j at *;have m0:=(d.cell (p:=⟨g,l,none⟩) b).trans f.out;have m1:=(d.cell (p:=⟨g,l+1,none⟩) b).trans i.out;have k:=hid d;have o:(0:Int)<=(l:Int):=by omega
 have q:(l:Int)<(l:Int)+2:=by omega
 have r:(l:Int)+1<(l:Int)+2:=by omega
 have s:(0:Int)<=(l:Int)+1:=by omega
 have t:(0:Int)<=(l:Int)+2:=by omega
 clear d S;go_wp2_with fail;go_ret;exact⟨rfl,k.out⟩
def Sg(aj:List (List Int))(gs:Nat->Nat)(i:Nat):Value:=.slice (some ⟨gs i,0,none⟩) (aj.getD i []).length ((aj.getD i []).length+2)
def oN(p:Nat):Value:=.slice (some ⟨p,0,none⟩) 1 1
def yl(aj:List (List Int))(gs:Nat->Nat)(j:Nat):List Value:=(List.range j).map (Sg aj gs)
theorem kD(aj:List (List Int))(gs:Nat->Nat)(j:Nat):(yl aj gs j).length=j:=by simp[yl]
theorem Xt{aj:List (List Int)}{gs:Nat->Nat}{i j:Nat}(h:i<j):(yl aj gs j)[i]?=some (Sg aj gs i):=by simp[yl,aCs,aCF h]
theorem Si{aj:List (List Int)}{gs:Nat->Nat}{j g:Nat}:yl aj (λi=>if i=j then g else gs i) (j+1)=yl aj gs j++[.slice (some ⟨g,0,none⟩) (aj.getD j []).length ((aj.getD j []).length+2)]:=by
 unfold yl;rw[aCT,aCM];congr 1
 ·refine aCX λi a=>?_;rw[aCQ]at a;unfold Sg;dsimp only;rw[aC1 (by omega)]
 ·simp[Sg]
structure mI (w:World) (B G l:Nat) (aj:List (List Int)) (gs:Nat->Nat) (p1 p2:Nat) (vO:Value):Prop where
 hlen:aj.length=l
 blk:w.heap[G]?=some (.cells (yl aj gs l++[oN p1,oN p2]).toArray 22 (0,0))
 rows:∀ i,i<l->B<=gs i/\iY w (gs i) (aj.getD i []).length (aj.getD i [])
 q1:w.heap[p1]?=some (.cells #[.int .i64 77] 3 (0,0))
 q2:w.heap[p2]?=some (.cells #[.int .i64 77] 3 (0,0))
 own:w.ownsRow B 22 1 vO l (yl aj gs l)
theorem vC{w:World}{q:Nat}{o:Obj}(h:w.heap[q]?=some o):q<w.heap.size:=(aCu.1 h).1
theorem mI.below{w w':World}{B G l:Nat}{aj:List (List Int)}{gs:Nat->Nat}{p1 p2:Nat}{vO:Value}(h:mI w B G l aj gs p1 p2 vO)(hb:Below w.heap.size w w'):mI w' B G l aj gs p1 p2 vO:=
 ⟨h.hlen,(hb.block G (vC h.blk)).trans h.blk,λi hi=>⟨(h.rows i hi).1,(h.rows i hi).2.below hb⟩,(hb.block p1 (vC h.q1)).trans h.q1,(hb.block p2 (vC h.q2)).trans h.q2,ai h.own hb⟩
theorem mI.cell{w:World}{B G l:Nat}{aj:List (List Int)}{gs:Nat->Nat}{p1 p2:Nat}{vO:Value}(h:mI w B G l aj gs p1 p2 vO){i:Nat}(hi:i<l):w.cell? ⟨G,i,none⟩=some (Sg aj gs i):=by
 rw[jm h.blk,List.getElem?_toArray,aCh (by rw[kD];exact hi),Xt hi]
theorem mI.c1{w:World}{B G l:Nat}{aj:List (List Int)}{gs:Nat->Nat}{p1 p2:Nat}{vO:Value}(h:mI w B G l aj gs p1 p2 vO):w.cell? ⟨G,l,none⟩=some (oN p1):=by
 rw[jm h.blk,List.getElem?_toArray,aCi (by rw[kD];exact aB2 _),kD];simp
theorem mI.c2{w:World}{B G l:Nat}{aj:List (List Int)}{gs:Nat->Nat}{p1 p2:Nat}{vO:Value}(h:mI w B G l aj gs p1 p2 vO):w.cell? ⟨G,l+1,none⟩=some (oN p2):=by
 rw[jm h.blk,List.getElem?_toArray,aCi (by rw[kD];omega),kD];simp
theorem mI.lists{w:World}{B G l:Nat}{aj:List (List Int)}{gs:Nat->Nat}{p1 p2:Nat}{vO:Value}(h:mI w B G l aj gs p1 p2 vO)(hm:l<=2097152)(hr:∀ i,i<l->(aj.getD i []).length<=2097152):Lists w (some ⟨G,0,none⟩) l (l+2) aj:=
 ⟨h.hlen,by omega,by omega,λe=>by simp at e,λ_=>⟨G,0,rfl,vC h.blk,λi hi=>⟨some ⟨gs i,0,none⟩,(aj.getD i []).length,(aj.getD i []).length+2,by rw[aCw];exact h.cell hi,(h.rows i hi).2.ints (hr i hi)⟩⟩⟩
theorem zL{w:World}{B n g l:Nat}{v:Value}{xs:List Value}{zs:List Int}(ho:w.ownsRow B 22 1 v n xs)(hs:iY w g l zs):some g≠v.ownBlock:=λe=>by
 rcases ho.2 with⟨hv,_⟩ | ⟨g',cap,cur,hv,_,hh,_⟩
 ·rw[hv]at e;simp[Value.ownBlock]at e
 ·rw[hv]at e;simp[Value.ownBlock]at e;subst e;rw[hs.blk]at hh;simp at hh
theorem abE{B:Nat}{e:TypeId}{k:Nat}{v:Value}{n:Nat}{xs:List Value}{w w':World}(h:w.ownsRow B e k v n xs)(hk:∀ q,B<=q->q<w.heap.size->w'.heap[q]?=w.heap[q]?):w'.ownsRow B e k v n xs:=by
 refine⟨h.1,?_⟩;rcases h.2 with hn | ⟨g,cap,cur,rfl,hb,Mc,rest⟩
 ·exact .inl hn
 ·exact .inr ⟨g,cap,cur,rfl,hb,(hk g hb (vC Mc)).trans Mc,rest⟩
def QM(l:Nat)(aj:List (List Int))(w:World)(e:Ending)(w':World):Prop:=∃ (gs:Nat->Nat) (p1 p2:Nat) (vO:Value),e=.returned (.tuple #[.slice (some ⟨w.heap.size,0,none⟩) l (l+2),vO])/\mI w' w.heap.size w.heap.size l aj gs p1 p2 vO/\Below w.heap.size w w'
theorem set_mid{A R:List Value}{x v:Value}{j:Nat}(h:A.length=j):(A++x::R).set j v=A++v::R:=by
 subst h;rw[List.set_append_right _ _ (aB2 _)];simp
theorem PO(a:Option Addr)(l c:Nat)(aj:List (List Int))(w:World)(h:Lists w a l c aj)(Uo:l<=1048576)(hr:∀ i,i<l->(aj.getD i []).length<=1048576) :
  Calls Tryz.prog 6 #[.slice a l c] w (QM l aj w):=by
 have L:=h.hlen;have hc:=h.hcap;have hm:=h.hmax;have HI:=hid h;obtain⟨i0,r,aT,aP,H⟩:=info_parts Tryz.Kj;have wl:Hid ((l:Int)+2=((l+2:Nat):Int)):=hid (by omega);have HR:=hid hr;have HL:=hid L;clear h hr L;go_enter Tryz.func6,Tryz.ntmps6;go_wp2_with (at_make;go_must (refine aCI _ rfl (.tmp 12) (.tmp 12) 23 rfl w.heap.size 22 i0 (.slice none 0 0) 1 Tryz.underlying23 r aT aP .i64 .i64 _ _ (l+2) rfl rfl ?m0 ?m1 ?m2 ?m3 (aB2 _) ?_))
 case m0=>first | exact wl.out | simp | omega
 case m1=>first | exact wl.out | simp | omega
 case m2=>rw[H];omega
 case m3=>unfold maxLen;omega
 intro w1 aF aQ;have b1:Below w.heap.size w w1:=(aB4 _ _).grown aQ (aB2 _) (λk h=>by cases h);have R:=PG aF;rw[aCy]at R;have aK:=hid b1;have I:=hid R;have gN:=vC R;clear aF aQ b1 R;go_wp2_with fail
 go_loopw [6,7] (λv i S=>∃ (j:Nat) (s:Value) (f:Nat->Nat),j<=l/\s=v/\i=.int .i64 j/\Hid (S.heap[w.heap.size]?=some (.cells (yl aj f j++List.replicate (l+2 - j) (Value.slice none 0 0)).toArray 22 (0,0))) /\
   Hid (∀ i,i<j->w.heap.size+1<=f i/\iY S (f i) (aj.getD i []).length (aj.getD i []))/\Hid (S.ownsRow (w.heap.size+1) 22 1 s j (yl aj f j))/\Hid (Below w.heap.size w S)) (λ_ i _=>l - (intOf i).toNat)
 case atStart=>exact⟨0,_,λ_=>0,aCg _,rfl,rfl,hid (by simpa [yl] using I.out),hid (λi h=>by omega),hid (aCp _ _ _ _),aK⟩
 case round=>
  clear aK I gN;obtain⟨j,s,f,hj,rfl,rfl,J,E,T,F⟩:=hrel;rename World=>W0;have Y:=vC J.out;by_cases iT:j<l
  ·obtain⟨b,o,e,hb,K⟩:=(HI.out.below F.out).hcell (by omega);subst e;obtain⟨ra,d,rc,cr,Z⟩:=K j iT;have Jr:=Z.hlen;have hrm:=HR.out j iT;have NU:=hid (nX ra d rc (aj.getD j []) W0 Z (by omega));have yz:=hid Jr;have i1:(0:Int)<=(j:Int):=by omega
   have i2:(j:Int)<(l:Int):=by omega
   have i3:(j:Int)<(l:Int)+2:=by omega
   have alI:d<=1048576:=by omega
   clear K Z Jr hrm;go_wp2_with fail;refine NU.out.mono ?_;rintro e t ⟨rfl,U,G⟩;have kX:=G.size;have M:=(G.block w.heap.size Y).trans J.out;have Ub:List.replicate (l+2 - j) (Value.slice none 0 0)=Value.slice none 0 0::List.replicate (l+2 - (j+1)) (Value.slice none 0 0):=by
    rw[show l+2 - j=(l+2 - (j+1))+1 by omega];rfl
   rw[Ub]at M;have cG:t.cell? ⟨w.heap.size,j,none⟩=some (Value.slice none 0 0):=by
    rw[jm M,List.getElem?_toArray,aCi (by rw[kD];exact aB2 _),kD];simp
   have fG:t.frozen? ⟨w.heap.size,j,none⟩=false:=qY M;have y:=lF (o:=j) M (Value.slice (some ⟨W0.heap.size,0,none⟩) d (d+2));rw[aB1,set_mid (kD aj f j)]at y;have z:=hid y;have HS2:=hid U;have lL:=U.lt;have A:=aB (ai T.out G) (k:=w.heap.size) (by omega) j (Value.slice (some ⟨W0.heap.size,0,none⟩) d (d+2));have N:=hid (λi (r:i<j)=>(⟨(E.out i r).1,((E.out i r).2.below G).same (aCD _ _ _ _ (by show f i≠w.heap.size;have:=(E.out i r).1;omega))⟩:w.heap.size+1<=f i/\iY (t.setCell ⟨w.heap.size,j,none⟩ (Value.slice (some ⟨W0.heap.size,0,none⟩) d (d+2))) (f i) (aj.getD i []).length (aj.getD i [])));have V:=hid (U.same (aCD t ⟨w.heap.size,j,none⟩ (Value.slice (some ⟨W0.heap.size,0,none⟩) d (d+2)) W0.heap.size (by show W0.heap.size≠w.heap.size;omega)));have bF:=hid ((F.out.trans (G.mono F.out.size)).setCell (p:=⟨w.heap.size,j,none⟩) (aB2 _) (Value.slice (some ⟨W0.heap.size,0,none⟩) d (d+2)));clear M y U G NU J E T F Ub cr;go_wp2_with (at_builtin;go_must (refine wpList_append_own _ rfl (.tmp 28) (.tmp 30) 23 rfl (w.heap.size+1) 22 i0 (.slice none 0 0) 1 24 Tryz.underlying23 r aT aP H rfl (by decide) _ _ _ rfl (A.alloc _) ⟨t.heap.size,0,none⟩ 1 1 [.slice (some ⟨W0.heap.size,0,none⟩) d (d+2)] rfl rfl ?d1 ?d2 ?d3 ?d4 ?d5 ?_))
   case d1=>exact λm u h=>by have:=jl (t.setCell ⟨w.heap.size,j,none⟩ (Value.slice (some ⟨W0.heap.size,0,none⟩) d (d+2))) [.slice (some ⟨W0.heap.size,0,none⟩) d (d+2)] 22 m u h;rw[aCr]at this;exact this
   case d2=>intro u hu;simp at hu;subst hu;rfl
   case d3=>unfold maxLen;omega
   case d4=>omega
   case d5=>simp;omega
   intro v' W tO o8 _;have ao9:=A.alloc (.cells #[.slice (some ⟨W0.heap.size,0,none⟩) d (d+2)] 22);have kp:∀ q,q<(t.setCell ⟨w.heap.size,j,none⟩ (Value.slice (some ⟨W0.heap.size,0,none⟩) d (d+2))).heap.size->some q≠s.ownBlock->W.heap[q]?=(t.setCell ⟨w.heap.size,j,none⟩ (Value.slice (some ⟨W0.heap.size,0,none⟩) d (d+2))).heap[q]?:=λq O x=>
    (o8.block q (by rw[aB7];omega) x).trans (aCt _ _ _ O)
   have HG4:Hid (W.heap[w.heap.size]?=some (.cells (yl aj (λi=>if i=j then W0.heap.size else f i) (j+1)++List.replicate (l+2 - (j+1)) (Value.slice none 0 0)).toArray 22 (0,0))):=hid (by
    rw[kp w.heap.size (vC z.out) (λe=>by have:=(A.lt _ e.symm).1;omega),z.out,Si,yz.out];simp)
   have aug:Hid (∀ i,i<j+1->w.heap.size+1<=(if i=j then W0.heap.size else f i)/\iY W (if i=j then W0.heap.size else f i) (aj.getD i []).length (aj.getD i [])):=hid (λi r=>by
    by_cases e:i=j
    ·subst e;rw[aC2 rfl,yz.out];exact⟨by omega,V.out.same (kp _ V.out.lt (zL A V.out))⟩
    ·rw[aC1 e];have:=N.out i (by omega);exact⟨this.1,this.2.same (kp _ this.2.lt (zL A this.2))⟩)
   have JL:Hid (W.ownsRow (w.heap.size+1) 22 1 v' (j+1) (yl aj (λi=>if i=j then W0.heap.size else f i) (j+1))):=hid (by
    rw[Si,yz.out];exact tO)
   have dW:=hid ((bF.out.alloc (by rw[aCr];omega) _).grown o8 (by rw[aB7,aCr];omega) (λk h=>by have:=(A.lt k h).1;omega));clear A ao9 tO o8 kp z N HS2 V bF;go_wp2_with fail;go_roundw
   case rel=>exact⟨j+1,_,_,by omega,rfl,by go_num,HG4,aug,JL,dW⟩
   case measure=>simp[intOf];omega
  ·obtain rfl:l=j:=by omega
   have B:=J.out;rw[show l+2 - l=2 by omega,show List.replicate 2 (Value.slice none 0 0)=[Value.slice none 0 0,Value.slice none 0 0] from rfl]at B;have c0:W0.cell? ⟨w.heap.size,l,none⟩=some (Value.slice none 0 0):=by
    rw[jm B,List.getElem?_toArray,aCi (by rw[kD];exact aB2 _),kD];simp
   have c1:W0.cell? ⟨w.heap.size,l+1,none⟩=some (Value.slice none 0 0):=by
    rw[jm B,List.getElem?_toArray,aCi (by rw[kD];omega),kD];simp
   have f0:W0.frozen? ⟨w.heap.size,l,none⟩=false:=qY B;have f1:W0.frozen? ⟨w.heap.size,l+1,none⟩=false:=qY B;have C:=lF (o:=l) B (oN W0.heap.size);rw[aB1,set_mid (kD aj f l)]at C;have D:=lF (o:=l+1) C (oN (W0.heap.size+1));have P:(yl aj f l++oN W0.heap.size::[Value.slice none 0 0]).set (l+1) (oN (W0.heap.size+1))=yl aj f l++[oN W0.heap.size,oN (W0.heap.size+1)]:=by
    rw[List.set_append_right _ _ (by rw[kD];omega),kD];simp
   rw[aB1,P]at D;have H:((W0.setCell ⟨w.heap.size,l,none⟩ (oN W0.heap.size)).setCell ⟨w.heap.size,l+1,none⟩ (oN (W0.heap.size+1))).heap.size=W0.heap.size:=by simp
   have LK:(((W0.setCell ⟨w.heap.size,l,none⟩ (oN W0.heap.size)).setCell ⟨w.heap.size,l+1,none⟩ (oN (W0.heap.size+1))).alloc (.cells #[.int .i64 77] 3)).heap.size=W0.heap.size+1:=by simp
   have kq:∀ q,q<W0.heap.size->q≠w.heap.size->((((W0.setCell ⟨w.heap.size,l,none⟩ (oN W0.heap.size)).setCell ⟨w.heap.size,l+1,none⟩ (oN (W0.heap.size+1))).alloc (.cells #[.int .i64 77] 3)).alloc (.cells #[.int .i64 77] 3)).heap[q]?=W0.heap[q]?:=λq O x=>by
    rw[aCt _ _ _ (by omega),aCt _ _ _ (by omega),aCD _ _ _ _ x,aCD _ _ _ _ x]
   have wD:Hid (mI ((((W0.setCell ⟨w.heap.size,l,none⟩ (oN W0.heap.size)).setCell ⟨w.heap.size,l+1,none⟩ (oN (W0.heap.size+1))).alloc (.cells #[.int .i64 77] 3)).alloc (.cells #[.int .i64 77] 3)) w.heap.size w.heap.size l aj f W0.heap.size (W0.heap.size+1) s):=hid (by
    refine⟨HL.out,?_,λi r=>?_,?_,?_,?_⟩
    ·rw[aCt _ _ _ (by omega),aCt _ _ _ (by omega)];exact D
    ·have:=E.out i r;exact⟨by omega,this.2.same (kq _ this.2.lt (by omega))⟩
    ·rw[aCt _ _ _ (by omega)];have g:=heap_alloc_last ((W0.setCell ⟨w.heap.size,l,none⟩ (oN W0.heap.size)).setCell ⟨w.heap.size,l+1,none⟩ (oN (W0.heap.size+1))) (.cells #[.int .i64 77] 3);rw[H]at g;exact g
    ·have n:=heap_alloc_last (((W0.setCell ⟨w.heap.size,l,none⟩ (oN W0.heap.size)).setCell ⟨w.heap.size,l+1,none⟩ (oN (W0.heap.size+1))).alloc (.cells #[.int .i64 77] 3)) (.cells #[.int .i64 77] 3);rw[LK]at n;exact n
    ·exact bQ (abE T.out λq O x=>kq q x (by omega)) (Nat.le_succ _))
   have Q:=hid ((((F.out.setCell (p:=⟨w.heap.size,l,none⟩) (aB2 _) (oN W0.heap.size)).setCell (p:=⟨w.heap.size,l+1,none⟩) (aB2 _) (oN (W0.heap.size+1))).alloc (by omega) (.cells #[.int .i64 77] 3)).alloc (by omega) (.cells #[.int .i64 77] 3));unfold oN at wD Q;have d0:(0:Int)<=(l:Int):=by omega
   have d1:(l:Int)<(l:Int)+2:=by omega
   have d2:(l:Int)+1<(l:Int)+2:=by omega
   have d3:(0:Int)<=(l:Int)+1:=by omega
   have d4:(l:Int)<=(l:Int)+2:=by omega
   have FIN:Hid (∀ X,mI X w.heap.size w.heap.size l aj f W0.heap.size (W0.heap.size+1) s->Below w.heap.size w X->QM l aj w (.returned (.tuple #[.slice (some ⟨w.heap.size,0,none⟩) l (l+2),s])) X):=hid (λX O x=>⟨f,_,_,s,rfl,O,x⟩);clear B C D kq P J E T F H LK;go_wp2_with fail
   go_ret2
   exact FIN.out _ wD.out Q.out
def it(nx:Nat->Nat):Nat->Nat->Nat
 | 0,i=>i
 | s+1,i=>it nx s (nx i)
theorem zk(nx:Nat->Nat)(s i:Nat):it nx (s+1) i=nx (it nx s i):=by
 induction s generalizing i with
 | zero=>rfl
 | succ s ih=>exact ih (nx i)
theorem TL(nx:Nat->Nat)(s t i:Nat):it nx (s+t) i=it nx s (it nx t i):=by
 induction s with
 | zero=>simp[it]
 | succ s ih=>rw[show s+1+t=(s+t)+1 by omega,zk,zk,ih]
def UU(nx:Nat->Nat)(A B:Nat->Prop)(i:Nat):Prop:=∃ s,B (it nx s i)/\∀ m,m<s->A (it nx m i)
theorem am3(nx:Nat->Nat)(A B:Nat->Prop)(i:Nat):UU nx A B i↔B i\/(A i/\UU nx A B (nx i)):=by
 constructor
 ·rintro ⟨s,a,b⟩;cases s with
  | zero=>exact aCa a
  | succ s=>exact aCb ⟨b 0 (by omega),s,a,λm c=>b (m+1) (by omega)⟩
 ·rintro (a | ⟨b,s,a,h⟩)
  ·exact⟨0,a,λm c=>by omega⟩
  ·refine⟨s+1,a,λm c=>?_⟩;cases m with
   | zero=>exact b
   | succ m=>exact h m (by omega)
def mH(nx lt:Nat->Nat)(n:Nd)(rs:List (Nat->Prop))(i:Nat):Prop:=
 if n.op=49 then True
 else if n.op=112 then (lt i).testBit 0=true
 else if n.op=113 then (lt i).testBit 1=true
 else if n.op=114 then (lt i).testBit 2=true
 else if n.op=33 then ¬ rs.getD n.l (λ_=>False) i
 else if n.op=88 then rs.getD n.l (λ_=>False) (nx i)
 else if n.op=70 then ∃ s,rs.getD n.l (λ_=>False) (it nx s i)
 else if n.op=71 then ∀ s,rs.getD n.l (λ_=>False) (it nx s i)
 else if n.op=38 then rs.getD n.l (λ_=>False) i/\rs.getD n.r (λ_=>False) i
 else if n.op=124 then rs.getD n.l (λ_=>False) i\/rs.getD n.r (λ_=>False) i
 else if n.op=85 then ∃ s,rs.getD n.r (λ_=>False) (it nx s i)/\∀ m,m<s->rs.getD n.l (λ_=>False) (it nx m i)
 else if n.op=82 then ∀ s,rs.getD n.r (λ_=>False) (it nx s i)\/∃ m,m<s/\rs.getD n.l (λ_=>False) (it nx m i)
 else False
def rows(nx lt:Nat->Nat)(ns:List Nd):List (Nat->Prop):=ns.foldl (λrs n=>rs++[mH nx lt n rs]) []
theorem Pt(nx lt:Nat->Nat)(ns:List Nd)(n:Nd):rows nx lt (ns++[n])=rows nx lt ns++[mH nx lt n (rows nx lt ns)]:=by
 simp[rows]
theorem Qo(nx lt:Nat->Nat)(ns:List Nd):∀ rs:List (Nat->Prop),(ns.foldl (λrs n=>rs++[mH nx lt n rs]) rs).length=rs.length+ns.length:=by
 induction ns with
 | nil=>intro rs;rfl
 | cons n ns ih=>intro rs;simp only[List.foldl_cons,List.length_cons];rw[ih];simp;omega
theorem J6(nx lt:Nat->Nat)(ns:List Nd):(rows nx lt ns).length=ns.length:=by
 unfold rows;rw[Qo];simp
def d9(nx lt:Nat->Nat)(ns:List Nd)(k i:Nat):Prop:=(rows nx lt ns).getD k (λ_=>False) i
theorem ajg{nx lt:Nat->Nat}{ns:List Nd}{n:Nd}{k:Nat}(h:k<ns.length)(i:Nat):d9 nx lt (ns++[n]) k i=d9 nx lt ns k i:=by
 unfold d9;rw[Pt,List.getD,List.getD,aCh (by rw[J6];exact h)]
theorem Xw(nx lt:Nat->Nat)(ns:List Nd)(n:Nd)(i:Nat):d9 nx lt (ns++[n]) ns.length i=mH nx lt n (rows nx lt ns) i:=by
 unfold d9;rw[Pt,List.getD,aCi (by rw[J6];exact aB2 _),J6];simp
theorem acX(nx lt:Nat->Nat)(ms:List Nd):∀ rs:List (Nat->Prop),∀ k,k<rs.length->(ms.foldl (λrs n=>rs++[mH nx lt n rs]) rs).getD k (λ_=>False)=rs.getD k (λ_=>False):=by
 induction ms with
 | nil=>intro rs k _;rfl
 | cons n ms ih=>
  intro rs k a;simp only[List.foldl_cons];rw[ih _ k (by simp;omega)];simp[List.getD,aCh a]
theorem Xv{nx lt:Nat->Nat}{ns ms:List Nd}{k:Nat}(h:k<ns.length)(i:Nat):d9 nx lt (ns++ms) k i=d9 nx lt ns k i:=by
 unfold d9 rows;rw[List.foldl_append,acX _ _ _ _ _ (by rw[Qo];simpa using h)]
theorem adh{nx1 lt1 nx2 lt2:Nat->Nat}{f:Nat->Nat}(hn:∀ i,f (nx1 i)=nx2 (f i))(hl:∀ i,lt1 i=lt2 (f i)){n:Nd}{r1 r2:List (Nat->Prop)}
  (hr:∀ k i,r1.getD k (λ_=>False) i↔r2.getD k (λ_=>False) (f i)) (i:Nat):mH nx1 lt1 n r1 i↔mH nx2 lt2 n r2 (f i):=by
 have a:∀ s i,f (it nx1 s i)=it nx2 s (f i):=by
  intro s
  induction s with
  | zero=>intro i;rfl
  | succ s ih=>intro i;simp only[it];rw[ih,hn]
 unfold mH;simp only[hl,hr,hn,a]
theorem ajh{nx1 lt1 nx2 lt2:Nat->Nat}{f:Nat->Nat}(hn:∀ i,f (nx1 i)=nx2 (f i))(hl:∀ i,lt1 i=lt2 (f i))(ns:List Nd)(k i:Nat):d9 nx1 lt1 ns k i↔d9 nx2 lt2 ns k (f i):=by
 have c:∀ ms:List Nd,∀ r1 r2:List (Nat->Prop),(r1.length=r2.length)->(∀ k i,r1.getD k (λ_=>False) i↔r2.getD k (λ_=>False) (f i)) ->
   ∀ k i,(ms.foldl (λrs n=>rs++[mH nx1 lt1 n rs]) r1).getD k (λ_=>False) i↔(ms.foldl (λrs n=>rs++[mH nx2 lt2 n rs]) r2).getD k (λ_=>False) (f i):=by
  intro ms
  induction ms with
  | nil=>intro r1 r2 _ b;exact b
  | cons n ms ih=>
   intro r1 r2 a b;simp only[List.foldl_cons];refine ih _ _ (by simp[a]) ?_;intro k i;by_cases d:k<r1.length
   ·simp only[List.getD,aCh d,aCh (show k<r2.length by omega)];exact b k i
   ·simp only[List.getD,aCi (show r1.length<=k by omega),aCi (show r2.length<=k by omega),a];cases hk0:k - r2.length with
    | zero=>simpa using adh hn hl b i
    | succ j=>simp
 exact c ns [] [] rfl (λk i=>by simp) k i
def aU(n back i:Nat):Nat:=if i+1<n then i+1 else back
theorem Tw{n back i:Nat}(hb:back<n):aU n back i<n:=by unfold aU;split <;> omega
theorem lW{n back:Nat}(hb:back<n):∀ s i,i<n->it (aU n back) s i<n:=by
 intro s
 induction s with
 | zero=>intro i h;exact h
 | succ s ih=>intro i h;exact ih _ (Tw hb)
theorem sI{n back:Nat}:∀ s i,i+s<n->it (aU n back) s i=i+s:=by
 intro s
 induction s with
 | zero=>intro i _;rfl
 | succ s ih=>
  intro i h;simp only[it];rw[show aU n back i=i+1 by unfold aU;rw[aC2 (by omega)],ih (i+1) (by omega)];omega
theorem ajR{n back i:Nat}(hi:i<n):it (aU n back) (n - i) i=back:=by
 rw[show n - i=(n - 1 - i)+1 by omega,zk,sI _ _ (by omega)];unfold aU;rw[aC1 (by omega)]
theorem TJ{n back j:Nat}(hb:back<n)(hj:back<=j)(hn:j<n):it (aU n back) (n - back) j=j:=by
 rw[show n - back=(j - back)+(n - j) by omega,TL,ajR hn,sI _ _ (by omega)];omega
theorem apc{n back:Nat}(hb:back<n):∀ s i,i<n->back<=i+s->back<=it (aU n back) s i:=by
 intro s
 induction s with
 | zero=>intro i _ h;exact h
 | succ s ih=>
  intro i b h;rw[zk];by_cases c:back<=i+s
  ·have a:∀ y,back<=y->back<=aU n back y:=by intro y h;unfold aU;split <;> omega
   exact a _ (ih i b c)
  ·rw[sI s i (by omega)];unfold aU
   split <;> omega
theorem OC{n back:Nat}(hb:back<n){A B:Nat->Prop}{i:Nat}(hi:i<n)(h:UU (aU n back) A B i):∃ s,s<n/\B (it (aU n back) s i)/\∀ m,m<s->A (it (aU n back) m i):=by
 obtain⟨s,a,b⟩:=h
 induction s using Nat.strongRecOn with
 | _ s ih=>
  by_cases d:s<n
  ·exact⟨s,d,a,b⟩
  ·refine ih (s - (n - back)) (by omega) ?_ (λm e=>b m (by omega));have c:=TJ hb (apc hb (s - (n - back)) i hi (by omega)) (lW hb (s - (n - back)) i hi);rw[<-TL,show n - back+(s - (n - back))=s by omega]at c;rw[<-c];exact a
theorem xc{n back:Nat}(hb:back<n)(A B:Nat->Bool)(x1 x2:Nat->Bool)
  (h1:∀ i,i<n->x1 i=(B i||(A i&&(if i+1<n then x1 (i+1) else false)))) (h2:∀ i,i<n->x2 i=(B i||(A i&&(if i+1<n then x2 (i+1) else x1 back)))) (i:Nat) (hi:i<n) :
  x2 i=true↔UU (aU n back) (λi=>A i=true) (λi=>B i=true) i:=by
 have e:=am3 (aU n back) (λi=>A i=true) (λi=>B i=true)
 -- sound
 have j:∀ d i,i+d+1=n->x1 i=true->UU (aU n back) (λi=>A i=true) (λi=>B i=true) i:=by
  intro d
  induction d with
  | zero=>
   intro i g a;rw[h1 i (by omega),aC1 (by omega)]at a;rw[e];simp at a;exact aCa a
  | succ d ih=>
   intro i g a;rw[h1 i (by omega),aC2 (by omega)]at a;rw[e];simp only[aCN,aCH]at a;rcases a with a | ⟨f,a⟩
   ·exact aCa a
   ·refine aCb ⟨f,?_⟩;rw[show aU n back i=i+1 by unfold aU;rw[aC2 (by omega)]];exact ih (i+1) (by omega) a
 -- what comes before the end is seen by the first sweep
 have c1:∀ s i,i+s<n->B (i+s)=true->(∀ m,m<s->A (i+m)=true)->x1 i=true:=by
  intro s
  induction s with
  | zero=>intro i hi b _;rw[h1 i (by omega)];simp at b;simp[b]
  | succ s ih=>
   intro i hi b c;rw[h1 i (by omega),aC2 (by omega)];have:=ih (i+1) (by omega) (by rw[show i+1+s=i+(s+1) by omega];exact b) (λm h=>by rw[show i+1+m=i+(m+1) by omega];exact c (m+1) (by omega));have f:=c 0 (by omega);simp only[Nat.add_zero]at f;simp[this,f]
 have k:x1 back=true↔UU (aU n back) (λi=>A i=true) (λi=>B i=true) back:=by
  constructor
  ·exact j (n - 1 - back) back (by omega)
  ·rintro ⟨s,b,c⟩
   induction s using Nat.strongRecOn with
   | _ s ih=>
    by_cases p:s<n - back
    ·rw[sI s back (by omega)]at b;exact c1 s back (by omega) b (λm h=>by have:=c m h;rw[sI m back (by omega)]at this;exact this)
    ·refine ih (s - (n - back)) (by omega) ?_ (λm h=>c m (by omega));have l:=TJ hb (aB2 back) hb;rw[show s=(s - (n - back))+(n - back) by omega,TL,l]at b;exact b
 have o:∀ d i,i+d+1=n->(x2 i=true↔UU (aU n back) (λi=>A i=true) (λi=>B i=true) i):=by
  intro d
  induction d with
  | zero=>
   intro i g;rw[h2 i (by omega),aC1 (by omega),e,show aU n back i=back by unfold aU;rw[aC1 (by omega)],<-k];simp
  | succ d ih=>
   intro i g;rw[h2 i (by omega),aC2 (by omega),e,show aU n back i=i+1 by unfold aU;rw[aC2 (by omega)],<-ih (i+1) (by omega)];simp
 exact o (n - 1 - i) i (by omega)
def uP(S k:Nat)(b:Bool):Nat:=if b then S ||| 2 ^ k else S - (if S.testBit k then 2 ^ k else 0)
theorem X7:∀ S:Fin 256,∀ k:Fin 8,(bits BinOp.and IntKind.i64 ((S.val:Int) / 2 ^ k.val) 1==1)=S.val.testBit k.val:=by decide +kernel
theorem aaF:∀ S:Fin 256,∀ k:Fin 8,bits BinOp.or IntKind.i64 (S.val:Int) (2 ^ k.val)=((uP S.val k.val true:Nat):Int):=by decide +kernel
theorem aaG:∀ S:Fin 256,∀ k:Fin 8,bits BinOp.andNot IntKind.i64 (S.val:Int) (2 ^ k.val)=((uP S.val k.val false:Nat):Int):=by decide +kernel
theorem YT:∀ S:Fin 256,∀ k:Fin 8,∀ b:Bool,uP S.val k.val b<256:=by decide +kernel
theorem Wt:∀ S:Fin 256,∀ k:Fin 8,∀ j:Fin 8,∀ b:Bool,(uP S.val k.val b).testBit j.val=if j.val=k.val then b else S.val.testBit j.val:=by decide +kernel
theorem KT{S k:Nat}{b:Bool}(hS:S<256)(hk:k<8):uP S k b<256:=YT ⟨S,hS⟩ ⟨k,hk⟩ b
theorem wF{S k j:Nat}{b:Bool}(hS:S<256)(hk:k<8)(hj:j<8):(uP S k b).testBit j=if j=k then b else S.testBit j:=Wt ⟨S,hS⟩ ⟨k,hk⟩ ⟨j,hj⟩ b
theorem SI{k:Nat}(hk:k<8):wrap64 (2 ^ k)=2 ^ k:=by
 have:(2:Int) ^ k<=128/\0<=(2:Int) ^ k:=by
  have h:∀ k:Fin 8,(2:Int) ^ k.val<=128/\0<=(2:Int) ^ k.val:=by decide
  exact h ⟨k,hk⟩
 exact IntWalk.wrap64_in _ ⟨by omega,by omega⟩
theorem tL{a b:Bool}(h:a=b):Ending.returned (.bool a)=.returned (.bool b):=by rw[h]
theorem XA{k:IntKind}{a b:Int}(h:a=b):Ending.returned (.int k a)=.returned (.int k b):=by rw[h]
theorem bN(S k:Nat)(w:World)(hS:S<256)(hk:k<8):Calls Tryz.prog 66 #[.int .i64 S,.int .i64 k] w λe w'=>e=.returned (.bool (S.testBit k))/\w'=w:=by
 have H:=hid (X7 ⟨S,hS⟩ ⟨k,hk⟩);go_enter Tryz.func66,Tryz.ntmps66;go_wp2;go_ret;exact⟨tL H.out,rfl⟩
theorem JU(S k:Nat)(b:Bool)(w:World)(hS:S<256)(hk:k<8):Calls Tryz.prog 115 #[.int .i64 S,.int .i64 k,.bool b] w λe w'=>e=.returned (.int .i64 (uP S k b:Nat))/\w'=w:=by
 have a:Hid (bits BinOp.or IntKind.i64 (S:Int) (wrap64 (2 ^ k))=((uP S k true:Nat):Int)):=hid (by rw[SI hk];exact aaF ⟨S,hS⟩ ⟨k,hk⟩);have c:Hid (bits BinOp.andNot IntKind.i64 (S:Int) (wrap64 (2 ^ k))=((uP S k false:Nat):Int)):=hid (by rw[SI hk];exact aaG ⟨S,hS⟩ ⟨k,hk⟩);cases b with
 | true=>
  go_enter Tryz.func115,Tryz.ntmps115;go_wp2;go_ret;exact⟨XA a.out,rfl⟩
 | false=>
  go_enter Tryz.func115,Tryz.ntmps115;go_wp2;go_ret;exact⟨XA c.out,rfl⟩
def bg(op letter:Nat)(l r later nl:Bool):Bool:=
 if op=49 then true else if op=112 then letter.testBit 0 else if op=113 then letter.testBit 1 else if op=114 then letter.testBit 2 else
 if op=33 then !l else if op=88 then nl else if op=70 then l||later else if op=71 then l&&later else if op=38 then l&&r else if op=124 then l||r else
 if op=85 then r||(l&&later) else if op=82 then r&&(l||later) else false
theorem mY:∀ x:Fin 8,(bits BinOp.and IntKind.i64 (x.val:Int) 1 !=0)=x.val.testBit 0/\(bits BinOp.and IntKind.i64 (x.val:Int) 2 !=0)=x.val.testBit 1/\(bits BinOp.and IntKind.i64 (x.val:Int) 4 !=0)=x.val.testBit 2:=by decide +kernel
def ym(n:Nd):Value:=.agg #[.int .u8 n.op,.int .i64 n.l,.int .i64 n.r]
theorem alf(l r self letter S N:Nat)(w:World)(hl:l<8)(hr:r<8)(hs:self<8)(hx:letter<8)(hS:S<256)(hN:N<256) :
  Calls Tryz.prog 114 #[.agg #[.int .u8 (49:Nat),.int .i64 l,.int .i64 r],.int .i64 self,.int .i64 letter,.int .i64 S,.int .i64 N] w λe w'=>e=.returned (.bool (bg 49 letter (S.testBit l) (S.testBit r) (N.testBit self) (N.testBit l)))/\Below w.heap.size w w':=by
 have L:=hid (mY ⟨letter,hx⟩);go_enter Tryz.func114,Tryz.ntmps114;go_wp2_with fail;refine(bN S l _ hS hl).mono ?_;rintro e w' ⟨rfl,rfl⟩;go_wp2_with fail;refine(bN S r _ hS hr).mono ?_;rintro e w' ⟨rfl,rfl⟩;go_wp2_with fail;refine(bN N self _ hN hs).mono ?_;rintro e w' ⟨rfl,rfl⟩;go_wp2_with fail;go_ret;exact⟨rfl,(aB4 _ _).alloc (aB2 _) _⟩
theorem ajN(l r self letter S N:Nat)(w:World)(hl:l<8)(hr:r<8)(hs:self<8)(hx:letter<8)(hS:S<256)(hN:N<256) :
  Calls Tryz.prog 114 #[.agg #[.int .u8 (112:Nat),.int .i64 l,.int .i64 r],.int .i64 self,.int .i64 letter,.int .i64 S,.int .i64 N] w λe w'=>e=.returned (.bool (bg 112 letter (S.testBit l) (S.testBit r) (N.testBit self) (N.testBit l)))/\Below w.heap.size w w':=by
 have L:=hid (mY ⟨letter,hx⟩);go_enter Tryz.func114,Tryz.ntmps114;go_wp2_with fail;refine(bN S l _ hS hl).mono ?_;rintro e w' ⟨rfl,rfl⟩;go_wp2_with fail;refine(bN S r _ hS hr).mono ?_;rintro e w' ⟨rfl,rfl⟩;go_wp2_with fail;refine(bN N self _ hN hs).mono ?_;rintro e w' ⟨rfl,rfl⟩;go_wp2_with fail;go_ret;exact⟨tL L.out.1,(aB4 _ _).alloc (aB2 _) _⟩
theorem ajM(l r self letter S N:Nat)(w:World)(hl:l<8)(hr:r<8)(hs:self<8)(hx:letter<8)(hS:S<256)(hN:N<256) :
  Calls Tryz.prog 114 #[.agg #[.int .u8 (113:Nat),.int .i64 l,.int .i64 r],.int .i64 self,.int .i64 letter,.int .i64 S,.int .i64 N] w λe w'=>e=.returned (.bool (bg 113 letter (S.testBit l) (S.testBit r) (N.testBit self) (N.testBit l)))/\Below w.heap.size w w':=by
 have L:=hid (mY ⟨letter,hx⟩);go_enter Tryz.func114,Tryz.ntmps114;go_wp2_with fail;refine(bN S l _ hS hl).mono ?_;rintro e w' ⟨rfl,rfl⟩;go_wp2_with fail;refine(bN S r _ hS hr).mono ?_;rintro e w' ⟨rfl,rfl⟩;go_wp2_with fail;refine(bN N self _ hN hs).mono ?_;rintro e w' ⟨rfl,rfl⟩;go_wp2_with fail;go_ret;exact⟨tL L.out.2.1,(aB4 _ _).alloc (aB2 _) _⟩
theorem ajL(l r self letter S N:Nat)(w:World)(hl:l<8)(hr:r<8)(hs:self<8)(hx:letter<8)(hS:S<256)(hN:N<256) :
  Calls Tryz.prog 114 #[.agg #[.int .u8 (114:Nat),.int .i64 l,.int .i64 r],.int .i64 self,.int .i64 letter,.int .i64 S,.int .i64 N] w λe w'=>e=.returned (.bool (bg 114 letter (S.testBit l) (S.testBit r) (N.testBit self) (N.testBit l)))/\Below w.heap.size w w':=by
 have L:=hid (mY ⟨letter,hx⟩);go_enter Tryz.func114,Tryz.ntmps114;go_wp2_with fail;refine(bN S l _ hS hl).mono ?_;rintro e w' ⟨rfl,rfl⟩;go_wp2_with fail;refine(bN S r _ hS hr).mono ?_;rintro e w' ⟨rfl,rfl⟩;go_wp2_with fail;refine(bN N self _ hN hs).mono ?_;rintro e w' ⟨rfl,rfl⟩;go_wp2_with fail;go_ret;exact⟨tL L.out.2.2,(aB4 _ _).alloc (aB2 _) _⟩
theorem alh(l r self letter S N:Nat)(w:World)(hl:l<8)(hr:r<8)(hs:self<8)(hx:letter<8)(hS:S<256)(hN:N<256) :
  Calls Tryz.prog 114 #[.agg #[.int .u8 (33:Nat),.int .i64 l,.int .i64 r],.int .i64 self,.int .i64 letter,.int .i64 S,.int .i64 N] w λe w'=>e=.returned (.bool (bg 33 letter (S.testBit l) (S.testBit r) (N.testBit self) (N.testBit l)))/\Below w.heap.size w w':=by
 have L:=hid (mY ⟨letter,hx⟩);cases el:S.testBit l
 all_goals
  go_enter Tryz.func114,Tryz.ntmps114;go_wp2_with fail;refine(bN S l _ hS hl).mono ?_;rintro e w' ⟨rfl,rfl⟩;go_wp2_with fail;refine(bN S r _ hS hr).mono ?_;rintro e w' ⟨rfl,rfl⟩;go_wp2_with fail;refine(bN N self _ hN hs).mono ?_;rintro e w' ⟨rfl,rfl⟩;go_wp2_with fail;go_ret;exact⟨rfl,(aB4 _ _).alloc (aB2 _) _⟩
theorem ala(l r self letter S N:Nat)(w:World)(hl:l<8)(hr:r<8)(hs:self<8)(hx:letter<8)(hS:S<256)(hN:N<256) :
  Calls Tryz.prog 114 #[.agg #[.int .u8 (88:Nat),.int .i64 l,.int .i64 r],.int .i64 self,.int .i64 letter,.int .i64 S,.int .i64 N] w λe w'=>e=.returned (.bool (bg 88 letter (S.testBit l) (S.testBit r) (N.testBit self) (N.testBit l)))/\Below w.heap.size w w':=by
 have L:=hid (mY ⟨letter,hx⟩);go_enter Tryz.func114,Tryz.ntmps114;go_wp2_with fail;refine(bN S l _ hS hl).mono ?_;rintro e w' ⟨rfl,rfl⟩;go_wp2_with fail;refine(bN S r _ hS hr).mono ?_;rintro e w' ⟨rfl,rfl⟩;go_wp2_with fail;refine(bN N self _ hN hs).mono ?_;rintro e w' ⟨rfl,rfl⟩;go_wp2_with fail;refine(bN N l _ hN hl).mono ?_;rintro e w' ⟨rfl,rfl⟩;go_wp2_with fail;go_ret;exact⟨rfl,(aB4 _ _).alloc (aB2 _) _⟩
theorem ale(l r self letter S N:Nat)(w:World)(hl:l<8)(hr:r<8)(hs:self<8)(hx:letter<8)(hS:S<256)(hN:N<256) :
  Calls Tryz.prog 114 #[.agg #[.int .u8 (70:Nat),.int .i64 l,.int .i64 r],.int .i64 self,.int .i64 letter,.int .i64 S,.int .i64 N] w λe w'=>e=.returned (.bool (bg 70 letter (S.testBit l) (S.testBit r) (N.testBit self) (N.testBit l)))/\Below w.heap.size w w':=by
 have L:=hid (mY ⟨letter,hx⟩);cases el:S.testBit l
 all_goals cases et:N.testBit self
 all_goals
  go_enter Tryz.func114,Tryz.ntmps114;go_wp2_with fail;refine(bN S l _ hS hl).mono ?_;rintro e w' ⟨rfl,rfl⟩;go_wp2_with fail;refine(bN S r _ hS hr).mono ?_;rintro e w' ⟨rfl,rfl⟩;go_wp2_with fail;refine(bN N self _ hN hs).mono ?_;rintro e w' ⟨rfl,rfl⟩;go_wp2_with fail;go_ret;exact⟨rfl,(aB4 _ _).alloc (aB2 _) _⟩
theorem ald(l r self letter S N:Nat)(w:World)(hl:l<8)(hr:r<8)(hs:self<8)(hx:letter<8)(hS:S<256)(hN:N<256) :
  Calls Tryz.prog 114 #[.agg #[.int .u8 (71:Nat),.int .i64 l,.int .i64 r],.int .i64 self,.int .i64 letter,.int .i64 S,.int .i64 N] w λe w'=>e=.returned (.bool (bg 71 letter (S.testBit l) (S.testBit r) (N.testBit self) (N.testBit l)))/\Below w.heap.size w w':=by
 have L:=hid (mY ⟨letter,hx⟩);cases el:S.testBit l
 all_goals cases et:N.testBit self
 all_goals
  go_enter Tryz.func114,Tryz.ntmps114;go_wp2_with fail;refine(bN S l _ hS hl).mono ?_;rintro e w' ⟨rfl,rfl⟩;go_wp2_with fail;refine(bN S r _ hS hr).mono ?_;rintro e w' ⟨rfl,rfl⟩;go_wp2_with fail;refine(bN N self _ hN hs).mono ?_;rintro e w' ⟨rfl,rfl⟩;go_wp2_with fail;go_ret;exact⟨rfl,(aB4 _ _).alloc (aB2 _) _⟩
theorem alg(l r self letter S N:Nat)(w:World)(hl:l<8)(hr:r<8)(hs:self<8)(hx:letter<8)(hS:S<256)(hN:N<256) :
  Calls Tryz.prog 114 #[.agg #[.int .u8 (38:Nat),.int .i64 l,.int .i64 r],.int .i64 self,.int .i64 letter,.int .i64 S,.int .i64 N] w λe w'=>e=.returned (.bool (bg 38 letter (S.testBit l) (S.testBit r) (N.testBit self) (N.testBit l)))/\Below w.heap.size w w':=by
 have L:=hid (mY ⟨letter,hx⟩);cases el:S.testBit l
 all_goals cases er:S.testBit r
 all_goals
  go_enter Tryz.func114,Tryz.ntmps114;go_wp2_with fail;refine(bN S l _ hS hl).mono ?_;rintro e w' ⟨rfl,rfl⟩;go_wp2_with fail;refine(bN S r _ hS hr).mono ?_;rintro e w' ⟨rfl,rfl⟩;go_wp2_with fail;refine(bN N self _ hN hs).mono ?_;rintro e w' ⟨rfl,rfl⟩;go_wp2_with fail;go_ret;exact⟨rfl,(aB4 _ _).alloc (aB2 _) _⟩
theorem ajK(l r self letter S N:Nat)(w:World)(hl:l<8)(hr:r<8)(hs:self<8)(hx:letter<8)(hS:S<256)(hN:N<256) :
  Calls Tryz.prog 114 #[.agg #[.int .u8 (124:Nat),.int .i64 l,.int .i64 r],.int .i64 self,.int .i64 letter,.int .i64 S,.int .i64 N] w λe w'=>e=.returned (.bool (bg 124 letter (S.testBit l) (S.testBit r) (N.testBit self) (N.testBit l)))/\Below w.heap.size w w':=by
 have L:=hid (mY ⟨letter,hx⟩);cases el:S.testBit l
 all_goals cases er:S.testBit r
 all_goals
  go_enter Tryz.func114,Tryz.ntmps114;go_wp2_with fail;refine(bN S l _ hS hl).mono ?_;rintro e w' ⟨rfl,rfl⟩;go_wp2_with fail;refine(bN S r _ hS hr).mono ?_;rintro e w' ⟨rfl,rfl⟩;go_wp2_with fail;refine(bN N self _ hN hs).mono ?_;rintro e w' ⟨rfl,rfl⟩;go_wp2_with fail;go_ret;exact⟨rfl,(aB4 _ _).alloc (aB2 _) _⟩
theorem alb(l r self letter S N:Nat)(w:World)(hl:l<8)(hr:r<8)(hs:self<8)(hx:letter<8)(hS:S<256)(hN:N<256) :
  Calls Tryz.prog 114 #[.agg #[.int .u8 (85:Nat),.int .i64 l,.int .i64 r],.int .i64 self,.int .i64 letter,.int .i64 S,.int .i64 N] w λe w'=>e=.returned (.bool (bg 85 letter (S.testBit l) (S.testBit r) (N.testBit self) (N.testBit l)))/\Below w.heap.size w w':=by
 have L:=hid (mY ⟨letter,hx⟩);cases el:S.testBit l
 all_goals cases er:S.testBit r
 all_goals cases et:N.testBit self
 all_goals
  go_enter Tryz.func114,Tryz.ntmps114;go_wp2_with fail;refine(bN S l _ hS hl).mono ?_;rintro e w' ⟨rfl,rfl⟩;go_wp2_with fail;refine(bN S r _ hS hr).mono ?_;rintro e w' ⟨rfl,rfl⟩;go_wp2_with fail;refine(bN N self _ hN hs).mono ?_;rintro e w' ⟨rfl,rfl⟩;go_wp2_with fail;go_ret;exact⟨rfl,(aB4 _ _).alloc (aB2 _) _⟩
theorem alc(l r self letter S N:Nat)(w:World)(hl:l<8)(hr:r<8)(hs:self<8)(hx:letter<8)(hS:S<256)(hN:N<256) :
  Calls Tryz.prog 114 #[.agg #[.int .u8 (82:Nat),.int .i64 l,.int .i64 r],.int .i64 self,.int .i64 letter,.int .i64 S,.int .i64 N] w λe w'=>e=.returned (.bool (bg 82 letter (S.testBit l) (S.testBit r) (N.testBit self) (N.testBit l)))/\Below w.heap.size w w':=by
 have L:=hid (mY ⟨letter,hx⟩);cases el:S.testBit l
 all_goals cases er:S.testBit r
 all_goals cases et:N.testBit self
 all_goals
  go_enter Tryz.func114,Tryz.ntmps114;go_wp2_with fail;refine(bN S l _ hS hl).mono ?_;rintro e w' ⟨rfl,rfl⟩;go_wp2_with fail;refine(bN S r _ hS hr).mono ?_;rintro e w' ⟨rfl,rfl⟩;go_wp2_with fail;refine(bN N self _ hN hs).mono ?_;rintro e w' ⟨rfl,rfl⟩;go_wp2_with fail;go_ret;exact⟨rfl,(aB4 _ _).alloc (aB2 _) _⟩
theorem ab7(op:Nat)(l r self letter S N:Nat)(w:World)(hl:l<8)(hr:r<8)(hs:self<8)(hx:letter<8)(hS:S<256)(hN:N<256)(hop:∀ k∈[49,112,113,114,33,88,70,71,38,124,85,82],op≠k) :
  Calls Tryz.prog 114 #[.agg #[.int .u8 (op:Nat),.int .i64 l,.int .i64 r],.int .i64 self,.int .i64 letter,.int .i64 S,.int .i64 N] w λe w'=>e=.returned (.bool (bg op letter (S.testBit l) (S.testBit r) (N.testBit self) (N.testBit l)))/\Below w.heap.size w w':=by
 have a:((op:Int)==49)=false:=aCe.2 (by have:=hop 49 (by simp);omega);have b:((op:Int)==112)=false:=aCe.2 (by have:=hop 112 (by simp);omega);have c:((op:Int)==113)=false:=aCe.2 (by have:=hop 113 (by simp);omega);have d:((op:Int)==114)=false:=aCe.2 (by have:=hop 114 (by simp);omega);have f:((op:Int)==33)=false:=aCe.2 (by have:=hop 33 (by simp);omega);have g:((op:Int)==88)=false:=aCe.2 (by have:=hop 88 (by simp);omega);have h:((op:Int)==70)=false:=aCe.2 (by have:=hop 70 (by simp);omega);have i:((op:Int)==71)=false:=aCe.2 (by have:=hop 71 (by simp);omega);have j:((op:Int)==38)=false:=aCe.2 (by have:=hop 38 (by simp);omega);have m:((op:Int)==124)=false:=aCe.2 (by have:=hop 124 (by simp);omega);have n:((op:Int)==85)=false:=aCe.2 (by have:=hop 85 (by simp);omega);have o:((op:Int)==82)=false:=aCe.2 (by have:=hop 82 (by simp);omega);have E:Hid (bg op letter (S.testBit l) (S.testBit r) (N.testBit self) (N.testBit l)=false):=hid (by unfold bg;rw[aC1 (hop 49 (by simp))];rw[aC1 (hop 112 (by simp))];rw[aC1 (hop 113 (by simp))];rw[aC1 (hop 114 (by simp))];rw[aC1 (hop 33 (by simp))];rw[aC1 (hop 88 (by simp))];rw[aC1 (hop 70 (by simp))];rw[aC1 (hop 71 (by simp))];rw[aC1 (hop 38 (by simp))];rw[aC1 (hop 124 (by simp))];rw[aC1 (hop 85 (by simp))];rw[aC1 (hop 82 (by simp))]);clear hop;go_enter Tryz.func114,Tryz.ntmps114;go_wp2_with fail;refine(bN S l _ hS hl).mono ?_;rintro e w' ⟨rfl,rfl⟩;go_wp2_with fail;refine(bN S r _ hS hr).mono ?_;rintro e w' ⟨rfl,rfl⟩;go_wp2_with fail;refine(bN N self _ hN hs).mono ?_;rintro e w' ⟨rfl,rfl⟩;go_wp2_with fail;go_ret;exact⟨by rw[E.out];rfl,(aB4 _ _).alloc (aB2 _) _⟩
theorem XK(n:Nd)(self letter S N:Nat)(w:World)(hl:n.l<8)(hr:n.r<8)(hs:self<8)(hx:letter<8)(hS:S<256)(hN:N<256) :
  Calls Tryz.prog 114 #[ym n,.int .i64 self,.int .i64 letter,.int .i64 S,.int .i64 N] w λe w'=>e=.returned (.bool (bg n.op letter (S.testBit n.l) (S.testBit n.r) (N.testBit self) (N.testBit n.l)))/\Below w.heap.size w w':=by
 obtain⟨op,l,r⟩:=n;unfold ym;dsimp only at *;by_cases f:op=49
 ·subst f;exact alf l r self letter S N w hl hr hs hx hS hN
 by_cases g:op=112
 ·subst g;exact ajN l r self letter S N w hl hr hs hx hS hN
 by_cases h:op=113
 ·subst h;exact ajM l r self letter S N w hl hr hs hx hS hN
 by_cases i:op=114
 ·subst i;exact ajL l r self letter S N w hl hr hs hx hS hN
 by_cases j:op=33
 ·subst j;exact alh l r self letter S N w hl hr hs hx hS hN
 by_cases m:op=88
 ·subst m;exact ala l r self letter S N w hl hr hs hx hS hN
 by_cases o:op=70
 ·subst o;exact ale l r self letter S N w hl hr hs hx hS hN
 by_cases p:op=71
 ·subst p;exact ald l r self letter S N w hl hr hs hx hS hN
 by_cases a:op=38
 ·subst a;exact alg l r self letter S N w hl hr hs hx hS hN
 by_cases b:op=124
 ·subst b;exact ajK l r self letter S N w hl hr hs hx hS hN
 by_cases c:op=85
 ·subst c;exact alb l r self letter S N w hl hr hs hx hS hN
 by_cases d:op=82
 ·subst d;exact alc l r self letter S N w hl hr hs hx hS hN
 exact ab7 op l r self letter S N w hl hr hs hx hS hN (by intro k q;simp at q;omega)
def lK(op:Nat):Bool:=op==71||op==82
theorem PW(n:Nd)(w:World):Calls Tryz.prog 116 #[ym n] w λe w'=>e=.returned (.bool (lK n.op))/\Below w.heap.size w w':=by
 obtain⟨op,l,r⟩:=n;unfold ym;dsimp only at *;by_cases a:op=71
 ·subst a;go_enter Tryz.func116,Tryz.ntmps116;go_wp2;go_ret;exact⟨rfl,(aB4 _ _).alloc (aB2 _) _⟩
 by_cases b:op=82
 ·subst b;go_enter Tryz.func116,Tryz.ntmps116;go_wp2;go_ret;exact⟨rfl,(aB4 _ _).alloc (aB2 _) _⟩
 have c:((op:Int)==71)=false:=aCe.2 (by omega);have d:((op:Int)==82)=false:=aCe.2 (by omega);have E:Hid (lK op=false):=hid (by simp[lK,a,b]);go_enter Tryz.func116,Tryz.ntmps116;go_wp2;go_ret;exact⟨by rw[E.out];rfl,(aB4 _ _).alloc (aB2 _) _⟩
