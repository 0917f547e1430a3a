import Derived.Test.YtjagijohfkffiabGreatFREM16
set_option maxHeartbeats 16000000
set_option maxRecDepth 100000
set_option linter.unusedSimpArgs false
namespace Go.Proofs.YtjagijohfkffiabGreat
open Go.RowKit
set_option linter.unusedVariables false
def qC(w:World)(P:Nat)(cs:List (Nat->Bool)):Prop:=∃ ao cap,w.cell? ⟨P,2048,none⟩=some (.slice ao cs.length cap)/\(0<cs.length->∃ gc,ao=some ⟨gc,0,none⟩/\gc<w.heap.size/\∀ k c,cs[k]?=some c->bC w gc (k*256) c)
theorem qC.below{w w':World}{P:Nat}{cs:List (Nat->Bool)}(h:qC w P cs)(hb:Below w.heap.size w w')(hP:P<w.heap.size):qC w' P cs:=by
 obtain⟨ao,cap,h1,h2⟩:=h;refine⟨ao,cap,(hb.cell (p:=⟨P,2048,none⟩) hP).trans h1,λh0=>?_⟩;obtain⟨gc,h3,h4,h5⟩:=h2 h0;exact⟨gc,h3,aBi h4 hb.size,λk c hk=>(h5 k c hk).below hb h4⟩
def spread(c:Nat->Bool):Nat->Bool:=λx=>c (x % 256)
def spreads(cs:List (Nat->Bool)):List (Nat->Bool):=cs.map spread
theorem QD{cs:List (Nat->Bool)}{k:Nat}{c:Nat->Bool}(h:cs[k]?=some c):(spreads cs).take (k+1)=(spreads cs).take k++[spread c]:=by
 have hk:=(aA1.1 h).1;rw[List.take_succ_eq_append_getElem (by simpa [spreads] using hk)];have:cs[k]=c:=by rw[aAV hk]at h;exact Option.some.inj h
 simp[spreads,this]
theorem aeM(P gi n bY g cap:Nat)(ns:List Nd)(into:Nat->List (Nat × Nat))(cs:List (Nat->Bool))(goal:Nat->Bool)(w:World)(h8:ns.length<=8)(hp:uV n into)(mF:uN w P ns)(hP:P<w.heap.size)(hcm:qC w P cs)(hcl:cs.length<=8)(hw:nY w gi n into)(kz:bU w g (n*256) goal)(hg:g<w.heap.size) :
  Calls Tryz.prog 131 #[.pointer (some ⟨P,0,none⟩),.agg #[.slice (some ⟨gi,0,none⟩) n bY],.slice (some ⟨g,0,none⟩) n cap] w λe w'=>∃ g' found,e=.returned (.slice (some ⟨g',0,none⟩) n n)/\w.heap.size<=g'/\g'<w'.heap.size/\bU w' g' (n*256) found/\(∀ x,found x=true↔lQ (Ew n ns into) (spreads cs) (λy=>goal y=true) x)/\Below w.heap.size w w':=by
 have hn:=hp.le;have HP:=hid hp;have HM:=hid mF;have HW:=hid hw;have HG:=hid kz;have zD:=hw.lt;obtain⟨ca,ala,Pg,Fe⟩:=hcm;have Eh:=hid Fe;clear hp mF hw kz Fe;generalize hm:cs.length=m at *;have nJ:=hid hm;clear hm;go_enter Tryz.func131,Tryz.ntmps131;go_wp2_with fail;have ba:=hid ((aAW w.heap.size w).alloc (aAU _) (.cells #[.slice (some ⟨gi,0,none⟩) n bY] 159));refine(NP P gi n bY g cap ns into goal _ h8 HP.out (HM.out.below ba.out hP) (by simp;omega) (HW.out.below ba.out) (HG.out.below ba.out hg) (by simp;omega)).mono ?_;rintro e w1 ⟨g1,f1,rfl,hg1,ael,F1,L1,aM⟩;simp only[aAZ]at hg1 aM;have c4:w1.cell? ⟨w.heap.size,0,none⟩=some (.slice (some ⟨gi,0,none⟩) n bY):=(aM.cell (p:=⟨w.heap.size,0,none⟩) (by show w.heap.size<w.heap.size+1;omega)).trans (by simp);have rE:=(aM.cell (p:=⟨P,2048,none⟩) (by show P<w.heap.size+1;omega)).trans ((ba.out.cell (p:=⟨P,2048,none⟩) hP).trans Pg);have aK:=hid (ba.out.trans (aM.mono (by omega)));have F1:=hid F1;have L1:=hid L1;have hs1:w.heap.size<w1.heap.size:=by omega
 clear aM ba Pg;have C4:=hid c4;go_wp2_with fail;clear rE c4
 go_loopw [7,20] (λv i wq=>∃ (k g2:Nat) (f:Nat->Bool),k<=m/\i=.int .i64 k/\v=.slice (some ⟨g2,0,none⟩) n n/\w.heap.size<=g2/\g2<wq.heap.size/\Hid (bU wq g2 (n*256) f)/\Hid (∀ x,f x=true↔lQ (Ew n ns into) ((spreads cs).take k) (λy=>goal y=true) x)/\Hid (wq.cell? ⟨w.heap.size,0,none⟩=some (.slice (some ⟨gi,0,none⟩) n bY))/\Hid (Below w.heap.size w wq)/\w.heap.size<wq.heap.size) (λ_ i _=>m - (intOf i).toNat)
 case atStart=>exact⟨0,g1,f1,aA8 _,rfl,rfl,by omega,ael,F1,by simpa [lQ] using L1,C4,aK,hs1⟩
 case round=>
  obtain⟨k,g2,f,hk,rfl,rfl,oV,R4,HF,HD,HC,HB,hsz⟩:=hrel;rename World=>W0;by_cases hlk:k<m
  ·obtain⟨gc,e,Bj,hcell⟩:=Eh.out (by omega);subst e;obtain⟨c,hc⟩:∃ c,cs[k]?=some c:=⟨cs[k]'(by rw[nJ.out];exact hlk),aAV (by rw[nJ.out];exact hlk)⟩;have GC:=hid ((hcell k c hc).below HB.out Bj);have HTK:=hid (QD hc);clear hcell hc;go_wp2_with (first | (refine aQ rfl (.tmp 22) rfl gc (k*256) c rfl GC.out ?_) | (refine bW rfl (.tmp 9) (.tmp 23) rfl W0.heap.size 0 c rfl rfl (gN W0).there ?_))
   intro w2 S2;have bR:Below W0.heap.size W0 w2:=S2.bG _ _ (aAU _) ((aAW _ _).alloc (aAU _) _);have A9:=hid S2.at_;have Gv:=hid (HF.out.below bR R4);have UE:=hid ((bR.cell (p:=⟨w.heap.size,0,none⟩) hsz).trans HC.out);have aW:=hid (HB.out.trans (bR.mono (by omega)));have lm:=bR.size;clear S2 bR GC;go_wp2_with (refine aQ rfl (.tmp 9) rfl W0.heap.size 0 c rfl A9.out ?_);refine(Jv g2 n n f c w2 (by omega) Gv.out (by omega)).mono ?_;rintro e w3 ⟨g3,rfl,hg3,YB,F3,aI⟩;have F3:=hid F3;have cu:=hid (aW.out.trans (aI.mono (by omega)));have Tz:=(aI.cell (p:=⟨w.heap.size,0,none⟩) (by show w.heap.size<w2.heap.size;omega)).trans UE.out;have C43:=hid Tz;have vF:=aI.size;clear aI Gv UE;go_wp2_with fail;refine(NP P gi n bY g3 n ns into (eG f c) w3 h8 HP.out (HM.out.below cu.out hP) (by omega) (HW.out.below cu.out) F3.out YB).mono ?_;rintro e w4 ⟨g4,f4,rfl,hg4,RZ,F4,L4,eH⟩;have F4:=hid F4;have iN:=hid (cu.out.trans (eH.mono (by omega)));have C44:=hid ((eH.cell (p:=⟨w.heap.size,0,none⟩) (by show w.heap.size<w3.heap.size;omega)).trans Tz);have HL4:Hid (∀ x,f4 x=true↔lQ (Ew n ns into) ((spreads cs).take (k+1)) (λy=>goal y=true) x):=hid (λx=>by
    rw[L4 x,HTK.out,YP];refine fE.congr (λy=>?_) x;rw[<-HD.out y];unfold eG spread;simp)
   have zu:=eH.size;clear eH L4 Tz F3;go_wp2_with fail;go_roundw
   case rel=>exact⟨k+1,g4,f4,by omega,by go_num,rfl,by omega,RZ,F4,HL4,C44,iN,by omega⟩
   case measure=>simp[intOf];omega
  ·obtain rfl:k=m:=by omega
   have HE:Hid ((spreads cs).take k=spreads cs):=hid (List.take_of_length_le (by simp[spreads,nJ.out]));go_wp2_with fail;go_ret;exact⟨g2,f,rfl,oV,R4,HF.out,by rw[HE.out]at HD;exact HD.out,HB.out⟩
def En(w:World)(g:Nat):Nat->Nat
 | 0=>0
 | n+1=>En w g n+(match w.cell? ⟨g,n,none⟩ with | some (.bool true)=>1 | _=>0)
theorem uY{w:World}{g N:Nat}{f:Nat->Bool}(h:bU w g N f):∀ n,n<=N->En w g n=iy f n
 | 0,_=>rfl
 | n+1,hn=>by
  rw[En,iy,uY h n (by omega),h.c n (by omega)];cases f n <;> simp
def WK(v:Value):Nat:=match v with
 | .slice (some a) _ _=>a.block
 | _=>0
structure Hd (E:Nat->Nat->Prop) (N:Nat) (cs:List (Nat->Bool)) (f:Nat->Bool):Prop where
 lt:∀ x,f x=true->x<N
 all:∀ x,iI E cs x->f x=true
 sub:∀ x,lQ E cs (λy=>f y=true) x->f x=true
theorem O0{E:Nat->Nat->Prop}{N:Nat}(hE:∀ a b,E a b->a<N):∀ (cs:List (Nat->Bool)) {G:Nat->Prop} {x:Nat},lQ E cs G x->x<N:=by
 intro cs G x h;obtain⟨y,_,⟨L,c,he,_⟩,_⟩:=OZ h;exact hE _ _ he
theorem Yj{E:Nat->Nat->Prop}{N:Nat}(hE:∀ a b,E a b->a<N)(cs:List (Nat->Bool)):Hd E N cs (λx=>decide (x<N)):=
 ⟨λx h=>by simpa using h,λx ⟨q,h0,hq,_⟩=>by rw[<-h0];simpa using hE _ _ (hq 0),λx h=>by simpa using O0 hE cs h⟩
theorem aau{E:Nat->Nat->Prop}{N:Nat}(hE:∀ a b,E a b->a<N){cs:List (Nat->Bool)}{f f':Nat->Bool}(h:Hd E N cs f)(hd:∀ x,f' x=true↔lQ E cs (λy=>f y=true) x):Hd E N cs f':=
 ⟨λx hx=>O0 hE cs ((hd x).1 hx),λx hx=>(hd x).2 (Sw h.all x hx),λx hx=>(hd x).2 (abC (λy hy=>h.sub y ((hd y).1 hy)) x hx)⟩
theorem aaw{E:Nat->Nat->Prop}{N:Nat}(hE:∀ a b,E a b->b<N){cs:List (Nat->Bool)}{f f':Nat->Bool}(h:Hd E N cs f)(hd:∀ x,f' x=true↔lQ E cs (λy=>f y=true) x)(he:∀ i,i<N->f' i=f i)(x:Nat):f x=true↔iI E cs x:=
 ⟨λhx=>Tk hE (λy hy=>(hd y).1 (by rw[he y (h.lt y hy)];exact hy)) (h.lt x hx) hx,h.all x⟩
theorem aav{E:Nat->Nat->Prop}{N:Nat}{cs:List (Nat->Bool)}{f f':Nat->Bool}(h:Hd E N cs f)(hd:∀ x,f' x=true↔lQ E cs (λy=>f y=true) x)(hne:¬ ∀ i,i<N->f' i=f i):iy f' N<iy f N:=by
 obtain⟨i,hi,hf⟩:∃ i,i<N/\f' i≠f i:=aBp λhh=>hne λi hi=>aBp λhx=>hh ⟨i,hi,hx⟩;have hs:∀ x,f' x=true->f x=true:=λx hx=>h.sub x ((hd x).1 hx);have h1:f' i=false:=by
  cases e:f' i with
  | false=>rfl
  | true=>rw[e,hs i e]at hf;exact absurd rfl hf
 have h2:f i=true:=by
  cases e:f i with
  | true=>rfl
  | false=>rw[e,h1]at hf;exact absurd rfl hf
 exact WC h1 h2 N hi (λx _=>hs x)
theorem ZZ(j:Nat):upd (upTo (λ_=>true) j) j true=upTo (λ_=>true) (j+1):=qV (λ_=>true) j
theorem Hr(P gi n bY:Nat)(ns:List Nd)(into:Nat->List (Nat × Nat))(cs:List (Nat->Bool))(w:World)(h8:ns.length<=8)(hp:uV n into)(mF:uN w P ns)(hP:P<w.heap.size)(hcm:qC w P cs)(hcl:cs.length<=8)(hw:nY w gi n into) :
  Calls Tryz.prog 90 #[.pointer (some ⟨P,0,none⟩),.agg #[.slice (some ⟨gi,0,none⟩) n bY]] w λe w'=>∃ g' f,e=.returned (.slice (some ⟨g',0,none⟩) n n)/\w.heap.size<=g'/\g'<w'.heap.size/\bU w' g' (n*256) f/\(∀ x,f x=true↔iI (Ew n ns into) (spreads cs) x)/\Below w.heap.size w w':=by
 have hn:=hp.le;have HP:=hid hp;have HM:=hid mF;have HW:=hid hw;have UD:=hid hcm;have zD:=hw.lt;have HEF:Hid (∀ a b,Ew n ns into a b->a<n*256):=hid (λa b h=>MI h8 hp h);clear hp mF hw hcm;go_enter Tryz.func90,Tryz.ntmps90;go_wp2_with (at_make;go_must (refine iV _ rfl (.tmp 11) rfl n rfl (by omega) ?_));intro w1 F1 iw aM;have C1:Hid (w1.cell? ⟨w.heap.size,0,none⟩=some (.slice (some ⟨gi,0,none⟩) n bY)):=hid ((aM.cell (p:=⟨w.heap.size,0,none⟩) (by show w.heap.size<w.heap.size+1;omega)).trans (by simp));have aK:=hid (((aAW w.heap.size w).alloc (aAU _) (.cells #[.slice (some ⟨gi,0,none⟩) n bY] 159)).trans (aM.mono (by omega)));have F1:=hid F1;clear aM;go_wp2_with fail
 go_loopw [15] (λi wq=>∃ t:Nat,t<=n/\i=.int .i64 t/\Hid (bU wq (w.heap.size+1) (n*256) (upTo (λ_=>true) (t*256)))/\Hid (wq.cell? ⟨w.heap.size,0,none⟩=some (.slice (some ⟨gi,0,none⟩) n bY))/\w.heap.size+1<wq.heap.size/\Hid (Below w.heap.size w wq)) (λi _=>n - (intOf i).toNat)
 case atStart=>exact⟨0,aA8 _,rfl,by rw[Nat.zero_mul,qU];exact F1,C1,iw,aK⟩
 case round=>
  obtain⟨t,ht,rfl,H5,HC,hz,HB⟩:=hrel;rename World=>W0;by_cases hlt:t<n
  ·go_wp2_with fail
   go_loopw [18] (λi wq=>∃ j:Nat,j<=256/\i=.int .i64 j/\Hid (bU wq (w.heap.size+1) (n*256) (upTo (λ_=>true) (t*256+j)))/\Hid (wq.cell? ⟨w.heap.size,0,none⟩=some (.slice (some ⟨gi,0,none⟩) n bY))/\w.heap.size+1<wq.heap.size/\Hid (Below w.heap.size w wq)) (λi _=>256 - (intOf i).toNat)
   case atStart=>exact⟨0,by omega,rfl,H5,HC,hz,HB⟩
   case round=>
    obtain⟨j,hj,rfl,H5,HC,Ki,HB⟩:=hrel;rename World=>W3;by_cases eQ:j<256
    ·have q0:=H5.out.f (t*256+j) (by omega);have q1:=H5.out.c (t*256+j) (by omega);have D5:=hid (H5.out.set (t*256+j) true);rw[ZZ]at D5;have DC:Hid ((W3.setCell ⟨w.heap.size+1,t*256+j,none⟩ (.bool true)).cell? ⟨w.heap.size,0,none⟩=some (.slice (some ⟨gi,0,none⟩) n bY)):=hid (by
      rw[aA0 _ _ _ _ (λe=>by have:=congrArg Addr.block e;simp at this)];exact HC.out)
     have DB:=hid (HB.out.setCell (p:=⟨w.heap.size+1,t*256+j,none⟩) (by show w.heap.size<=w.heap.size+1;omega) (.bool true));generalize upTo (λ_=>true) (t*256+j) (t*256+j)=ov at *;go_wp2_with fail;go_roundw
     case rel=>exact⟨j+1,by omega,by go_num,D5,DC,by simp;omega,DB⟩
     case measure=>simp[intOf];omega
    ·obtain rfl:j=256:=by omega
     go_wp2_with fail;go_roundw
     case rel=>exact⟨t+1,by omega,by go_num,by rw[show (t+1)*256=t*256+256 by omega];exact H5,HC,Ki,HB⟩
     case measure=>simp[intOf];omega
  ·obtain rfl:t=n:=by omega
   have H5:=hid (H5.out.congr (f':=λx=>decide (x<t*256)) (λj hj=>by simp[upTo,hj]));go_wp2_with fail
   go_loopw [5] (λv wq=>∃ (g2:Nat) (f:Nat->Bool),v=.slice (some ⟨g2,0,none⟩) t t/\w.heap.size<=g2/\g2<wq.heap.size/\Hid (bU wq g2 (t*256) f)/\Hid (Hd (Ew t ns into) (t*256) (spreads cs) f)/\Hid (wq.cell? ⟨w.heap.size,0,none⟩=some (.slice (some ⟨gi,0,none⟩) t bY))/\w.heap.size<wq.heap.size/\Hid (Below w.heap.size w wq)) (λv wq=>En wq (WK v) (t*256))
   case atStart=>exact⟨_,_,rfl,by omega,hz,H5,hid (Yj HEF.out _),HC,by omega,HB⟩
   case round=>
    obtain⟨g2,f,rfl,oV,R4,HF,HI,HC,hsz,HB⟩:=hrel;rename World=>W4;have hc:=HC.out;have Um:=hid (uY HF.out _ (aAU _));go_wp2_with fail;refine(aeM P gi t bY g2 t ns into cs f W4 h8 HP.out (HM.out.below HB.out hP) (by omega) (UD.out.below HB.out hP) hcl (HW.out.below HB.out) HF.out R4).mono ?_;rintro e w5 ⟨g5,f5,rfl,hg5,aek,F5,L5,bV⟩;have UB:=hid (HF.out.below bV R4);have C5:=hid ((bV.cell (p:=⟨w.heap.size,0,none⟩) hsz).trans HC.out);have B5:=hid (HB.out.trans (bV.mono (by omega)));have F5:=hid F5;have L5:=hid L5;have tL:=bV.size;clear bV hc;go_wp2_with fail;refine(adl g5 g2 t t t f5 f w5 (by omega) F5.out UB.out aek (by omega)).mono ?_;rintro e w6 ⟨b,rfl,dm,jG⟩;have PN:=hid dm;have tK:=jG.size;cases b with
    | true=>
     have HE:=hid (λx=>aaw (λa b h=>age a b h) HI.out L5.out (PN.out.1 rfl) x);have F6:=hid (UB.out.below jG (by omega));have B6:=hid (B5.out.trans (jG.mono (by omega)));clear jG dm;go_wp2_with fail;go_ret;exact⟨g2,f,rfl,oV,by omega,F6.out,HE.out,B6.out⟩
    | false=>
     have HL:=hid (aav HI.out L5.out (λk=>by simpa using PN.out.2 k));have HN:=hid (aau HEF.out HI.out L5.out);have F6:=hid (F5.out.below jG aek);have B6:=hid (B5.out.trans (jG.mono (by omega)));have C6:=hid ((jG.cell (p:=⟨w.heap.size,0,none⟩) (by show w.heap.size<w5.heap.size;omega)).trans C5.out);clear jG dm;go_wp2_with fail;go_roundw
     case rel=>exact⟨g5,f5,rfl,by omega,by omega,F6,HN,C6,by omega,B6⟩
     case measure=>
      have h1:=uY F6.out _ (aAU _);have h2:=HL.out;have h3:=Um.out;simp only[WK]at *;simp;omega
def mU(ws:List (Nat × Nat)):List Value:=ws.flatMap λs=>[.int .i64 (s.1:Nat),.int .i64 (s.2:Nat)]
theorem YL(ws:List (Nat × Nat))(s:Nat × Nat):mU (ws++[s])=mU ws++[.int .i64 (s.1:Nat),.int .i64 (s.2:Nat)]:=by simp[mU]
theorem OV{ws:List (Nat × Nat)}{i:Nat}{s:Nat × Nat}(h:ws[i]?=some s):(mU ws)[i*2]?=some (.int .i64 (s.1:Nat))/\(mU ws)[i*2+1]?=some (.int .i64 (s.2:Nat)):=by
 induction ws generalizing i with
 | nil=>simp at h
 | cons p ps ih=>
  cases i with
  | zero=>simp at h;subst h;simp[mU]
  | succ i=>
   have:=ih (by simpa using h);rw[show mU (p::ps)=[.int .i64 (p.1:Nat),.int .i64 (p.2:Nat)]++mU ps by simp[mU]];rw[aBa (by simp;omega),aBa (by simp;omega)];simpa [show (i+1)*2 - 2=i*2 by omega,show (i+1)*2+1 - 2=i*2+1 by omega] using this
def Cj(f:Nat->List (Nat × Nat))(b:Nat)(l:List (Nat × Nat)):Nat->List (Nat × Nat):=λi=>if i=b then l else f i
theorem XX(V:Nat->Value)(N b:Nat)(x:Value):((List.range N).map V).set b x=(List.range N).map (λi=>if i=b then x else V i):=by
 apply List.ext_getElem
 ·simp
 ·intro i h1 h2;simp at h1;rw[List.getElem_set];simp only[List.getElem_map,List.getElem_range];by_cases e:b=i
  ·rw[aBU e,aBU e.symm]
  ·rw[aBT e,aBT (λh=>e h.symm)]
structure nG (w:World) (T g2 n:Nat) (V:Nat->Value) (tl:Nat->List (Nat × Nat)):Prop where
 lt:g2<T
 cell:w.cell? ⟨T,0,none⟩=some (.slice (some ⟨g2,0,none⟩) n n)
 out:w.ownsRow g2 222 1 (.slice (some ⟨g2,0,none⟩) n n) n ((List.range n).map V)
 row:∀ j,j<n->w.ownsRow (T+1) 224 2 (V j) (tl j).length (mU (tl j))
 sep:∀ i j,i<n->j<n->i≠j->(V i).ownBlock=none\/(V i).ownBlock≠(V j).ownBlock
theorem nG.Tlt{w:World}{T g2 n:Nat}{V:Nat->Value}{tl:Nat->List (Nat × Nat)}(h:nG w T g2 n V tl):T<w.heap.size:=World.block_lt_of_cell? w ⟨T,0,none⟩ h.cell
theorem nG.keeps{w w':World}{T g2 n:Nat}{V:Nat->Value}{tl:Nat->List (Nat × Nat)}(h:nG w T g2 n V tl)(hb:Below w.heap.size w w'):nG w' T g2 n V tl:=
 ⟨h.lt,(hb.cell (p:=⟨T,0,none⟩) h.Tlt).trans h.cell,ae h.out hb,λj hj=>ae (h.row j hj) hb,h.sep⟩
theorem Cf{w w1:World}{T g2 n:Nat}{V:Nat->Value}{tl:Nat->List (Nat × Nat)}(h:nG w T g2 n V tl){b gg cc:Nat}{s:Nat × Nat}(hb:b<n)(hgrow:w.grownBy w1 (V b).ownBlock)
  (hown:w1.ownsRow (T+1) 224 2 (.slice (some ⟨gg,0,none⟩) ((tl b).length+1) cc) ((tl b).length+1) (mU (tl b)++[.int .i64 (s.1:Nat),.int .i64 (s.2:Nat)])) (hat:(V b).ownBlock=some gg\/gg=w.heap.size) :
  nG (w1.setCell ⟨g2,b,none⟩ (.slice (some ⟨gg,0,none⟩) ((tl b).length+1) cc)) T g2 n (λi=>if i=b then .slice (some ⟨gg,0,none⟩) ((tl b).length+1) cc else V i) (Cj tl b (tl b++[s])):=by
 have hT:=h.Tlt;have hlt:=h.lt;have key:∀ j,j<n->j≠b->(V j).ownBlock=none\/(V j).ownBlock≠some gg:=by
  intro j hj hne;rcases hat with e | e
  ·rw[<-e];exact h.sep j b hj hb hne
  ·cases ho:(V j).ownBlock with
   | none=>exact aA2 rfl
   | some q=>
    have:=((h.row j hj).lt q ho).2;exact aA3 (λe2=>by cases e2;omega)
 have ho1:=h.out.kept hgrow (aC h.out (h.row b hb) (by decide));have Am:=ho1.stored b (.slice (some ⟨gg,0,none⟩) ((tl b).length+1) cc);rw[XX]at Am;have hne:∀ (v:Value) (n:Nat) (xs:List Value),w1.ownsRow (T+1) 224 2 v n xs->(w1.setCell ⟨g2,b,none⟩ (.slice (some ⟨gg,0,none⟩) ((tl b).length+1) cc)).ownsRow (T+1) 224 2 v n xs:=by
  intro v n xs hv;exact hv.kept Am.2 (aC hv ho1 (by decide))
 have hc:w1.cell? ⟨T,0,none⟩=some (.slice (some ⟨g2,0,none⟩) n n):=hgrow.cell h.cell (λe=>by
  have:=((h.row b hb).lt T e.symm).1;omega)
 refine⟨h.lt,?_,Am.1,λj hj=>?_,λi j hi hj hij=>?_⟩
 ·rw[aA0 _ _ _ _ (λe=>by have:=congrArg Addr.block e;simp at this;omega)];exact hc
 ·unfold Cj;by_cases e:j=b
  ·subst e;simp only[if_true];have:=hne _ _ _ hown;rw[<-YL]at this;rw[aA5,aBn];exact this
  ·simp only[aBT e];exact hne _ _ _ ((h.row j hj).kept hgrow (h.sep j b hj hb e))
 ·by_cases e1:i=b
  ·have e2:j≠b:=λe=>hij (e1.trans e.symm);simp only[aBU e1,aBT e2]
   right
   intro e;rcases key j hj e2 with k | k
   ·rw[k]at e;simp[Value.ownBlock]at e
   ·exact k e.symm
  ·by_cases e2:j=b
   ·simp only[aBT e1,aBU e2];exact key i hi e1
   ·simp only[aBT e1,aBT e2];exact h.sep i j hi hj hij
theorem nG.ways{w:World}{T g2 n:Nat}{V:Nat->Value}{tl:Nat->List (Nat × Nat)}(h:nG w T g2 n V tl):nY w g2 n tl:=by
 refine⟨(h.out.lt _ rfl).2,λt ht=>?_⟩;obtain⟨ao,cap,e⟩:=ai (h.row t ht);refine⟨ao,cap,?_,λh0=>?_⟩
 ·rw[h.out.cellAt t (by omega)];simp[aBk,aBx ht,e]
 ·have hr:=h.row t ht;rw[e]at hr;obtain⟨gr,e2,h1,h2,h3⟩:=dX hr h0;subst e2;refine⟨gr,rfl,h2,λj st hj=>?_⟩;have hl:=(aA1.1 hj).1;exact⟨(hr.cellAt (j*2) (by omega)).trans (OV hj).1,(hr.cellAt (j*2+1) (by omega)).trans (OV hj).2⟩
theorem Tryz.Rt:(Tryz.prog.info? 224).map (λi=>(i.zero,i.size,i.bytes))=some (some (.agg #[.int .i64 0,.int .i64 0]),2,16):=by kernel_rfl
theorem acM(T g2 n fr l to:Nat)(V:Nat->Value)(tl:Nat->List (Nat × Nat))(w:World)(hm:nG w T g2 n V tl)(hn:n<=1099511627776)(Kr:fr<n)(hl:l<8)(hto:to<n)(hlen:(tl to).length<=1099511627776) :
  Calls Tryz.prog 130 #[.pointer (some ⟨T,0,none⟩),.int .i64 fr,.int .i64 l,.int .i64 to] w λe w'=>e=.returned (.tuple #[])/\(∃ V',nG w' T g2 n V' (Cj tl to (tl to++[(fr,l)])))/\Below g2 w w':=by
 obtain⟨i0,hi,aR,aP,aN⟩:=info_parts Tryz.Rt;have cT:=hm.cell;have hT:=hm.Tlt;have hgT:=hm.lt;have own:=hm.row to hto;have cV:w.cell? ⟨g2,to,none⟩=some (V to):=(hm.out.cellAt to (by omega)).trans (by simp[aBk,aBx hto]);have HM:=hid hm;have oV:g2<w.heap.size:=by omega
 obtain⟨ao,cp,eV⟩:=ai own;have HV:=hid eV;rw[eV]at cV own;generalize Ko:(tl to).length=ln at *;have bZ:=hid Ko;have OW:=hid own;clear hm eV Ko own;go_enter Tryz.func130,Tryz.ntmps130;go_wp2_with fail;refine wp_region_held_drew (S:=λw'=>w'.cell? ⟨T,0,none⟩=some (.slice (some ⟨g2,0,none⟩) n n)) (by kernel_rfl) cT (λau=>?_);refine aA4 (i:=0) (oi:={ dst:=some 36,op:=Op.move (.tmp 0),type:=_,pos:=_,after:=_,guard:=none }) (v:=(Value.pointer (some ⟨T,0,none⟩))) rfl (by kernel_rfl) (by kernel_rfl) (by kernel_rfl) (λ_ _ _ h=>h) (aA2 ⟨by rfl,by intro w' af;(try dsimp only at af);go_simp⟩) (by assumption) ?_
 simp only[Act.put,aAT,aAX,aAY];refine aA4 (i:=1) (oi:={ dst:=some 37,op:=Op.nilCheck (.tmp 36),type:=_,pos:=_,after:=_,guard:=none }) (v:=(Value.pointer (some ⟨T,0,none⟩))) rfl (by kernel_rfl) (by kernel_rfl) (by kernel_rfl) (λ_ _ _ h=>h) (aA2 ⟨by rfl,by intro w' af;(try dsimp only at af);go_simp⟩) (by assumption) ?_
 simp only[Act.put,aAT,aAX,aAY];refine aA4 (i:=2) (oi:={ dst:=some 38,op:=Op.fieldAddr _ (.tmp 37) 0,type:=_,pos:=_,after:=_,guard:=none }) (v:=(Value.pointer (some ⟨T,0,none⟩))) rfl (by kernel_rfl) (by kernel_rfl) (by kernel_rfl) (λ_ _ _ h=>h) (aA2 ⟨by rfl,by intro w' af;(try dsimp only at af);go_simp⟩) (by assumption) ?_
 simp only[Act.put,aAT,aAX,aAY];refine aA4 (i:=3) (oi:={ dst:=some 39,op:=Op.load _ (.tmp 38),type:=_,pos:=_,after:=_,guard:=none }) (v:=(Value.slice (some ⟨g2,0,none⟩) n n)) rfl (by kernel_rfl) (by kernel_rfl) (by kernel_rfl) (λ_ _ _ h=>h) (aA2 ⟨by rfl,by intro w' af;(try dsimp only at af);go_simp⟩) (by assumption) ?_
 simp only[Act.put,aAT,aAX,aAY];refine aA4 (i:=4) (oi:={ dst:=some 40,op:=Op.move (.tmp 3),type:=_,pos:=_,after:=_,guard:=none }) (v:=(Value.int .i64 (to:Nat))) rfl (by kernel_rfl) (by kernel_rfl) (by kernel_rfl) (λ_ _ _ h=>h) (aA2 ⟨by rfl,by intro w' af;(try dsimp only at af);go_simp⟩) (by assumption) ?_
 simp only[Act.put,aAT,aAX,aAY];refine aA4 (i:=5) (oi:={ dst:=some 41,op:=Op.move (.tmp 0),type:=_,pos:=_,after:=_,guard:=none }) (v:=(Value.pointer (some ⟨T,0,none⟩))) rfl (by kernel_rfl) (by kernel_rfl) (by kernel_rfl) (λ_ _ _ h=>h) (aA2 ⟨by rfl,by intro w' af;(try dsimp only at af);go_simp⟩) (by assumption) ?_
 simp only[Act.put,aAT,aAX,aAY];refine aA4 (i:=6) (oi:={ dst:=some 42,op:=Op.nilCheck (.tmp 41),type:=_,pos:=_,after:=_,guard:=none }) (v:=(Value.pointer (some ⟨T,0,none⟩))) rfl (by kernel_rfl) (by kernel_rfl) (by kernel_rfl) (λ_ _ _ h=>h) (aA2 ⟨by rfl,by intro w' af;(try dsimp only at af);go_simp⟩) (by assumption) ?_
 simp only[Act.put,aAT,aAX,aAY];refine aA4 (i:=7) (oi:={ dst:=some 43,op:=Op.fieldAddr _ (.tmp 42) 0,type:=_,pos:=_,after:=_,guard:=none }) (v:=(Value.pointer (some ⟨T,0,none⟩))) rfl (by kernel_rfl) (by kernel_rfl) (by kernel_rfl) (λ_ _ _ h=>h) (aA2 ⟨by rfl,by intro w' af;(try dsimp only at af);go_simp⟩) (by assumption) ?_
 simp only[Act.put,aAT,aAX,aAY];refine aA4 (i:=8) (oi:={ dst:=some 44,op:=Op.load _ (.tmp 43),type:=_,pos:=_,after:=_,guard:=none }) (v:=(Value.slice (some ⟨g2,0,none⟩) n n)) rfl (by kernel_rfl) (by kernel_rfl) (by kernel_rfl) (λ_ _ _ h=>h) (aA2 ⟨by rfl,by intro w' af;(try dsimp only at af);go_simp⟩) (by assumption) ?_
 simp only[Act.put,aAT,aAX,aAY];refine aA4 (i:=9) (oi:={ dst:=some 45,op:=Op.move (.tmp 3),type:=_,pos:=_,after:=_,guard:=none }) (v:=(Value.int .i64 (to:Nat))) rfl (by kernel_rfl) (by kernel_rfl) (by kernel_rfl) (λ_ _ _ h=>h) (aA2 ⟨by rfl,by intro w' af;(try dsimp only at af);go_simp⟩) (by assumption) ?_
 simp only[Act.put,aAT,aAX,aAY];refine aA4 (i:=10) (oi:={ dst:=some 46,op:=Op.indexAddr _ (.tmp 44) (.tmp 45),type:=_,pos:=_,after:=_,guard:=none }) (v:=(Value.pointer (some ⟨g2,to,none⟩))) rfl (by kernel_rfl) (by kernel_rfl) (by kernel_rfl) (λ_ _ _ h=>h) (aA2 ⟨by rfl,by intro w' af;(try dsimp only at af);go_simp⟩) (by assumption) ?_
 simp only[Act.put,aAT,aAX,aAY];refine aA4 (i:=12) (oi:={ dst:=some 48,op:=Op.move (.tmp 1),type:=_,pos:=_,after:=_,guard:=none }) (v:=(Value.int .i64 (fr:Nat))) rfl (by kernel_rfl) (by kernel_rfl) (by kernel_rfl) (λ_ _ _ h=>h) (aA2 ⟨by rfl,by intro w' af;(try dsimp only at af);go_simp⟩) (by assumption) ?_
 simp only[Act.put,aAT,aAX,aAY];refine aA4 (i:=13) (oi:={ dst:=some 49,op:=Op.move (.tmp 2),type:=_,pos:=_,after:=_,guard:=none }) (v:=(Value.int .i64 (l:Nat))) rfl (by kernel_rfl) (by kernel_rfl) (by kernel_rfl) (λ_ _ _ h=>h) (aA2 ⟨by rfl,by intro w' af;(try dsimp only at af);go_simp⟩) (by assumption) ?_
 simp only[Act.put,aAT,aAX,aAY];refine aA4 (i:=14) (oi:={ dst:=some 50,op:=Op.build _ #[(0,.tmp 48),(1,.tmp 49)],type:=_,pos:=_,after:=_,guard:=none }) (v:=(Value.agg #[Value.int .i64 (fr:Nat),Value.int .i64 (l:Nat)])) rfl (by kernel_rfl) (by kernel_rfl) (by kernel_rfl) (λ_ _ _ h=>h) (aA2 ⟨by rfl,by intro w' af;(try dsimp only at af);go_simp⟩) (by assumption) ?_
 simp only[Act.put,aAT,aAX,aAY];refine aBc (rs:=[11,15]) (by kernel_rfl) (by simp) ?_;refine aA7 rfl (λK hK=>?_) (aA7 rfl (λK hK=>?_) aBb)
 ·go_simp
  refine hK.out _ _ (by assumption) (λau=>?_);clear hK K;refine aBc (rs:=[15]) (by kernel_rfl) (by simp) ?_;refine aA7 rfl (λK hK=>?_) aBb
  go_simp
  refine hK.out _ _ ?hs (λau=>?_)
  case hs=>first | go_keep | simp[*]
  clear hK K;refine aBc (rs:=[16]) (by kernel_rfl) (by simp) ?_;refine aA7 rfl (λK hK=>?_) aBb;refine aBN _ (by rfl) (.tmp 47) (.tmp 51) 222 (by rfl) (T+1) 224 i0 (.agg #[.int .i64 0,.int .i64 0]) 2 16 Tryz.underlying222 hi aR aP aN rfl (by decide) _ ln (mU (tl to)) (by rfl) ((OW.out.alloc _).drew) ⟨w.heap.size,0,none⟩ 1 1 [.int .i64 (fr:Nat),.int .i64 (l:Nat)] (by rfl) (by rfl) (World.news_of_block (cs:=#[.int .i64 (fr:Nat),.int .i64 (l:Nat)]) (t:=224) (fr:=(0,0)) (heap_alloc_new w _)) (by simp[Value.oneCell']) (by decide) (by unfold maxLen;omega) (by omega) (by simp;omega) (w.heap.size+1) (by simp) ?_;intro gg cc w2 hown hgrow hat gu;have iL:nG (w.alloc (.cells #[.int .i64 (fr:Nat),.int .i64 (l:Nat)] 224)).drew T g2 n V tl:=HM.out.keeps (aBd ((aAW w.heap.size w).alloc (aAU _) (.cells #[.int .i64 (fr:Nat),.int .i64 (l:Nat)] 224)) 1);have jO:(w.alloc (.cells #[.int .i64 (fr:Nat),.int .i64 (l:Nat)] 224)).drew.grownBy w2 (V to).ownBlock:=by rw[HV.out];exact hgrow
  have O2:=iL.out.kept jO (aC iL.out (iL.row to hto) (by decide));have d1:=O2.frozenAt to;have d0:w2.cell? ⟨g2,to,none⟩=some (V to):=(O2.cellAt to (by omega)).trans (by simp[aBk,aBx hto]);have bR:Below (T+1) w w2:=(aBd ((aAW (T+1) w).alloc (by omega) (.cells #[.int .i64 (fr:Nat),.int .i64 (l:Nat)] 224)) 1).grown hgrow (by show T+1<=(w.alloc (.cells #[.int .i64 (fr:Nat),.int .i64 (l:Nat)] 224)).heap.size;rw[aAZ];omega) (λx h=>(OW.out.lt x h).1);have TM:=hid (Cf iL hto (s:=(fr,l)) jO (by rw[bZ.out];exact hown) (by rw[HV.out];rcases hat with h | h;exact aA2 h;exact aA3 (by rw[h];exact(aAZ ..).symm)));rw[bZ.out]at TM;have BB:=hid ((bR.mono (by omega:g2<=T+1)).setCell (p:=⟨g2,to,none⟩) (aAU _) (.slice (some ⟨gg,0,none⟩) (ln+1) cc));have e1:w2.cell? ⟨T,0,none⟩=some (.slice (some ⟨g2,0,none⟩) n n):=(bR.cell (p:=⟨T,0,none⟩) (aBs _)).trans cT;have jw:=hid (TM.out.cell);refine hK.out _ _ e1 (λau=>?_);clear hK K O2 iL bR hown hgrow jO hat;simp only[Act.put,aAT];refine aA4 (i:=17) (oi:={ dst:=some 53,op:=Op.indexAddr _ (.tmp 39) (.tmp 40),type:=_,pos:=_,after:=_,guard:=none }) (v:=(Value.pointer (some ⟨g2,to,none⟩))) rfl (by kernel_rfl) (by kernel_rfl) (by kernel_rfl) (λ_ _ _ h=>h) (aA2 ⟨by rfl,by intro w' af;(try dsimp only at af);go_simp⟩) (by assumption) ?_
  simp only[Act.put];refine aBc (rs:=[18]) (by kernel_rfl) (by simp) ?_;refine aA7 rfl (λK hK=>?_) aBb
  go_simp
  refine hK.out _ _ jw.out (λau=>?_);clear hK K;refine aBS (by kernel_rfl) ?_ _;clear au e1 d0 d1;go_wp2_with fail
  go_end0
  exact⟨rfl,⟨_,TM.out⟩,BB.out⟩
 ·go_simp
  refine hK.out _ _ ?hs (λau=>?_)
  case hs=>first | go_keep | simp[*]
  clear hK K;refine aBc (rs:=[11]) (by kernel_rfl) (by simp) ?_;refine aA7 rfl (λK hK=>?_) aBb
  go_simp
  refine hK.out _ _ (by assumption) (λau=>?_);clear hK K;refine aBc (rs:=[16]) (by kernel_rfl) (by simp) ?_;refine aA7 rfl (λK hK=>?_) aBb;refine aBN _ (by rfl) (.tmp 47) (.tmp 51) 222 (by rfl) (T+1) 224 i0 (.agg #[.int .i64 0,.int .i64 0]) 2 16 Tryz.underlying222 hi aR aP aN rfl (by decide) _ ln (mU (tl to)) (by rfl) ((OW.out.alloc _).drew) ⟨w.heap.size,0,none⟩ 1 1 [.int .i64 (fr:Nat),.int .i64 (l:Nat)] (by rfl) (by rfl) (World.news_of_block (cs:=#[.int .i64 (fr:Nat),.int .i64 (l:Nat)]) (t:=224) (fr:=(0,0)) (heap_alloc_new w _)) (by simp[Value.oneCell']) (by decide) (by unfold maxLen;omega) (by omega) (by simp;omega) (w.heap.size+1) (by simp) ?_;intro gg cc w2 hown hgrow hat gu;have iL:nG (w.alloc (.cells #[.int .i64 (fr:Nat),.int .i64 (l:Nat)] 224)).drew T g2 n V tl:=HM.out.keeps (aBd ((aAW w.heap.size w).alloc (aAU _) (.cells #[.int .i64 (fr:Nat),.int .i64 (l:Nat)] 224)) 1);have jO:(w.alloc (.cells #[.int .i64 (fr:Nat),.int .i64 (l:Nat)] 224)).drew.grownBy w2 (V to).ownBlock:=by rw[HV.out];exact hgrow
  have O2:=iL.out.kept jO (aC iL.out (iL.row to hto) (by decide));have d1:=O2.frozenAt to;have d0:w2.cell? ⟨g2,to,none⟩=some (V to):=(O2.cellAt to (by omega)).trans (by simp[aBk,aBx hto]);have bR:Below (T+1) w w2:=(aBd ((aAW (T+1) w).alloc (by omega) (.cells #[.int .i64 (fr:Nat),.int .i64 (l:Nat)] 224)) 1).grown hgrow (by show T+1<=(w.alloc (.cells #[.int .i64 (fr:Nat),.int .i64 (l:Nat)] 224)).heap.size;rw[aAZ];omega) (λx h=>(OW.out.lt x h).1);have TM:=hid (Cf iL hto (s:=(fr,l)) jO (by rw[bZ.out];exact hown) (by rw[HV.out];rcases hat with h | h;exact aA2 h;exact aA3 (by rw[h];exact(aAZ ..).symm)));rw[bZ.out]at TM;have BB:=hid ((bR.mono (by omega:g2<=T+1)).setCell (p:=⟨g2,to,none⟩) (aAU _) (.slice (some ⟨gg,0,none⟩) (ln+1) cc));have e1:w2.cell? ⟨T,0,none⟩=some (.slice (some ⟨g2,0,none⟩) n n):=(bR.cell (p:=⟨T,0,none⟩) (aBs _)).trans cT;have jw:=hid (TM.out.cell);refine hK.out _ _ e1 (λau=>?_);clear hK K O2 iL bR hown hgrow jO hat;simp only[Act.put,aAT];refine aA4 (i:=17) (oi:={ dst:=some 53,op:=Op.indexAddr _ (.tmp 39) (.tmp 40),type:=_,pos:=_,after:=_,guard:=none }) (v:=(Value.pointer (some ⟨g2,to,none⟩))) rfl (by kernel_rfl) (by kernel_rfl) (by kernel_rfl) (λ_ _ _ h=>h) (aA2 ⟨by rfl,by intro w' af;(try dsimp only at af);go_simp⟩) (by assumption) ?_
  simp only[Act.put];refine aBc (rs:=[18]) (by kernel_rfl) (by simp) ?_;refine aA7 rfl (λK hK=>?_) aBb
  go_simp
  refine hK.out _ _ jw.out (λau=>?_);clear hK K;refine aBS (by kernel_rfl) ?_ _;clear au e1 d0 d1;go_wp2_with fail
  go_end0
  exact⟨rfl,⟨_,TM.out⟩,BB.out⟩
