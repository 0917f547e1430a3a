import Derived.Test.YtjagijohfkffiabGreatFREM38
set_option maxHeartbeats 16000000
set_option maxRecDepth 100000
set_option linter.unusedSimpArgs false
namespace Go.Proofs.YtjagijohfkffiabGreat
open Go.RowKit
set_option linter.unusedVariables false
structure zV (w:World) (g n:Nat) (lt:Nat->Nat) (ed:Nat->Nat->Bool) (st:Nat->Bool):Prop where
 blk:g<w.heap.size
 l:∀ i,i<n->w.cell? ⟨g,i*8,none⟩=some (.int .i64 (lt i:Nat))
 e:∀ i j,i<n->j<6->w.cell? ⟨g,i*8+(1+j),none⟩=some (.bool (ed i j))
 s:∀ i,i<n->w.cell? ⟨g,i*8+7,none⟩=some (.bool (st i))
theorem zV.below{w w':World}{g n:Nat}{lt:Nat->Nat}{ed:Nat->Nat->Bool}{st:Nat->Bool}(h:zV w g n lt ed st){B:Nat}(hb:Below B w w')(hB:B<=w.heap.size)(hg:g<B):zV w' g n lt ed st:=
 ⟨aBi h.blk hb.size,λi hi=>(hb.cell (p:=⟨g,i*8,none⟩) hg).trans (h.l i hi),λi j hi hj=>(hb.cell (p:=⟨g,i*8+(1+j),none⟩) hg).trans (h.e i j hi hj),λi hi=>(hb.cell (p:=⟨g,i*8+7,none⟩) hg).trans (h.s i hi)⟩
structure wT (lt:Nat->Nat) (ed:Nat->Nat->Bool) (k l:Nat) (tl:Nat->List (Nat × Nat)):Prop where
 mem:∀ (t:Nat) (s:Nat × Nat),s∈tl t↔(s.1<k/\t<6\/s.1=k/\t<l)/\ed s.1 t=true/\s.2=lt s.1
 len:∀ t,(tl t).length<=6*k+l
theorem ae5(lt:Nat->Nat)(ed:Nat->Nat->Bool):wT lt ed 0 0 (λ_=>[]):=⟨λt s=>by simp,λt=>by simp⟩
theorem aiH{lt:Nat->Nat}{ed:Nat->Nat->Bool}{k:Nat}{tl:Nat->List (Nat × Nat)}(h:wT lt ed k 6 tl):wT lt ed (k+1) 0 tl:=
 ⟨λt s=>by rw[h.mem];constructor <;> rintro ⟨a,b⟩ <;> exact⟨by omega,b⟩,λt=>by have:=h.len t;omega⟩
theorem aiG{lt:Nat->Nat}{ed:Nat->Nat->Bool}{k l:Nat}{tl:Nat->List (Nat × Nat)}(h:wT lt ed k l tl)(he:ed k l=false):wT lt ed k (l+1) tl:=by
 refine⟨λt s=>?_,λt=>by have:=h.len t;omega⟩;rw[h.mem];constructor
 ·rintro ⟨a,b⟩;exact⟨by omega,b⟩
 ·rintro ⟨a,b,c⟩;refine⟨?_,b,c⟩;rcases a with a | ⟨a1,a2⟩
  ·exact aA2 a
  ·by_cases e:t=l
   ·subst e;rw[a1,he]at b;cases b
   ·exact aA3 ⟨a1,by omega⟩
theorem ali{lt:Nat->Nat}{ed:Nat->Nat->Bool}{k l:Nat}{tl:Nat->List (Nat × Nat)}(h:wT lt ed k l tl)(he:ed k l=true):wT lt ed k (l+1) (Cj tl l (tl l++[(k,lt k)])):=by
 refine⟨λt s=>?_,λt=>?_⟩
 ·unfold Cj;by_cases e:t=l
  ·subst e;rw[aBU rfl,aBy,h.mem];constructor
   ·rintro (⟨a,b⟩ | a)
    ·exact⟨by omega,b⟩
    ·simp at a;subst a;exact⟨aA3 ⟨rfl,by omega⟩,he,rfl⟩
   ·rintro ⟨a,b,c⟩;rcases a with a | ⟨a1,a2⟩
    ·exact aA2 ⟨aA2 a,b,c⟩
    ·right
     simp;exact Prod.ext a1 (by rw[c,a1])
  ·rw[aBT e,h.mem];constructor
   ·rintro ⟨a,b⟩;exact⟨by omega,b⟩
   ·rintro ⟨a,b⟩;exact⟨by omega,b⟩
 ·unfold Cj;by_cases e:t=l
  ·rw[aBU e,aA5];have:=h.len l;simp;omega
  ·rw[aBT e];have:=h.len t;omega
theorem aiF{lt:Nat->Nat}{ed:Nat->Nat->Bool}{n:Nat}{tl:Nat->List (Nat × Nat)}(h:wT lt ed n 0 tl)(hn:n<=6)(hlt:∀ i,i<n->lt i<8):uV n tl:=
 ⟨by omega,λt ht s hs=>by
  obtain⟨a,b,c⟩:=(h.mem t s).1 hs;have:s.1<n:=by omega
  exact⟨this,by rw[c];exact hlt _ this⟩,λt ht=>by have:=h.len t;omega⟩
theorem YW{ns:List Nd}{lt:Nat->Nat}{ed:Nat->Nat->Bool}{n:Nat}{tl:Nat->List (Nat × Nat)}(h:wT lt ed n 0 tl)(hn:n<=6){y a:Nat}:Ew n ns tl y a↔a<n*256/\∃ i,i<n/\ed i (a / 256)=true/\y=i*256+gY ns (lt i) (a % 256):=by
 unfold Ew;constructor
 ·rintro ⟨ha,s,hs,rfl⟩;obtain⟨h1,h2,h3⟩:=(h.mem _ _).1 hs;exact⟨ha,s.1,by omega,h2,by rw[h3]⟩
 ·rintro ⟨ha,i,h1,h2,rfl⟩;exact⟨ha,(i,lt i),(h.mem _ _).2 ⟨aA2 ⟨h1,by omega⟩,h2,rfl⟩,rfl⟩
theorem U8(e:Nat->Bool){l:Nat}(hl:l<6)(W:World):(Instr.index 151 (.agg #[.bool (e 0),.bool (e 1),.bool (e 2),.bool (e 3),.bool (e 4),.bool (e 5)]) (.int .i64 (l:Nat))).run Tryz.prog W=.ok (.bool (e l)) W:=by
 refine kr W Tryz.underlying151 (λw=>AU Tryz.underlying4 w) Tryz.Gb hl ?_;have:l=0\/l=1\/l=2\/l=3\/l=4\/l=5:=by omega
 rcases this with rfl | rfl | rfl | rfl | rfl | rfl <;> rfl
theorem ab1(g n cap:Nat)(lt:Nat->Nat)(ed:Nat->Nat->Bool)(st:Nat->Bool)(w:World)(h0:0<n)(hn:n<=6)(h:zV w g n lt ed st)(hlt:∀ i,i<n->lt i<8)(hed:∀ i j,i<n->ed i j=true->j<n) :
  Calls Tryz.prog 89 #[.slice (some ⟨g,0,none⟩) n cap] w λe w'=>∃ g2 tl,e=.returned (.agg #[.slice (some ⟨g2,0,none⟩) n n])/\nY w' g2 n tl/\wT lt ed n 0 tl/\Below w.heap.size w w':=by
 have HR:=hid h;have hg:=h.blk;have yK:=hid hlt;have Eg:=hid hed;clear h hlt hed;obtain⟨i0,hi,aR,aP,aN⟩:=info_parts Tryz.NY;go_enter Tryz.func89,Tryz.ntmps89;go_wp2_with (at_make;go_must (refine aBA _ rfl (.tmp 9) (.tmp 9) 157 rfl (w.heap.size+1) 222 i0 (.slice none 0 0) 1 Tryz.underlying157 hi aR aP .i64 .i64 n n n rfl rfl rfl rfl ?m2 ?m3 (by simp) ?_))
 case m2=>rw[aN];omega
 case m3=>unfold maxLen;omega
 intro w1 aF aZ;have eo:(madeCells #[Value.slice none 0 0] n).toList=(List.range n).map (λ_=>Value.slice none 0 0):=by
  rw[aBq];exact(List.eq_replicate_iff.2 ⟨by simp,λb hb=>by obtain⟨_,_,rfl⟩:=aBM.1 hb;rfl⟩).symm
 have o1:w1.ownsRow (w.heap.size+1) 222 1 (.slice (some ⟨w.heap.size+1,0,none⟩) n n) n ((List.range n).map (λ_=>Value.slice none 0 0)):=by
  rw[<-eo];exact aF
 have hlt:w.heap.size+1<w1.heap.size:=(o1.lt _ rfl).2;have b0:=((aAW (w.heap.size+1) (w.alloc (.cells #[.slice none 0 0] 159))).grown aZ (by simp) (λk h=>by cases h));have R0:w1.cell? ⟨w.heap.size,0,none⟩=some (.slice none 0 0):=(b0.cell (p:=⟨w.heap.size,0,none⟩) (by show w.heap.size<w.heap.size+1;omega)).trans (by simp);have R1:w1.frozen? ⟨w.heap.size,0,none⟩=false:=(b0.frozen (p:=⟨w.heap.size,0,none⟩) (by show w.heap.size<w.heap.size+1;omega)).trans (by simp);have aK:Hid (Below w.heap.size w w1):=hid (((aAW w.heap.size w).alloc (aAU _) (.cells #[.slice none 0 0] 159)).trans (b0.mono (by omega)));have M1:Hid (nG (w1.alloc (.cells #[.slice (some ⟨w.heap.size+1,0,none⟩) n n] 159)) w1.heap.size (w.heap.size+1) n (λ_=>.slice none 0 0) (λ_=>[])):=hid ⟨hlt,by simp,o1.alloc _,λj hj=>aBh _ _ _ _,λi j hi hj h=>aA2 rfl⟩;have HR1:Hid ((w1.alloc (.cells #[.slice (some ⟨w.heap.size+1,0,none⟩) n n] 159)).cell? ⟨w.heap.size,0,none⟩=some (.slice none 0 0)/\(w1.alloc (.cells #[.slice (some ⟨w.heap.size+1,0,none⟩) n n] 159)).frozen? ⟨w.heap.size,0,none⟩=false):=hid ⟨by rw[aBt _ _ _ (by show w.heap.size<w1.heap.size;omega)];exact R0,by rw[aBK _ _ _ (by show w.heap.size<w1.heap.size;omega)];exact R1⟩;have aW:=hid (aK.out.alloc (by omega) (.cells #[.slice (some ⟨w.heap.size+1,0,none⟩) n n] 159));clear aF aZ eo o1 b0 R0 R1 aK;go_wp2_with fail;generalize w1.heap.size=T at *
 go_loopw [14] (λi wq=>∃ (k:Nat) (V:Nat->Value) (tl:Nat->List (Nat × Nat)),k<=n/\i=.int .i64 k/\Hid (wT lt ed k 0 tl)/\Hid (nG wq T (w.heap.size+1) n V tl)/\Hid (wq.cell? ⟨w.heap.size,0,none⟩=some (.slice none 0 0)/\wq.frozen? ⟨w.heap.size,0,none⟩=false)/\Hid (Below w.heap.size w wq)) (λi _=>n - (intOf i).toNat)
 case atStart=>exact⟨0,_,_,by omega,rfl,hid (ae5 lt ed),M1,HR1,aW⟩
 case round=>
  obtain⟨k,V,tl,hk,rfl,HW,HM,oh,HB⟩:=hrel;rename World=>W0;have tO:=HM.out.Tlt;have hTg:=HM.out.lt;by_cases hlk:k<n
  ·have r:=HR.out.below HB.out (aAU _) hg;have q0:=r.l k hlk;have q1:W0.cell? ⟨g,k*8+1,none⟩=some (.bool (ed k 0)):=r.e k 0 hlk (by omega);have q2:W0.cell? ⟨g,k*8+2,none⟩=some (.bool (ed k 1)):=r.e k 1 hlk (by omega);have q3:W0.cell? ⟨g,k*8+3,none⟩=some (.bool (ed k 2)):=r.e k 2 hlk (by omega);have q4:W0.cell? ⟨g,k*8+4,none⟩=some (.bool (ed k 3)):=r.e k 3 hlk (by omega);have q5:W0.cell? ⟨g,k*8+5,none⟩=some (.bool (ed k 4)):=r.e k 4 hlk (by omega);have q6:W0.cell? ⟨g,k*8+6,none⟩=some (.bool (ed k 5)):=r.e k 5 hlk (by omega);have q7:=r.s k hlk;have hs:=HB.out.size;clear r;have Ij:=hid ((aAW W0.heap.size W0).alloc (aAU _) (.cells #[.int .i64 (lt k:Nat),.bool (ed k 0),.bool (ed k 1),.bool (ed k 2),.bool (ed k 3),.bool (ed k 4),.bool (ed k 5),.bool (st k)] 156));have uh:=hid (HM.out.keeps Ij.out);have jR:=hid (And.intro ((Ij.out.cell (p:=⟨w.heap.size,0,none⟩) (by show w.heap.size<W0.heap.size;omega)).trans oh.out.1) ((Ij.out.frozen (p:=⟨w.heap.size,0,none⟩) (by show w.heap.size<W0.heap.size;omega)).trans oh.out.2));have cu:=hid (HB.out.trans (Ij.out.mono hs));have NB0:Hid (∀ j,j<n->(V j).ownBlock≠some W0.heap.size):=hid (λj hj e=>by have:=((HM.out.row j hj).lt _ e).2;omega);have NC0:Hid ((W0.alloc (.cells #[.int .i64 (lt k:Nat),.bool (ed k 0),.bool (ed k 1),.bool (ed k 2),.bool (ed k 3),.bool (ed k 4),.bool (ed k 5),.bool (st k)] 156)).cell? ⟨W0.heap.size,0,none⟩=some (.int .i64 (lt k:Nat))):=hid (by simp);have arY:=yK.out k hlk;have n70:W0.heap.size<(W0.alloc (.cells #[.int .i64 (lt k:Nat),.bool (ed k 0),.bool (ed k 1),.bool (ed k 2),.bool (ed k 3),.bool (ed k 4),.bool (ed k 5),.bool (st k)] 156)).heap.size:=by simp
   clear Ij HM oh;go_wp2_with fail;clear q0 q1 q2 q3 q4 q5 q6 q7
   go_loopw [21] (λi wq=>∃ (l:Nat) (V:Nat->Value) (tl:Nat->List (Nat × Nat)),l<=6/\i=.int .i64 l/\Hid (wT lt ed k l tl)/\Hid (nG wq T (w.heap.size+1) n V tl)/\Hid (wq.cell? ⟨w.heap.size,0,none⟩=some (.slice none 0 0)/\wq.frozen? ⟨w.heap.size,0,none⟩=false)/\Hid (Below w.heap.size w wq)/\Hid (∀ j,j<n->(V j).ownBlock≠some W0.heap.size)/\Hid (wq.cell? ⟨W0.heap.size,0,none⟩=some (.int .i64 (lt k:Nat)))/\W0.heap.size<wq.heap.size) (λi _=>6 - (intOf i).toNat)
   case atStart=>exact⟨0,V,tl,by omega,rfl,HW,uh,jR,cu,NB0,NC0,n70⟩
   case round=>
    obtain⟨l,V,tl,hl,rfl,HW,HM,oh,HB,HNB,WX,hsz⟩:=hrel;rename World=>W3;clear NB0 NC0 n70 uh jR cu;by_cases jW:l<6
    ·have ix:=λW=>U8 (ed k) jW W;have as2:=hid (HW.out.len l);have nc:=WX.out;have atg:=hid (Eg.out k l hlk);cases he:ed k l with
     | false=>
      have pu:=hid (aiG HW.out he);rw[he]at ix;clear he;go_wp2_with fail;go_roundw
      case rel=>exact⟨l+1,V,tl,by omega,by go_num,pu,HM,oh,HB,HNB,WX,hsz⟩
      case measure=>simp[intOf] <;> omega
     | true=>
      have hto:=atg.out he;have Xj:=hid (ali HW.out he);have AW:=hid (Zh T (w.heap.size+1) n k (lt k) l V tl W3 HM.out (by omega) hlk arY hto (by have:=as2.out;omega));rw[he]at ix;clear he;generalize lt k=lk at *;go_wp2_with fail;refine AW.out.mono ?_;rintro e w5 ⟨rfl,⟨V5,hm5,Kn⟩,bV⟩;obtain⟨o1,o2⟩:=Kn W0.heap.size hsz (by omega) HNB.out;have HM5:=hid hm5;have asX:=hid o2;have asW:=hid ((o1 0).trans WX.out);have HR5:=hid (And.intro ((bV.cell (p:=⟨w.heap.size,0,none⟩) (by show w.heap.size<w.heap.size+1;omega)).trans oh.out.1) ((bV.frozen (p:=⟨w.heap.size,0,none⟩) (by show w.heap.size<w.heap.size+1;omega)).trans oh.out.2));have iM:=hid (HB.out.trans (bV.mono (by omega)));have tL:=bV.size;clear hm5 bV AW HM oh HB Kn o1 o2 nc;go_wp2_with fail;go_roundw
      case rel=>exact⟨l+1,V5,_,by omega,by go_num,Xj,HM5,HR5,iM,asX,asW,by omega⟩
      case measure=>simp[intOf] <;> omega
    ·obtain rfl:l=6:=by omega
     have asR:=hid (aiH HW.out);go_wp2_with fail;go_roundw
     case rel=>exact⟨k+1,V,tl,by omega,by go_num,asR,HM,oh,HB⟩
     case measure=>simp[intOf] <;> omega
  ·obtain rfl:k=n:=by omega
   have c1:=HM.out.cell;have r0:=oh.out.1;have r1:=oh.out.2;have HWW:=hid (HM.out.aiZ (b:=w.heap.size) (by omega) 0 (.slice (some ⟨w.heap.size+1,0,none⟩) k k)).ways;have iN:=hid (HB.out.setCell (p:=⟨w.heap.size,0,none⟩) (aAU _) (.slice (some ⟨w.heap.size+1,0,none⟩) k k));have HCC:Hid ((W0.setCell ⟨w.heap.size,0,none⟩ (.slice (some ⟨w.heap.size+1,0,none⟩) k k)).cell? ⟨w.heap.size,0,none⟩=some (.slice (some ⟨w.heap.size+1,0,none⟩) k k)):=hid (aBr _ _ _ r0);go_wp2_with fail;refine QR Tryz.results89 ?_ ?_ HCC.out ?_
   ·rfl
   ·rfl
   ·exact⟨_,tl,rfl,HWW.out,HW.out,iN.out⟩
def jI(n:Nat)(ag:List (List Int))(k:Nat):Bool:=(List.range k).all λi=>fI n (ag.getD i [])
theorem JO(n:Nat)(ag:List (List Int))(k:Nat):jI n ag (k+1)=(jI n ag k&&fI n (ag.getD k [])):=by
 unfold jI;rw[aBL,List.all_append];simp
def bM(zs:List Int)(ag:List (List Int))(ss:List Int):Bool:=decide (1<=zs.length)&&decide (zs.length<=6)&&decide (ag.length=zs.length)&&iT zs&&decide (ss.length≠0)&&fI zs.length ss&&jI zs.length ag zs.length
theorem Q7{n i:Nat}(hi:i<n)(zs:List Int):fI n (pX i zs)=fI n zs:=by
 unfold pX;by_cases h:zs.length=0
 ·rw[aBU h,List.length_eq_zero_iff.1 h];have e1:decide ((0:Int)<=(i:Int))=true:=by simp
  have e2:decide ((i:Int)<(n:Int))=true:=by simp;omega
  simp[fI,hi]
 ·rw[aBT h]
def dA(zs:List Int)(i:Nat):Nat:=(zs.getD i 0).toNat
def eF(ag:List (List Int))(i j:Nat):Bool:=nz (pX i (ag.getD i [])) j
def tT(ss:List Int)(i:Nat):Bool:=nz ss i
def Z9(lt:Nat->Nat)(ed:Nat->Nat->Bool)(st:Nat->Bool)(i:Nat):List Value:=[.int .i64 (lt i:Nat),.bool (ed i 0),.bool (ed i 1),.bool (ed i 2),.bool (ed i 3),.bool (ed i 4),.bool (ed i 5),.bool (st i)]
def sN(lt:Nat->Nat)(ed:Nat->Nat->Bool)(st:Nat->Bool)(k:Nat):List Value:=(List.range k).flatMap (Z9 lt ed st)
theorem Ao(lt:Nat->Nat)(ed:Nat->Nat->Bool)(st:Nat->Bool)(k:Nat):sN lt ed st (k+1)=sN lt ed st k++Z9 lt ed st k:=by simp[sN,aBL]
theorem xk(lt:Nat->Nat)(ed:Nat->Nat->Bool)(st:Nat->Bool):∀ k,(sN lt ed st k).length=k*8
 | 0=>rfl
 | k+1=>by rw[Ao,aA5,xk lt ed st k];simp[Z9];omega
theorem xm(lt:Nat->Nat)(ed:Nat->Nat->Bool)(st:Nat->Bool){j:Nat}(hj:j<8):∀ {k i:Nat},i<k->(sN lt ed st k)[i*8+j]?=(Z9 lt ed st i)[j]?
 | 0,i,hi=>by omega
 | k+1,i,hi=>by
  rw[Ao];by_cases h:i<k
  ·rw[aA9 (by rw[xk];omega)];exact xm lt ed st hj h
  ·obtain rfl:i=k:=by omega
   rw[aBa (by rw[xk];omega),xk];congr 1;omega
theorem adL{w:World}{B g n cap:Nat}{lt:Nat->Nat}{ed:Nat->Nat->Bool}{st:Nat->Bool}(h:w.ownsRow B 156 8 (.slice (some ⟨g,0,none⟩) n cap) n (sN lt ed st n)):zV w g n lt ed st:=by
 refine⟨(h.lt g rfl).2,λi hi=>?_,λi j hi hj=>?_,λi hi=>?_⟩
 ·rw[h.cellAt (i*8) (by omega)];have:=xm lt ed st (j:=0) (by omega) hi;exact this
 ·rw[h.cellAt (i*8+(1+j)) (by omega),xm lt ed st (by omega) hi];have:j=0\/j=1\/j=2\/j=3\/j=4\/j=5:=by omega
  rcases this with rfl | rfl | rfl | rfl | rfl | rfl <;> rfl
 ·rw[h.cellAt (i*8+7) (by omega),xm lt ed st (by omega) hi];rfl
theorem Tryz.aaG:(Tryz.prog.info? 156).map (λi=>(i.zero,i.size,i.bytes))=some (some (.agg #[.int .i64 0,.bool false,.bool false,.bool false,.bool false,.bool false,.bool false,.bool false]),8,16):=by kernel_rfl
def nH(zs:List Int)(ag:List (List Int))(ss:List Int)(w:World)(e:Ending)(w':World):Prop:=
 Below w.heap.size w w'/\((bM zs ag ss=false/\e=.returned (.tuple #[.slice none 0 0,.bool false])) \/
  (bM zs ag ss=true/\∃ g cap,e=.returned (.tuple #[.slice (some ⟨g,0,none⟩) zs.length cap,.bool true])/\zV w' g zs.length (dA zs) (eF ag) (tT ss)))
section
variable (a1 a2 a3:Option Addr) (l1 c1 l2 c2 l3 c3:Nat) (zs:List Int) (ag:List (List Int)) (ss:List Int) (w:World)
theorem Zo(h1:Ints w a1 l1 c1 zs)(h2:Lists w a2 l2 c2 ag)(h3:Ints w a3 l3 c3 ss)(hb:l1=0\/6<l1\/l2≠l1) :
  Calls Tryz.prog 45 #[.agg #[.slice a1 l1 c1,.slice a2 l2 c2,.slice a3 l3 c3]] w (nH zs ag ss w):=by
 have m1:=h1.hcap;have m2:=h1.hmax;have L1:=h1.hlen;have L2:=h2.hlen;have n1:=h2.hcap;have n2:=h2.hmax;have HE:Hid (bM zs ag ss=false):=hid (by
  cases e:bM zs ag ss with
  | false=>rfl
  | true=>
   unfold bM at e;simp only[aBz,aBR]at e;omega)
 have ba:=hid ((aAW w.heap.size w).alloc (aAU _) (.cells #[.slice a1 l1 c1,.slice a2 l2 c2,.slice a3 l3 c3] 25));have T0:=dH w (.slice a1 l1 c1) (.slice a2 l2 c2) (.slice a3 l3 c3) 25;have x0:=T0.c0;have x1:=T0.c1;clear h1 h2 h3 T0;by_cases k1:l1=0
 ·subst k1;go_enter Tryz.func45,Tryz.ntmps45;go_wp2_with fail
  go_ret2
  unfold nH;exact⟨ba.out,aA2 ⟨HE.out,rfl⟩⟩
 have q1:decide ((l1:Int)<1)=false:=by simp;omega
 by_cases k2:6<l1
 ·have q2:(6:Int)<(l1:Int):=by omega
  go_enter Tryz.func45,Tryz.ntmps45;go_wp2_with fail
  go_ret2
  unfold nH;exact⟨ba.out,aA2 ⟨HE.out,rfl⟩⟩
 have q2:decide ((6:Int)<(l1:Int))=false:=by simp;omega
 have k3:((l2:Int) !=(l1:Int))=true:=bne_iff_ne.2 (by omega);go_enter Tryz.func45,Tryz.ntmps45;go_wp2_with fail
 go_ret2
 unfold nH;exact⟨ba.out,aA2 ⟨HE.out,rfl⟩⟩
theorem acY(h1:Ints w a1 l1 c1 zs)(h2:Lists w a2 l1 c2 ag)(h3:Ints w a3 l3 c3 ss)(hp:1<=l1)(h6:l1<=6) :
  Calls Tryz.prog 45 #[.agg #[.slice a1 l1 c1,.slice a2 l1 c2,.slice a3 l3 c3]] w (nH zs ag ss w):=by
 have m1:=h1.hcap;have m2:=h1.hmax;have L1:=h1.hlen;have L2:=h2.hlen;have L3:=h3.hlen;have n1:=h2.hcap;have n2:=h2.hmax;have o1:=h3.hcap;have o2:=h3.hmax;have q1:decide ((l1:Int)<1)=false:=by simp;omega
 have q2:decide ((6:Int)<(l1:Int))=false:=by simp;omega
 have q3:((l1:Int) !=(l1:Int))=false:=by simp
 have BZ:Hid (bM zs ag ss=(iT zs&&decide (ss.length≠0)&&fI l1 ss&&jI l1 ag l1)):=hid (by
  unfold bM;rw[L1,show decide (1<=l1)=true by simp;omega,show decide (l1<=6)=true by simp;omega,show decide (ag.length=l1)=true by simp;omega];simp)
 have HI1:=hid (λW (b:Below w.heap.size w W)=>h1.below b);have Lu:=hid (λW (b:Below w.heap.size w W)=>h2.below b);have HI3:=hid (λW (b:Below w.heap.size w W)=>h3.below b);have ba:=hid ((aAW w.heap.size w).alloc (aAU _) (.cells #[.slice a1 l1 c1,.slice a2 l1 c2,.slice a3 l3 c3] 25));have T0:=hid (dH w (.slice a1 l1 c1) (.slice a2 l1 c2) (.slice a3 l3 c3) 25);obtain⟨i0,tN,aR,aP,aN⟩:=info_parts Tryz.aaG;have x0:=T0.out.c0;have x1:=T0.out.c1;have x2:=T0.out.c2;have AL:=hid (MQ a1 l1 c1 zs _ (HI1.out _ ba.out));clear h1 h2 h3;go_enter Tryz.func45,Tryz.ntmps45;go_wp2_with fail;refine AL.out.mono ?_;rintro e w1 ⟨rfl,rfl⟩;cases hal:iT zs with
 | false=>
  have HE:Hid (bM zs ag ss=false):=hid (by rw[BZ.out,hal];rfl);clear hal;go_wp2_with fail
  go_ret2
  unfold nH;exact⟨ba.out,aA2 ⟨HE.out,rfl⟩⟩
 | true=>
  have Ei:=hid hal;clear hal;by_cases hl3:l3=0
  ·subst hl3;have HE:Hid (bM zs ag ss=false):=hid (by rw[BZ.out,L3];simp);go_wp2_with fail
   go_ret2
   unfold nH;exact⟨ba.out,aA2 ⟨HE.out,rfl⟩⟩
  ·have Ki:((l3:Int)==0)=false:=aA6.2 (by omega);have AM:=hid (Gg a3 l3 c3 l1 ss _ (HI3.out _ ba.out) h6);go_wp2_with fail;generalize hW:(w.alloc (.cells #[.slice a1 l1 c1,.slice a2 l1 c2,.slice a3 l3 c3] 25))=W at *;have DT:W.heap.size=w.heap.size+1:=by rw[<-hW];simp
   clear hW;refine AM.out.mono ?_;intro e w2 Fp;unfold mq at Fp;obtain⟨fs,rfl,hfs,ak⟩:=Fp;have HFS:=hid hfs;have T2:=hid (T0.out.below ak (by omega));have aW:=hid (ba.out.trans (ak.mono (by omega)));have lm:=ak.size;clear hfs ak AM x0 x1 x2 T0 ba AL;have bs:=(aAW w2.heap.size w2).alloc (aAU _) (.cells (six fs) 151);have RS:=hid (pE w2 (λi=>Value.bool (fs i)) 6 151);have T3:=hid (T2.out.below bs (by omega));have cu:=hid (aW.out.trans (bs.mono (by omega)));clear bs T2 aW;unfold six;cases Hw:fI l1 ss with
   | false=>
    have HE:Hid (bM zs ag ss=false):=hid (by rw[BZ.out,Hw];simp);clear Hw;go_wp2_with fail
    go_ret2
    unfold nH;exact⟨cu.out,aA2 ⟨HE.out,rfl⟩⟩
   | true=>
    have Iz:=hid Hw;have atc:=hid (HFS.out Hw);clear Hw HFS;have x0:=T3.out.c0;have x1:=T3.out.c1;have hw3:(w2.alloc (.cells (six fs) 151)).heap.size=w2.heap.size+1:=by simp
    have RS3:Hid (dE (w2.alloc (.cells #[.bool (fs 0),.bool (fs 1),.bool (fs 2),.bool (fs 3),.bool (fs 4),.bool (fs 5)] 151)) w2.heap.size 6 (λi=>Value.bool (fs i))):=RS;unfold six at T3 cu hw3 x0 x1;clear RS;go_wp2_with fail;clear x0 x1;generalize Wl:(w2.alloc (.cells #[.bool (fs 0),.bool (fs 1),.bool (fs 2),.bool (fs 3),.bool (fs 4),.bool (fs 5)] 151))=W3 at *;clear Wl
    go_loopw [7,50] (λv i wq=>∃ k:Nat,k<=l1/\i=.int .i64 k/\Hid (jI l1 ag k=true)/\Hid (wq.ownsRow (w2.heap.size+1) 156 8 v k (sN (dA zs) (eF ag) (tT ss) k))/\Hid (Below (w2.heap.size+1) W3 wq)) (λ_ i _=>l1 - (intOf i).toNat)
    case atStart=>exact⟨0,aA8 _,rfl,hid (by simp[jI]),hid (aBh _ _ _ _),hid (aAW _ _)⟩
    case round=>
     obtain⟨k,hk,rfl,Iu,HO,HX⟩:=hrel;rename World=>W4;obtain⟨aV,cV,rfl⟩:=ai HO.out;have zu:=HX.out.size;have iN:=hid (cu.out.trans (HX.out.mono (by omega)));by_cases hlk:k<l1
     ·have T4:=T3.out.below HX.out (by omega);have x0:=T4.c0;have x1:=T4.c1;obtain⟨b1,o1',e1,aM,hc1⟩:=(HI1.out W4 iN.out).hcell (by omega);obtain⟨b2,o2',e2,ak,yx⟩:=(Lu.out W4 iN.out).hcell (by omega);subst e1;subst e2;have cz:=hc1 k hlk;obtain⟨ra,rl,rc,cr,hr⟩:=yx k hlk;have hzl:ry (zs.getD k 0)=true:=by
       have h9:=Ei.out;unfold iT at h9;rw[List.all_eq_true]at h9;refine h9 _ ?_;rw[List.getD,aAV (by omega)];exact List.getElem_mem _
      have ary:=l9.1 hzl;have Uz:Hid (zs.getD k 0=((dA zs k:Nat):Int)):=hid (by unfold dA;omega);rw[Uz.out]at cz;have Eg:Hid (∀ j,eF ag k j=nz (pX k (ag.getD k [])) j):=hid (λj=>rfl);have nI:=hid (Q7 hlk (ag.getD k []));have WT:=hid (JO l1 ag k);have HCT:Hid (jI l1 ag l1=true->fI l1 (ag.getD k [])=true):=hid (λh9=>by
       unfold jI at h9;rw[List.all_eq_true]at h9;exact h9 k (by simpa using hlk))
      have ED:=hid (abB ra rl rc k l1 (ag.getD k []) W4 hr h6);have HFN:=hid (Ao (dA zs) (eF ag) (tT ss) k);unfold Z9 at HFN;have kS:=hid (λq h=>(HO.out.lt q h).1);have i1:(0:Int)<=(k:Int):=by omega
      have i2:(k:Int)<(l1:Int):=by omega
      clear hc1 yx hr hzl ary T4;generalize ag.getD k []=row at *;generalize dA zs k=m at *;go_wp2_with fail;refine ED.out.mono ?_;intro e w5 Fp;unfold mq at Fp;obtain⟨f,rfl,hf,bV⟩:=Fp;have HF:=hid hf;have HX5:=hid (HX.out.trans (bV.mono (by omega)));have O5:=hid (ae HO.out bV);have tL:=bV.size;clear hf bV ED x0 x1 cz cr;have bs:=(aAW w5.heap.size w5).alloc (aAU _) (.cells (six f) 151);have Gm:=hid (HX5.out.trans (bs.mono (by omega)));have O6:=hid (ae O5.out bs);have kG:=hid (cu.out.trans (Gm.out.mono (by omega)));clear bs HX5 O5;unfold six;unfold six at Gm O6 kG;cases Km:fI l1 (pX k row) with
      | false=>
       have HE:Hid (bM zs ag ss=false):=hid (by
        rw[BZ.out];have h9:jI l1 ag l1=false:=by
         cases e:jI l1 ag l1 with
         | false=>rfl
         | true=>
          have h10:=HCT.out e;rw[<-nI.out,Km]at h10;cases h10
        rw[h9];simp)
       clear Km;go_wp2_with fail
       go_ret2
       unfold nH;exact⟨kG.out,aA2 ⟨HE.out,rfl⟩⟩
      | true=>
       have HRK:Hid (jI l1 ag (k+1)=true):=hid (by rw[WT.out,Iu.out,<-nI.out,Km];rfl);have jS:=hid (HF.out Km);clear Km HF;have f0:(w5.alloc (.cells #[.bool (f 0),.bool (f 1),.bool (f 2),.bool (f 3),.bool (f 4),.bool (f 5)] 151)).cell? ⟨w5.heap.size,0,none⟩=some (.bool (f 0)):=by simp
       have f1:(w5.alloc (.cells #[.bool (f 0),.bool (f 1),.bool (f 2),.bool (f 3),.bool (f 4),.bool (f 5)] 151)).cell? ⟨w5.heap.size,1,none⟩=some (.bool (f 1)):=by simp
       have f2:(w5.alloc (.cells #[.bool (f 0),.bool (f 1),.bool (f 2),.bool (f 3),.bool (f 4),.bool (f 5)] 151)).cell? ⟨w5.heap.size,2,none⟩=some (.bool (f 2)):=by simp
       have f3:(w5.alloc (.cells #[.bool (f 0),.bool (f 1),.bool (f 2),.bool (f 3),.bool (f 4),.bool (f 5)] 151)).cell? ⟨w5.heap.size,3,none⟩=some (.bool (f 3)):=by simp
       have f4:(w5.alloc (.cells #[.bool (f 0),.bool (f 1),.bool (f 2),.bool (f 3),.bool (f 4),.bool (f 5)] 151)).cell? ⟨w5.heap.size,4,none⟩=some (.bool (f 4)):=by simp
       have f5:(w5.alloc (.cells #[.bool (f 0),.bool (f 1),.bool (f 2),.bool (f 3),.bool (f 4),.bool (f 5)] 151)).cell? ⟨w5.heap.size,5,none⟩=some (.bool (f 5)):=by simp
       have sk:=((RS3.out.below Gm.out (by omega)).c k (by omega));have arA:(w5.alloc (.cells #[.bool (f 0),.bool (f 1),.bool (f 2),.bool (f 3),.bool (f 4),.bool (f 5)] 151)).heap.size=w5.heap.size+1:=by simp
       have Gs:Hid (([.int .i64 (m:Nat),.bool (eF ag k 0),.bool (eF ag k 1),.bool (eF ag k 2),.bool (eF ag k 3),.bool (eF ag k 4),.bool (eF ag k 5),.bool (tT ss k)]:List Value)=[.int .i64 (m:Nat),.bool (f 0),.bool (f 1),.bool (f 2),.bool (f 3),.bool (f 4),.bool (f 5),.bool (fs k)]):=hid (by
        rw[Eg.out 0,Eg.out 1,Eg.out 2,Eg.out 3,Eg.out 4,Eg.out 5,<-jS.out 0 (by omega),<-jS.out 1 (by omega),<-jS.out 2 (by omega),<-jS.out 3 (by omega),<-jS.out 4 (by omega),<-jS.out 5 (by omega),atc.out k (by omega)];rfl)
       have i3:(k:Int)<6:=by omega
       go_wp2_with fail;generalize hW6:(w5.alloc (.cells #[.bool (f 0),.bool (f 1),.bool (f 2),.bool (f 3),.bool (f 4),.bool (f 5)] 151))=W6 at *;clear hW6;have yE:w5.heap.size<W6.heap.size:=by omega
       have yS:w2.heap.size<W6.heap.size:=by omega
       have yB:w2.heap.size+1<=W6.heap.size:=by omega
       clear arA;refine wp_region_held_drew (S:=λw'=>w'.cell? ⟨w5.heap.size,0,none⟩=some (.bool (f 0))/\w'.cell? ⟨w5.heap.size,1,none⟩=some (.bool (f 1))/\w'.cell? ⟨w5.heap.size,2,none⟩=some (.bool (f 2))/\w'.cell? ⟨w5.heap.size,3,none⟩=some (.bool (f 3))/\w'.cell? ⟨w5.heap.size,4,none⟩=some (.bool (f 4))/\w'.cell? ⟨w5.heap.size,5,none⟩=some (.bool (f 5))/\w'.cell? ⟨w2.heap.size,k,none⟩=some (.bool (fs k))) (by kernel_rfl) ⟨f0,f1,f2,f3,f4,f5,sk⟩ (λau=>?_);refine aA4 (i:=0) (oi:={ dst:=some 68,op:=Op.move (.tmp 7),type:=_,pos:=_,after:=_,guard:=none }) (v:=(Value.slice aV k cV)) rfl (by kernel_rfl) (by kernel_rfl) (by kernel_rfl) (λ_ _ _ h=>h) (aA2 ⟨by rfl,by intro w' af;(try dsimp only at af);go_simp⟩) (by assumption) ?_
       simp only[Act.put,aAT,aAX,aAY];refine aA4 (i:=1) (oi:={ dst:=some 69,op:=Op.move (.tmp 9),type:=_,pos:=_,after:=_,guard:=none }) (v:=(Value.int .i64 (m:Nat))) rfl (by kernel_rfl) (by kernel_rfl) (by kernel_rfl) (λ_ _ _ h=>h) (aA2 ⟨by rfl,by intro w' af;(try dsimp only at af);go_simp⟩) (by assumption) ?_
       simp only[Act.put,aAT,aAX,aAY];refine aA4 (i:=2) (oi:={ dst:=some 70,op:=Op.load _ (.tmp 10),type:=_,pos:=_,after:=_,guard:=none }) (v:=(Value.agg #[.bool (f 0),.bool (f 1),.bool (f 2),.bool (f 3),.bool (f 4),.bool (f 5)])) rfl (by kernel_rfl) (by kernel_rfl) (by kernel_rfl) (λ_ _ _ h=>h) (aA2 ⟨by rfl,by intro w' af;(try dsimp only at af);go_simp⟩) (by assumption) ?_
       simp only[Act.put,aAT,aAX,aAY];refine aA4 (i:=3) (oi:={ dst:=some 71,op:=Op.move (.tmp 8),type:=_,pos:=_,after:=_,guard:=none }) (v:=(Value.int .i64 (k:Nat))) rfl (by kernel_rfl) (by kernel_rfl) (by kernel_rfl) (λ_ _ _ h=>h) (aA2 ⟨by rfl,by intro w' af;(try dsimp only at af);go_simp⟩) (by assumption) ?_
       simp only[Act.put,aAT,aAX,aAY];refine aA4 (i:=4) (oi:={ dst:=some 72,op:=Op.indexAddr _ (.tmp 5) (.tmp 71),type:=_,pos:=_,after:=_,guard:=none }) (v:=(Value.pointer (some ⟨w2.heap.size,k,none⟩))) rfl (by kernel_rfl) (by kernel_rfl) (by kernel_rfl) (λ_ _ _ h=>h) (aA2 ⟨by rfl,by intro w' af;(try dsimp only at af);go_simp⟩) (by assumption) ?_
       simp only[Act.put,aAT,aAX,aAY];refine aA4 (i:=5) (oi:={ dst:=some 73,op:=Op.load _ (.tmp 72),type:=_,pos:=_,after:=_,guard:=none }) (v:=(Value.bool (fs k))) rfl (by kernel_rfl) (by kernel_rfl) (by kernel_rfl) (λ_ _ _ h=>h) (aA2 ⟨by rfl,by intro w' af;(try dsimp only at af);go_simp⟩) (by assumption) ?_
       simp only[Act.put,aAT,aAX,aAY];refine aA4 (i:=6) (oi:={ dst:=some 74,op:=Op.build _ #[(0,.tmp 69),(1,.tmp 70),(2,.tmp 73)],type:=_,pos:=_,after:=_,guard:=none }) (v:=(Value.agg #[.int .i64 (m:Nat),.bool (f 0),.bool (f 1),.bool (f 2),.bool (f 3),.bool (f 4),.bool (f 5),.bool (fs k)])) rfl (by kernel_rfl) (by kernel_rfl) (by kernel_rfl) (λ_ _ _ h=>h) (aA2 ⟨by rfl,by intro w' af;(try dsimp only at af);go_simp⟩) (by assumption) ?_
       simp only[Act.put,aAT,aAX,aAY];refine aBc (rs:=[7]) (by kernel_rfl) (by simp) ?_;refine aA7 rfl (λK hK=>?_) aBb
       go_simp
       have xa:Below W6.heap.size W6 (W6.alloc (.cells #[.int .i64 (m:Nat),.bool (f 0),.bool (f 1),.bool (f 2),.bool (f 3),.bool (f 4),.bool (f 5),.bool (fs k)] 156)):=(aAW W6.heap.size W6).alloc (aAU _) _;refine hK.out _ _ ⟨(xa.cell (p:=⟨w5.heap.size,0,none⟩) yE).trans f0,(xa.cell (p:=⟨w5.heap.size,1,none⟩) yE).trans f1,(xa.cell (p:=⟨w5.heap.size,2,none⟩) yE).trans f2,(xa.cell (p:=⟨w5.heap.size,3,none⟩) yE).trans f3,(xa.cell (p:=⟨w5.heap.size,4,none⟩) yE).trans f4,(xa.cell (p:=⟨w5.heap.size,5,none⟩) yE).trans f5,(xa.cell (p:=⟨w2.heap.size,k,none⟩) yS).trans sk⟩ (λau=>?_);clear hK K;refine aBc (rs:=[8]) (by kernel_rfl) (by simp) ?_;refine aA7 rfl (λK hK=>?_) aBb;refine aBN _ (by rfl) (.tmp 68) (.tmp 75) 88 (by rfl) (w2.heap.size+1) 156 i0 (.agg #[.int .i64 0,.bool false,.bool false,.bool false,.bool false,.bool false,.bool false,.bool false]) 8 16 Tryz.underlying88 tN aR aP aN rfl (by decide) _ k (sN (dA zs) (eF ag) (tT ss) k) (by rfl) ((O6.out.alloc _).drew) ⟨W6.heap.size,0,none⟩ 1 1 [.int .i64 (m:Nat),.bool (f 0),.bool (f 1),.bool (f 2),.bool (f 3),.bool (f 4),.bool (f 5),.bool (fs k)] (by rfl) (by rfl) (World.news_of_block (cs:=#[.int .i64 (m:Nat),.bool (f 0),.bool (f 1),.bool (f 2),.bool (f 3),.bool (f 4),.bool (f 5),.bool (fs k)]) (t:=156) (fr:=(0,0)) (heap_alloc_new W6 _)) (by simp[Value.oneCell']) (by decide) (by unfold maxLen;omega) (by omega) (by simp;omega) (W6.heap.size+1) (by simp) ?_;intro gg cc w7 hown hgrow hat uD;have Pw:=hid ((Gm.out.trans ((aBd xa 1).mono (by omega))).grown hgrow (by show w2.heap.size+1<=(W6.alloc (.cells #[.int .i64 (m:Nat),.bool (f 0),.bool (f 1),.bool (f 2),.bool (f 3),.bool (f 4),.bool (f 5),.bool (fs k)] 156)).heap.size;rw[aAZ];omega) (λq h=>kS.out q h));have O7:Hid (w7.ownsRow (w2.heap.size+1) 156 8 (.slice (some ⟨gg,0,none⟩) (k+1) cc) (k+1) (sN (dA zs) (eF ag) (tT ss) (k+1))):=hid (by rw[HFN.out,Gs.out];exact hown);have KS:∀ (b o:Nat) {v:Value},b<W6.heap.size->some b≠(Value.slice aV k cV).ownBlock->W6.cell? ⟨b,o,none⟩=some v->w7.cell? ⟨b,o,none⟩=some v:=λb o v hb hne hv=>hgrow.cell ((xa.cell (p:=⟨b,o,none⟩) hb).trans hv) hne;have Rc:some w5.heap.size≠(Value.slice aV k cV).ownBlock:=λh=>by have:=(HO.out.lt _ h.symm).2;omega
       have neS:some w2.heap.size≠(Value.slice aV k cV).ownBlock:=λh=>by have:=kS.out _ h.symm;omega
       refine hK.out _ _ ⟨KS _ _ yE Rc f0,KS _ _ yE Rc f1,KS _ _ yE Rc f2,KS _ _ yE Rc f3,KS _ _ yE Rc f4,KS _ _ yE Rc f5,KS _ _ yS neS sk⟩ (λau=>?_);clear hK K hown hgrow hat KS Rc neS xa
       (try simp only[Act.put,aAT])
       refine aA4 (i:=9) (oi:={ dst:=some 7,op:=Op.assign (.tmp 76),type:=_,pos:=_,after:=_,guard:=none }) (v:=(Value.slice (some ⟨gg,0,none⟩) (k+1) cc)) rfl (by kernel_rfl) (by kernel_rfl) (by kernel_rfl) (λ_ _ _ h=>h) (aA2 ⟨by rfl,by intro w' af;(try dsimp only at af);go_simp⟩) (by assumption) ?_
       simp only[Act.put];refine aBS (by kernel_rfl) ?_ _;clear au f0 f1 f2 f3 f4 f5 sk;go_wp2_with fail;go_roundw
       case rel=>exact⟨k+1,by omega,by go_num,HRK,O7,Pw⟩
       case measure=>simp[intOf] <;> omega
     ·obtain rfl:k=l1:=by omega
      have HE:Hid (bM zs ag ss=true):=hid (by rw[BZ.out,Ei.out,Iz.out,Iu.out];simp;intro h;rw[h]at L3;simp at L3;omega);obtain⟨gV,eV,_,_,_⟩:=dX HO.out (by omega);subst eV;have IE:=hid (adL HO.out);go_wp2_with fail
      go_ret2
      unfold nH;exact⟨iN.out,aA3 ⟨HE.out,gV,cV,(by rw[L1];rfl),(by rw[L1];exact IE.out)⟩⟩
theorem Zp(h1:Ints w a1 l1 c1 zs)(h2:Lists w a2 l2 c2 ag)(h3:Ints w a3 l3 c3 ss):Calls Tryz.prog 45 #[.agg #[.slice a1 l1 c1,.slice a2 l2 c2,.slice a3 l3 c3]] w (nH zs ag ss w):=by
 by_cases h:l1=0\/6<l1\/l2≠l1
 ·exact Zo a1 a2 a3 l1 c1 l2 c2 l3 c3 zs ag ss w h1 h2 h3 h
 ·obtain rfl:l2=l1:=by omega
  exact acY a1 a2 a3 l2 c1 c2 l3 c3 zs ag ss w h1 h2 h3 (by omega) (by omega)
end
