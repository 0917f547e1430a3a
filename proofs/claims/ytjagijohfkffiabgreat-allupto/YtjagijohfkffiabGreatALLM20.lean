import Derived.Test.YtjagijohfkffiabGreatALLM18
set_option maxHeartbeats 16000000
set_option maxRecDepth 100000
set_option linter.unusedSimpArgs false
namespace Go.Proofs.YtjagijohfkffiabGreat
open Go.RowKit
set_option linter.unusedVariables false
def iv(f:Nat->Int):List Value:=(List.range 8).map λj=>.int .i64 (f j)
theorem alm(f:Nat->Int){j:Nat}(hj:j<8):(iv f)[j]?=some (.int .i64 (f j)):=by simp[iv,hj]
theorem AA(d:Nat)(g h:Nat->Int)(w:World):∀ is:List Nat,(∀ i∈is,i<8)->(Op.eqItems (d+1) 3 1 (iv g).toArray (iv h).toArray is).run Tryz.prog w=.ok (is.all λj=>g j==h j) w
 | [],_=>by simp[Op.eqItems]
 | i::is,hi=>by
  have h0:=hi i (by simp);have ih:=AA d g h w is (λj hj=>hi j (by simp[hj]));have p:∀ f:Nat->Int,(part 3 (iv f).toArray (i*1)).run Tryz.prog w=.ok (.int .i64 (f i)) w:=λf=>by
   have:=alm f h0;simp[part,Tryz.isAgg3,this]
  simp only[Op.eqItems,Sem.run_bind,p,Result.andThen_ok,run_equalIn_int w d 3 _ _ _ _ Tryz.underlying3];cases e:(g i==h i)
  ·simp[e]
  ·simp[e,ih]
theorem ajj(d:Nat)(g h:Nat->Int)(w:World):(Op.equalIn (d+1+1) 117 (.agg (iv g).toArray) (.agg (iv h).toArray)).run Tryz.prog w=.ok ((List.range 8).all λj=>g j==h j) w:=by
 obtain⟨i,a,_⟩:=info_parts Tryz.mE;rw[run_equalIn_array w (d+1) _ _ Tryz.underlying117 a];have:Tryz.prog.cellsOf 3=1:=by kernel_rfl
 rw[this];exact AA d g h w _ (λj b=>by simpa using b)
theorem ae8(b0 b1 b2 b3 b4 b5 b6 b7 a0 a1 a2 a3 a4 a5 a6 a7:Int)(w:World):(Op.equalIn 9999 117 (.agg #[.int .i64 b0,.int .i64 b1,.int .i64 b2,.int .i64 b3,.int .i64 b4,.int .i64 b5,.int .i64 b6,.int .i64 b7]) (.agg #[.int .i64 a0,.int .i64 a1,.int .i64 a2,.int .i64 a3,.int .i64 a4,.int .i64 a5,.int .i64 a6,.int .i64 a7])).run Tryz.prog w=.ok (decide ([b0,b1,b2,b3,b4,b5,b6,b7]=[a0,a1,a2,a3,a4,a5,a6,a7])) w:=by
 have h:=ajj 9997 (λj=>[b0,b1,b2,b3,b4,b5,b6,b7].getD j 0) (λj=>[a0,a1,a2,a3,a4,a5,a6,a7].getD j 0) w;have e:((List.range 8).all λj=>[b0,b1,b2,b3,b4,b5,b6,b7].getD j 0==[a0,a1,a2,a3,a4,a5,a6,a7].getD j 0)=decide ([b0,b1,b2,b3,b4,b5,b6,b7]=[a0,a1,a2,a3,a4,a5,a6,a7]):=by
  rw[Bool.eq_iff_iff];simp[List.range,List.range.loop]
 rw[e]at h;exact h
theorem ags(S B:Nat)(vK vH:Value)(ss:List St)(o a0 a1 a2 a3 a4 a5 a6 a7:Int)(w:World)(hT:Two w S vK vH)(ho:w.ownsRow B 119 9 vH ss.length (gu ss))(h8:ku ss)(hn:ss.length<=8589934592) :
  Calls Tryz.prog 143 #[.pointer (some ⟨S,0,none⟩),.agg #[.int .i64 o,.int .i64 a0,.int .i64 a1,.int .i64 a2,.int .i64 a3,.int .i64 a4,.int .i64 a5,.int .i64 a6,.int .i64 a7]] w λe w'=>∃ j:Nat,e=.returned (.int .i64 (j:Nat))/\(ss[j]?=some ⟨o,[a0,a1,a2,a3,a4,a5,a6,a7]⟩\/(j=ss.length/\∀ s∈ss,s≠⟨o,[a0,a1,a2,a3,a4,a5,a6,a7]⟩))/\Below w.heap.size w w':=by
 have R:=hT.lt;have c1:=hT.c1;have HT:=hid hT;have T:=hid ho;have N:=hid h8;obtain⟨Fs,Fj,rfl⟩:=ak ho;clear hT ho h8;generalize O:ss.length=n at *;have r:=hid O;clear O;go_enter Tryz.func143,Tryz.ntmps143;go_wp2_with fail;have U:=hid ((aB4 w.heap.size w).alloc (aB2 _) (.cells #[.int .i64 o,.int .i64 a0,.int .i64 a1,.int .i64 a2,.int .i64 a3,.int .i64 a4,.int .i64 a5,.int .i64 a6,.int .i64 a7] 119));have V:=hid (dH w [.int .i64 o,.int .i64 a0,.int .i64 a1,.int .i64 a2,.int .i64 a3,.int .i64 a4,.int .i64 a5,.int .i64 a6,.int .i64 a7] 119)
 go_loopw [12] (λi X=>∃ k:Nat,k<=n/\i=.int .i64 k/\Hid (∀ i s,i<k->ss[i]?=some s->s≠⟨o,[a0,a1,a2,a3,a4,a5,a6,a7]⟩)/\Hid (Below (w.heap.size+1) (w.alloc (.cells #[.int .i64 o,.int .i64 a0,.int .i64 a1,.int .i64 a2,.int .i64 a3,.int .i64 a4,.int .i64 a5,.int .i64 a6,.int .i64 a7] 119)) X)) (λi _=>n - (intOf i).toNat)
 case atStart=>exact⟨0,aCg _,rfl,hid (λi s h=>by omega),hid (aB4 _ _)⟩
 case round=>
  obtain⟨k,hk,rfl,G,f⟩:=hrel;rename World=>W0;have t:=hid (U.out.trans (f.out.mono (by omega)));have Y:w.heap.size<W0.heap.size:=by have:=f.out.size;simp at this;omega
  by_cases g:k<n
  ·have b:=T.out;obtain⟨H,rfl,Z,I,hcH⟩:=eZ b (by omega);obtain⟨⟨p,nx⟩,a⟩:∃ s,ss[k]?=some s:=⟨ss[k]'(by rw[r.out];exact g),aB3 (by rw[r.out];exact g)⟩;have J:=N.out _ (aCJ a);obtain⟨v,x,y,z,A,C,D,E,rfl⟩:=Ce J;have q:bu ss k=⟨p,[v,x,y,z,A,C,D,E]⟩:=by simp[bu,List.getD,a]
   have d:∀ j u,j<9->(iA ⟨p,[v,x,y,z,A,C,D,E]⟩)[j]?=some u->W0.cell? ⟨H,k*9+j,none⟩=some u:=λj u hj K=>by
    rw[t.out.cell (p:=⟨H,k*9+j,none⟩) I,b.cellAt (k*9+j) (by omega),xJ N.out (by rw[r.out];exact g) hj,q,K]
   have P:W0.cell? ⟨H,k*9,none⟩=some (.int .i64 p):=d 0 _ (by omega) rfl;have y1:=d 1 _ (by omega) rfl;have y2:=d 2 _ (by omega) rfl;have y3:=d 3 _ (by omega) rfl;have y4:=d 4 _ (by omega) rfl;have y5:=d 5 _ (by omega) rfl;have y6:=d 6 _ (by omega) rfl;have y7:=d 7 _ (by omega) rfl;have y8:=d 8 _ (by omega) rfl;have al:∀ j u,[Value.int .i64 o,.int .i64 a0,.int .i64 a1,.int .i64 a2,.int .i64 a3,.int .i64 a4,.int .i64 a5,.int .i64 a6,.int .i64 a7][j]?=some u->W0.cell? ⟨w.heap.size,j,none⟩=some u:=λj u K=>by
    rw[f.out.cell (p:=⟨w.heap.size,j,none⟩) (by show w.heap.size<w.heap.size+1;omega)];have:=V.out j u K;rwa [Addr.add_mid,aCw]at this
   have x0:=al 0 _ rfl;have x1:=al 1 _ rfl;have x2:=al 2 _ rfl;have x3:=al 3 _ rfl;have x4:=al 4 _ rfl;have x5:=al 5 _ rfl;have x6:=al 6 _ rfl;have x7:=al 7 _ rfl;have x8:=al 8 _ rfl;have L:=hid a;clear d al a q b;have Q:=λW=>ae8 v x y z A C D E a0 a1 a2 a3 a4 a5 a6 a7 W;by_cases l:p=o
   ·by_cases m:[v,x,y,z,A,C,D,E]=[a0,a1,a2,a3,a4,a5,a6,a7]
    ·have HR:Hid (ss[k]?=some ⟨o,[a0,a1,a2,a3,a4,a5,a6,a7]⟩):=hid (by rw[L.out,l,m]);rw[decide_eq_true m]at Q;rw[l]at P;clear m l;go_wp2_with fail;go_ret;exact⟨k,rfl,aCa HR.out,t.out.alloc (by omega) _⟩
    ·have M:Hid (∀ i s,i<k+1->ss[i]?=some s->s≠⟨o,[a0,a1,a2,a3,a4,a5,a6,a7]⟩):=hid (λi s F a=>by
      by_cases c:i=k
      ·subst c;rw[L.out]at a;cases a;intro e
       injection e with e1 e2
       exact m e2
      ·exact G.out i s (by omega) a)
     rw[decide_eq_false m]at Q;rw[l]at P;clear m;subst l;go_wp2_with fail;go_roundw
     case rel=>exact⟨k+1,by omega,by go_num,M,hid (f.out.alloc (by have:=f.out.size;simp at this;omega) _)⟩
     case measure=>simp[intOf];omega
   ·have M:Hid (∀ i s,i<k+1->ss[i]?=some s->s≠⟨o,[a0,a1,a2,a3,a4,a5,a6,a7]⟩):=hid (λi s F a=>by
     by_cases c:i=k
     ·subst c;rw[L.out]at a;cases a;intro e
      injection e with e1 e2
      exact l e1
     ·exact G.out i s (by omega) a)
    go_wp2_with fail;go_roundw
    case rel=>exact⟨k+1,by omega,by go_num,M,hid (f.out.alloc (by have:=f.out.size;simp at this;omega) _)⟩
    case measure=>simp[intOf];omega
  ·obtain rfl:k=n:=by omega
   have c2:=(t.out.cell (p:=⟨S,1,none⟩) R).trans c1;go_wp2_with fail;go_ret;exact⟨k,rfl,aCb ⟨rfl,λs a=>by
    obtain⟨i,F,e⟩:=aCK a;exact G.out i s (by rw[<-r.out];exact F) (by rw[aB3 F,e])⟩,t.out⟩
structure Yz (w:World) (B S:Nat) (vK vH:Value) (bC:List Nat) (ss:List St):Prop where
 t:Two w S vK vH
 tB:S<B
 kd:w.ownsRow B 3 1 vK bC.length (aI bC)
 sh:w.ownsRow B 119 9 vH ss.length (gu ss)
 e8:ku ss
theorem Yz.below{w w':World}{B S:Nat}{vK vH:Value}{bC:List Nat}{ss:List St}(h:Yz w B S vK vH bC ss)(hb:Below w.heap.size w w'):Yz w' B S vK vH bC ss:=
 ⟨h.t.below hb h.t.lt,h.tB,ai h.kd hb,ai h.sh hb,h.e8⟩
def Ap(w:World)(o a0 a1 a2 a3 a4 a5 a6 a7:Int)(W:World):Prop:=W.cell? ⟨w.heap.size,0,none⟩=some (.int .i64 o)/\W.cell? ⟨w.heap.size,1,none⟩=some (.int .i64 a0)/\W.cell? ⟨w.heap.size,2,none⟩=some (.int .i64 a1)/\W.cell? ⟨w.heap.size,3,none⟩=some (.int .i64 a2)/\W.cell? ⟨w.heap.size,4,none⟩=some (.int .i64 a3)/\W.cell? ⟨w.heap.size,5,none⟩=some (.int .i64 a4)/\W.cell? ⟨w.heap.size,6,none⟩=some (.int .i64 a5)/\W.cell? ⟨w.heap.size,7,none⟩=some (.int .i64 a6)/\W.cell? ⟨w.heap.size,8,none⟩=some (.int .i64 a7)
theorem aas(w:World)(o a0 a1 a2 a3 a4 a5 a6 a7:Int)(t:TypeId):Ap w o a0 a1 a2 a3 a4 a5 a6 a7 (w.alloc (.cells #[Value.int .i64 o,Value.int .i64 a0,Value.int .i64 a1,Value.int .i64 a2,Value.int .i64 a3,Value.int .i64 a4,Value.int .i64 a5,Value.int .i64 a6,Value.int .i64 a7] t)):=by
 have al:∀ j u,[Value.int .i64 o,Value.int .i64 a0,Value.int .i64 a1,Value.int .i64 a2,Value.int .i64 a3,Value.int .i64 a4,Value.int .i64 a5,Value.int .i64 a6,Value.int .i64 a7][j]?=some u->(w.alloc (.cells #[Value.int .i64 o,Value.int .i64 a0,Value.int .i64 a1,Value.int .i64 a2,Value.int .i64 a3,Value.int .i64 a4,Value.int .i64 a5,Value.int .i64 a6,Value.int .i64 a7] t)).cell? ⟨w.heap.size,j,none⟩=some u:=λj u a=>by
  have:=dH w [Value.int .i64 o,Value.int .i64 a0,Value.int .i64 a1,Value.int .i64 a2,Value.int .i64 a3,Value.int .i64 a4,Value.int .i64 a5,Value.int .i64 a6,Value.int .i64 a7] t j u a;rwa [Addr.add_mid,aCw]at this
 exact⟨al 0 _ rfl,al 1 _ rfl,al 2 _ rfl,al 3 _ rfl,al 4 _ rfl,al 5 _ rfl,al 6 _ rfl,al 7 _ rfl,al 8 _ rfl⟩
theorem Ap.of{w W W':World}{o a0 a1 a2 a3 a4 a5 a6 a7:Int}(h:Ap w o a0 a1 a2 a3 a4 a5 a6 a7 W)(hc:∀ j,W'.cell? ⟨w.heap.size,j,none⟩=W.cell? ⟨w.heap.size,j,none⟩):Ap w o a0 a1 a2 a3 a4 a5 a6 a7 W':=
 ⟨(hc 0).trans h.1,(hc 1).trans h.2.1,(hc 2).trans h.2.2.1,(hc 3).trans h.2.2.2.1,(hc 4).trans h.2.2.2.2.1,(hc 5).trans h.2.2.2.2.2.1,(hc 6).trans h.2.2.2.2.2.2.1,(hc 7).trans h.2.2.2.2.2.2.2.1,(hc 8).trans h.2.2.2.2.2.2.2.2⟩
def apo(w:World)(B S:Nat)(vK vH:Value)(bC:List Nat)(ss:List St)(x:St)(e:Ending)(w':World):Prop:=
 e=.returned (.tuple #[])/\∃ j vK' vH' ss',Yz w' B S vK' vH' (bC++[j]) ss'/\KB w w' S vK.ownBlock vH.ownBlock/\((ss'=ss/\ss[j]?=some x)\/(j=ss.length/\ss'=ss++[x]/\∀ s∈ss,s≠x))
theorem ae7(w:World)(B S:Nat)(vK vH:Value)(bC:List Nat)(ss:List St)(o a0 a1 a2 a3 a4 a5 a6 a7:Int)(hm:Yz w B S vK vH bC ss)(hB:B<=w.heap.size)(hn:ss.length<=8589934592)(hk:bC.length<=8589934592) :
  Calls Tryz.prog 119 #[.pointer (some ⟨S,0,none⟩),.agg #[Value.int .i64 o,Value.int .i64 a0,Value.int .i64 a1,Value.int .i64 a2,Value.int .i64 a3,Value.int .i64 a4,Value.int .i64 a5,Value.int .i64 a6,Value.int .i64 a7]] w (apo w B S vK vH bC ss (⟨o,[a0,a1,a2,a3,a4,a5,a6,a7]⟩:St)):=by
 have hS:=hm.t.lt;have hSB:=hm.tB;have HM:=hid hm;obtain⟨N,O,rfl⟩:=ak hm.kd;obtain⟨G,H,rfl⟩:=ak hm.sh;obtain⟨i0,hi,aT,aP,aO⟩:=info_parts Tryz.NV;obtain⟨i1,jU,gJ,gI,gG⟩:=info_parts Tryz.mE;clear hm;have ba:=(aB4 w.heap.size w).alloc (aB2 _) (.cells #[Value.int .i64 o,Value.int .i64 a0,Value.int .i64 a1,Value.int .i64 a2,Value.int .i64 a3,Value.int .i64 a4,Value.int .i64 a5,Value.int .i64 a6,Value.int .i64 a7] 119);have X1:=hid (aas w o a0 a1 a2 a3 a4 a5 a6 a7 119);have M1:=HM.out.below ba;go_enter Tryz.func119,Tryz.ntmps119;go_wp2_with fail;refine(ags S B _ _ ss o a0 a1 a2 a3 a4 a5 a6 a7 _ M1.t M1.sh M1.e8 hn).mono ?_;rintro e c ⟨j,rfl,nE,ae⟩;simp only[aB7]at ae;have HB:=hid (ba.trans (ae.mono (by omega)));have I:w.heap.size<c.heap.size:=by have:=ae.size;simp at this;omega
 have XH:=hid (X1.out.of (λj=>ae.cell (p:=⟨w.heap.size,j,none⟩) (by show w.heap.size<w.heap.size+1;omega)));have d:=hid (HM.out.below HB.out);have cT:=d.out.t.c1;clear ba M1 ae X1;rcases nE with hin | ⟨hj,alQ⟩
 ·have hjl:j<ss.length:=(aB9.1 hin).1;have jn:¬ ((j:Int)=(ss.length:Int)):=by omega
  have HIN:=hid hin;clear hin;have g:=hid d.out.t;have U:=hid d.out.sh;have V:=hid d.out.kd;have J:=hid (KB.of_below (T:=S) (r1:=(Value.slice G ss.length H).ownBlock) (r2:=none) HB.out);have as3:w.heap.size<c.heap.size:=I;have E8:=hid d.out.e8;have W:(Value.slice N bC.length O).ownBlock≠some S:=λe=>by have:=(d.out.kd.lt _ e).1;omega
  clear d;have Uj:(Value.slice G ss.length H).ownBlock≠some S:=λe=>by have:=(HM.out.sh.lt _ e).1;omega
  have e0:=g.out.c0;have e2:=g.out.f0;go_wp2_with (at_builtin;go_must (refine aCE _ rfl (.tmp 29) (.tmp 31) 22 rfl B 3 i1 (.int .i64 0) 1 8 Tryz.underlying22 jU gJ gI gG rfl (by decide) _ bC.length (aI bC) rfl (V.out.alloc _) ⟨c.heap.size,0,none⟩ 1 1 [.int .i64 (j:Nat)] rfl rfl (dH c [.int .i64 (j:Nat)] _) (by intro y P;simp at P;rcases P with rfl;rfl) (by decide) (by unfold maxLen;omega) (by omega) (by simp;omega) (c.heap.size+1) (by simp) ?_));intro x L l Be k Eh alW;have Ua:c.heap.size<=l.heap.size:=by
   have h4:=k.size;simp at h4;omega
  have Ut:x≠S:=by
   rcases Eh with h | h
   ·exact λe=>W (by rw[<-e];exact h)
   ·omega
  have m:KB c l S (Value.slice N bC.length O).ownBlock none:=⟨k.os,k.tape,k.output,Ua,λq Q n A _=>by
   rw[k.block q (by rw[aB7];omega) A,aCt _ _ _ (by omega)]⟩
  have X:=k.block S (by rw[aB7];omega) (λe=>W e.symm);have C:∀ o,l.cell? ⟨S,o,none⟩=c.cell? ⟨S,o,none⟩:=λo=>by
   rw[aCn (a:=⟨S,o,none⟩) X];exact aCB _ _ _ (by show S<c.heap.size;omega)
  have D:∀ o,l.frozen? ⟨S,o,none⟩=c.frozen? ⟨S,o,none⟩:=λo=>by
   rw[aCo (a:=⟨S,o,none⟩) X];exact aCS _ _ _ (by show S<c.heap.size;omega)
  have M:Two l S _ _:=⟨(C 0).trans g.out.c0,(C 1).trans g.out.c1,(D 0).trans g.out.f0,(D 1).trans g.out.f1⟩;have q0:=M.c0;have q2:=M.f0;have E1:=hid (M.set0 (.slice (some ⟨x,0,none⟩) (bC.length+1) L));have E2:=hid (dN (nu U.out m Uj (aY U.out V.out (by decide)) (by cases (Value.ownBlock _) <;> simp)) ⟨S,0,none⟩ (.slice (some ⟨x,0,none⟩) (bC.length+1) L) Uj)
  have E3:=hid (dN Be ⟨S,0,none⟩ (.slice (some ⟨x,0,none⟩) (bC.length+1) L) (by simpa [Value.ownBlock] using Ut));have Y:Hid (KB w (l.setCell ⟨S,0,none⟩ (.slice (some ⟨x,0,none⟩) (bC.length+1) L)) S (Value.slice N bC.length O).ownBlock (Value.slice G ss.length H).ownBlock):=hid ⟨m.os.trans J.out.os,m.tape.trans J.out.tape,m.output.trans J.out.output,by rw[aCr];omega,λq Q n A h3=>by
   rw[aCD _ _ _ _ n,m.block q (by omega) n A (by simp),J.out.block q Q n h3 (by simp)]⟩
  clear Be k Eh m M X C D g U V e0 e2;go_wp2_with fail
  go_end0
  refine⟨rfl,j,_,_,ss,⟨E1.out,hSB,?_,?_,E8.out⟩,Y.out,aCa ⟨rfl,HIN.out⟩⟩
  ·rw[aCd,show aI (bC++[j])=aI bC++[.int .i64 (j:Nat)] by simp[aI]];exact E3.out
  ·exact E2.out
 ·subst hj;have ag1:=hid alQ;clear alQ;have jn:((ss.length:Int)==(ss.length:Int))=true:=by simp
  go_wp2_with fail;have fT:=d.out.t.f1;have CR:S<c.heap.size:=by omega
  have OW:=hid d.out.sh;have aaA:Hid (∀ q,(Value.slice G ss.length H).ownBlock=some q->q<w.heap.size/\B<=q):=hid (λq h=>⟨(HM.out.sh.lt q h).2,(HM.out.sh.lt q h).1⟩);have Ui:(Value.slice G ss.length H).ownBlock≠some S:=λe=>by have:=(aaA.out _ e).2;omega
  refine wp_region_held_drew (S:=Ap w o a0 a1 a2 a3 a4 a5 a6 a7) (by kernel_rfl) (XH.out.of (λ_=>rfl)) (λZ=>?_);refine aCc (i:=0) (oi:={ dst:=some 15,op:=Op.move (.tmp 0),type:=_,pos:=_,after:=_,guard:=none }) (v:=(Value.pointer (some ⟨S,0,none⟩))) rfl (by kernel_rfl) (by kernel_rfl) (by kernel_rfl) (λ_ _ _ h=>h) (aCa ⟨by rfl,by intro w' r;(try dsimp only at r);go_simp⟩) (by assumption) ?_
  simp only[Act.put,aB1,aB5,aB6];refine aCc (i:=1) (oi:={ dst:=some 16,op:=Op.move (.tmp 0),type:=_,pos:=_,after:=_,guard:=none }) (v:=(Value.pointer (some ⟨S,0,none⟩))) rfl (by kernel_rfl) (by kernel_rfl) (by kernel_rfl) (λ_ _ _ h=>h) (aCa ⟨by rfl,by intro w' r;(try dsimp only at r);go_simp⟩) (by assumption) ?_
  simp only[Act.put,aB1,aB5,aB6];refine aCc (i:=2) (oi:={ dst:=some 17,op:=Op.nilCheck (.tmp 16),type:=_,pos:=_,after:=_,guard:=none }) (v:=(Value.pointer (some ⟨S,0,none⟩))) rfl (by kernel_rfl) (by kernel_rfl) (by kernel_rfl) (λ_ _ _ h=>h) (aCa ⟨by rfl,by intro w' r;(try dsimp only at r);go_simp⟩) (by assumption) ?_
  simp only[Act.put,aB1,aB5,aB6];refine aCc (i:=3) (oi:={ dst:=some 18,op:=Op.fieldAddr _ (.tmp 17) 1,type:=_,pos:=_,after:=_,guard:=none }) (v:=(Value.pointer (some ⟨S,1,none⟩))) rfl (by kernel_rfl) (by kernel_rfl) (by kernel_rfl) (λ_ _ _ h=>h) (aCa ⟨by rfl,by intro w' r;(try dsimp only at r);go_simp⟩) (by assumption) ?_
  simp only[Act.put,aB1,aB5,aB6];refine aCc (i:=5) (oi:={ dst:=some 20,op:=Op.load 119 (.tmp 3),type:=_,pos:=_,after:=_,guard:=none }) (v:=(Value.agg #[Value.int .i64 o,Value.int .i64 a0,Value.int .i64 a1,Value.int .i64 a2,Value.int .i64 a3,Value.int .i64 a4,Value.int .i64 a5,Value.int .i64 a6,Value.int .i64 a7])) rfl (by kernel_rfl) (by kernel_rfl) (by kernel_rfl) (λ_ _ _ h=>h) (aCa ⟨by rfl,by intro w' r;obtain⟨s0,s1,s2,s3,s4,s5,s6,s7,s8⟩:=r;go_simp⟩) (by assumption) ?_;simp only[Act.put,aB1,aB5,aB6];refine aCk (rs:=[4,6]) (by kernel_rfl) (by simp) ?_;refine aCf rfl (λK f=>?_) (aCf rfl (λK f=>?_) aCj)
  focus
   go_simp
   refine f.out _ _ (by assumption) (λZ=>?_);clear f K;refine aCk (rs:=[6]) (by kernel_rfl) (by simp) ?_;refine aCf rfl (λK f=>?_) aCj
   go_simp
   refine f.out _ _ (XH.out.of (λj=>by show (c.alloc _).cell? _=_;exact aCB _ _ _ I)) (λZ=>?_)
  rotate_left
  focus
   go_simp
   refine f.out _ _ (XH.out.of (λj=>by show (c.alloc _).cell? _=_;exact aCB _ _ _ I)) (λZ=>?_);clear f K;refine aCk (rs:=[4]) (by kernel_rfl) (by simp) ?_;refine aCf rfl (λK f=>?_) aCj
   go_simp
   refine f.out _ _ (by assumption) (λZ=>?_)
  all_goals
   clear f K;refine aCk (rs:=[7]) (by kernel_rfl) (by simp) ?_;refine aCf rfl (λK f=>?_) aCj;refine aCV _ (by rfl) (.tmp 19) (.tmp 21) 65 (by rfl) B 119 i0 (.agg #[.int .i64 0,.int .i64 0,.int .i64 0,.int .i64 0,.int .i64 0,.int .i64 0,.int .i64 0,.int .i64 0,.int .i64 0]) 9 72 Tryz.underlying65 hi aT aP aO rfl (by decide) _ ss.length (gu ss) (by rfl) ((OW.out.alloc _).drew) ⟨c.heap.size,0,none⟩ 1 1 [Value.int .i64 o,Value.int .i64 a0,Value.int .i64 a1,Value.int .i64 a2,Value.int .i64 a3,Value.int .i64 a4,Value.int .i64 a5,Value.int .i64 a6,Value.int .i64 a7] (by rfl) (by rfl) (dH c _ _) (by intro y P;simp at P;rcases P with rfl | rfl | rfl | rfl | rfl | rfl | rfl | rfl | rfl <;> rfl) (by decide) (by unfold maxLen;omega) (by omega) (by simp;omega) (c.heap.size+1) (by simp) ?_
   intro E F u R b hat iy;have Eg:E≠S:=by
    rcases hat with h | h
    ·exact λe=>Ui (by rw[<-e];exact h)
    ·omega
   have afV:c.heap.size+1<=u.heap.size:=by
    have h4:(c.drew.alloc (.cells #[Value.int .i64 o,Value.int .i64 a0,Value.int .i64 a1,Value.int .i64 a2,Value.int .i64 a3,Value.int .i64 a4,Value.int .i64 a5,Value.int .i64 a6,Value.int .i64 a7] 119)).heap.size<=u.heap.size:=b.size;rw[aB7]at h4;exact h4
   have qB:KB c u S (Value.slice G ss.length H).ownBlock none:=⟨b.os,b.tape,b.output,by omega,λq Q n A _=>by
    rw[b.block q (by show q<(c.alloc (.cells #[Value.int .i64 o,Value.int .i64 a0,Value.int .i64 a1,Value.int .i64 a2,Value.int .i64 a3,Value.int .i64 a4,Value.int .i64 a5,Value.int .i64 a6,Value.int .i64 a7] 119)).heap.size;rw[aB7];omega) A];show (c.alloc (.cells #[Value.int .i64 o,Value.int .i64 a0,Value.int .i64 a1,Value.int .i64 a2,Value.int .i64 a3,Value.int .i64 a4,Value.int .i64 a5,Value.int .i64 a6,Value.int .i64 a7] 119)).heap[q]?=_;rw[aCt _ _ _ (by omega)]⟩
   have hb:=b.block S (by show S<(c.alloc (.cells #[Value.int .i64 o,Value.int .i64 a0,Value.int .i64 a1,Value.int .i64 a2,Value.int .i64 a3,Value.int .i64 a4,Value.int .i64 a5,Value.int .i64 a6,Value.int .i64 a7] 119)).heap.size;rw[aB7];omega) (λe=>Ui e.symm);have C:∀ z,u.cell? ⟨S,z,none⟩=c.cell? ⟨S,z,none⟩:=λz=>by
    rw[aCn (a:=⟨S,z,none⟩) hb];show (c.alloc (.cells #[Value.int .i64 o,Value.int .i64 a0,Value.int .i64 a1,Value.int .i64 a2,Value.int .i64 a3,Value.int .i64 a4,Value.int .i64 a5,Value.int .i64 a6,Value.int .i64 a7] 119)).cell? ⟨S,z,none⟩=_;exact aCB _ _ _ CR
   have D:∀ z,u.frozen? ⟨S,z,none⟩=c.frozen? ⟨S,z,none⟩:=λz=>by
    rw[aCo (a:=⟨S,z,none⟩) hb];show (c.alloc (.cells #[Value.int .i64 o,Value.int .i64 a0,Value.int .i64 a1,Value.int .i64 a2,Value.int .i64 a3,Value.int .i64 a4,Value.int .i64 a5,Value.int .i64 a6,Value.int .i64 a7] 119)).frozen? ⟨S,z,none⟩=_;exact aCS _ _ _ CR
   have T2:Two u S (.slice N bC.length O) (.slice G ss.length H):=⟨(C 0).trans d.out.t.c0,(C 1).trans d.out.t.c1,(D 0).trans d.out.t.f0,(D 1).trans d.out.t.f1⟩;have g2:Ap w o a0 a1 a2 a3 a4 a5 a6 a7 u:=XH.out.of (λj=>qB.cell (p:=⟨w.heap.size,j,none⟩) I (by show w.heap.size≠S;omega) (λe=>Nat.lt_irrefl _ (aaA.out _ e.symm).1) (by simp));have g:=hid (T2.set1 (.slice (some ⟨E,0,none⟩) (ss.length+1) F));have U:Hid ((u.setCell ⟨S,1,none⟩ (.slice (some ⟨E,0,none⟩) (ss.length+1) F)).ownsRow B 119 9 (.slice (some ⟨E,0,none⟩) (ss.length+1) F) (ss++[(⟨o,[a0,a1,a2,a3,a4,a5,a6,a7]⟩:St)]).length (gu (ss++[(⟨o,[a0,a1,a2,a3,a4,a5,a6,a7]⟩:St)]))):=hid (dN (by
    rw[aCd,yR];exact R) ⟨S,1,none⟩ (.slice (some ⟨E,0,none⟩) (ss.length+1) F) (by simpa [Value.ownBlock] using Eg))
   have W:(Value.slice N bC.length O).ownBlock≠some S:=λe=>by have:=(d.out.kd.lt _ e).1;omega
   have V:=hid (dN (nu d.out.kd qB W (aY d.out.kd OW.out (by decide)) (by cases (Value.slice N bC.length O).ownBlock <;> simp)) ⟨S,1,none⟩ (.slice (some ⟨E,0,none⟩) (ss.length+1) F) W)
   have J:Hid (KB w (u.setCell ⟨S,1,none⟩ (.slice (some ⟨E,0,none⟩) (ss.length+1) F)) S (Value.slice G ss.length H).ownBlock none):=hid ⟨qB.os.trans HB.out.os,qB.tape.trans HB.out.tape,qB.output.trans HB.out.output,by rw[aCr];omega,λq Q n A h3=>by
    rw[aCD _ _ _ _ n,qB.block q (by omega) n A h3];exact HB.out.block q Q⟩
   have Uj:(Value.slice (some ⟨E,0,none⟩) (ss.length+1) F).ownBlock≠some S:=by simpa [Value.ownBlock] using Eg
   refine f.out _ _ g2 (λZ=>?_);have wE:Hid (Ap w o a0 a1 a2 a3 a4 a5 a6 a7 (u.setCell ⟨S,1,none⟩ (.slice (some ⟨E,0,none⟩) (ss.length+1) F))):=hid (g2.of (λj=>aB8 _ _ _ _ (λe=>by have:=congrArg Addr.block e;simp at this;omega)));have c2:=T2.c1;have f2:=T2.f1;have E8:Hid (ku (ss++[(⟨o,[a0,a1,a2,a3,a4,a5,a6,a7]⟩:St)])):=hid (λs hs=>by
    rcases aCG.1 hs with hs | hs
    ·exact HM.out.e8 s hs
    ·simp at hs;subst hs;rfl)
   clear f K R b hat g2 qB T2 hb C D d cT fT OW;simp only[Act.put,aB1];refine aCc (i:=8) (oi:={ dst:=some 23,op:=Op.nilCheck (.tmp 15),type:=_,pos:=_,after:=_,guard:=none }) (v:=(Value.pointer (some ⟨S,0,none⟩))) rfl (by kernel_rfl) (by kernel_rfl) (by kernel_rfl) (λ_ _ _ h=>h) (aCa ⟨by rfl,by intro w' r;(try dsimp only at r);go_simp⟩) (by assumption) ?_
   simp only[Act.put];refine aCc (i:=9) (oi:={ dst:=some 24,op:=Op.fieldAddr _ (.tmp 23) 1,type:=_,pos:=_,after:=_,guard:=none }) (v:=(Value.pointer (some ⟨S,1,none⟩))) rfl (by kernel_rfl) (by kernel_rfl) (by kernel_rfl) (λ_ _ _ h=>h) (aCa ⟨by rfl,by intro w' r;(try dsimp only at r);go_simp⟩) (by assumption) ?_
   simp only[Act.put];refine aCk (rs:=[10]) (by kernel_rfl) (by simp) ?_;refine aCf rfl (λK f=>?_) aCj
   go_simp
   refine f.out _ _ wE.out (λZ=>?_);clear f K;refine aC0 (by kernel_rfl) ?_ _;clear Z c2 f2 wE;have as3:w.heap.size<(u.setCell ⟨S,1,none⟩ (.slice (some ⟨E,0,none⟩) (ss.length+1) F)).heap.size:=by rw[aCr];omega
   generalize u.setCell ⟨S,1,none⟩ (.slice (some ⟨E,0,none⟩) (ss.length+1) F)=W5 at *;have e0:=g.out.c0;have e2:=g.out.f0;go_wp2_with (at_builtin;go_must (refine aCE _ rfl (.tmp 29) (.tmp 31) 22 rfl B 3 i1 (.int .i64 0) 1 8 Tryz.underlying22 jU gJ gI gG rfl (by decide) _ bC.length (aI bC) rfl (V.out.alloc _) ⟨W5.heap.size,0,none⟩ 1 1 [.int .i64 (ss.length:Nat)] rfl rfl (dH W5 [.int .i64 (ss.length:Nat)] _) (by intro y P;simp at P;rcases P with rfl;rfl) (by decide) (by unfold maxLen;omega) (by omega) (by simp;omega) (W5.heap.size+1) (by simp) ?_));intro x L l Be k Eh alW;have Ua:W5.heap.size<=l.heap.size:=by
    have h4:=k.size;simp at h4;omega
   have Ut:x≠S:=by
    rcases Eh with h | h
    ·exact λe=>W (by rw[<-e];exact h)
    ·omega
   have m:KB W5 l S (Value.slice N bC.length O).ownBlock none:=⟨k.os,k.tape,k.output,Ua,λq Q n A _=>by
    rw[k.block q (by rw[aB7];omega) A,aCt _ _ _ (by omega)]⟩
   have X:=k.block S (by rw[aB7];omega) (λe=>W e.symm);have C:∀ o,l.cell? ⟨S,o,none⟩=W5.cell? ⟨S,o,none⟩:=λo=>by
    rw[aCn (a:=⟨S,o,none⟩) X];exact aCB _ _ _ (by show S<W5.heap.size;omega)
   have D:∀ o,l.frozen? ⟨S,o,none⟩=W5.frozen? ⟨S,o,none⟩:=λo=>by
    rw[aCo (a:=⟨S,o,none⟩) X];exact aCS _ _ _ (by show S<W5.heap.size;omega)
   have M:Two l S _ _:=⟨(C 0).trans g.out.c0,(C 1).trans g.out.c1,(D 0).trans g.out.f0,(D 1).trans g.out.f1⟩;have q0:=M.c0;have q2:=M.f0;have E1:=hid (M.set0 (.slice (some ⟨x,0,none⟩) (bC.length+1) L));have E2:=hid (dN (nu U.out m Uj (aY U.out V.out (by decide)) (by cases (Value.ownBlock _) <;> simp)) ⟨S,0,none⟩ (.slice (some ⟨x,0,none⟩) (bC.length+1) L) Uj)
   have E3:=hid (dN Be ⟨S,0,none⟩ (.slice (some ⟨x,0,none⟩) (bC.length+1) L) (by simpa [Value.ownBlock] using Ut));have Y:Hid (KB w (l.setCell ⟨S,0,none⟩ (.slice (some ⟨x,0,none⟩) (bC.length+1) L)) S (Value.slice N bC.length O).ownBlock (Value.slice G ss.length H).ownBlock):=hid ⟨m.os.trans J.out.os,m.tape.trans J.out.tape,m.output.trans J.out.output,by rw[aCr];omega,λq Q n A h3=>by
    rw[aCD _ _ _ _ n,m.block q (by omega) n A (by simp),J.out.block q Q n h3 (by simp)]⟩
   clear Be k Eh m M X C D g U V e0 e2;go_wp2_with fail
   go_end0
   refine⟨rfl,ss.length,_,_,ss++[(⟨o,[a0,a1,a2,a3,a4,a5,a6,a7]⟩:St)],⟨E1.out,hSB,?_,?_,E8.out⟩,Y.out,aCb ⟨rfl,rfl,ag1.out⟩⟩
   ·rw[aCd,show aI (bC++[ss.length])=aI bC++[.int .i64 (ss.length:Nat)] by simp[aI]];exact E3.out
   ·exact E2.out
theorem vQ{f g:Nat->Nat}:∀ m,(∀ i,i<m->f i=g i)->bH f m=bH g m
 | 0,_=>rfl
 | m+1,h=>by rw[bH,bH,vQ m (λi hi=>h i (by omega)),h m (by omega)]
def fE(bC:List Nat):Nat->Nat:=λi=>bC.getD i 0
structure Da (sh:Nat->St) (k:Nat) (bC:List Nat) (ss:List St):Prop where
 len:bC.length=k
 at_:∀ i,i<k->ss[fE bC i]?=some (sh i)
 nd:ss.Pairwise (λa b=>a≠b)
 fo:Fo (fE bC) k
 cnt:ss.length=bH (fE bC) k
theorem aff(sh:Nat->St):Da sh 0 [] []:=⟨rfl,λi h=>by omega,by simp,λi h=>by omega,rfl⟩
theorem XL{bC:List Nat}{j i:Nat}(h:i<bC.length):fE (bC++[j]) i=fE bC i:=fF h
theorem XM(bC:List Nat)(j:Nat):fE (bC++[j]) bC.length=j:=dV bC j
theorem akO{sh:Nat->St}{k j:Nat}{bC:List Nat}{ss:List St}(h:Da sh k bC ss)(hj:ss[j]?=some (sh k)):Da sh (k+1) (bC++[j]) ss:=by
 have b:=h.len;have f:=(aB9.1 hj).1;have e:∀ i,i<k->fE (bC++[j]) i=fE bC i:=λi d=>XL (by omega);have a:fE (bC++[j]) k=j:=by rw[<-b];exact XM bC j
 refine⟨by simp[b],λi d=>?_,h.nd,λi d=>?_,?_⟩
 ·by_cases c:i=k
  ·subst c;rw[a];exact hj
  ·rw[e i (by omega)];exact h.at_ i (by omega)
 ·rw[vQ i (λq g=>e q (by omega))];by_cases c:i=k
  ·subst c;rw[a,<-h.cnt];omega
  ·rw[e i (by omega)];exact h.fo i (by omega)
 ·rw[bH,vQ k e,a,<-h.cnt];omega
theorem akP{sh:Nat->St}{k:Nat}{bC:List Nat}{ss:List St}(h:Da sh k bC ss)(hn:∀ s∈ss,s≠sh k):Da sh (k+1) (bC++[ss.length]) (ss++[sh k]):=by
 have f:=h.len;have e:∀ i,i<k->fE (bC++[ss.length]) i=fE bC i:=λi g=>XL (by omega);have d:fE (bC++[ss.length]) k=ss.length:=by rw[<-f];exact XM bC _
 refine⟨by simp[f],λi g=>?_,?_,λi g=>?_,?_⟩
 ·by_cases c:i=k
  ·subst c;rw[d];simp
  ·rw[e i (by omega)];have j:=h.at_ i (by omega);rw[aCh (aB9.1 j).1];exact j
 ·rw[List.pairwise_append];refine⟨h.nd,by simp,λa m b l=>?_⟩;simp at l;subst l;exact hn a m
 ·rw[vQ i (λq n=>e q (by omega))];by_cases c:i=k
  ·subst c;rw[d,<-h.cnt];exact aB2 _
  ·rw[e i (by omega)];exact h.fo i (by omega)
 ·rw[bH,vQ k e,d,<-h.cnt];simp
theorem abx{sh:Nat->St}{k:Nat}{bC:List Nat}{ss:List St}(h:Da sh k bC ss){i j:Nat}(hi:i<k)(hj:j<k):fE bC i=fE bC j↔sh i=sh j:=by
 have a:=h.at_ i hi;have b:=h.at_ j hj;constructor
 ·intro e;rw[e,b]at a;exact(Option.some.inj a).symm
 ·intro e;rw[e]at a;obtain⟨d,f⟩:=aB9.1 a;obtain⟨g,l⟩:=aB9.1 b;have m:=List.pairwise_iff_getElem.1 h.nd;rcases Nat.lt_trichotomy (fE bC i) (fE bC j) with c | c | c
  ·exact absurd (f.trans l.symm) (m _ _ d g c)
  ·exact c
  ·exact absurd (l.trans f.symm) (m _ _ g d c)
def yj(o:Nat)(f:Nat->Nat):St:=⟨(o:Int),[(f 0:Int),f 1,f 2,f 3,f 4,f 5,f 6,f 7]⟩
theorem Ny{o o':Nat}{f f':Nat->Nat}:yj o f=yj o' f'↔o=o'/\∀ a,a<8->f a=f' a:=by
 constructor
 ·intro h;simp only[yj,St.mk.injEq,List.cons.injEq,and_true,Int.ofNat_inj]at h;obtain⟨b,c,d,e,g,i,j,k,l⟩:=h;refine⟨b,λa m=>?_⟩;have:a=0\/a=1\/a=2\/a=3\/a=4\/a=5\/a=6\/a=7:=by omega
  rcases this with rfl | rfl | rfl | rfl | rfl | rfl | rfl | rfl <;> assumption
 ·rintro ⟨rfl,h⟩;simp only[yj,h 0 (by omega),h 1 (by omega),h 2 (by omega),h 3 (by omega),h 4 (by omega),h 5 (by omega),h 6 (by omega),h 7 (by omega)]
def Po(out:Nat->Nat)(nx:Nat->Nat->Nat)(kd:Nat->Nat)(i:Nat):St:=yj (out i) (λa=>kd (nx i a))
theorem abw{out:Nat->Nat}{nx:Nat->Nat->Nat}{kd:Nat->Nat}{K:Nat}{bC:List Nat}{ss:List St}(h:Da (Po out nx kd) K bC ss):Rfn K out nx kd (fE bC):=λi j hi hj=>by
 rw[abx h hi hj];exact Ny
theorem wG{w:World}{b:Nat}{x0 x1:Value}(d0:w.cell? ⟨b,0,none⟩=some x0)(d1:w.cell? ⟨b,1,none⟩=some x1)(y0 y1:Value) :
  ((w.setCell ⟨b,0,none⟩ y0).setCell ⟨b,1,none⟩ y1).rangeAt b 0 [y0,y1]:=by
 have o:∀ (w:World) (i j:Nat) (u:Value),i≠j->(w.setCell ⟨b,i,none⟩ u).cell? ⟨b,j,none⟩=w.cell? ⟨b,j,none⟩:=λw i j u h=>aB8 _ _ _ _ (λq=>h (by have:=congrArg Addr.off q;simpa using this));intro j v a;rw[aCw];cases j with
 | zero=>
  simp at a;subst a;rw[o _ 1 0 _ (by omega)];exact aCz _ _ _ d0
 | succ j=>cases j with
  | zero=>
   simp at a;subst a;exact aCz _ _ _ (by rw[o _ 0 1 _ (by omega)];exact d1)
  | succ j=>simp at a
theorem Tryz.aeK:(Tryz.prog.info? 122).map (·.size)=some 2:=by kernel_rfl
def akn(K:Nat)(sh:Nat->St)(w:World)(e:Ending)(w':World):Prop:=
 ∃ vK vH bC ss,e=.returned (.agg #[vK,vH])/\Da sh K bC ss/\ku ss/\w'.ownsRow w.heap.size 3 1 vK bC.length (aI bC)/\w'.ownsRow w.heap.size 119 9 vH ss.length (gu ss)/\Below w.heap.size w w'
theorem akQ{sh:Nat->St}{k:Nat}{bC:List Nat}{ss:List St}(h:Da sh k bC ss):ss.length<=k:=by
 rw[h.cnt];exact adm h.fo k (aB2 _)
theorem WS{w:World}{b o:Nat}{f:Nat->Nat}(h:pG w b o ((List.range 8).map f)):w.cell? ⟨b,0,none⟩=some (.int .i64 (o:Nat))/\∀ m,m<8->w.cell? ⟨b,1+m,none⟩=some (.int .i64 (f m:Nat)):=
 ⟨h.c0,λm hm=>by rw[h.c m hm];simp[List.getD,hm]⟩
theorem Zr(K g cap B0:Nat)(out:Nat->Nat)(nx:Nat->Nat->Nat)(zR:List Nat)(vK0 vH0:Value)(w:World)(hK:K<=796594185)(hr:w.ownsRow B0 119 9 (.slice (some ⟨g,0,none⟩) K cap) K (gu ((List.range K).map λi=>yj (out i) (nx i))))(hg:g<w.heap.size)(hkd:NR w vK0 zR)(sJ:zR.length=K)(hH:∃ a l c,vH0=.slice a l c)(hc:∀ i a,i<K->a<8->nx i a<K) :
  Calls Tryz.prog 71 #[.agg #[vK0,vH0],.slice (some ⟨g,0,none⟩) K cap] w (akn K (Po out nx (fE zR)) w):=by
 obtain⟨B,C,rfl,api,IZ⟩:=hkd;obtain⟨D,E,F,rfl⟩:=hH;rw[sJ]at api IZ;rw[sJ];have HR:=hid hr;have HKR:=hid IZ;have rY:=hid hc;clear hr IZ hc;have b1:=(aB4 w.heap.size w).alloc (aB2 _) (.cells #[.slice B K C,.slice D E F] 122);have b2:=b1.alloc (by simp) (.cells #[.slice none 0 0,.slice none 0 0] 122);have b3:=hid (b2.alloc (by simp;omega) (.cells #[.slice none 0 0,.slice none 0 0] 122));go_enter Tryz.func71,Tryz.ntmps71;go_wp2_with fail;have e2:((w.alloc (.cells #[.slice B K C,.slice D E F] 122)).alloc (.cells #[.slice none 0 0,.slice none 0 0] 122)).heap.size=w.heap.size+2:=by simp
 have e1:(w.alloc (.cells #[.slice B K C,.slice D E F] 122)).heap.size=w.heap.size+1:=by simp
 have J:=bY ((w.alloc (.cells #[.slice B K C,.slice D E F] 122)).alloc (.cells #[.slice none 0 0,.slice none 0 0] 122)) (.slice none 0 0) (.slice none 0 0) 122;rw[e2]at J;have L:=(bY (w.alloc (.cells #[.slice B K C,.slice D E F] 122)) (.slice none 0 0) (.slice none 0 0) 122).below ((aB4 (w.heap.size+2) _).alloc (by simp) (.cells #[.slice none 0 0,.slice none 0 0] 122)) (by simp);rw[e1]at L;have V:=((bY w (.slice B K C) (.slice D E F) 122).below ((aB4 (w.heap.size+1) _).alloc (by simp) (.cells #[.slice none 0 0,.slice none 0 0] 122)) (by simp)).below ((aB4 (w.heap.size+2) _).alloc (by simp) (.cells #[.slice none 0 0,.slice none 0 0] 122)) (by simp);have J:=hid J;have L:=hid L;have V:=hid V;clear b1 b2 e1 e2
 go_loopw [14] (λi n=>∃ (k:Nat) (r:List Nat) (ss:List St) (vK vH:Value),k<=K/\i=.int .i64 k/\Hid (Da (Po out nx (fE zR)) k r ss)/\Hid (Yz n (w.heap.size+3) (w.heap.size+2) vK vH r ss)/\Hid (Two n w.heap.size (.slice B K C) (.slice D E F))/\Hid (Two n (w.heap.size+1) (.slice none 0 0) (.slice none 0 0))/\Hid (Below w.heap.size w n)/\w.heap.size+3<=n.heap.size) (λi _=>K - (intOf i).toNat)
 case atStart=>exact⟨0,[],[],_,_,aCg _,rfl,hid (aff _),hid ⟨J.out,by omega,aCp _ _ _ _,aCp _ _ _ _,λs hs=>by simp at hs⟩,V,L,b3,by simp⟩
 case round=>
  obtain⟨k,r,ss,vK,vH,hk,rfl,M,v,X,H,N,hsz⟩:=hrel;rename World=>W0;clear J V L b3;have as5:=akQ M.out;have atp:=M.out.len;by_cases G:k<K
  ·have z:=ai HR.out N.out;have h8:ku ((List.range K).map λi=>yj (out i) (nx i)):=λs hs=>by
    obtain⟨i,_,rfl⟩:=aCU.1 hs;rfl
   have O:bu ((List.range K).map λi=>yj (out i) (nx i)) k=yj (out k) (nx k):=by simp[bu,List.getD,G]
   have m:∀ j u,j<9->(iA (yj (out k) (nx k)))[j]?=some u->W0.cell? ⟨g,k*9+j,none⟩=some u:=λj u hj hu=>by
    rw[z.cellAt (k*9+j) (by omega),xJ h8 (by simpa using G) hj,O,hu]
   have y0:W0.cell? ⟨g,k*9,none⟩=some (.int .i64 (out k:Nat)):=m 0 _ (by omega) rfl;have y1:W0.cell? ⟨g,k*9+1,none⟩=some (.int .i64 (nx k 0:Nat)):=m 1 _ (by omega) rfl;have y2:W0.cell? ⟨g,k*9+2,none⟩=some (.int .i64 (nx k 1:Nat)):=m 2 _ (by omega) rfl;have y3:W0.cell? ⟨g,k*9+3,none⟩=some (.int .i64 (nx k 2:Nat)):=m 3 _ (by omega) rfl;have y4:W0.cell? ⟨g,k*9+4,none⟩=some (.int .i64 (nx k 3:Nat)):=m 4 _ (by omega) rfl;have y5:W0.cell? ⟨g,k*9+5,none⟩=some (.int .i64 (nx k 4:Nat)):=m 5 _ (by omega) rfl;have y6:W0.cell? ⟨g,k*9+6,none⟩=some (.int .i64 (nx k 5:Nat)):=m 6 _ (by omega) rfl;have y7:W0.cell? ⟨g,k*9+7,none⟩=some (.int .i64 (nx k 6:Nat)):=m 7 _ (by omega) rfl;have y8:W0.cell? ⟨g,k*9+8,none⟩=some (.int .i64 (nx k 7:Nat)):=m 8 _ (by omega) rfl;have HX:Hid (∀ j,j<8->(#[Value.int .i64 (nx k 0:Nat),.int .i64 (nx k 1:Nat),.int .i64 (nx k 2:Nat),.int .i64 (nx k 3:Nat),.int .i64 (nx k 4:Nat),.int .i64 (nx k 5:Nat),.int .i64 (nx k 6:Nat),.int .i64 (nx k 7:Nat)]:Array Value)[j]?=some (.int .i64 (nx k j:Nat))):=hid (λj hj=>by
    have:j=0\/j=1\/j=2\/j=3\/j=4\/j=5\/j=6\/j=7:=by omega
    rcases this with rfl | rfl | rfl | rfl | rfl | rfl | rfl | rfl <;> rfl)
   have xQ:=hid (λa (ha:a<8)=>rY.out k a G ha);clear m O h8 z;have bA:=(aB4 W0.heap.size W0).alloc (aB2 _) (.cells #[.int .i64 (out k:Nat),.int .i64 (nx k 0:Nat),.int .i64 (nx k 1:Nat),.int .i64 (nx k 2:Nat),.int .i64 (nx k 3:Nat),.int .i64 (nx k 4:Nat),.int .i64 (nx k 5:Nat),.int .i64 (nx k 6:Nat),.int .i64 (nx k 7:Nat)] 119);have bB:=bA.alloc (by simp) (.cells #[.int .i64 (out k:Nat),.int .i64 0,.int .i64 0,.int .i64 0,.int .i64 0,.int .i64 0,.int .i64 0,.int .i64 0,.int .i64 0] 119);have Q:=Tk (W0.alloc (.cells #[.int .i64 (out k:Nat),.int .i64 (nx k 0:Nat),.int .i64 (nx k 1:Nat),.int .i64 (nx k 2:Nat),.int .i64 (nx k 3:Nat),.int .i64 (nx k 4:Nat),.int .i64 (nx k 5:Nat),.int .i64 (nx k 6:Nat),.int .i64 (nx k 7:Nat)] 119)) (out k) 119;rw[show (W0.alloc (.cells #[.int .i64 (out k:Nat),.int .i64 (nx k 0:Nat),.int .i64 (nx k 1:Nat),.int .i64 (nx k 2:Nat),.int .i64 (nx k 3:Nat),.int .i64 (nx k 4:Nat),.int .i64 (nx k 5:Nat),.int .i64 (nx k 6:Nat),.int .i64 (nx k 7:Nat)] 119)).heap.size=W0.heap.size+1 by simp]at Q;have Q:=hid Q;have BB:=hid bB;clear bA bB;go_wp2_with fail;clear y0 y1 y2 y3 y4 y5 y6 y7 y8
   go_loopw [23] (λi n=>∃ l:Nat,l<=8/\i=.int .i64 l/\Hid (pG n (W0.heap.size+1) (out k) ((List.range l).map λa=>fE zR (nx k a)))/\Hid (Below W0.heap.size W0 n)/\W0.heap.size+1<n.heap.size) (λi _=>8 - (intOf i).toNat)
   case atStart=>exact⟨0,by omega,rfl,Q,BB,by simp⟩
   case round=>
    obtain⟨l,hl,rfl,Y,A,azc⟩:=hrel;rename World=>W1;clear Q BB;by_cases R:l<8
    ·have IX:=λW=>jh (P:=Tryz.prog) W Tryz.underlying117 (lC Tryz.underlying3) (by kernel_rfl) R (HX.out l R);have hto:=xQ.out l R;obtain⟨Z,eK,hgK,S⟩:=HKR.out (by omega);subst eK;have z0:=(A.out.cell (p:=⟨w.heap.size,0,none⟩) X.out.lt).trans X.out.c0;have zc:W1.cell? ⟨Z,nx k l,none⟩=some (.int .i64 (fE zR (nx k l):Nat)):=(A.out.cell (p:=⟨Z,nx k l,none⟩) (by show Z<W0.heap.size;omega)).trans ((N.out.cell (p:=⟨Z,nx k l,none⟩) hgK).trans (S _ hto));have X0:((List.range l).map λa=>fE zR (nx k a)).length=l:=by simp
     have n1:=Y.out.c l R;have n2:=Y.out.f (1+l) (by omega);have D8:=Y.out.set (j:=fE zR (nx k l)) (by rw[X0];exact R);rw[X0,show ((List.range l).map λa=>fE zR (nx k a))++[fE zR (nx k l)]=(List.range (l+1)).map λa=>fE zR (nx k a) by rw[aCT,aCM];rfl]at D8;have D8:=hid D8;have DB:=hid (A.out.setCell (p:=⟨W0.heap.size+1,1+l,none⟩) (by show W0.heap.size<=W0.heap.size+1;omega) (.int .i64 (fE zR (nx k l):Nat)));clear S X0;generalize ((List.range l).map λa=>fE zR (nx k a)).getD l 0=ov at *;generalize fE zR (nx k l)=kv at *;generalize nx k l=to at *;go_wp2_with fail;go_roundw
     case rel=>exact⟨l+1,by omega,by go_num,D8,DB,by simp;omega⟩
     case measure=>simp[intOf];omega
    ·obtain rfl:l=8:=by omega
     obtain⟨q0,o⟩:=WS Y.out;have q1:W1.cell? ⟨W0.heap.size+1,1,none⟩=_:=o 0 (by omega);have q2:W1.cell? ⟨W0.heap.size+1,2,none⟩=_:=o 1 (by omega);have q3:W1.cell? ⟨W0.heap.size+1,3,none⟩=_:=o 2 (by omega);have q4:W1.cell? ⟨W0.heap.size+1,4,none⟩=_:=o 3 (by omega);have q5:W1.cell? ⟨W0.heap.size+1,5,none⟩=_:=o 4 (by omega);have q6:W1.cell? ⟨W0.heap.size+1,6,none⟩=_:=o 5 (by omega);have q7:W1.cell? ⟨W0.heap.size+1,7,none⟩=_:=o 6 (by omega);have q8:W1.cell? ⟨W0.heap.size+1,8,none⟩=_:=o 7 (by omega);have I:=hid (v.out.below A.out);have azC:=A.out.size;clear o;go_wp2_with fail;refine(ae7 W1 _ _ _ _ r ss _ _ _ _ _ _ _ _ _ I.out (by omega) (by omega) (by omega)).mono ?_;rintro e w5 ⟨rfl,j,vK5,vH5,zB,M5,K5,nE⟩;have R5:Hid (Da (Po out nx (fE zR)) (k+1) (r++[j]) zB):=hid (by
      rcases nE with⟨rfl,h1⟩ | ⟨rfl,rfl,h1⟩
      ·exact akO M.out h1
      ·exact akP M.out h1)
     have T:∀ b,b<w.heap.size+3->b≠w.heap.size+2->w5.heap[b]?=W1.heap[b]?:=λb U d=>K5.block b (by omega) d (λe=>by have:=(I.out.kd.lt b e.symm).1;omega) (λe=>by have:=(I.out.sh.lt b e.symm).1;omega);have tw:∀ b x y,b<w.heap.size+3->b≠w.heap.size+2->Two W1 b x y->Two w5 b x y:=λb x y U d h=>⟨(aCn (a:=⟨b,0,none⟩) (T b U d)).trans h.c0,(aCn (a:=⟨b,1,none⟩) (T b U d)).trans h.c1,(aCo (a:=⟨b,0,none⟩) (T b U d)).trans h.f0,(aCo (a:=⟨b,1,none⟩) (T b U d)).trans h.f1⟩;have D2:=hid (tw _ _ _ (by omega) (by omega) (X.out.below A.out X.out.lt));have D4:=hid (tw _ _ _ (by omega) (by omega) (H.out.below A.out H.out.lt));have DB:=hid (KA (N.out.trans (A.out.mono N.out.size)) K5 (by omega) (by omega) (λq h=>by have:=(I.out.kd.lt q h).1;omega) (λq h=>by have:=(I.out.sh.lt q h).1;omega));have M5:=hid M5;have vB:=K5.size;clear nE K5 T tw I q0 q1 q2 q3 q4 q5 q6 q7 q8;go_wp2_with fail;go_roundw
     case rel=>exact⟨k+1,r++[j],zB,vK5,vH5,by omega,by go_num,R5,M5,D2,D4,DB,by omega⟩
     case measure=>simp[intOf];omega
  ·obtain rfl:k=K:=by omega
   clear atp as5;obtain⟨Fq,Fh,rfl⟩:=ak v.out.kd;obtain⟨Fs,Fj,rfl⟩:=ak v.out.sh;have s0:=v.out.t.c0;have s1:=v.out.t.c1;have d0:=H.out.c0;have d1:=H.out.c1;have f0:=H.out.f0;have f1:=H.out.f1;go_wp2_with fail;refine xx (cs:=[.slice Fq r.length Fh,.slice Fs ss.length Fj]) (b:=w.heap.size+1) Tryz.results71 ?_ ?_ ?_ Tryz.underlying122 rfl Tryz.aeK ?_
   ·rfl
   ·rfl
   ·exact wG d0 d1 _ _
   ·refine⟨_,_,r,ss,rfl,M.out,v.out.e8,?_,?_,(N.out.setCell (p:=⟨w.heap.size+1,0,none⟩) (by show w.heap.size<=w.heap.size+1;omega) _).setCell (p:=⟨w.heap.size+1,1,none⟩) (by show w.heap.size<=w.heap.size+1;omega) _⟩
    ·exact bQ (aB (aB v.out.kd (show w.heap.size+1<w.heap.size+3 by omega) 0 _) (show w.heap.size+1<w.heap.size+3 by omega) 1 _) (by omega)
    ·exact bQ (aB (aB v.out.sh (show w.heap.size+1<w.heap.size+3 by omega) 0 _) (show w.heap.size+1<w.heap.size+3 by omega) 1 _) (by omega)
