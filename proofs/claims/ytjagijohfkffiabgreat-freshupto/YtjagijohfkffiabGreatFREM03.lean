import Derived.Test.YtjagijohfkffiabGreatFREM02
set_option maxHeartbeats 16000000
set_option maxRecDepth 100000
set_option linter.unusedSimpArgs false
namespace Go.Proofs.YtjagijohfkffiabGreat
open Go.RowKit
set_option linter.unusedVariables false
theorem Tryz.Je:(Tryz.prog.info? 22).map (λi=>(i.zero,i.size,i.bytes))=some (some (.slice none 0 0),1,24):=by kernel_rfl
def gJ(l:List Int):List Value:=l.map (Value.int .i64)
def gT(ss:List St)(j:Nat):List Int:=(List.range j).map λi=>(dF ss i).out
theorem Ho(ss:List St)(j:Nat):gJ (gT ss (j+1))=gJ (gT ss j)++[.int .i64 (dF ss j).out]:=by simp[gT,gJ,aBL]
theorem ahc(V:Nat->Value)(j:Nat)(v:Value):(List.range (j+1)).map (λi=>if i=j then v else V i)=(List.range j).map V++[v]:=by
 rw[aBL,aBE];congr 1
 ·apply aBP;intro i hi;rw[aBI]at hi;rw[aBT (by omega)]
 ·simp
structure lu (w:World) (B:Nat) (v1 v2:Value) (V:Nat->Value) (ss:List St) (j:Nat):Prop where
 out:w.ownsRow B 3 1 v1 j (gJ (gT ss j))
 nS:w.ownsRow B 22 1 v2 j ((List.range j).map V)
 row:∀ i,i<j->w.ownsRow B 3 1 (V i) 8 (gJ (dF ss i).next)
 sep:∀ i k,i<k->k<j->(V i).ownBlock≠(V k).ownBlock
 far:∀ i,i<j->v1.ownBlock≠(V i).ownBlock
theorem NJ(w:World)(B:Nat)(V:Nat->Value)(ss:List St):lu w B (.slice none 0 0) (.slice none 0 0) V ss 0:=
 ⟨aBh _ _ _ _,aBh _ _ _ _,λi h=>by omega,λi k _ h=>by omega,λi h=>by omega⟩
theorem lu.keeps{w w':World}{B:Nat}{v1 v2:Value}{V:Nat->Value}{ss:List St}{j:Nat}(h:lu w B v1 v2 V ss j)(hb:Below w.heap.size w w'):lu w' B v1 v2 V ss j:=
 ⟨ae h.out hb,ae h.nS hb,λi hi=>ae (h.row i hi) hb,h.sep,h.far⟩
theorem lu.mono{w:World}{B B':Nat}{v1 v2:Value}{V:Nat->Value}{ss:List St}{j:Nat}(h:lu w B v1 v2 V ss j)(hb:B'<=B):lu w B' v1 v2 V ss j:=
 ⟨bJ h.out hb,bJ h.nS hb,λi hi=>bJ (h.row i hi) hb,h.sep,h.far⟩
theorem lu.set{w:World}{B:Nat}{v1 v2:Value}{V:Nat->Value}{ss:List St}{j:Nat}(h:lu w B v1 v2 V ss j){k:Nat}(hk:k<B)(o:Nat)(u:Value):lu (w.setCell ⟨k,o,none⟩ u) B v1 v2 V ss j:=
 ⟨ax h.out hk o u,ax h.nS hk o u,λi hi=>ax (h.row i hi) hk o u,h.sep,h.far⟩
structure Mid (w:World) (B:Nat) (v1 v2:Value) (V:Nat->Value) (ss:List St) (j:Nat) (v6:Value):Prop where
 out:w.ownsRow B 3 1 v1 (j+1) (gJ (gT ss (j+1)))
 nS:w.ownsRow B 22 1 v2 j ((List.range j).map V)
 row:∀ i,i<j->w.ownsRow B 3 1 (V i) 8 (gJ (dF ss i).next)
 XQ:w.ownsRow B 3 1 v6 8 (gJ (dF ss j).next)
 sep:∀ i k,i<k->k<j->(V i).ownBlock≠(V k).ownBlock
 adh:∀ i,i<j->(V i).ownBlock≠v6.ownBlock
 far:∀ i,i<j->v1.ownBlock≠(V i).ownBlock
 aeK:v1.ownBlock≠v6.ownBlock
theorem Mid.set{w:World}{B:Nat}{v1 v2 v6:Value}{V:Nat->Value}{ss:List St}{j:Nat}(h:Mid w B v1 v2 V ss j v6){k:Nat}(hk:k<B)(o:Nat)(u:Value):Mid (w.setCell ⟨k,o,none⟩ u) B v1 v2 V ss j v6:=
 ⟨ax h.out hk o u,ax h.nS hk o u,λi hi=>ax (h.row i hi) hk o u,ax h.XQ hk o u,h.sep,h.adh,h.far,h.aeK⟩
theorem Mid.alloc{w:World}{B:Nat}{v1 v2 v6:Value}{V:Nat->Value}{ss:List St}{j:Nat}(h:Mid w B v1 v2 V ss j v6)(o:Obj):Mid (w.alloc o) B v1 v2 V ss j v6:=
 ⟨h.out.alloc o,h.nS.alloc o,λi hi=>(h.row i hi).alloc o,h.XQ.alloc o,h.sep,h.adh,h.far,h.aeK⟩
theorem ahT{w:World}{B e:Nat}{v:Value}{n:Nat}{xs:List Value}(h:w.ownsRow B e 1 v n xs)(hn:0<n):∃ g,v.ownBlock=some g/\B<=g/\g<w.heap.size:=by
 obtain⟨g,cap,rfl,h1,h2,_⟩:=AV h hn;exact⟨g,rfl,h1,h2⟩
theorem aab{w w1:World}{B:Nat}{v1 v2 v6:Value}{V:Nat->Value}{ss:List St}{j gg cc:Nat}(h:lu w B v1 v2 V ss j)(h6:w.ownsRow B 3 1 v6 8 (gJ (dF ss j).next))(tK:∀ i,i<j->(V i).ownBlock≠v6.ownBlock)(Oh:v1.ownBlock≠v6.ownBlock)
  (hgrow:w.grownBy w1 v1.ownBlock) (hown:w1.ownsRow B 3 1 (.slice (some ⟨gg,0,none⟩) (j+1) cc) (j+1) (gJ (gT ss (j+1)))) (hat:v1.ownBlock=some gg\/gg=w.heap.size):Mid w1 B (.slice (some ⟨gg,0,none⟩) (j+1) cc) v2 V ss j v6:=by
 have key:∀ v xs,w.ownsRow B 3 1 v 8 xs->v1.ownBlock≠v.ownBlock->(Value.slice (some ⟨gg,0,none⟩) (j+1) cc).ownBlock≠v.ownBlock:=by
  intro v xs ho hne;obtain⟨g,hg,_,hlt⟩:=ahT ho (by decide);rw[hg]at hne ⊢;rcases hat with e | e
  ·rw[e]at hne;exact hne
  ·intro e2;simp[Value.ownBlock]at e2;omega
 exact⟨hown,h.nS.kept hgrow (aC h.nS h.out (by decide)),λi hi=>(h.row i hi).kept hgrow (aA3 (h.far i hi).symm),h6.kept hgrow (aA3 Oh.symm),h.sep,tK,λi hi=>key _ _ (h.row i hi) (h.far i hi),key _ _ h6 Oh⟩
theorem VQ{w w1:World}{B:Nat}{v1 v2 v2' v6:Value}{V:Nat->Value}{ss:List St}{j:Nat}(h:Mid w B v1 v2 V ss j v6)(hgrow:w.grownBy w1 v2.ownBlock)
  (hown:w1.ownsRow B 22 1 v2' (j+1) ((List.range j).map V++[v6])):lu w1 B v1 v2' (λi=>if i=j then v6 else V i) ss (j+1):=by
 refine⟨h.out.kept hgrow (aC h.out h.nS (by decide)),by rw[ahc];exact hown,λi hi=>?_,λi k hik hk=>?_,λi hi=>?_⟩
 ·by_cases e:i=j
  ·subst e;simp only[if_true];exact h.XQ.kept hgrow (aC h.XQ h.nS (by decide))
  ·simp only[aBT e];exact(h.row i (by omega)).kept hgrow (aC (h.row i (by omega)) h.nS (by decide))
 ·have e1:¬ i=j:=by omega
  simp only[aBT e1];by_cases e:k=j
  ·subst e;simp only[if_true];exact h.adh i hik
  ·simp only[aBT e];exact h.sep i k hik (by omega)
 ·by_cases e:i=j
  ·subst e;simp only[if_true];exact h.aeK
  ·simp only[aBT e];exact h.far i (by omega)
theorem Nu(g n cap B:Nat)(ss:List St)(w:World)(hr:w.ownsRow B 119 9 (.slice (some ⟨g,0,none⟩) n cap) n (ik ss))(h8:lU ss)(hl:ss.length=n)(hn:n<=1000)(hg:g<w.heap.size)(hcap:n<=cap) :
  Calls Tryz.prog 34 #[.slice (some ⟨g,0,none⟩) n cap] w λe w'=>∃ v1 v2 V,e=.returned (.agg #[v1,v2])/\lu w' w.heap.size v1 v2 V ss n/\Below w.heap.size w w':=by
 have HR:=hid hr;clear hr;obtain⟨i0,hi,aR,aP,aN⟩:=info_parts Tryz.uB;obtain⟨i1,iC,fe,eZ,eY⟩:=info_parts Tryz.Je;go_enter Tryz.func34,Tryz.ntmps34;go_wp2_with fail
 go_loopw [12] (λi wr=>∃ (j:Nat) (v1 v2:Value) (V:Nat->Value),j<=n/\i=.int .i64 j/\Below w.heap.size w wr /\
   Two wr w.heap.size (.slice none 0 0) (.slice none 0 0)/\Two wr (w.heap.size+1) v1 v2/\Hid (lu wr (w.heap.size+2) v1 v2 V ss j)) (λi _=>n - (intOf i).toNat)
 case atStart=>
  refine⟨0,_,_,λ_=>.bool false,aA8 _,rfl,((aAW _ _).alloc (aAU _) _).alloc (by simp) _,?_,?_,hid (NJ _ _ _ _)⟩
  ·exact(dD w _ _ _).below ((aAW (w.heap.size+1) _).alloc (by simp) _) (aBs _)
  ·have:=dD (w.alloc (.cells #[.slice none 0 0,.slice none 0 0] 37)) (.slice none 0 0) (.slice none 0 0) 37;simpa using this
 case round=>
  obtain⟨j,v1,v2,V,hj,rfl,hb,q0,q1,HL⟩:=hrel;rename World=>W0;by_cases hlt:j<n
  ·have S:=Nz HR.out h8 hl hlt;have DK:=Jq h8 (i:=j) (by omega);obtain⟨a0,a1,a2,a3,a4,a5,a6,a7,ea,HX⟩:=AJ (dF ss j).out DK;rw[show (⟨(dF ss j).out,(dF ss j).next⟩:St)=dF ss j from rfl]at ea;have ec:jT (dF ss j)=[.int .i64 (dF ss j).out,.int .i64 a0,.int .i64 a1,.int .i64 a2,.int .i64 a3,.int .i64 a4,.int .i64 a5,.int .i64 a6,.int .i64 a7]:=by
    have:=congrArg Array.toList ea;simpa [yR] using this
   rw[ec]at S;have iF:=hid (Ho ss j);have WS:=hid DK;have c0:=(hb.cell (p:=⟨g,j*9,none⟩) hg).trans (S 0 (by decide));have c1:=(hb.cell (p:=⟨g,j*9+1,none⟩) hg).trans (S 1 (by decide));have c2:=(hb.cell (p:=⟨g,j*9+2,none⟩) hg).trans (S 2 (by decide));have c3:=(hb.cell (p:=⟨g,j*9+3,none⟩) hg).trans (S 3 (by decide));have c4:=(hb.cell (p:=⟨g,j*9+4,none⟩) hg).trans (S 4 (by decide));have c5:=(hb.cell (p:=⟨g,j*9+5,none⟩) hg).trans (S 5 (by decide));have c6:=(hb.cell (p:=⟨g,j*9+6,none⟩) hg).trans (S 6 (by decide));have c7:=(hb.cell (p:=⟨g,j*9+7,none⟩) hg).trans (S 7 (by decide));have c8:=(hb.cell (p:=⟨g,j*9+8,none⟩) hg).trans (S 8 (by decide));simp only[List.getElem?_cons_succ,List.getElem?_cons_zero]at c0 c1 c2 c3 c4 c5 c6 c7 c8;clear S ea ec DK;generalize (dF ss j).out=o at *;have hM:=q1.lt;have HQ0:=hid q0;have PD:=hid q1;clear q0 q1;go_wp2_with fail;generalize (#[Value.int .i64 a0,.int .i64 a1,.int .i64 a2,.int .i64 a3,.int .i64 a4,.int .i64 a5,.int .i64 a6,.int .i64 a7]:Array Value)=X at *
   go_loopw [18,6] (λi s wq=>∃ (k:Nat),k<=8/\i=.int .i64 k/\Below (W0.heap.size+1) (W0.alloc (.cells #[.int .i64 o,.int .i64 a0,.int .i64 a1,.int .i64 a2,.int .i64 a3,.int .i64 a4,.int .i64 a5,.int .i64 a6,.int .i64 a7] 119)) wq /\
     Hid (wq.ownsRow (W0.heap.size+1) 3 1 s k (gJ ((dF ss j).next.take k)))) (λi _ _=>8 - (intOf i).toNat)
   case atStart=>exact⟨0,aA8 _,rfl,aAW _ _,hid (aBh _ _ _ _)⟩
   case round=>
    obtain⟨k,hk,rfl,dm,HO⟩:=hrel;have hsz:=dm.size;rw[aAZ]at hsz;by_cases hlk:k<8
    ·have IX:=λW=>kr (P:=Tryz.prog) W Tryz.underlying117 (ng Tryz.underlying3) (by kernel_rfl) hlk (HX.out k hlk);have HT:Hid (gJ ((dF ss j).next.take k)++[.int .i64 ((dF ss j).next.getD k 0)]=gJ ((dF ss j).next.take (k+1))):=hid (by
      have:k<(dF ss j).next.length:=by rw[WS.out];exact hlk
      unfold gJ;rw[List.take_succ_eq_append_getElem this,aBE];simp[List.getD,aAV this])
     generalize (dF ss j).next.getD k 0=x at *;have own:=HO.out;go_wp2_with (at_builtin;go_must (refine wpList_append_own _ rfl (.tmp 21) (.tmp 23) 22 rfl (_+1) 3 i0 (.int .i64 0) 1 8 Tryz.underlying22 hi aR aP aN rfl (by decide) _ _ _ rfl (own.alloc _) ⟨wr.heap.size,0,none⟩ 1 1 [.int .i64 x] rfl rfl ?c1 ?c2 ?c3 ?c4 ?c5 ?_))
     case c1=>exact eu _ [_] _
     case c2=>intro u hu;simp at hu;subst hu;rfl
     case c3=>unfold maxLen;omega
     case c4=>omega
     case c5=>simp;omega
     intro v' w1 hown hgrow _;have B1:=hid ((dm.alloc hsz _).grown hgrow (by simp;omega) (λk h=>(own.lt k h).1));rw[HT.out]at hown;have O1:=hid hown;clear hown hgrow own HO IX dm;go_wp2_with fail;go_roundw
     case rel=>exact⟨k+1,by omega,by go_num,B1.out,O1⟩
     case measure=>simp[intOf];omega
    ·obtain rfl:k=8:=by omega
     have O6:=HO.out;rw[List.take_of_length_le (by rw[WS.out];exact aAU _)]at O6;have bw:Below W0.heap.size W0 wr:=((aAW _ _).alloc (aAU _) _).trans (dm.mono (Nat.le_succ _));have L:=HL.out.keeps bw;obtain⟨g6,wD,rfl,hg6,asc,hc6⟩:=AV O6 (by decide);have h6:=bJ O6 (B':=w.heap.size+2) (by omega);have tK:∀ i,i<j->(V i).ownBlock≠(Value.slice (some ⟨g6,0,none⟩) 8 wD).ownBlock:=λi hi e=>by
      have:=(((HL.out).row i hi).lt g6 e).2;omega
     have Oh:v1.ownBlock≠(Value.slice (some ⟨g6,0,none⟩) 8 wD).ownBlock:=λe=>by
      have:=((HL.out).out.lt g6 e).2;omega
     have t0:=HQ0.out.below bw (by omega);have t1:=PD.out.below bw hM;have cO:=(dm.cell (p:=⟨W0.heap.size,0,none⟩) (aBs _)).trans (aBQ W0 _ _ 0);simp at cO;have k0:=t1.c0;have BB:=hid (hb.trans (bw.mono hb.size));have HL6:=hid h6;have Uo:=hid tK;have Xe:=hid Oh;have qw:=hid L;have T0:=hid t0;have T1:=hid t1;have l1:=L.out;clear h6 tK Oh L O6 HO t0 t1 HX HQ0 PD HL;go_wp2_with (at_builtin;go_must (refine aBw _ rfl (.tmp 27) (.tmp 30) 22 rfl (w.heap.size+2) 3 i0 (.int .i64 0) 1 8 Tryz.underlying22 hi aR aP aN rfl (by decide) _ _ _ rfl (l1.alloc _) ⟨wr.heap.size,0,none⟩ 1 1 [.int .i64 o] rfl rfl ?c1 ?c2 (by decide) ?c3 ?c4 ?c5 _ rfl ?_))
     case c1=>exact eu _ [_] _
     case c2=>intro u hu;simp at hu;subst hu;rfl
     case c3=>unfold maxLen;omega
     case c4=>omega
     case c5=>simp;omega
     intro gg cc w1 hown hgrow hat iw;have vR:Below (w.heap.size+2) wr w1:=((aAW _ _).alloc (by omega) _).grown hgrow (by simp;omega) (λk h=>(l1.lt k h).1);rw[<-iF.out]at hown;have M:=aab (qw.out.keeps ((aAW _ _).alloc (aAU _) _)) (HL6.out.alloc _) Uo.out Xe.out hgrow hown (by rw[aAZ];exact hat);have s0:=T0.out.below vR (by omega);have s1:=T1.out.below vR (by omega);have nV:=hgrow.size;have M2:=hid (M.set (k:=w.heap.size+1) (by omega) 0 (.slice (some ⟨gg,0,none⟩) (j+1) cc));have U0:=hid (s0.other (k:=w.heap.size+1) (o:=0) (by omega) (.slice (some ⟨gg,0,none⟩) (j+1) cc));have u1:=s1.set0 (.slice (some ⟨gg,0,none⟩) (j+1) cc);have d0:=s1.c0;have d1:=s1.f0;have U1:=hid u1;have k1:=u1.c1;have BB1:=hid ((BB.out.trans (vR.mono (by omega))).setCell (p:=⟨w.heap.size+1,0,none⟩) (by show w.heap.size<=w.heap.size+1;omega) (.slice (some ⟨gg,0,none⟩) (j+1) cc));have n1:=M2.out.nS;have hws:w.heap.size+2<=w1.heap.size:=by rw[aAZ]at nV;omega
     clear hown hgrow hat M s0 s1 u1 vR l1 k0 cO;go_wp2_with (at_builtin;go_must (refine aBw _ rfl (.tmp 34) (.tmp 36) 23 rfl (w.heap.size+2) 22 i1 (.slice none 0 0) 1 24 Tryz.underlying23 iC fe eZ eY rfl (by decide) _ _ _ rfl (n1.alloc _) ⟨w1.heap.size,0,none⟩ 1 1 [.slice (some ⟨g6,0,none⟩) 8 wD] rfl rfl ?d1 ?d2 (by decide) ?d3 ?d4 ?d5 _ rfl ?_))
     case d1=>exact λm u h=>by have:=eu (w1.setCell ⟨w.heap.size+1,0,none⟩ (.slice (some ⟨gg,0,none⟩) (j+1) cc)) [.slice (some ⟨g6,0,none⟩) 8 wD] 22 m u h;rw[aBj]at this;exact this
     case d2=>intro u hu;simp at hu;subst hu;rfl
     case d3=>unfold maxLen;omega
     case d4=>omega
     case d5=>simp;omega
     intro g2 kE w2 hown hgrow hat gu;have bR:=((aAW (w.heap.size+2) _).alloc (by rw[aBj];exact hws) _).grown hgrow (by rw[aAZ,aBj];omega) (λk h=>(n1.lt k h).1);have L2:=VQ (M2.out.alloc _) hgrow hown;have s0:=U0.out.below bR (by omega);have s1:=U1.out.below bR (by omega);have L3:=hid (L2.set (k:=w.heap.size+1) (by omega) 1 (.slice (some ⟨g2,0,none⟩) (j+1) kE));have V0:=hid (s0.other (k:=w.heap.size+1) (o:=1) (by omega) (.slice (some ⟨g2,0,none⟩) (j+1) kE));have V1:=hid (s1.set1 (.slice (some ⟨g2,0,none⟩) (j+1) kE));have e0:=s1.c1;have e1:=s1.f1;have UN:=hid ((BB1.out.trans (bR.mono (by omega))).setCell (p:=⟨w.heap.size+1,1,none⟩) (by show w.heap.size<=w.heap.size+1;omega) (.slice (some ⟨g2,0,none⟩) (j+1) kE));clear hown hgrow hat L2 s0 s1 bR n1 k1 d0 d1;go_wp2_with fail;go_roundw
     case rel=>exact⟨j+1,_,_,_,by omega,by go_num,UN.out,V0.out,V1.out,L3⟩
     case measure=>simp[intOf];omega
  ·obtain rfl:j=n:=by omega
   obtain⟨Gd,rE,rfl⟩:=ai HL.out.out;obtain⟨mH,kE,rfl⟩:=ai HL.out.nS;have k0:=q1.c0;have k1:=q1.c1;have r0:=q0.c0;have r1:=q0.c1;have f0:=q0.f0;have f1:=q0.f1;have L:=hid ((HL.out.set (k:=w.heap.size) (by omega) 0 (.slice Gd j rE)).set (k:=w.heap.size) (by omega) 1 (.slice mH j kE));have BB:=hid ((hb.setCell (p:=⟨w.heap.size,0,none⟩) (aAU _) (.slice Gd j rE)).setCell (p:=⟨w.heap.size,1,none⟩) (aAU _) (.slice mH j kE));have t:=(q0.set0 (.slice Gd j rE)).set1 (.slice mH j kE);have g0:=t.c0;have g1:=t.c1;go_wp2_with fail;refine bodyPost_ret (v:=.agg #[.slice Gd j rE,.slice mH j kE]) (by simp[results,Tryz.results34,go_sem,g0,g1]) rfl ?_;exact⟨_,_,V,rfl,L.out.mono (by omega),BB.out⟩
def iH(s:ByteArray):Nat:=if gI s=true then 0 else 9
def jF(s:ByteArray)(w:World)(e:Ending)(w':World):Prop:=
 Below w.heap.size w w'/\∃ v1 v2,e=.returned (.tuple #[.agg #[v1,v2],.int .i64 (iH s)]) /\
 ((gI s=false/\v1=.slice none 0 0/\v2=.slice none 0 0)\/(gI s=true/\∃ V,lu w' w.heap.size v1 v2 V (cK s (bt s 0)) (bt s 0)))
theorem adu(s:ByteArray)(w:World)(hm:s.size<=maxLen):Calls Tryz.prog 13 #[.string s] w (jF s w):=by
 have F:=aey s (w.alloc (.cells #[.slice none 0 0,.slice none 0 0] 37)) hm;have t:=dD w (.slice none 0 0) (.slice none 0 0) 37;cases hr:gI s with
 | false=>
  have HV:Hid (iH s=9):=hid (by simp[iH,hr]);have HR:=hid hr;clear hr;go_enter Tryz.func13,Tryz.ntmps13;go_wp2_with fail;refine F.mono ?_;rintro e w2 ⟨ak,⟨_,rfl⟩ | ⟨hx,_⟩⟩
  ·have t2:=t.below ak (by simp);have B2:=hid (((aAW w.heap.size w).alloc (aAU _) _).trans (ak.mono (by simp)));have c0:=t2.c0;have c1:=t2.c1;have f0:=t2.f0;have f1:=t2.f1;have t3:=(t2.set0 (.slice none 0 0)).set1 (.slice none 0 0);have g0:=t3.c0;have g1:=t3.c1;clear ak F t t2 t3;go_wp2_with fail;refine bodyPost_ret (v:=.tuple #[.agg #[.slice none 0 0,.slice none 0 0],.int .i64 9]) (by simp[results,Tryz.results13,go_sem,g0,g1]) rfl ?_;unfold jF;rw[HV.out];exact⟨(B2.out.setCell (p:=⟨w.heap.size,0,none⟩) (aAU _) _).setCell (p:=⟨w.heap.size,1,none⟩) (aAU _) _,_,_,rfl,aA2 ⟨HR.out,rfl,rfl⟩⟩
  ·rw[HR.out]at hx;cases hx
 | true=>
  have HR:=hid hr;have hs:=xX hr;have HV:Hid (iH s=0):=hid (by simp[iH,hr]);have h8:=uq s (bt s 0);have hlen:=oF s (bt s 0);have hw:=hs.2.2;have hn:=qR.1 hw;rw[hlen]at hn;clear hr hs;unfold jF uM at *;generalize cK s (bt s 0)=ss at *;generalize bt s 0=n at *;go_enter Tryz.func13,Tryz.ntmps13;go_wp2_with fail;refine F.mono ?_;rintro e w2 ⟨ak,⟨hx,_⟩ | ⟨_,g,cap,rfl,own⟩⟩
  ·rw[HR.out]at hx;cases hx
  ·obtain⟨g',eg,hg0,hg1,oV⟩:=dX own (by omega);cases eg;have P:=Nu g n cap _ ss w2 own h8 hlen (by omega) hg1 oV;have t2:=t.below ak (by simp);have B2:=hid (((aAW w.heap.size w).alloc (aAU _) _).trans (ak.mono (by simp)));have lm:=B2.out.size;clear ak F t own;go_wp2_with fail;refine P.mono ?_;rintro e w3 ⟨v1,v2,V,rfl,L,aI⟩;obtain⟨Gd,rE,Oa⟩:=ai L.out;obtain⟨mH,kE,hv2⟩:=ai L.nS;subst Oa hv2;have t3:=t2.below aI t2.lt;have c0:=t3.c0;have c1:=t3.c1;have f0:=t3.f0;have f1:=t3.f1;have t4:=(t3.set0 (.slice Gd n rE)).set1 (.slice mH n kE);have g0:=t4.c0;have g1:=t4.c1;have B3:=hid (B2.out.trans (aI.mono lm));have L3:=hid ((L.set (k:=w.heap.size) t2.lt 0 (.slice Gd n rE)).set (k:=w.heap.size) t2.lt 1 (.slice mH n kE));clear aI P t2 t3 t4 L;go_wp2_with fail;refine bodyPost_ret (v:=.tuple #[.agg #[.slice Gd n rE,.slice mH n kE],.int .i64 0]) (by simp[results,Tryz.results13,go_sem,g0,g1]) rfl ?_;rw[HV.out];exact⟨(B3.out.setCell (p:=⟨w.heap.size,0,none⟩) (aAU _) _).setCell (p:=⟨w.heap.size,1,none⟩) (aAU _) _,_,_,rfl,aA3 ⟨HR.out,V,L3.out.mono lm⟩⟩
theorem xV(a1 a2:Option Addr)(l c1 c2:Nat)(zs:List Int)(w:World)(h1:Ints w a1 l c1 zs)(h2:Ints w a2 l c2 zs) :
  Calls Tryz.prog 21 #[.slice a1 l c1,.slice a2 l c2] w λe w'=>e=.returned (.bool true)/\∃ n,w'=w.drewN n:=by
 have m1:=h1.hmax;have m3:=h1.hcap;have m2:=h2.hmax;have m4:=h2.hcap;go_enter Tryz.func21,Tryz.ntmps21;go_wp2_with fail
 go_loopw [5] (λi wr=>∃ j:Nat,j<=l/\i=.int .i64 j/\∃ n,wr=w.drewN n) (λi _=>l - (intOf i).toNat)
 case atStart=>exact⟨0,aA8 _,rfl,0,rfl⟩
 case round=>
  obtain⟨j,hj,rfl,n,rfl⟩:=hrel;by_cases hlt:j<l
  ·obtain⟨b1,o1,rfl,iw,hc1⟩:=h1.hcell (by omega);obtain⟨b2,o2,rfl,gu,yx⟩:=h2.hcell (by omega);have c:=hc1 j hlt;have d:=yx j hlt;generalize zs.getD j 0=x at *;clear hc1 yx;go_wp2_with fail
   go_quiet (fail)
   go_wp2_with fail;go_roundw
   case rel=>exact⟨j+1,by omega,by go_num,_,rfl⟩
   case measure=>simp[intOf];omega
  ·go_wp2_with fail;go_ret;exact⟨rfl,n,rfl⟩
theorem Ints.drewN{w:World}{a:Option Addr}{l c:Nat}{zs:List Int}(h:Ints w a l c zs)(n:Nat):Ints (w.drewN n) a l c zs:=h.below (aBd (aAW _ _) n)
theorem Dy(a1 a2:Option Addr)(l c1 c2:Nat)(zs:List (List Int))(w:World)(h1:Lists w a1 l c1 zs)(h2:Lists w a2 l c2 zs) :
  Calls Tryz.prog 22 #[.slice a1 l c1,.slice a2 l c2] w λe w'=>e=.returned (.bool true)/\∃ n,w'=w.drewN n:=by
 have m1:=h1.hmax;have m3:=h1.hcap;have m2:=h2.hmax;have m4:=h2.hcap;go_enter Tryz.func22,Tryz.ntmps22;go_wp2_with fail
 go_loopw [5] (λi wr=>∃ j:Nat,j<=l/\i=.int .i64 j/\∃ n,wr=w.drewN n) (λi _=>l - (intOf i).toNat)
 case atStart=>exact⟨0,aA8 _,rfl,0,rfl⟩
 case round=>
  obtain⟨j,hj,rfl,n,hw⟩:=hrel;have HW:=hid hw;by_cases hlt:j<l
  ·obtain⟨b1,o1,rfl,iw,hc1⟩:=h1.hcell (by omega);obtain⟨b2,o2,rfl,gu,yx⟩:=h2.hcell (by omega);obtain⟨r1,k1,e1,c,i1⟩:=hc1 j hlt;obtain⟨r2,k2,e2,d,i2⟩:=yx j hlt;obtain rfl:k2=k1:=by rw[<-i1.hlen,<-i2.hlen]
   have c':wr.cell? ⟨b1,o1+j,none⟩=some (.slice r1 k2 e1):=by rw[hw];exact c
   have d':wr.cell? ⟨b2,o2+j,none⟩=some (.slice r2 k2 e2):=by rw[hw];exact d
   have C:=λm=>xV r1 r2 k2 e1 e2 _ (wr.drewN m) (by rw[hw];exact(i1.drewN n).drewN m) (by rw[hw];exact(i2.drewN n).drewN m);clear c d;clear hc1 yx i1 i2 hw;go_wp2_with fail
   go_quiet ((go_at_call 21;exact Calls.quiet_of (C _)))
   go_wp2_with fail;go_roundw
   case rel=>exact⟨j+1,by omega,by go_num,_,by rw[HW.out,World.drewN_drewN]⟩
   case measure=>simp[intOf];omega
  ·go_wp2_with fail;go_ret;exact⟨rfl,n,rfl⟩
theorem yV(a1 a2 b1 b2:Option Addr)(l1 c1 l2 c2 d1 d2:Nat)(os:List Int)(ls:List (List Int))(w:World)(h1:Ints w a1 l1 c1 os)(h2:Lists w a2 l2 c2 ls)(k1:Ints w b1 l1 d1 os)(k2:Lists w b2 l2 d2 ls) :
  Calls Tryz.prog 15 #[.agg #[.slice a1 l1 c1,.slice a2 l2 c2],.agg #[.slice b1 l1 d1,.slice b2 l2 d2]] w λe w'=>e=.returned (.bool true)/\Below w.heap.size w w':=by
 have C1:=λW (b:Below w.heap.size w W)=>xV a1 b1 l1 c1 d1 os W (h1.below b) (k1.below b);have C2:=λW (b:Below w.heap.size w W)=>Dy a2 b2 l2 c2 d2 ls W (h2.below b) (k2.below b);have B:=((aAW w.heap.size w).alloc (aAU _) (.cells #[.slice a1 l1 c1,.slice a2 l2 c2] 37)).alloc (by simp) (.cells #[.slice b1 l1 d1,.slice b2 l2 d2] 37);have HB:=hid B;clear B;go_enter Tryz.func15,Tryz.ntmps15;go_wp2_with fail;refine(C1 _ HB.out).mono ?_;rintro e w1 ⟨rfl,n,rfl⟩;go_wp2_with fail;refine(C2 _ (aBd HB.out n)).mono ?_;rintro e w2 ⟨rfl,m,rfl⟩;clear C1 C2;go_wp2_with fail;go_ret;exact⟨rfl,aBd HB.out _⟩
theorem lu.ints{w:World}{B:Nat}{v1 v2:Value}{V:Nat->Value}{ss:List St}{j:Nat}(h:lu w B v1 v2 V ss j):∃ a c,v1=.slice a j c/\Ints w a j c (gT ss j):=by
 have hl:(gT ss j).length=j:=by simp[gT]
 rcases h.out.2 with⟨rfl,rfl⟩ | ⟨g,cap,cur,rfl,hb,hh,hc,hm,_⟩
 ·exact⟨none,0,rfl,hl,aAU _,by omega,λ_=>⟨rfl,rfl⟩,λh=>by omega⟩
 ·refine⟨_,cap,rfl,hl,hc,by unfold maxLen at hm;omega,λh=>by simp at h,λ_=>⟨g,0,rfl,(aBm.1 hh).1,λi hi=>?_⟩⟩;rw[aBo,h.out.cellAt i (by omega)];simp[gJ,List.getD,aAV (show i<(gT ss j).length by omega)]
def iX(ss:List St)(j:Nat):List (List Int):=(List.range j).map λi=>(dF ss i).next
theorem rX{w:World}{B n:Nat}{v:Value}{zs:List Int}(h:w.ownsRow B 3 1 v n (gJ zs)):∃ a c,v=.slice a n c/\Ints w a n c zs:=by
 have hl:zs.length=n:=by have:=h.1;simp[gJ]at this;exact this
 rcases h.2 with⟨rfl,rfl⟩ | ⟨g,cap,cur,rfl,hb,hh,hc,hm,_⟩
 ·exact⟨none,0,rfl,hl,aAU _,by omega,λ_=>⟨rfl,rfl⟩,λh=>by omega⟩
 ·refine⟨_,cap,rfl,hl,hc,by unfold maxLen at hm;omega,λh=>by simp at h,λ_=>⟨g,0,rfl,(aBm.1 hh).1,λi hi=>?_⟩⟩;rw[aBo,h.cellAt i (by omega)];simp[gJ,List.getD,aAV (show i<zs.length by omega)]
theorem lu.lists{w:World}{B:Nat}{v1 v2:Value}{V:Nat->Value}{ss:List St}{j:Nat}(h:lu w B v1 v2 V ss j):∃ a c,v2=.slice a j c/\Lists w a j c (iX ss j):=by
 have hl:(iX ss j).length=j:=by simp[iX]
 rcases h.nS.2 with⟨rfl,rfl⟩ | ⟨g,cap,cur,rfl,hb,hh,hc,hm,_⟩
 ·exact⟨none,0,rfl,hl,aAU _,by omega,λ_=>⟨rfl,rfl⟩,λh=>by omega⟩
 ·refine⟨_,cap,rfl,hl,hc,by unfold maxLen at hm;omega,λh=>by simp at h,λ_=>⟨g,0,rfl,(aBm.1 hh).1,λi hi=>?_⟩⟩;obtain⟨a,c,hv,zA⟩:=rX (h.row i hi);refine⟨a,8,c,?_,?_⟩
  ·rw[aBo,h.nS.cellAt i (by omega)];simp[aBk,aBx hi,hv]
  ·rw[show (iX ss j).getD i []=(dF ss i).next by simp[iX,List.getD,aBk,aBx hi]];exact zA
def it(nx:Nat->Nat):Nat->Nat->Nat
 | 0,i=>i
 | s+1,i=>it nx s (nx i)
theorem xE(nx:Nat->Nat)(s i:Nat):it nx (s+1) i=nx (it nx s i):=by
 induction s generalizing i with
 | zero=>rfl
 | succ s ih=>exact ih (nx i)
theorem Rs(nx:Nat->Nat)(s t i:Nat):it nx (s+t) i=it nx s (it nx t i):=by
 induction s with
 | zero=>simp[it]
 | succ s ih=>rw[show s+1+t=(s+t)+1 by omega,xE,xE,ih]
def UU(nx:Nat->Nat)(A B:Nat->Prop)(i:Nat):Prop:=∃ s,B (it nx s i)/\∀ m,m<s->A (it nx m i)
theorem alo(nx:Nat->Nat)(A B:Nat->Prop)(i:Nat):UU nx A B i↔B i\/(A i/\UU nx A B (nx i)):=by
 constructor
 ·rintro ⟨s,hb,ha⟩;cases s with
  | zero=>exact aA2 hb
  | succ s=>exact aA3 ⟨ha 0 (by omega),s,hb,λm hm=>ha (m+1) (by omega)⟩
 ·rintro (hb | ⟨ha,s,hb,h⟩)
  ·exact⟨0,hb,λm hm=>by omega⟩
  ·refine⟨s+1,hb,λm hm=>?_⟩;cases m with
   | zero=>exact ha
   | succ m=>exact h m (by omega)
def kZ(nx lt:Nat->Nat)(n:Nd)(rs:List (Nat->Prop))(i:Nat):Prop:=
 if n.op=49 then True
 else if n.op=112 then (lt i).testBit 0=true
 else if n.op=113 then (lt i).testBit 1=true
 else if n.op=114 then (lt i).testBit 2=true
 else if n.op=33 then ¬ rs.getD n.l (λ_=>False) i
 else if n.op=88 then rs.getD n.l (λ_=>False) (nx i)
 else if n.op=70 then ∃ s,rs.getD n.l (λ_=>False) (it nx s i)
 else if n.op=71 then ∀ s,rs.getD n.l (λ_=>False) (it nx s i)
 else if n.op=38 then rs.getD n.l (λ_=>False) i/\rs.getD n.r (λ_=>False) i
 else if n.op=124 then rs.getD n.l (λ_=>False) i\/rs.getD n.r (λ_=>False) i
 else if n.op=85 then ∃ s,rs.getD n.r (λ_=>False) (it nx s i)/\∀ m,m<s->rs.getD n.l (λ_=>False) (it nx m i)
 else if n.op=82 then ∀ s,rs.getD n.r (λ_=>False) (it nx s i)\/∃ m,m<s/\rs.getD n.l (λ_=>False) (it nx m i)
 else False
def rows(nx lt:Nat->Nat)(ns:List Nd):List (Nat->Prop):=ns.foldl (λrs n=>rs++[kZ nx lt n rs]) []
theorem Nn(nx lt:Nat->Nat)(ns:List Nd)(n:Nd):rows nx lt (ns++[n])=rows nx lt ns++[kZ nx lt n (rows nx lt ns)]:=by
 simp[rows]
theorem OH(nx lt:Nat->Nat)(ns:List Nd):∀ rs:List (Nat->Prop),(ns.foldl (λrs n=>rs++[kZ nx lt n rs]) rs).length=rs.length+ns.length:=by
 induction ns with
 | nil=>intro rs;rfl
 | cons n ns ih=>intro rs;simp only[List.foldl_cons,List.length_cons];rw[ih];simp;omega
theorem IQ(nx lt:Nat->Nat)(ns:List Nd):(rows nx lt ns).length=ns.length:=by
 unfold rows;rw[OH];simp
def fA(nx lt:Nat->Nat)(ns:List Nd)(k i:Nat):Prop:=(rows nx lt ns).getD k (λ_=>False) i
theorem ahE{nx lt:Nat->Nat}{ns:List Nd}{n:Nd}{k:Nat}(h:k<ns.length)(i:Nat):fA nx lt (ns++[n]) k i=fA nx lt ns k i:=by
 unfold fA;rw[Nn,List.getD,List.getD,aA9 (by rw[IQ];exact h)]
theorem VE(nx lt:Nat->Nat)(ns:List Nd)(n:Nd)(i:Nat):fA nx lt (ns++[n]) ns.length i=kZ nx lt n (rows nx lt ns) i:=by
 unfold fA;rw[Nn,List.getD,aBa (by rw[IQ];exact aAU _),IQ];simp
theorem abh(nx lt:Nat->Nat)(ms:List Nd):∀ rs:List (Nat->Prop),∀ k,k<rs.length->(ms.foldl (λrs n=>rs++[kZ nx lt n rs]) rs).getD k (λ_=>False)=rs.getD k (λ_=>False):=by
 induction ms with
 | nil=>intro rs k _;rfl
 | cons n ms ih=>
  intro rs k hk;simp only[List.foldl_cons];rw[ih _ k (by simp;omega)];simp[List.getD,aA9 hk]
theorem VD{nx lt:Nat->Nat}{ns ms:List Nd}{k:Nat}(h:k<ns.length)(i:Nat):fA nx lt (ns++ms) k i=fA nx lt ns k i:=by
 unfold fA rows;rw[List.foldl_append,abh _ _ _ _ _ (by rw[OH];simpa using h)]
theorem abF{nx1 lt1 nx2 lt2:Nat->Nat}{f:Nat->Nat}(hn:∀ i,f (nx1 i)=nx2 (f i))(hl:∀ i,lt1 i=lt2 (f i)){n:Nd}{r1 r2:List (Nat->Prop)}
  (hr:∀ k i,r1.getD k (λ_=>False) i↔r2.getD k (λ_=>False) (f i)) (i:Nat):kZ nx1 lt1 n r1 i↔kZ nx2 lt2 n r2 (f i):=by
 have hit:∀ s i,f (it nx1 s i)=it nx2 s (f i):=by
  intro s
  induction s with
  | zero=>intro i;rfl
  | succ s ih=>intro i;simp only[it];rw[ih,hn]
 unfold kZ;simp only[hl,hr,hn,hit]
theorem ahF{nx1 lt1 nx2 lt2:Nat->Nat}{f:Nat->Nat}(hn:∀ i,f (nx1 i)=nx2 (f i))(hl:∀ i,lt1 i=lt2 (f i))(ns:List Nd)(k i:Nat):fA nx1 lt1 ns k i↔fA nx2 lt2 ns k (f i):=by
 have key:∀ ms:List Nd,∀ r1 r2:List (Nat->Prop),(r1.length=r2.length)->(∀ k i,r1.getD k (λ_=>False) i↔r2.getD k (λ_=>False) (f i)) ->
   ∀ k i,(ms.foldl (λrs n=>rs++[kZ nx1 lt1 n rs]) r1).getD k (λ_=>False) i↔(ms.foldl (λrs n=>rs++[kZ nx2 lt2 n rs]) r2).getD k (λ_=>False) (f i):=by
  intro ms
  induction ms with
  | nil=>intro r1 r2 _ hr;exact hr
  | cons n ms ih=>
   intro r1 r2 hlen hr;simp only[List.foldl_cons];refine ih _ _ (by simp[hlen]) ?_;intro k i;by_cases hk:k<r1.length
   ·simp only[List.getD,aA9 hk,aA9 (show k<r2.length by omega)];exact hr k i
   ·simp only[List.getD,aBa (show r1.length<=k by omega),aBa (show r2.length<=k by omega),hlen];cases hk0:k - r2.length with
    | zero=>simpa using abF hn hl hr i
    | succ j=>simp
 exact key ns [] [] rfl (λk i=>by simp) k i
def aU(n back i:Nat):Nat:=if i+1<n then i+1 else back
theorem Rn{n back i:Nat}(hb:back<n):aU n back i<n:=by unfold aU;split <;> omega
theorem kL{n back:Nat}(hb:back<n):∀ s i,i<n->it (aU n back) s i<n:=by
 intro s
 induction s with
 | zero=>intro i h;exact h
 | succ s ih=>intro i h;exact ih _ (Rn hb)
theorem qj{n back:Nat}:∀ s i,i+s<n->it (aU n back) s i=i+s:=by
 intro s
 induction s with
 | zero=>intro i _;rfl
 | succ s ih=>
  intro i h;simp only[it];rw[show aU n back i=i+1 by unfold aU;rw[aBU (by omega)],ih (i+1) (by omega)];omega
theorem aih{n back i:Nat}(hi:i<n):it (aU n back) (n - i) i=back:=by
 rw[show n - i=(n - 1 - i)+1 by omega,xE,qj _ _ (by omega)];unfold aU;rw[aBT (by omega)]
theorem Rq{n back j:Nat}(hb:back<n)(hj:back<=j)(hn:j<n):it (aU n back) (n - back) j=j:=by
 rw[show n - back=(j - back)+(n - j) by omega,Rs,aih hn,qj _ _ (by omega)];omega
theorem anl{n back:Nat}(hb:back<n):∀ s i,i<n->back<=i+s->back<=it (aU n back) s i:=by
 intro s
 induction s with
 | zero=>intro i _ h;exact h
 | succ s ih=>
  intro i hi h;rw[xE];by_cases hc:back<=i+s
  ·have key:∀ y,back<=y->back<=aU n back y:=by intro y h;unfold aU;split <;> omega
   exact key _ (ih i hi hc)
  ·rw[qj s i (by omega)];unfold aU
   split <;> omega
theorem MR{n back:Nat}(hb:back<n){A B:Nat->Prop}{i:Nat}(hi:i<n)(h:UU (aU n back) A B i):∃ s,s<n/\B (it (aU n back) s i)/\∀ m,m<s->A (it (aU n back) m i):=by
 obtain⟨s,h1,h2⟩:=h
 induction s using Nat.strongRecOn with
 | _ s ih=>
  by_cases hs:s<n
  ·exact⟨s,hs,h1,h2⟩
  ·refine ih (s - (n - back)) (by omega) ?_ (λm hm=>h2 m (by omega));have h3:=Rq hb (anl hb (s - (n - back)) i hi (by omega)) (kL hb (s - (n - back)) i hi);rw[<-Rs,show n - back+(s - (n - back))=s by omega]at h3;rw[<-h3];exact h1
theorem uO{n back:Nat}(hb:back<n)(A B:Nat->Bool)(x1 x2:Nat->Bool)
  (h1:∀ i,i<n->x1 i=(B i||(A i&&(if i+1<n then x1 (i+1) else false)))) (h2:∀ i,i<n->x2 i=(B i||(A i&&(if i+1<n then x2 (i+1) else x1 back)))) (i:Nat) (hi:i<n) :
  x2 i=true↔UU (aU n back) (λi=>A i=true) (λi=>B i=true) i:=by
 have fx:=alo (aU n back) (λi=>A i=true) (λi=>B i=true)
 -- sound
 have s1:∀ d i,i+d+1=n->x1 i=true->UU (aU n back) (λi=>A i=true) (λi=>B i=true) i:=by
  intro d
  induction d with
  | zero=>
   intro i hd hx;rw[h1 i (by omega),aBT (by omega)]at hx;rw[fx];simp at hx;exact aA2 hx
  | succ d ih=>
   intro i hd hx;rw[h1 i (by omega),aBU (by omega)]at hx;rw[fx];simp only[aBF,aBz]at hx;rcases hx with hx | ⟨ha,hx⟩
   ·exact aA2 hx
   ·refine aA3 ⟨ha,?_⟩;rw[show aU n back i=i+1 by unfold aU;rw[aBU (by omega)]];exact ih (i+1) (by omega) hx
 -- what comes before the end is seen by the first sweep
 have c1:∀ s i,i+s<n->B (i+s)=true->(∀ m,m<s->A (i+m)=true)->x1 i=true:=by
  intro s
  induction s with
  | zero=>intro i hi hB _;rw[h1 i (by omega)];simp at hB;simp[hB]
  | succ s ih=>
   intro i hi hB hA;rw[h1 i (by omega),aBU (by omega)];have:=ih (i+1) (by omega) (by rw[show i+1+s=i+(s+1) by omega];exact hB) (λm hm=>by rw[show i+1+m=i+(m+1) by omega];exact hA (m+1) (by omega));have ha:=hA 0 (by omega);simp only[Nat.add_zero]at ha;simp[this,ha]
 have b1:x1 back=true↔UU (aU n back) (λi=>A i=true) (λi=>B i=true) back:=by
  constructor
  ·exact s1 (n - 1 - back) back (by omega)
  ·rintro ⟨s,hB,hA⟩
   induction s using Nat.strongRecOn with
   | _ s ih=>
    by_cases hs:s<n - back
    ·rw[qj s back (by omega)]at hB;exact c1 s back (by omega) hB (λm hm=>by have:=hA m hm;rw[qj m back (by omega)]at this;exact this)
    ·refine ih (s - (n - back)) (by omega) ?_ (λm hm=>hA m (by omega));have h3:=Rq hb (aAU back) hb;rw[show s=(s - (n - back))+(n - back) by omega,Rs,h3]at hB;exact hB
 have s2:∀ d i,i+d+1=n->(x2 i=true↔UU (aU n back) (λi=>A i=true) (λi=>B i=true) i):=by
  intro d
  induction d with
  | zero=>
   intro i hd;rw[h2 i (by omega),aBT (by omega),fx,show aU n back i=back by unfold aU;rw[aBT (by omega)],<-b1];simp
  | succ d ih=>
   intro i hd;rw[h2 i (by omega),aBU (by omega),fx,show aU n back i=i+1 by unfold aU;rw[aBU (by omega)],<-ih (i+1) (by omega)];simp
 exact s2 (n - 1 - i) i (by omega)
def xL(S k:Nat)(b:Bool):Nat:=if b then S ||| 2 ^ k else S - (if S.testBit k then 2 ^ k else 0)
theorem Wj:∀ S:Fin 256,∀ k:Fin 8,(bits BinOp.and IntKind.i64 ((S.val:Int) / 2 ^ k.val) 1==1)=S.val.testBit k.val:=by decide +kernel
theorem Y6:∀ S:Fin 256,∀ k:Fin 8,bits BinOp.or IntKind.i64 (S.val:Int) (2 ^ k.val)=((xL S.val k.val true:Nat):Int):=by decide +kernel
theorem Y7:∀ S:Fin 256,∀ k:Fin 8,bits BinOp.andNot IntKind.i64 (S.val:Int) (2 ^ k.val)=((xL S.val k.val false:Nat):Int):=by decide +kernel
theorem Xq:∀ S:Fin 256,∀ k:Fin 8,∀ b:Bool,xL S.val k.val b<256:=by decide +kernel
theorem UQ:∀ S:Fin 256,∀ k:Fin 8,∀ j:Fin 8,∀ b:Bool,(xL S.val k.val b).testBit j.val=if j.val=k.val then b else S.val.testBit j.val:=by decide +kernel
theorem JG{S k:Nat}{b:Bool}(hS:S<256)(hk:k<8):xL S k b<256:=Xq ⟨S,hS⟩ ⟨k,hk⟩ b
theorem um{S k j:Nat}{b:Bool}(hS:S<256)(hk:k<8)(hj:j<8):(xL S k b).testBit j=if j=k then b else S.testBit j:=UQ ⟨S,hS⟩ ⟨k,hk⟩ ⟨j,hj⟩ b
theorem QW{k:Nat}(hk:k<8):wrap64 (2 ^ k)=2 ^ k:=by
 have:(2:Int) ^ k<=128/\0<=(2:Int) ^ k:=by
  have h:∀ k:Fin 8,(2:Int) ^ k.val<=128/\0<=(2:Int) ^ k.val:=by decide
  exact h ⟨k,hk⟩
 exact IntWalk.wrap64_in _ ⟨by omega,by omega⟩
theorem qE{a b:Bool}(h:a=b):Ending.returned (.bool a)=.returned (.bool b):=by rw[h]
theorem VH{k:IntKind}{a b:Int}(h:a=b):Ending.returned (.int k a)=.returned (.int k b):=by rw[h]
theorem bN(S k:Nat)(w:World)(hS:S<256)(hk:k<8):Calls Tryz.prog 66 #[.int .i64 S,.int .i64 k] w λe w'=>e=.returned (.bool (S.testBit k))/\w'=w:=by
 have H:=hid (Wj ⟨S,hS⟩ ⟨k,hk⟩);go_enter Tryz.func66,Tryz.ntmps66;go_wp2;go_ret;exact⟨qE H.out,rfl⟩
theorem acI(S k:Nat)(b:Bool)(w:World)(hS:S<256)(hk:k<8):Calls Tryz.prog 115 #[.int .i64 S,.int .i64 k,.bool b] w λe w'=>e=.returned (.int .i64 (xL S k b:Nat))/\w'=w:=by
 have HT:Hid (bits BinOp.or IntKind.i64 (S:Int) (wrap64 (2 ^ k))=((xL S k true:Nat):Int)):=hid (by rw[QW hk];exact Y6 ⟨S,hS⟩ ⟨k,hk⟩);have HF:Hid (bits BinOp.andNot IntKind.i64 (S:Int) (wrap64 (2 ^ k))=((xL S k false:Nat):Int)):=hid (by rw[QW hk];exact Y7 ⟨S,hS⟩ ⟨k,hk⟩);cases b with
 | true=>
  go_enter Tryz.func115,Tryz.ntmps115;go_wp2;go_ret;exact⟨VH HT.out,rfl⟩
 | false=>
  go_enter Tryz.func115,Tryz.ntmps115;go_wp2;go_ret;exact⟨VH HF.out,rfl⟩
