import Derived.Test.YtjagijohfkffiabGreatFREM32
set_option maxHeartbeats 16000000
set_option maxRecDepth 100000
set_option linter.unusedSimpArgs false
namespace Go.Proofs.YtjagijohfkffiabGreat
open Go.RowKit
set_option linter.unusedVariables false
structure WN (w:World) (B S:Nat) (vK vH:Value) (aY:List Nat) (ss:List St):Prop where
 t:Two w S vK vH
 tB:S<B
 kd:w.ownsRow B 3 1 vK aY.length (aD aY)
 sh:w.ownsRow B 119 9 vH ss.length (ik ss)
 e8:lU ss
theorem WN.below{w w':World}{B S:Nat}{vK vH:Value}{aY:List Nat}{ss:List St}(h:WN w B S vK vH aY ss)(hb:Below w.heap.size w w'):WN w' B S vK vH aY ss:=
 ⟨h.t.below hb h.t.lt,h.tB,ae h.kd hb,ae h.sh hb,h.e8⟩
def tH(w:World)(o a0 a1 a2 a3 a4 a5 a6 a7:Int)(W:World):Prop:=W.cell? ⟨w.heap.size,0,none⟩=some (.int .i64 o)/\W.cell? ⟨w.heap.size,1,none⟩=some (.int .i64 a0)/\W.cell? ⟨w.heap.size,2,none⟩=some (.int .i64 a1)/\W.cell? ⟨w.heap.size,3,none⟩=some (.int .i64 a2)/\W.cell? ⟨w.heap.size,4,none⟩=some (.int .i64 a3)/\W.cell? ⟨w.heap.size,5,none⟩=some (.int .i64 a4)/\W.cell? ⟨w.heap.size,6,none⟩=some (.int .i64 a5)/\W.cell? ⟨w.heap.size,7,none⟩=some (.int .i64 a6)/\W.cell? ⟨w.heap.size,8,none⟩=some (.int .i64 a7)
theorem YR(w:World)(o a0 a1 a2 a3 a4 a5 a6 a7:Int)(t:TypeId):tH w o a0 a1 a2 a3 a4 a5 a6 a7 (w.alloc (.cells #[Value.int .i64 o,Value.int .i64 a0,Value.int .i64 a1,Value.int .i64 a2,Value.int .i64 a3,Value.int .i64 a4,Value.int .i64 a5,Value.int .i64 a6,Value.int .i64 a7] t)):=by
 have al:∀ j u,[Value.int .i64 o,Value.int .i64 a0,Value.int .i64 a1,Value.int .i64 a2,Value.int .i64 a3,Value.int .i64 a4,Value.int .i64 a5,Value.int .i64 a6,Value.int .i64 a7][j]?=some u->(w.alloc (.cells #[Value.int .i64 o,Value.int .i64 a0,Value.int .i64 a1,Value.int .i64 a2,Value.int .i64 a3,Value.int .i64 a4,Value.int .i64 a5,Value.int .i64 a6,Value.int .i64 a7] t)).cell? ⟨w.heap.size,j,none⟩=some u:=λj u hu=>by
  have:=dx w [Value.int .i64 o,Value.int .i64 a0,Value.int .i64 a1,Value.int .i64 a2,Value.int .i64 a3,Value.int .i64 a4,Value.int .i64 a5,Value.int .i64 a6,Value.int .i64 a7] t j u hu;rwa [Addr.add_mid,aBo]at this
 exact⟨al 0 _ rfl,al 1 _ rfl,al 2 _ rfl,al 3 _ rfl,al 4 _ rfl,al 5 _ rfl,al 6 _ rfl,al 7 _ rfl,al 8 _ rfl⟩
theorem tH.of{w W W':World}{o a0 a1 a2 a3 a4 a5 a6 a7:Int}(h:tH w o a0 a1 a2 a3 a4 a5 a6 a7 W)(hc:∀ j,W'.cell? ⟨w.heap.size,j,none⟩=W.cell? ⟨w.heap.size,j,none⟩):tH w o a0 a1 a2 a3 a4 a5 a6 a7 W':=
 ⟨(hc 0).trans h.1,(hc 1).trans h.2.1,(hc 2).trans h.2.2.1,(hc 3).trans h.2.2.2.1,(hc 4).trans h.2.2.2.2.1,(hc 5).trans h.2.2.2.2.2.1,(hc 6).trans h.2.2.2.2.2.2.1,(hc 7).trans h.2.2.2.2.2.2.2.1,(hc 8).trans h.2.2.2.2.2.2.2.2⟩
def anu(w:World)(B S:Nat)(vK vH:Value)(aY:List Nat)(ss:List St)(x:St)(e:Ending)(w':World):Prop:=
 e=.returned (.tuple #[])/\∃ j vK' vH' ss',WN w' B S vK' vH' (aY++[j]) ss'/\KB w w' S vK.ownBlock vH.ownBlock/\((ss'=ss/\ss[j]?=some x)\/(j=ss.length/\ss'=ss++[x]/\∀ s∈ss,s≠x))
theorem adn(w:World)(B S:Nat)(vK vH:Value)(aY:List Nat)(ss:List St)(o a0 a1 a2 a3 a4 a5 a6 a7:Int)(hm:WN w B S vK vH aY ss)(hB:B<=w.heap.size)(hn:ss.length<=8589934592)(hk:aY.length<=8589934592) :
  Calls Tryz.prog 119 #[.pointer (some ⟨S,0,none⟩),.agg #[Value.int .i64 o,Value.int .i64 a0,Value.int .i64 a1,Value.int .i64 a2,Value.int .i64 a3,Value.int .i64 a4,Value.int .i64 a5,Value.int .i64 a6,Value.int .i64 a7]] w (anu w B S vK vH aY ss (⟨o,[a0,a1,a2,a3,a4,a5,a6,a7]⟩:St)):=by
 have hS:=hm.t.lt;have hSB:=hm.tB;have HM:=hid hm;obtain⟨vV,vJ,rfl⟩:=ai hm.kd;obtain⟨wP,wN,rfl⟩:=ai hm.sh;obtain⟨i0,hi,aR,aP,aN⟩:=info_parts Tryz.Ml;obtain⟨i1,iC,fe,eZ,eY⟩:=info_parts Tryz.lW;clear hm;have ba:=(aAW w.heap.size w).alloc (aAU _) (.cells #[Value.int .i64 o,Value.int .i64 a0,Value.int .i64 a1,Value.int .i64 a2,Value.int .i64 a3,Value.int .i64 a4,Value.int .i64 a5,Value.int .i64 a6,Value.int .i64 a7] 119);have X1:=hid (YR w o a0 a1 a2 a3 a4 a5 a6 a7 119);have M1:=HM.out.below ba;go_enter Tryz.func119,Tryz.ntmps119;go_wp2_with fail;refine(aeH S B _ _ ss o a0 a1 a2 a3 a4 a5 a6 a7 _ M1.t M1.sh M1.e8 hn).mono ?_;rintro e W0 ⟨j,rfl,lL,ak⟩;simp only[aAZ]at ak;have HB:=hid (ba.trans (ak.mono (by omega)));have hsz:w.heap.size<W0.heap.size:=by have:=ak.size;simp at this;omega
 have XH:=hid (X1.out.of (λj=>ak.cell (p:=⟨w.heap.size,j,none⟩) (by show w.heap.size<w.heap.size+1;omega)));have dP:=hid (HM.out.below HB.out);have cT:=dP.out.t.c1;clear ba M1 ak X1;rcases lL with hin | ⟨hj,aj4⟩
 ·have hjl:j<ss.length:=(aA1.1 hin).1;have jn:¬ ((j:Int)=(ss.length:Int)):=by omega
  have HIN:=hid hin;clear hin;have D1:=hid dP.out.t;have D2:=hid dP.out.sh;have D3:=hid dP.out.kd;have nZ:=hid (KB.of_below (T:=S) (r1:=(Value.slice wP ss.length wN).ownBlock) (r2:=none) HB.out);have ajR:w.heap.size<W0.heap.size:=hsz;have E8:=hid dP.out.e8;have wy:(Value.slice vV aY.length vJ).ownBlock≠some S:=λe=>by have:=(dP.out.kd.lt _ e).1;omega
  clear dP;have EU:(Value.slice wP ss.length wN).ownBlock≠some S:=λe=>by have:=(HM.out.sh.lt _ e).1;omega
  have e0:=D1.out.c0;have e2:=D1.out.f0;go_wp2_with (at_builtin;go_must (refine aBw _ rfl (.tmp 29) (.tmp 31) 22 rfl B 3 i1 (.int .i64 0) 1 8 Tryz.underlying22 iC fe eZ eY rfl (by decide) _ aY.length (aD aY) rfl (D3.out.alloc _) ⟨W0.heap.size,0,none⟩ 1 1 [.int .i64 (j:Nat)] rfl rfl (dx W0 [.int .i64 (j:Nat)] _) (by intro y hy;simp at hy;rcases hy with rfl;rfl) (by decide) (by unfold maxLen;omega) (by omega) (by simp;omega) (W0.heap.size+1) (by simp) ?_));intro go co w6 nU dz p8 Yu;have CO:W0.heap.size<=w6.heap.size:=by
   have h4:=dz.size;simp at h4;omega
  have CU:go≠S:=by
   rcases p8 with h | h
   ·exact λe=>wy (by rw[<-e];exact h)
   ·omega
  have jH:KB W0 w6 S (Value.slice vV aY.length vJ).ownBlock none:=⟨dz.os,dz.tape,dz.output,CO,λq hq h1 h2 _=>by
   rw[dz.block q (by rw[aAZ];omega) h2,aBl _ _ _ (by omega)]⟩
  have sI:=dz.block S (by rw[aAZ];omega) (λe=>wy e.symm);have hc:∀ o,w6.cell? ⟨S,o,none⟩=W0.cell? ⟨S,o,none⟩:=λo=>by
   rw[aBf (a:=⟨S,o,none⟩) sI];exact aBt _ _ _ (by show S<W0.heap.size;omega)
  have hf:∀ o,w6.frozen? ⟨S,o,none⟩=W0.frozen? ⟨S,o,none⟩:=λo=>by
   rw[aBg (a:=⟨S,o,none⟩) sI];exact aBK _ _ _ (by show S<W0.heap.size;omega)
  have T6:Two w6 S _ _:=⟨(hc 0).trans D1.out.c0,(hc 1).trans D1.out.c1,(hf 0).trans D1.out.f0,(hf 1).trans D1.out.f1⟩;have q0:=T6.c0;have q2:=T6.f0;have E1:=hid (T6.set0 (.slice (some ⟨go,0,none⟩) (aY.length+1) co));have E2:=hid (bz (dI D2.out jH EU (aC D2.out D3.out (by decide)) (by cases (Value.ownBlock _) <;> simp)) ⟨S,0,none⟩ (.slice (some ⟨go,0,none⟩) (aY.length+1) co) EU)
  have E3:=hid (bz nU ⟨S,0,none⟩ (.slice (some ⟨go,0,none⟩) (aY.length+1) co) (by simpa [Value.ownBlock] using CU));have Ld:Hid (KB w (w6.setCell ⟨S,0,none⟩ (.slice (some ⟨go,0,none⟩) (aY.length+1) co)) S (Value.slice vV aY.length vJ).ownBlock (Value.slice wP ss.length wN).ownBlock):=hid ⟨jH.os.trans nZ.out.os,jH.tape.trans nZ.out.tape,jH.output.trans nZ.out.output,by rw[aBj];omega,λq hq h1 h2 h3=>by
   rw[aBv _ _ _ _ h1,jH.block q (by omega) h1 h2 (by simp),nZ.out.block q hq h1 h3 (by simp)]⟩
  clear nU dz p8 jH T6 sI hc hf D1 D2 D3 e0 e2;go_wp2_with fail
  go_end0
  refine⟨rfl,j,_,_,ss,⟨E1.out,hSB,?_,?_,E8.out⟩,Ld.out,aA2 ⟨rfl,HIN.out⟩⟩
  ·rw[aA5,show aD (aY++[j])=aD aY++[.int .i64 (j:Nat)] by simp[aD]];exact E3.out
  ·exact E2.out
 ·subst hj;have Y0:=hid aj4;clear aj4;have jn:((ss.length:Int)==(ss.length:Int))=true:=by simp
  go_wp2_with fail;have fT:=dP.out.t.f1;have tO:S<W0.heap.size:=by omega
  have OW:=hid dP.out.sh;have MZ:Hid (∀ q,(Value.slice wP ss.length wN).ownBlock=some q->q<w.heap.size/\B<=q):=hid (λq h=>⟨(HM.out.sh.lt q h).2,(HM.out.sh.lt q h).1⟩);have CR:(Value.slice wP ss.length wN).ownBlock≠some S:=λe=>by have:=(MZ.out _ e).2;omega
  refine wp_region_held_drew (S:=tH w o a0 a1 a2 a3 a4 a5 a6 a7) (by kernel_rfl) (XH.out.of (λ_=>rfl)) (λau=>?_);refine aA4 (i:=0) (oi:={ dst:=some 15,op:=Op.move (.tmp 0),type:=_,pos:=_,after:=_,guard:=none }) (v:=(Value.pointer (some ⟨S,0,none⟩))) rfl (by kernel_rfl) (by kernel_rfl) (by kernel_rfl) (λ_ _ _ h=>h) (aA2 ⟨by rfl,by intro w' af;(try dsimp only at af);go_simp⟩) (by assumption) ?_
  simp only[Act.put,aAT,aAX,aAY];refine aA4 (i:=1) (oi:={ dst:=some 16,op:=Op.move (.tmp 0),type:=_,pos:=_,after:=_,guard:=none }) (v:=(Value.pointer (some ⟨S,0,none⟩))) rfl (by kernel_rfl) (by kernel_rfl) (by kernel_rfl) (λ_ _ _ h=>h) (aA2 ⟨by rfl,by intro w' af;(try dsimp only at af);go_simp⟩) (by assumption) ?_
  simp only[Act.put,aAT,aAX,aAY];refine aA4 (i:=2) (oi:={ dst:=some 17,op:=Op.nilCheck (.tmp 16),type:=_,pos:=_,after:=_,guard:=none }) (v:=(Value.pointer (some ⟨S,0,none⟩))) rfl (by kernel_rfl) (by kernel_rfl) (by kernel_rfl) (λ_ _ _ h=>h) (aA2 ⟨by rfl,by intro w' af;(try dsimp only at af);go_simp⟩) (by assumption) ?_
  simp only[Act.put,aAT,aAX,aAY];refine aA4 (i:=3) (oi:={ dst:=some 18,op:=Op.fieldAddr _ (.tmp 17) 1,type:=_,pos:=_,after:=_,guard:=none }) (v:=(Value.pointer (some ⟨S,1,none⟩))) rfl (by kernel_rfl) (by kernel_rfl) (by kernel_rfl) (λ_ _ _ h=>h) (aA2 ⟨by rfl,by intro w' af;(try dsimp only at af);go_simp⟩) (by assumption) ?_
  simp only[Act.put,aAT,aAX,aAY];refine aA4 (i:=5) (oi:={ dst:=some 20,op:=Op.load 119 (.tmp 3),type:=_,pos:=_,after:=_,guard:=none }) (v:=(Value.agg #[Value.int .i64 o,Value.int .i64 a0,Value.int .i64 a1,Value.int .i64 a2,Value.int .i64 a3,Value.int .i64 a4,Value.int .i64 a5,Value.int .i64 a6,Value.int .i64 a7])) rfl (by kernel_rfl) (by kernel_rfl) (by kernel_rfl) (λ_ _ _ h=>h) (aA2 ⟨by rfl,by intro w' af;obtain⟨s0,s1,s2,s3,s4,s5,s6,s7,s8⟩:=af;go_simp⟩) (by assumption) ?_;simp only[Act.put,aAT,aAX,aAY];refine aBc (rs:=[4,6]) (by kernel_rfl) (by simp) ?_;refine aA7 rfl (λK hK=>?_) (aA7 rfl (λK hK=>?_) aBb)
  ·go_simp
   refine hK.out _ _ (by assumption) (λau=>?_);clear hK K;refine aBc (rs:=[6]) (by kernel_rfl) (by simp) ?_;refine aA7 rfl (λK hK=>?_) aBb
   go_simp
   refine hK.out _ _ (XH.out.of (λj=>by show (W0.alloc _).cell? _=_;exact aBt _ _ _ hsz)) (λau=>?_);clear hK K;refine aBc (rs:=[7]) (by kernel_rfl) (by simp) ?_;refine aA7 rfl (λK hK=>?_) aBb;refine aBN _ (by rfl) (.tmp 19) (.tmp 21) 65 (by rfl) B 119 i0 (.agg #[.int .i64 0,.int .i64 0,.int .i64 0,.int .i64 0,.int .i64 0,.int .i64 0,.int .i64 0,.int .i64 0,.int .i64 0]) 9 72 Tryz.underlying65 hi aR aP aN rfl (by decide) _ ss.length (ik ss) (by rfl) ((OW.out.alloc _).drew) ⟨W0.heap.size,0,none⟩ 1 1 [Value.int .i64 o,Value.int .i64 a0,Value.int .i64 a1,Value.int .i64 a2,Value.int .i64 a3,Value.int .i64 a4,Value.int .i64 a5,Value.int .i64 a6,Value.int .i64 a7] (by rfl) (by rfl) (dx W0 _ _) (by intro y hy;simp at hy;rcases hy with rfl | rfl | rfl | rfl | rfl | rfl | rfl | rfl | rfl <;> rfl) (by decide) (by unfold maxLen;omega) (by omega) (by simp;omega) (W0.heap.size+1) (by simp) ?_
   intro gg cc w2 hown hgrow hat gu;have nN:gg≠S:=by
    rcases hat with h | h
    ·exact λe=>CR (by rw[<-e];exact h)
    ·omega
   have Jf:W0.heap.size+1<=w2.heap.size:=by
    have h4:(W0.drew.alloc (.cells #[Value.int .i64 o,Value.int .i64 a0,Value.int .i64 a1,Value.int .i64 a2,Value.int .i64 a3,Value.int .i64 a4,Value.int .i64 a5,Value.int .i64 a6,Value.int .i64 a7] 119)).heap.size<=w2.heap.size:=hgrow.size;rw[aAZ]at h4;exact h4
   have gF:KB W0 w2 S (Value.slice wP ss.length wN).ownBlock none:=⟨hgrow.os,hgrow.tape,hgrow.output,by omega,λq hq h1 h2 _=>by
    rw[hgrow.block q (by show q<(W0.alloc (.cells #[Value.int .i64 o,Value.int .i64 a0,Value.int .i64 a1,Value.int .i64 a2,Value.int .i64 a3,Value.int .i64 a4,Value.int .i64 a5,Value.int .i64 a6,Value.int .i64 a7] 119)).heap.size;rw[aAZ];omega) h2];show (W0.alloc (.cells #[Value.int .i64 o,Value.int .i64 a0,Value.int .i64 a1,Value.int .i64 a2,Value.int .i64 a3,Value.int .i64 a4,Value.int .i64 a5,Value.int .i64 a6,Value.int .i64 a7] 119)).heap[q]?=_;rw[aBl _ _ _ (by omega)]⟩
   have hb:=hgrow.block S (by show S<(W0.alloc (.cells #[Value.int .i64 o,Value.int .i64 a0,Value.int .i64 a1,Value.int .i64 a2,Value.int .i64 a3,Value.int .i64 a4,Value.int .i64 a5,Value.int .i64 a6,Value.int .i64 a7] 119)).heap.size;rw[aAZ];omega) (λe=>CR e.symm);have hc:∀ z,w2.cell? ⟨S,z,none⟩=W0.cell? ⟨S,z,none⟩:=λz=>by
    rw[aBf (a:=⟨S,z,none⟩) hb];show (W0.alloc (.cells #[Value.int .i64 o,Value.int .i64 a0,Value.int .i64 a1,Value.int .i64 a2,Value.int .i64 a3,Value.int .i64 a4,Value.int .i64 a5,Value.int .i64 a6,Value.int .i64 a7] 119)).cell? ⟨S,z,none⟩=_;exact aBt _ _ _ tO
   have hf:∀ z,w2.frozen? ⟨S,z,none⟩=W0.frozen? ⟨S,z,none⟩:=λz=>by
    rw[aBg (a:=⟨S,z,none⟩) hb];show (W0.alloc (.cells #[Value.int .i64 o,Value.int .i64 a0,Value.int .i64 a1,Value.int .i64 a2,Value.int .i64 a3,Value.int .i64 a4,Value.int .i64 a5,Value.int .i64 a6,Value.int .i64 a7] 119)).frozen? ⟨S,z,none⟩=_;exact aBK _ _ _ tO
   have T2:Two w2 S (.slice vV aY.length vJ) (.slice wP ss.length wN):=⟨(hc 0).trans dP.out.t.c0,(hc 1).trans dP.out.t.c1,(hf 0).trans dP.out.t.f0,(hf 1).trans dP.out.t.f1⟩;have g2:tH w o a0 a1 a2 a3 a4 a5 a6 a7 w2:=XH.out.of (λj=>gF.cell (p:=⟨w.heap.size,j,none⟩) hsz (by show w.heap.size≠S;omega) (λe=>Nat.lt_irrefl _ (MZ.out _ e.symm).1) (by simp));have D1:=hid (T2.set1 (.slice (some ⟨gg,0,none⟩) (ss.length+1) cc));have D2:Hid ((w2.setCell ⟨S,1,none⟩ (.slice (some ⟨gg,0,none⟩) (ss.length+1) cc)).ownsRow B 119 9 (.slice (some ⟨gg,0,none⟩) (ss.length+1) cc) (ss++[(⟨o,[a0,a1,a2,a3,a4,a5,a6,a7]⟩:St)]).length (ik (ss++[(⟨o,[a0,a1,a2,a3,a4,a5,a6,a7]⟩:St)]))):=hid (bz (by
    rw[aA5,xg];exact hown) ⟨S,1,none⟩ (.slice (some ⟨gg,0,none⟩) (ss.length+1) cc) (by simpa [Value.ownBlock] using nN))
   have wy:(Value.slice vV aY.length vJ).ownBlock≠some S:=λe=>by have:=(dP.out.kd.lt _ e).1;omega
   have D3:=hid (bz (dI dP.out.kd gF wy (aC dP.out.kd OW.out (by decide)) (by cases (Value.slice vV aY.length vJ).ownBlock <;> simp)) ⟨S,1,none⟩ (.slice (some ⟨gg,0,none⟩) (ss.length+1) cc) wy)
   have nZ:Hid (KB w (w2.setCell ⟨S,1,none⟩ (.slice (some ⟨gg,0,none⟩) (ss.length+1) cc)) S (Value.slice wP ss.length wN).ownBlock none):=hid ⟨gF.os.trans HB.out.os,gF.tape.trans HB.out.tape,gF.output.trans HB.out.output,by rw[aBj];omega,λq hq h1 h2 h3=>by
    rw[aBv _ _ _ _ h1,gF.block q (by omega) h1 h2 h3];exact HB.out.block q hq⟩
   have EU:(Value.slice (some ⟨gg,0,none⟩) (ss.length+1) cc).ownBlock≠some S:=by simpa [Value.ownBlock] using nN
   refine hK.out _ _ g2 (λau=>?_);have jw:Hid (tH w o a0 a1 a2 a3 a4 a5 a6 a7 (w2.setCell ⟨S,1,none⟩ (.slice (some ⟨gg,0,none⟩) (ss.length+1) cc))):=hid (g2.of (λj=>aA0 _ _ _ _ (λe=>by have:=congrArg Addr.block e;simp at this;omega)));have c2:=T2.c1;have f2:=T2.f1;have E8:Hid (lU (ss++[(⟨o,[a0,a1,a2,a3,a4,a5,a6,a7]⟩:St)])):=hid (λs hs=>by
    rcases aBy.1 hs with hs | hs
    ·exact HM.out.e8 s hs
    ·simp at hs;subst hs;rfl)
   clear hK K hown hgrow hat g2 gF T2 hb hc hf dP cT fT OW;simp only[Act.put,aAT];refine aA4 (i:=8) (oi:={ dst:=some 23,op:=Op.nilCheck (.tmp 15),type:=_,pos:=_,after:=_,guard:=none }) (v:=(Value.pointer (some ⟨S,0,none⟩))) rfl (by kernel_rfl) (by kernel_rfl) (by kernel_rfl) (λ_ _ _ h=>h) (aA2 ⟨by rfl,by intro w' af;(try dsimp only at af);go_simp⟩) (by assumption) ?_
   simp only[Act.put];refine aA4 (i:=9) (oi:={ dst:=some 24,op:=Op.fieldAddr _ (.tmp 23) 1,type:=_,pos:=_,after:=_,guard:=none }) (v:=(Value.pointer (some ⟨S,1,none⟩))) rfl (by kernel_rfl) (by kernel_rfl) (by kernel_rfl) (λ_ _ _ h=>h) (aA2 ⟨by rfl,by intro w' af;(try dsimp only at af);go_simp⟩) (by assumption) ?_
   simp only[Act.put];refine aBc (rs:=[10]) (by kernel_rfl) (by simp) ?_;refine aA7 rfl (λK hK=>?_) aBb
   go_simp
   refine hK.out _ _ jw.out (λau=>?_);clear hK K;refine aBS (by kernel_rfl) ?_ _;clear au c2 f2 jw;have ajR:w.heap.size<(w2.setCell ⟨S,1,none⟩ (.slice (some ⟨gg,0,none⟩) (ss.length+1) cc)).heap.size:=by rw[aBj];omega
   generalize w2.setCell ⟨S,1,none⟩ (.slice (some ⟨gg,0,none⟩) (ss.length+1) cc)=W5 at *;have e0:=D1.out.c0;have e2:=D1.out.f0;go_wp2_with (at_builtin;go_must (refine aBw _ rfl (.tmp 29) (.tmp 31) 22 rfl B 3 i1 (.int .i64 0) 1 8 Tryz.underlying22 iC fe eZ eY rfl (by decide) _ aY.length (aD aY) rfl (D3.out.alloc _) ⟨W5.heap.size,0,none⟩ 1 1 [.int .i64 (ss.length:Nat)] rfl rfl (dx W5 [.int .i64 (ss.length:Nat)] _) (by intro y hy;simp at hy;rcases hy with rfl;rfl) (by decide) (by unfold maxLen;omega) (by omega) (by simp;omega) (W5.heap.size+1) (by simp) ?_));intro go co w6 nU dz p8 Yu;have CO:W5.heap.size<=w6.heap.size:=by
    have h4:=dz.size;simp at h4;omega
   have CU:go≠S:=by
    rcases p8 with h | h
    ·exact λe=>wy (by rw[<-e];exact h)
    ·omega
   have jH:KB W5 w6 S (Value.slice vV aY.length vJ).ownBlock none:=⟨dz.os,dz.tape,dz.output,CO,λq hq h1 h2 _=>by
    rw[dz.block q (by rw[aAZ];omega) h2,aBl _ _ _ (by omega)]⟩
   have sI:=dz.block S (by rw[aAZ];omega) (λe=>wy e.symm);have hc:∀ o,w6.cell? ⟨S,o,none⟩=W5.cell? ⟨S,o,none⟩:=λo=>by
    rw[aBf (a:=⟨S,o,none⟩) sI];exact aBt _ _ _ (by show S<W5.heap.size;omega)
   have hf:∀ o,w6.frozen? ⟨S,o,none⟩=W5.frozen? ⟨S,o,none⟩:=λo=>by
    rw[aBg (a:=⟨S,o,none⟩) sI];exact aBK _ _ _ (by show S<W5.heap.size;omega)
   have T6:Two w6 S _ _:=⟨(hc 0).trans D1.out.c0,(hc 1).trans D1.out.c1,(hf 0).trans D1.out.f0,(hf 1).trans D1.out.f1⟩;have q0:=T6.c0;have q2:=T6.f0;have E1:=hid (T6.set0 (.slice (some ⟨go,0,none⟩) (aY.length+1) co));have E2:=hid (bz (dI D2.out jH EU (aC D2.out D3.out (by decide)) (by cases (Value.ownBlock _) <;> simp)) ⟨S,0,none⟩ (.slice (some ⟨go,0,none⟩) (aY.length+1) co) EU)
   have E3:=hid (bz nU ⟨S,0,none⟩ (.slice (some ⟨go,0,none⟩) (aY.length+1) co) (by simpa [Value.ownBlock] using CU));have Ld:Hid (KB w (w6.setCell ⟨S,0,none⟩ (.slice (some ⟨go,0,none⟩) (aY.length+1) co)) S (Value.slice vV aY.length vJ).ownBlock (Value.slice wP ss.length wN).ownBlock):=hid ⟨jH.os.trans nZ.out.os,jH.tape.trans nZ.out.tape,jH.output.trans nZ.out.output,by rw[aBj];omega,λq hq h1 h2 h3=>by
    rw[aBv _ _ _ _ h1,jH.block q (by omega) h1 h2 (by simp),nZ.out.block q hq h1 h3 (by simp)]⟩
   clear nU dz p8 jH T6 sI hc hf D1 D2 D3 e0 e2;go_wp2_with fail
   go_end0
   refine⟨rfl,ss.length,_,_,ss++[(⟨o,[a0,a1,a2,a3,a4,a5,a6,a7]⟩:St)],⟨E1.out,hSB,?_,?_,E8.out⟩,Ld.out,aA3 ⟨rfl,rfl,Y0.out⟩⟩
   ·rw[aA5,show aD (aY++[ss.length])=aD aY++[.int .i64 (ss.length:Nat)] by simp[aD]];exact E3.out
   ·exact E2.out
  ·go_simp
   refine hK.out _ _ (XH.out.of (λj=>by show (W0.alloc _).cell? _=_;exact aBt _ _ _ hsz)) (λau=>?_);clear hK K;refine aBc (rs:=[4]) (by kernel_rfl) (by simp) ?_;refine aA7 rfl (λK hK=>?_) aBb
   go_simp
   refine hK.out _ _ (by assumption) (λau=>?_);clear hK K;refine aBc (rs:=[7]) (by kernel_rfl) (by simp) ?_;refine aA7 rfl (λK hK=>?_) aBb;refine aBN _ (by rfl) (.tmp 19) (.tmp 21) 65 (by rfl) B 119 i0 (.agg #[.int .i64 0,.int .i64 0,.int .i64 0,.int .i64 0,.int .i64 0,.int .i64 0,.int .i64 0,.int .i64 0,.int .i64 0]) 9 72 Tryz.underlying65 hi aR aP aN rfl (by decide) _ ss.length (ik ss) (by rfl) ((OW.out.alloc _).drew) ⟨W0.heap.size,0,none⟩ 1 1 [Value.int .i64 o,Value.int .i64 a0,Value.int .i64 a1,Value.int .i64 a2,Value.int .i64 a3,Value.int .i64 a4,Value.int .i64 a5,Value.int .i64 a6,Value.int .i64 a7] (by rfl) (by rfl) (dx W0 _ _) (by intro y hy;simp at hy;rcases hy with rfl | rfl | rfl | rfl | rfl | rfl | rfl | rfl | rfl <;> rfl) (by decide) (by unfold maxLen;omega) (by omega) (by simp;omega) (W0.heap.size+1) (by simp) ?_
   intro gg cc w2 hown hgrow hat gu;have nN:gg≠S:=by
    rcases hat with h | h
    ·exact λe=>CR (by rw[<-e];exact h)
    ·omega
   have Jf:W0.heap.size+1<=w2.heap.size:=by
    have h4:(W0.drew.alloc (.cells #[Value.int .i64 o,Value.int .i64 a0,Value.int .i64 a1,Value.int .i64 a2,Value.int .i64 a3,Value.int .i64 a4,Value.int .i64 a5,Value.int .i64 a6,Value.int .i64 a7] 119)).heap.size<=w2.heap.size:=hgrow.size;rw[aAZ]at h4;exact h4
   have gF:KB W0 w2 S (Value.slice wP ss.length wN).ownBlock none:=⟨hgrow.os,hgrow.tape,hgrow.output,by omega,λq hq h1 h2 _=>by
    rw[hgrow.block q (by show q<(W0.alloc (.cells #[Value.int .i64 o,Value.int .i64 a0,Value.int .i64 a1,Value.int .i64 a2,Value.int .i64 a3,Value.int .i64 a4,Value.int .i64 a5,Value.int .i64 a6,Value.int .i64 a7] 119)).heap.size;rw[aAZ];omega) h2];show (W0.alloc (.cells #[Value.int .i64 o,Value.int .i64 a0,Value.int .i64 a1,Value.int .i64 a2,Value.int .i64 a3,Value.int .i64 a4,Value.int .i64 a5,Value.int .i64 a6,Value.int .i64 a7] 119)).heap[q]?=_;rw[aBl _ _ _ (by omega)]⟩
   have hb:=hgrow.block S (by show S<(W0.alloc (.cells #[Value.int .i64 o,Value.int .i64 a0,Value.int .i64 a1,Value.int .i64 a2,Value.int .i64 a3,Value.int .i64 a4,Value.int .i64 a5,Value.int .i64 a6,Value.int .i64 a7] 119)).heap.size;rw[aAZ];omega) (λe=>CR e.symm);have hc:∀ z,w2.cell? ⟨S,z,none⟩=W0.cell? ⟨S,z,none⟩:=λz=>by
    rw[aBf (a:=⟨S,z,none⟩) hb];show (W0.alloc (.cells #[Value.int .i64 o,Value.int .i64 a0,Value.int .i64 a1,Value.int .i64 a2,Value.int .i64 a3,Value.int .i64 a4,Value.int .i64 a5,Value.int .i64 a6,Value.int .i64 a7] 119)).cell? ⟨S,z,none⟩=_;exact aBt _ _ _ tO
   have hf:∀ z,w2.frozen? ⟨S,z,none⟩=W0.frozen? ⟨S,z,none⟩:=λz=>by
    rw[aBg (a:=⟨S,z,none⟩) hb];show (W0.alloc (.cells #[Value.int .i64 o,Value.int .i64 a0,Value.int .i64 a1,Value.int .i64 a2,Value.int .i64 a3,Value.int .i64 a4,Value.int .i64 a5,Value.int .i64 a6,Value.int .i64 a7] 119)).frozen? ⟨S,z,none⟩=_;exact aBK _ _ _ tO
   have T2:Two w2 S (.slice vV aY.length vJ) (.slice wP ss.length wN):=⟨(hc 0).trans dP.out.t.c0,(hc 1).trans dP.out.t.c1,(hf 0).trans dP.out.t.f0,(hf 1).trans dP.out.t.f1⟩;have g2:tH w o a0 a1 a2 a3 a4 a5 a6 a7 w2:=XH.out.of (λj=>gF.cell (p:=⟨w.heap.size,j,none⟩) hsz (by show w.heap.size≠S;omega) (λe=>Nat.lt_irrefl _ (MZ.out _ e.symm).1) (by simp));have D1:=hid (T2.set1 (.slice (some ⟨gg,0,none⟩) (ss.length+1) cc));have D2:Hid ((w2.setCell ⟨S,1,none⟩ (.slice (some ⟨gg,0,none⟩) (ss.length+1) cc)).ownsRow B 119 9 (.slice (some ⟨gg,0,none⟩) (ss.length+1) cc) (ss++[(⟨o,[a0,a1,a2,a3,a4,a5,a6,a7]⟩:St)]).length (ik (ss++[(⟨o,[a0,a1,a2,a3,a4,a5,a6,a7]⟩:St)]))):=hid (bz (by
    rw[aA5,xg];exact hown) ⟨S,1,none⟩ (.slice (some ⟨gg,0,none⟩) (ss.length+1) cc) (by simpa [Value.ownBlock] using nN))
   have wy:(Value.slice vV aY.length vJ).ownBlock≠some S:=λe=>by have:=(dP.out.kd.lt _ e).1;omega
   have D3:=hid (bz (dI dP.out.kd gF wy (aC dP.out.kd OW.out (by decide)) (by cases (Value.slice vV aY.length vJ).ownBlock <;> simp)) ⟨S,1,none⟩ (.slice (some ⟨gg,0,none⟩) (ss.length+1) cc) wy)
   have nZ:Hid (KB w (w2.setCell ⟨S,1,none⟩ (.slice (some ⟨gg,0,none⟩) (ss.length+1) cc)) S (Value.slice wP ss.length wN).ownBlock none):=hid ⟨gF.os.trans HB.out.os,gF.tape.trans HB.out.tape,gF.output.trans HB.out.output,by rw[aBj];omega,λq hq h1 h2 h3=>by
    rw[aBv _ _ _ _ h1,gF.block q (by omega) h1 h2 h3];exact HB.out.block q hq⟩
   have EU:(Value.slice (some ⟨gg,0,none⟩) (ss.length+1) cc).ownBlock≠some S:=by simpa [Value.ownBlock] using nN
   refine hK.out _ _ g2 (λau=>?_);have jw:Hid (tH w o a0 a1 a2 a3 a4 a5 a6 a7 (w2.setCell ⟨S,1,none⟩ (.slice (some ⟨gg,0,none⟩) (ss.length+1) cc))):=hid (g2.of (λj=>aA0 _ _ _ _ (λe=>by have:=congrArg Addr.block e;simp at this;omega)));have c2:=T2.c1;have f2:=T2.f1;have E8:Hid (lU (ss++[(⟨o,[a0,a1,a2,a3,a4,a5,a6,a7]⟩:St)])):=hid (λs hs=>by
    rcases aBy.1 hs with hs | hs
    ·exact HM.out.e8 s hs
    ·simp at hs;subst hs;rfl)
   clear hK K hown hgrow hat g2 gF T2 hb hc hf dP cT fT OW;simp only[Act.put,aAT];refine aA4 (i:=8) (oi:={ dst:=some 23,op:=Op.nilCheck (.tmp 15),type:=_,pos:=_,after:=_,guard:=none }) (v:=(Value.pointer (some ⟨S,0,none⟩))) rfl (by kernel_rfl) (by kernel_rfl) (by kernel_rfl) (λ_ _ _ h=>h) (aA2 ⟨by rfl,by intro w' af;(try dsimp only at af);go_simp⟩) (by assumption) ?_
   simp only[Act.put];refine aA4 (i:=9) (oi:={ dst:=some 24,op:=Op.fieldAddr _ (.tmp 23) 1,type:=_,pos:=_,after:=_,guard:=none }) (v:=(Value.pointer (some ⟨S,1,none⟩))) rfl (by kernel_rfl) (by kernel_rfl) (by kernel_rfl) (λ_ _ _ h=>h) (aA2 ⟨by rfl,by intro w' af;(try dsimp only at af);go_simp⟩) (by assumption) ?_
   simp only[Act.put];refine aBc (rs:=[10]) (by kernel_rfl) (by simp) ?_;refine aA7 rfl (λK hK=>?_) aBb
   go_simp
   refine hK.out _ _ jw.out (λau=>?_);clear hK K;refine aBS (by kernel_rfl) ?_ _;clear au c2 f2 jw;have ajR:w.heap.size<(w2.setCell ⟨S,1,none⟩ (.slice (some ⟨gg,0,none⟩) (ss.length+1) cc)).heap.size:=by rw[aBj];omega
   generalize w2.setCell ⟨S,1,none⟩ (.slice (some ⟨gg,0,none⟩) (ss.length+1) cc)=W5 at *;have e0:=D1.out.c0;have e2:=D1.out.f0;go_wp2_with (at_builtin;go_must (refine aBw _ rfl (.tmp 29) (.tmp 31) 22 rfl B 3 i1 (.int .i64 0) 1 8 Tryz.underlying22 iC fe eZ eY rfl (by decide) _ aY.length (aD aY) rfl (D3.out.alloc _) ⟨W5.heap.size,0,none⟩ 1 1 [.int .i64 (ss.length:Nat)] rfl rfl (dx W5 [.int .i64 (ss.length:Nat)] _) (by intro y hy;simp at hy;rcases hy with rfl;rfl) (by decide) (by unfold maxLen;omega) (by omega) (by simp;omega) (W5.heap.size+1) (by simp) ?_));intro go co w6 nU dz p8 Yu;have CO:W5.heap.size<=w6.heap.size:=by
    have h4:=dz.size;simp at h4;omega
   have CU:go≠S:=by
    rcases p8 with h | h
    ·exact λe=>wy (by rw[<-e];exact h)
    ·omega
   have jH:KB W5 w6 S (Value.slice vV aY.length vJ).ownBlock none:=⟨dz.os,dz.tape,dz.output,CO,λq hq h1 h2 _=>by
    rw[dz.block q (by rw[aAZ];omega) h2,aBl _ _ _ (by omega)]⟩
   have sI:=dz.block S (by rw[aAZ];omega) (λe=>wy e.symm);have hc:∀ o,w6.cell? ⟨S,o,none⟩=W5.cell? ⟨S,o,none⟩:=λo=>by
    rw[aBf (a:=⟨S,o,none⟩) sI];exact aBt _ _ _ (by show S<W5.heap.size;omega)
   have hf:∀ o,w6.frozen? ⟨S,o,none⟩=W5.frozen? ⟨S,o,none⟩:=λo=>by
    rw[aBg (a:=⟨S,o,none⟩) sI];exact aBK _ _ _ (by show S<W5.heap.size;omega)
   have T6:Two w6 S _ _:=⟨(hc 0).trans D1.out.c0,(hc 1).trans D1.out.c1,(hf 0).trans D1.out.f0,(hf 1).trans D1.out.f1⟩;have q0:=T6.c0;have q2:=T6.f0;have E1:=hid (T6.set0 (.slice (some ⟨go,0,none⟩) (aY.length+1) co));have E2:=hid (bz (dI D2.out jH EU (aC D2.out D3.out (by decide)) (by cases (Value.ownBlock _) <;> simp)) ⟨S,0,none⟩ (.slice (some ⟨go,0,none⟩) (aY.length+1) co) EU)
   have E3:=hid (bz nU ⟨S,0,none⟩ (.slice (some ⟨go,0,none⟩) (aY.length+1) co) (by simpa [Value.ownBlock] using CU));have Ld:Hid (KB w (w6.setCell ⟨S,0,none⟩ (.slice (some ⟨go,0,none⟩) (aY.length+1) co)) S (Value.slice vV aY.length vJ).ownBlock (Value.slice wP ss.length wN).ownBlock):=hid ⟨jH.os.trans nZ.out.os,jH.tape.trans nZ.out.tape,jH.output.trans nZ.out.output,by rw[aBj];omega,λq hq h1 h2 h3=>by
    rw[aBv _ _ _ _ h1,jH.block q (by omega) h1 h2 (by simp),nZ.out.block q hq h1 h3 (by simp)]⟩
   clear nU dz p8 jH T6 sI hc hf D1 D2 D3 e0 e2;go_wp2_with fail
   go_end0
   refine⟨rfl,ss.length,_,_,ss++[(⟨o,[a0,a1,a2,a3,a4,a5,a6,a7]⟩:St)],⟨E1.out,hSB,?_,?_,E8.out⟩,Ld.out,aA3 ⟨rfl,rfl,Y0.out⟩⟩
   ·rw[aA5,show aD (aY++[ss.length])=aD aY++[.int .i64 (ss.length:Nat)] by simp[aD]];exact E3.out
   ·exact E2.out
