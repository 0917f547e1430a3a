import Derived.Test.YtjagijohfkffiabGreatFREM12
set_option maxHeartbeats 16000000
set_option maxRecDepth 100000
set_option linter.unusedSimpArgs false
namespace Go.Proofs.YtjagijohfkffiabGreat
open Go.RowKit
set_option linter.unusedVariables false
def Hit(M:Nat)(vL vO v1 v2:Value)(V:Nat->Value)(n2 k:Nat):Prop:=k=M\/vL.ownBlock=some k\/vO.ownBlock=some k\/v1.ownBlock=some k\/v2.ownBlock=some k\/∃ i,i<n2/\(V i).ownBlock=some k
structure Xm (w w':World) (S:Nat->Prop):Prop where
 os:w'.os=w.os
 tape:w'.tape=w.tape
 output:w'.output=w.output
 size:w.heap.size<=w'.heap.size
 block:∀ k,k<w.heap.size->¬ S k->w'.heap[k]?=w.heap[k]?
structure KZ (w:World) (vL v1 v2:Value) (n1 n2:Nat) (V:Nat->Value) (nv:Nat->Nat) (ES:List (Value × Nat)) (OS:List (Value × Nat × Nat)):Prop where
 r1:∃ xs,w.ownsRow 0 3 1 v1 n1 xs
 r2:w.ownsRow 0 22 1 v2 n2 ((List.range n2).map V)
 rv:∀ i,i<n2->∃ xs,w.ownsRow 0 3 1 (V i) (nv i) xs
 u1:∀ g,v1.ownBlock=some g->¬ qO ES OS g
 u2:∀ g,v2.ownBlock=some g->¬ qO ES OS g
 uv:∀ i,i<n2->∀ g,(V i).ownBlock=some g->¬ qO ES OS g/\v1.ownBlock≠some g
 sv:∀ i j,i<j->j<n2->∀ g,(V j).ownBlock=some g->(V i).ownBlock≠some g
 sl:v2.ownBlock=none\/v2.ownBlock≠vL.ownBlock
 b1:n1<=1048576
 b2:n2<=1048576
 bv:∀ i,i<n2->nv i<=1048576
structure Lb (w wq:World) (M K:Nat) (vL vO v1 v2 fC:Value) (n2:Nat) (V:Nat->Value) (nv:Nat->Nat) (ES lV:List (Value × Nat)) (OS:List (Value × Nat × Nat)) (q r j:Nat):Prop where
 bk:Book wq M fC vO (q+1+j) r lV OS
 tk:wq.heap[K]?=some (.cells #[v1,v2] 37 (0,0))
 r2:wq.ownsRow 0 22 1 v2 n2 ((List.range n2).map V)
 rv:∀ i,i<n2->j<=i->∃ xs,wq.ownsRow 0 3 1 (V i) (nv i) xs
 us:∀ g,qO lV OS g->qO ES OS g\/v1.ownBlock=some g\/(∃ i,i<j/\(V i).ownBlock=some g)\/w.heap.size<=g
 lb:fC.ownBlock=vL.ownBlock\/∃ g',fC.ownBlock=some g'/\w.heap.size<=g'
 ch:Xm w wq (Hit M vL vO v1 v2 V n2)
theorem cZ{w:World}{q:Nat}{o:Obj}(h:w.heap[q]?=some o):q<w.heap.size:=(aBm.1 h).1
theorem aaj{w wq w':World}{M K n2 q r j:Nat}{vL vO v1 v2 fC:Value}{V:Nat->Value}{nv:Nat->Nat}{ES lV:List (Value × Nat)}{OS:List (Value × Nat × Nat)}{n1:Nat}{e:Ending}
  (hB:Book w M vL vO q r ES OS) (hm:KZ w vL v1 v2 n1 n2 V nv ES OS) (hK:K=w.heap.size) (h:Lb w wq M K vL vO v1 v2 fC n2 V nv ES lV OS q r j) (hj:j<n2)
  (hd:Listed M (V j) fC vO (nv j) (4*(q+1+j)) (q+1+j) (lV.map λe=>e.1) wq e w'):e=.returned (.tuple #[])/\∃ Qu afk,Lb w w' M K vL vO v1 v2 Qu n2 V nv ES afk OS q r (j+1):=by
 obtain⟨xs,hrv⟩:=h.rv j hj (aAU _);obtain⟨xw,hrw⟩:=hm.rv j hj;have wz:∀ g,(V j).ownBlock=some g->g<w.heap.size:=λg hg=>(hrw.lt g hg).2;have aeq:=cZ hB.hM;obtain⟨rfl,Qu,o1,o2,o3,bk,us,lb,kb⟩:=zP h.bk hrv (λg hg hu=>by
  rcases h.us g hu with h1 | h1 | ⟨i,hi,h1⟩ | h1
  ·exact(hm.uv j hj g hg).1 h1
  ·exact(hm.uv j hj g hg).2 h1
  ·exact hm.sv i j hi hj g hg h1
  ·have:=wz g hg;omega) hd
 have mR:v2.ownBlock=none\/v2.ownBlock≠fC.ownBlock:=by
  rcases h.lb with h1 | ⟨g',h1,h2⟩
  ·rw[h1];exact hm.sl
  ·cases hb:v2.ownBlock with
   | none=>exact aA2 rfl
   | some g=>
    refine aA3 λe2=>?_;rw[h1]at e2;have e3:=Option.some.inj e2;have:=(hm.r2.lt g hb).2;omega
 refine⟨rfl,Qu,_,⟨by rw[show q+1+(j+1)=q+1+j+1 by omega];exact bk,?_,?_,?_,?_,?_,?_⟩⟩
 ·have hKl:=cZ h.tk;rw[kb.block K hKl (by omega) (λe=>by have:=wz K e.symm;omega) (λe=>bE h.bk.hL h.tk (by decide) e.symm)];exact h.tk
 ·exact dI h.r2 kb (bE h.r2 h.bk.hM (by decide)) (aC h.r2 hrv (by decide)) mR
 ·intro i hi hji;obtain⟨xi,DL⟩:=h.rv i hi (by omega);refine⟨xi,dI DL kb (bE DL h.bk.hM (by decide)) ?_ (aC DL h.bk.hL (by decide))⟩;cases hb:(V i).ownBlock with
  | none=>exact aA2 rfl
  | some g=>exact aA3 λe2=>hm.sv j i (by omega) hi g hb e2.symm
 ·intro g hg;rcases us g hg with h1 | h1 | h1
  ·rcases h.us g h1 with h2 | h2 | ⟨i,hi,h2⟩ | h2
   ·exact aA2 h2
   ·exact aA3 (aA2 h2)
   ·exact aA3 (aA3 (aA2 ⟨i,by omega,h2⟩))
   ·exact aA3 (aA3 (aA3 h2))
  ·exact aA3 (aA3 (aA2 ⟨j,by omega,h1⟩))
  ·exact aA3 (aA3 (aA3 (by have:=h.ch.size;omega)))
 ·rcases lb with h1 | ⟨g',h1,h2⟩
  ·rw[h1];exact h.lb
  ·exact aA3 ⟨g',h1,by have:=h.ch.size;omega⟩
 ·refine⟨kb.os.trans h.ch.os,kb.tape.trans h.ch.tape,kb.output.trans h.ch.output,aBO h.ch.size kb.size,λk hk hs=>?_⟩;rw[kb.block k (aBi hk h.ch.size) (λe=>hs (aA2 e)) (λe=>hs (aA3 (aA3 (aA3 (aA3 (aA3 ⟨j,hj,e.symm⟩)))))) (λe=>?_)]
  ·exact h.ch.block k hk hs
  ·rcases h.lb with h1 | ⟨g',h1,h2⟩
   ·exact hs (aA3 (aA2 (by rw[<-h1,<-e])))
   ·rw[h1]at e;cases e;omega
theorem Yf{w w':World}{M n1 n2 q r:Nat}{vL vO v1 v2:Value}{V:Nat->Value}{nv:Nat->Nat}{ES:List (Value × Nat)}{OS:List (Value × Nat × Nat)}{e:Ending}
  (hB:Book w M vL vO q r ES OS) (hm:KZ w vL v1 v2 n1 n2 V nv ES OS)
  (hd:Listed M v1 vL vO n1 (4*q) q (ES.map λe=>e.1) (w.alloc (.cells #[v1,v2] 37)) e w'):e=.returned (.tuple #[])/\∃ fC lV,Lb w w' M w.heap.size vL vO v1 v2 fC n2 V nv ES lV OS q r 0:=by
 have ba:=(aAW w.heap.size w).alloc (aAU _) (.cells #[v1,v2] 37);have hBa:=hB.below ba;obtain⟨x1,h1⟩:=hm.r1;have h1a:=ae h1 ba;have aeq:=cZ hB.hM;obtain⟨rfl,fC,o1,o2,o3,bk,us,lb,kb⟩:=zP hBa h1a hm.u1 hd;have h2a:=ae hm.r2 ba;refine⟨rfl,fC,_,⟨bk,?_,?_,?_,?_,?_,?_⟩⟩
 ·rw[kb.block w.heap.size (by simp) (by omega) (λe=>by have:=(h1.lt _ e.symm).2;omega) (λe=>by have:=(hB.hL.lt _ e.symm).2;omega)];exact heap_alloc_last w _
 ·exact dI h2a kb (bE h2a hBa.hM (by decide)) (aC h2a h1a (by decide)) hm.sl
 ·intro i hi _;obtain⟨xi,DL⟩:=hm.rv i hi;have hra:=ae DL ba;refine⟨xi,dI hra kb (bE hra hBa.hM (by decide)) ?_ (aC hra hBa.hL (by decide))⟩;cases hb:(V i).ownBlock with
  | none=>exact aA2 rfl
  | some g=>exact aA3 λe2=>(hm.uv i hi g hb).2 e2.symm
 ·intro g hg;rcases us g hg with h1 | h1 | h1
  ·exact aA2 h1
  ·exact aA3 (aA2 h1)
  ·exact aA3 (aA3 (aA3 (by rw[aAZ]at h1;omega)))
 ·rcases lb with h1 | ⟨g',h1,h2⟩
  ·exact aA2 h1
  ·exact aA3 ⟨g',h1,by rw[aAZ]at h2;omega⟩
 ·refine⟨kb.os,kb.tape,kb.output,by have:=kb.size;rw[aAZ]at this;omega,λk hk hs=>?_⟩;rw[kb.block k (by rw[aAZ];omega) (λe=>hs (aA2 e)) (λe=>hs (aA3 (aA3 (aA3 (aA2 e.symm))))) (λe=>hs (aA3 (aA2 e.symm)))];exact aBl _ _ _ hk
def Ug(w:World)(M:Nat)(vL vO v1 v2:Value)(n2:Nat)(V:Nat->Value)(q r:Nat)(ES:List (Value × Nat))(OS:List (Value × Nat × Nat))(e:Ending)(w':World):Prop:=
 e=.returned (.tuple #[])/\∃ fC nQ lV K7,Book w' M fC nQ (q+1+n2) (r+1) lV K7 /\
  (∀ g,qO lV K7 g->qO ES OS g\/v1.ownBlock=some g\/v2.ownBlock=some g\/(∃ i,i<n2/\(V i).ownBlock=some g)\/w.heap.size<=g) /\
  (fC.ownBlock=vL.ownBlock\/∃ g',fC.ownBlock=some g'/\w.heap.size<=g')/\(nQ.ownBlock=vO.ownBlock\/∃ g',nQ.ownBlock=some g'/\w.heap.size<=g')/\Xm w w' (Hit M vL vO v1 v2 V n2)
theorem YS{w wq w':World}{M n1 n2 q r p:Nat}{vL vO v1 v2 fC nQ o1 o2 o3:Value}{V:Nat->Value}{nv:Nat->Nat}{ES lV:List (Value × Nat)}{OS:List (Value × Nat × Nat)}
  (hB:Book w M vL vO q r ES OS) (hm:KZ w vL v1 v2 n1 n2 V nv ES OS) (h:Lb w wq M w.heap.size vL vO v1 v2 fC n2 V nv ES lV OS q r n2)
  (Sk:w'.heap[M]?=some (.cells #[fC,nQ] 32 (0,0))) (hO':w'.ownsRow 0 23 1 nQ (4*r+4) (OS.map (λe=>e.1)++[v2,o1,o2,o3]))
  (k0:Uj w' v2 n2 p (77+r)) (k1:Uj w' o1 (n2+1) p (77+r)) (k2:Uj w' o2 (n2+2) p (77+r)) (k3:Uj w' o3 (n2+3) p (77+r)) (hp:wq.heap.size<=p)
  (hb:∀ o,o=o1\/o=o2\/o=o3->o.ownBlock=v2.ownBlock\/∃ g',o.ownBlock=some g'/\wq.heap.size<=g') (hbO:nQ.ownBlock=vO.ownBlock\/∃ g',nQ.ownBlock=some g'/\wq.heap.size<=g') (kb:KB wq w' M v2.ownBlock vO.ownBlock) :
  Ug w M vL vO v1 v2 n2 V q r ES OS (.returned (.tuple #[])) w':=by
 have hsz:=h.ch.size;have mR:∀ X:Value,(X.ownBlock=v2.ownBlock\/∃ g',X.ownBlock=some g'/\wq.heap.size<=g')->X.ownBlock=none\/X.ownBlock≠fC.ownBlock:=λX hX=>by
  have hv2:v2.ownBlock=none\/v2.ownBlock≠fC.ownBlock:=by
   rcases h.lb with h1 | ⟨g',h1,h2⟩
   ·rw[h1];exact hm.sl
   ·cases hb:v2.ownBlock with
    | none=>exact aA2 rfl
    | some g=>
     refine aA3 λe2=>?_;rw[h1]at e2;have e3:=Option.some.inj e2;have:=(hm.r2.lt g hb).2;omega
  rcases hX with hX | ⟨g',hX,hg⟩
  ·rw[hX];exact hv2
  ·refine aA3 λe2=>?_;rw[hX]at e2;have:=(h.bk.hL.lt g' e2.symm).2;omega
 refine⟨rfl,fC,nQ,lV,OS++[(v2,n2,p),(o1,n2+1,p),(o2,n2+2,p),(o3,n2+3,p)],⟨Sk,?_,?_,?_,?_,?_⟩,?_,h.lb,?_,?_⟩
 ·refine dI h.bk.hL kb (bE h.bk.hL h.bk.hM (by decide)) ?_ (aC h.bk.hL h.bk.hO (by decide));rcases mR v2 (aA2 rfl) with h1 | h1
  ·cases dV:fC.ownBlock with
   | none=>exact aA2 rfl
   | some g=>exact aA3 (by rw[h1];simp)
  ·exact aA3 h1.symm
 ·have e1:(OS++[(v2,n2,p),(o1,n2+1,p),(o2,n2+2,p),(o3,n2+3,p)]).map (λe=>e.1)=OS.map (λe=>e.1)++[v2,o1,o2,o3]:=by simp
  rw[e1,show 4*(r+1)=4*r+4 by omega];exact hO'
 ·intro i e he;have hk:=h.bk.ent i e he;exact dI hk kb (bE hk h.bk.hM (by decide)) (aC hk h.r2 (by decide)) (aC hk h.bk.hO (by decide))
 ·intro i e he;by_cases c:i<OS.length
  ·rw[aA9 c]at he;have hk:=h.bk.FQ i e he;have hmem:=aBB he;refine⟨dI hk.row kb (bE hk.row h.bk.hM (by decide)) ?_ (aC hk.row h.bk.hO (by decide)),?_⟩
   ·cases aM:e.1.ownBlock with
    | none=>exact aA2 rfl
    | some g=>exact aA3 λe2=>hm.u2 g e2.symm (aA3 (aA2 ⟨e,hmem,aM⟩))
   ·rw[kb.block _ (cZ hk.cell) (λe2=>by have h9:=h.bk.hM;rw[<-e2,hk.cell]at h9;simp at h9) (λe2=>bE h.r2 hk.cell (by decide) e2.symm) (λe2=>bE h.bk.hO hk.cell (by decide) e2.symm)];exact hk.cell
  ·rw[aBa (by omega)]at he;have vG:=hB.IR;have hd:i / 4=r:=by
    have:=(aA1.1 he).1;simp at this;omega
   rw[hd];have h4:i - OS.length<4:=by
    have:=(aA1.1 he).1;simpa using this
   have:i - OS.length=0\/i - OS.length=1\/i - OS.length=2\/i - OS.length=3:=by omega
   rcases this with h0 | h0 | h0 | h0 <;> rw[h0]at he <;> simp at he <;> subst he
   ·exact k0
   ·exact k1
   ·exact k2
   ·exact k3
 ·intro e he;rcases aBy.1 he with he | he
  ·exact h.bk.sep e he
  ·simp at he;rcases he with rfl | rfl | rfl | rfl
   ·exact mR _ (aA2 rfl)
   ·exact mR _ (hb _ (aA2 rfl))
   ·exact mR _ (hb _ (aA3 (aA2 rfl)))
   ·exact mR _ (hb _ (aA3 (aA3 rfl)))
 ·have low:∀ X g,(X=o1\/X=o2\/X=o3)->X.ownBlock=some g->v2.ownBlock=some g\/w.heap.size<=g:=λX g hX hg=>by
   rcases hb X hX with h1 | ⟨g',h1,h2⟩
   ·exact aA2 (h1.symm.trans hg)
   ·rw[hg]at h1;have:=Option.some.inj h1;exact aA3 (by omega)
  intro g hg;rcases hg with hg | ⟨e,he,hg⟩ | ⟨e,he,hg⟩
  ·rcases h.us g (aA2 hg) with h1 | h1 | h1 | h1
   ·exact aA2 h1
   ·exact aA3 (aA2 h1)
   ·exact aA3 (aA3 (aA3 (aA2 h1)))
   ·exact aA3 (aA3 (aA3 (aA3 h1)))
  ·rcases aBy.1 he with he | he
   ·exact aA2 (aA3 (aA2 ⟨e,he,hg⟩))
   ·simp at he;rcases he with rfl | rfl | rfl | rfl
    ·exact aA3 (aA3 (aA2 hg))
    ·rcases low _ g (aA2 rfl) hg with h1 | h1
     ·exact aA3 (aA3 (aA2 h1))
     ·exact aA3 (aA3 (aA3 (aA3 h1)))
    ·rcases low _ g (aA3 (aA2 rfl)) hg with h1 | h1
     ·exact aA3 (aA3 (aA2 h1))
     ·exact aA3 (aA3 (aA3 (aA3 h1)))
    ·rcases low _ g (aA3 (aA3 rfl)) hg with h1 | h1
     ·exact aA3 (aA3 (aA2 h1))
     ·exact aA3 (aA3 (aA3 (aA3 h1)))
  ·rcases aBy.1 he with he | he
   ·exact aA2 (aA3 (aA3 ⟨e,he,hg⟩))
   ·simp at he;have:g=p:=by rcases he with rfl | rfl | rfl | rfl <;> exact hg.symm
    exact aA3 (aA3 (aA3 (aA3 (by omega))))
 ·rcases hbO with h1 | ⟨g',h1,h2⟩
  ·exact aA2 h1
  ·exact aA3 ⟨g',h1,by omega⟩
 ·refine⟨kb.os.trans h.ch.os,kb.tape.trans h.ch.tape,kb.output.trans h.ch.output,aBO hsz kb.size,λk hk hs=>?_⟩;rw[kb.block k (by omega) (λe=>hs (aA2 e)) (λe=>hs (aA3 (aA3 (aA3 (aA3 (aA2 e.symm)))))) (λe=>hs (aA3 (aA3 (aA2 e.symm))))];exact h.ch.block k hk hs
theorem Tryz.Yo:(Tryz.prog.info? 23).map (λi=>(i.zero,i.size,i.bytes))=some (some (.slice none 0 0),1,24):=by kernel_rfl
theorem EE(M q r n1 n2 c1 c2:Nat)(a1 a2:Option Addr)(vL vO:Value)(V:Nat->Value)(nv:Nat->Nat)(ES:List (Value × Nat))(OS:List (Value × Nat × Nat))(w:World)(hB:Book w M vL vO q r ES OS)(hm:KZ w vL (.slice a1 n1 c1) (.slice a2 n2 c2) n1 n2 V nv ES OS)(hq:q+n2+1<=1048576)(hr:r<=1048576) :
  Calls Tryz.prog 18 #[.pointer (some ⟨M,0,none⟩),.agg #[.slice a1 n1 c1,.slice a2 n2 c2]] w (Ug w M vL vO (.slice a1 n1 c1) (.slice a2 n2 c2) n2 V q r ES OS):=by
 obtain⟨i0,hi,aR,aP,aN⟩:=info_parts Tryz.NZ;obtain⟨i1,iC,fe,eZ,eY⟩:=info_parts Tryz.Yo;have b1:=hm.b1;have b2:=hm.b2;obtain⟨xs1,fu⟩:=hm.r1;have axL:=AZ fu;have anp:=AZ hm.r2;have ba:=(aAW w.heap.size w).alloc (aAU _) (.cells #[.slice a1 n1 c1,.slice a2 n2 c2] 37);have LC:=hid (zk M n1 (4*q) q c1 a1 vL vO xs1 _ _ (hB.below ba).hM (hB.below ba).hL (ae fu ba) b1 rfl (by omega));have LF:=hid (λe w'=>@Yf w w' M n1 n2 q r vL vO (.slice a1 n1 c1) (.slice a2 n2 c2) V nv ES OS e hB hm);have LS:=hid (λwq w' j fC lV e=>@aaj w wq w' M w.heap.size n2 q r j vL vO (.slice a1 n1 c1) (.slice a2 n2 c2) fC V nv ES lV OS n1 e hB hm rfl);have LO:=hid (λwq w' p fC nQ o1 o2 o3 lV=>@YS w wq w' M n1 n2 q r p vL vO (.slice a1 n1 c1) (.slice a2 n2 c2) fC nQ o1 o2 o3 V nv ES lV OS hB hm);have HBV:=hid hm.bv;clear hB hm fu ba;go_enter Tryz.func18,Tryz.ntmps18;go_wp2_with fail;refine LC.out.mono ?_;intro e w1 hd;obtain⟨rfl,vL1,ES1,RQ⟩:=LF.out _ _ hd;have z8:=hid RQ;clear hd LC LF RQ;generalize hKK:w.heap.size=K at *;go_wp2_with fail
 go_loopw [4] (λi wq=>∃ (j:Nat) (fC:Value) (lV:List (Value × Nat)),j<=n2/\i=.int .i64 j/\Hid (Lb w wq M K vL vO (.slice a1 n1 c1) (.slice a2 n2 c2) fC n2 V nv ES lV OS q r j)) (λi _=>n2 - (intOf i).toNat)
 case atStart=>exact⟨0,vL1,ES1,aA8 _,rfl,z8⟩
 case round=>
  clear z8;obtain⟨j,fC,lV,hj,rfl,HM⟩:=hrel;rename World=>W0;have t0:W0.cell? ⟨K,0,none⟩=some (.slice a1 n1 c1):=by rw[aBJ W0 K 0 _ _ _ HM.out.tk];rfl
  have t1:W0.cell? ⟨K,1,none⟩=some (.slice a2 n2 c2):=by rw[aBJ W0 K 1 _ _ _ HM.out.tk];rfl
  by_cases eQ:j<n2
  ·obtain⟨g2,eg2,_,oV,_⟩:=dX HM.out.r2 (by omega);subst eg2;obtain⟨xj,hrj⟩:=HM.out.rv j eQ (aAU _);obtain⟨aj,cj,ej⟩:=ai hrj;have cc:W0.cell? ⟨g2,j,none⟩=some (V j):=by
    rw[HM.out.r2.cellAt j (by omega)];simp[aBk,aBx eQ]
   rw[ej]at hrj cc;have LJ:=hid (zk M (nv j) (4*(q+1+j)) (q+1+j) cj aj fC vO xj _ W0 HM.out.bk.hM HM.out.bk.hL hrj (HBV.out j eQ) rfl (by omega));have EJ:=hid ej;have i1:(0:Int)<=(j:Int):=by omega
   have i2:(j:Int)<(n2:Int):=by omega
   clear hrj ej;go_wp2_with fail;refine LJ.out.mono ?_;intro e w2 hd;rw[<-EJ.out]at hd;obtain⟨rfl,Qu,afk,hl2⟩:=LS.out _ _ j fC lV _ HM.out eQ hd;have oo:=hid hl2;clear hd hl2 LJ t0 t1 cc;go_wp2_with fail;go_roundw
   case rel=>exact⟨j+1,Qu,afk,by omega,by go_num,oo⟩
   case measure=>simp[intOf];omega
  ·obtain rfl:n2=j:=by omega
   have hrow:=HM.out.r2;have zF:=HM.out.bk;obtain⟨aO,cO,eO⟩:=ai zF.hO;subst eO;have axJ:=AZ zF.hO;have mO:W0.cell? ⟨M,1,none⟩=some (.slice aO (4*r) cO):=by rw[aBJ W0 M 1 _ _ _ zF.hM];rfl
   have YE:((4*r:Nat):Int) / 4=(r:Int):=by omega
   have ant:=hid zF.hO;have HMB:=hid zF.hM;have Gs:=hid hrow;have aeq:=cZ zF.hM;have akM:=cZ HM.out.tk;have RF:OS.length=4*r:=zF.IR;obtain⟨k,hk⟩:∃ k:Nat,(77:Int)+(r:Int)=(k:Int):=⟨77+r,by omega⟩;have HK:Hid (k=77+r):=hid (by omega);generalize hN4:4*r=N4 at *;have HN4:=hid hN4;clear hN4;have afR:(N4:Int).tdiv 4=(r:Int):=by rw[Int.tdiv_eq_ediv_of_nonneg (by omega)];exact YE
   have ayj:N4<=4194304:=by have:=HN4.out;omega
   have bp:=(aAW W0.heap.size W0).alloc (aAU _) (.cells #[.int .i64 (k:Nat)] 3);have Kk:=hid (ae hrow bp);have iL:=hid ((bp.block M aeq).trans HMB.out);have amb:=hid (ae ant.out bp);have HPA:=hid (heap_alloc_last W0 (.cells #[.int .i64 (k:Nat)] 3));have t1a:=(bp.cell (p:=⟨K,1,none⟩) akM).trans t1;have HBP:=hid bp;have hKA:=hid ((bp.block K akM).trans HM.out.tk);clear hrow zF bp;go_wp2_with fail;clear hk YE afR mO t0 t1;have DT:(W0.alloc (.cells #[.int .i64 (k:Nat)] 3)).heap.size=W0.heap.size+1:=by simp
   have HWS:=hid DT;clear DT;generalize Wl:(W0.alloc (.cells #[.int .i64 (k:Nat)] 3))=W3 at *;clear Wl;generalize hpp:W0.heap.size=p at *;have PE:=hid hpp;clear hpp
   go_loopw [6] (λi wq=>∃ j:Nat,j<=n2/\i=.int .i64 j/\Hid (wq.ownsRow 0 22 1 (.slice a2 n2 c2) n2 (List.replicate j (.slice (some ⟨p,0,none⟩) 1 1)++((List.range n2).map V).drop j))/\Hid (W3.grownBy wq (Value.slice a2 n2 c2).ownBlock)) (λi _=>n2 - (intOf i).toNat)
   case atStart=>exact⟨0,aA8 _,rfl,hid (by simpa using Kk.out),hid (World.grownBy.refl _ _)⟩
   case round=>
    obtain⟨j,hj,rfl,HO,HG⟩:=hrel;rename World=>W4;have asn:some K≠(Value.slice a2 n2 c2).ownBlock:=λe=>bE Kk.out hKA.out (by decide) e.symm;have HK4:=hid ((HG.out.block K (cZ hKA.out) asn).trans hKA.out);have t1b:W4.cell? ⟨K,1,none⟩=some (.slice a2 n2 c2):=by rw[aBJ W4 K 1 _ _ _ HK4.out];rfl
    by_cases eQ:j<n2
    ·obtain⟨g,eg,hBg,hg,_⟩:=dX HO.out (by omega);subst eg;have cj:∃ u,W4.cell? ⟨g,j,none⟩=some u:=⟨_,by rw[HO.out.cellAt j (by omega)];exact aAV (by simp;omega)⟩;obtain⟨u,cj⟩:=cj;have fj:W4.frozen? ⟨g,j,none⟩=false:=by
      rcases HO.out.2 with⟨e,_⟩ | ⟨g',cap',cur,e,_,hh,_⟩
      ·cases e
      ·cases e;simp[World.frozen?,hh]
     have st:=HO.out.stored j (.slice (some ⟨p,0,none⟩) 1 1);have jy:Hid ((W4.setCell ⟨g,j,none⟩ (.slice (some ⟨p,0,none⟩) 1 1)).ownsRow 0 22 1 (.slice (some ⟨g,0,none⟩) n2 c2) n2 (List.replicate (j+1) (.slice (some ⟨p,0,none⟩) 1 1)++((List.range n2).map V).drop (j+1))):=hid (by
      have h9:=st.1;rw[Te (by simp;omega)]at h9;exact h9)
     have Xd:Hid (W3.grownBy (W4.setCell ⟨g,j,none⟩ (.slice (some ⟨p,0,none⟩) 1 1)) (Value.slice (some ⟨g,0,none⟩) n2 c2).ownBlock):=hid ⟨st.2.os.trans HG.out.os,st.2.tape.trans HG.out.tape,st.2.output.trans HG.out.output,aBO HG.out.size st.2.size,λq h1 h2=>(st.2.block q (aBi h1 HG.out.size) h2).trans (HG.out.block q h1 h2)⟩;have i1:(0:Int)<=(j:Int):=by omega
     have i2:(j:Int)<(n2:Int):=by omega
     clear st HO HG;go_wp2_with fail;go_roundw
     case rel=>exact⟨j+1,by omega,by go_num,jy,Xd⟩
     case measure=>simp[intOf];omega
    ·obtain rfl:n2=j:=by omega
     have qG:=HO.out;rw[List.drop_of_length_le (by simp),List.append_nil]at qG;have HMW:=hid ((HG.out.block M (by have:=HWS.out;have:=PE.out;omega) (λe=>bE Kk.out (iL.out) (by decide) e.symm)).trans iL.out);have HP0:=hid ((HG.out.block p (by have:=HWS.out;omega) (λe=>bE Kk.out HPA.out (by decide) e.symm)).trans HPA.out);have ame:=hid (amb.out.kept HG.out (aC amb.out Kk.out (by decide)));have hsz0:=HG.out.size;have WZ:=HK4;have as6:Hid (∀ q,q<p->some q≠(Value.slice a2 n2 c2).ownBlock->W4.heap[q]?=W0.heap[q]?):=hid (λq h1 h2=>(HG.out.block q (by have:=HWS.out;omega) h2).trans (HBP.out.block q (by have:=PE.out;omega)));have kF:=hid (⟨HG.out.os.trans HBP.out.os,HG.out.tape.trans HBP.out.tape,HG.out.output.trans HBP.out.output⟩:W4.os=W0.os/\W4.tape=W0.tape/\W4.output=W0.output);have dP:=HMW;have hpW:p+1<=W4.heap.size:=by have:=HWS.out;omega
     clear HO HG;go_wp2_with (at_builtin;go_must (refine gQ _ rfl (.tmp 49) (.tmp 51) 23 rfl 0 22 i0 (.slice none 0 0) 24 Tryz.underlying23 hi aR aP aN rfl (.slice a2 n2 c2) n2 _ rfl (qG.alloc _) ⟨W4.heap.size,0,none⟩ 1 1 [Value.slice (some ⟨p,0,none⟩) 1 1] rfl rfl (by decide) ?a11 ?a12 ?a13 ?a14 (aA8 _) ?_))
     case a11=>exact eu _ [Value.slice (some ⟨p,0,none⟩) 1 1] _
     case a12=>intro u hu;simp at hu;subst hu;rfl
     case a13=>unfold maxLen;omega
     case a14=>omega
     intro o1 w1 pI aF D1 g1;have e1:List.replicate n2 (Value.slice (some ⟨p,0,none⟩) 1 1)++[Value.slice (some ⟨p,0,none⟩) 1 1]=List.replicate (n2+1) (Value.slice (some ⟨p,0,none⟩) 1 1):=by
      rw[show [Value.slice (some ⟨p,0,none⟩) 1 1]=List.replicate 1 (Value.slice (some ⟨p,0,none⟩) 1 1) from rfl,List.replicate_append_replicate]
     rw[e1]at aF;have lS:=nL D1 (qG.alloc (.cells #[Value.slice (some ⟨p,0,none⟩) 1 1] 22));have aK:=hid (mQ D1);have uC:=g1.size;rw[aAZ]at uC;have amd:=hid ((ame.out.alloc (.cells #[Value.slice (some ⟨p,0,none⟩) 1 1] 22)).kept g1 (aC ame.out qG (by decide)));have BR:=hid (((g1.block M (by rw[aAZ];have:=cZ dP.out;omega) (λe=>bE qG dP.out (by decide) e.symm)).trans (aBl _ _ _ (cZ dP.out))).trans dP.out);have zY:=hid (((g1.block p (by rw[aAZ];have:=cZ HP0.out;omega) (λe=>bE qG HP0.out (by decide) e.symm)).trans (aBl _ _ _ (cZ HP0.out))).trans HP0.out);have BV:=hid (((g1.block K (by rw[aAZ];have:=cZ WZ.out;omega) (λe=>bE qG WZ.out (by decide) e.symm)).trans (aBl _ _ _ (cZ WZ.out))).trans WZ.out);have t11:w1.cell? ⟨K,1,none⟩=some (.slice a2 n2 c2):=by rw[aBJ w1 K 1 _ _ _ BV.out];rfl
     have as5:Hid (∀ q,q<p->some q≠(Value.slice a2 n2 c2).ownBlock->w1.heap[q]?=W0.heap[q]?):=hid (λq h1 h2=>((g1.block q (by rw[aAZ];omega) h2).trans (aBl _ _ _ (by omega))).trans (as6.out q h1 h2));have kF:=hid (⟨g1.os.trans kF.out.1,g1.tape.trans kF.out.2.1,g1.output.trans kF.out.2.2⟩:w1.os=W0.os/\w1.tape=W0.tape/\w1.output=W0.output);clear D1 g1 e1 t1b;go_wp2_with (at_builtin;go_must (refine gQ _ rfl (.tmp 54) (.tmp 57) 23 rfl 0 22 i0 (.slice none 0 0) 24 Tryz.underlying23 hi aR aP aN rfl (.slice a2 n2 c2) n2 _ rfl (pI.alloc _) ⟨w1.heap.size,0,none⟩ 2 2 [Value.slice (some ⟨p,0,none⟩) 1 1,Value.slice (some ⟨p,0,none⟩) 1 1] rfl rfl (by decide) ?a21 ?a22 ?a23 ?a24 (aA8 _) ?_))
     case a21=>exact eu _ [Value.slice (some ⟨p,0,none⟩) 1 1,Value.slice (some ⟨p,0,none⟩) 1 1] _
     case a22=>intro u hu;simp at hu;subst hu;rfl
     case a23=>unfold maxLen;omega
     case a24=>omega
     intro o2 w2 pG dR D2 g2;have e2:List.replicate n2 (Value.slice (some ⟨p,0,none⟩) 1 1)++[Value.slice (some ⟨p,0,none⟩) 1 1,Value.slice (some ⟨p,0,none⟩) 1 1]=List.replicate (n2+2) (Value.slice (some ⟨p,0,none⟩) 1 1):=by
      rw[show [Value.slice (some ⟨p,0,none⟩) 1 1,Value.slice (some ⟨p,0,none⟩) 1 1]=List.replicate 2 (Value.slice (some ⟨p,0,none⟩) 1 1) from rfl,List.replicate_append_replicate]
     rw[e2]at dR;have Pi:=nL D2 (pI.alloc (.cells #[Value.slice (some ⟨p,0,none⟩) 1 1,Value.slice (some ⟨p,0,none⟩) 1 1] 22));have aW:=hid (mQ D2);have oO:=g2.size;rw[aAZ]at oO;have amc:=hid ((amd.out.alloc (.cells #[Value.slice (some ⟨p,0,none⟩) 1 1,Value.slice (some ⟨p,0,none⟩) 1 1] 22)).kept g2 (aC amd.out pI (by decide)));have uh:=hid (((g2.block M (by rw[aAZ];have:=cZ BR.out;omega) (λe=>bE pI BR.out (by decide) e.symm)).trans (aBl _ _ _ (cZ BR.out))).trans BR.out);have Ll:=hid (((g2.block p (by rw[aAZ];have:=cZ zY.out;omega) (λe=>bE pI zY.out (by decide) e.symm)).trans (aBl _ _ _ (cZ zY.out))).trans zY.out);have BU:=hid (((g2.block K (by rw[aAZ];have:=cZ BV.out;omega) (λe=>bE pI BV.out (by decide) e.symm)).trans (aBl _ _ _ (cZ BV.out))).trans BV.out);have t12:w2.cell? ⟨K,1,none⟩=some (.slice a2 n2 c2):=by rw[aBJ w2 K 1 _ _ _ BU.out];rfl
     have as4:Hid (∀ q,q<p->some q≠(Value.slice a2 n2 c2).ownBlock->w2.heap[q]?=W0.heap[q]?):=hid (λq h1 h2=>((g2.block q (by rw[aAZ];omega) h2).trans (aBl _ _ _ (by omega))).trans (as5.out q h1 h2));have kF:=hid (⟨g2.os.trans kF.out.1,g2.tape.trans kF.out.2.1,g2.output.trans kF.out.2.2⟩:w2.os=W0.os/\w2.tape=W0.tape/\w2.output=W0.output);have aF:=rq D2 g2 dR (aF.alloc (.cells #[Value.slice (some ⟨p,0,none⟩) 1 1,Value.slice (some ⟨p,0,none⟩) 1 1] 22)) (lS.more (by omega));clear D2 g2 e2 t11;go_wp2_with (at_builtin;go_must (refine gQ _ rfl (.tmp 60) (.tmp 64) 23 rfl 0 22 i0 (.slice none 0 0) 24 Tryz.underlying23 hi aR aP aN rfl (.slice a2 n2 c2) n2 _ rfl (pG.alloc _) ⟨w2.heap.size,0,none⟩ 3 3 [Value.slice (some ⟨p,0,none⟩) 1 1,Value.slice (some ⟨p,0,none⟩) 1 1,Value.slice (some ⟨p,0,none⟩) 1 1] rfl rfl (by decide) ?a31 ?a32 ?a33 ?a34 (aA8 _) ?_))
     case a31=>exact eu _ [Value.slice (some ⟨p,0,none⟩) 1 1,Value.slice (some ⟨p,0,none⟩) 1 1,Value.slice (some ⟨p,0,none⟩) 1 1] _
     case a32=>intro u hu;simp at hu;subst hu;rfl
     case a33=>unfold maxLen;omega
     case a34=>omega
     intro o3 w3 J7 ku D3 g3;have e3:List.replicate n2 (Value.slice (some ⟨p,0,none⟩) 1 1)++[Value.slice (some ⟨p,0,none⟩) 1 1,Value.slice (some ⟨p,0,none⟩) 1 1,Value.slice (some ⟨p,0,none⟩) 1 1]=List.replicate (n2+3) (Value.slice (some ⟨p,0,none⟩) 1 1):=by
      rw[show [Value.slice (some ⟨p,0,none⟩) 1 1,Value.slice (some ⟨p,0,none⟩) 1 1,Value.slice (some ⟨p,0,none⟩) 1 1]=List.replicate 3 (Value.slice (some ⟨p,0,none⟩) 1 1) from rfl,List.replicate_append_replicate]
     rw[e3]at ku;have bs3:=nL D3 (pG.alloc (.cells #[Value.slice (some ⟨p,0,none⟩) 1 1,Value.slice (some ⟨p,0,none⟩) 1 1,Value.slice (some ⟨p,0,none⟩) 1 1] 22));have cu:=hid (mQ D3);have ER:=g3.size;rw[aAZ]at ER;have asO:=hid ((amc.out.alloc (.cells #[Value.slice (some ⟨p,0,none⟩) 1 1,Value.slice (some ⟨p,0,none⟩) 1 1,Value.slice (some ⟨p,0,none⟩) 1 1] 22)).kept g3 (aC amc.out pG (by decide)));have qp:=hid (((g3.block M (by rw[aAZ];have:=cZ uh.out;omega) (λe=>bE pG uh.out (by decide) e.symm)).trans (aBl _ _ _ (cZ uh.out))).trans uh.out);have Eb:=hid (((g3.block p (by rw[aAZ];have:=cZ Ll.out;omega) (λe=>bE pG Ll.out (by decide) e.symm)).trans (aBl _ _ _ (cZ Ll.out))).trans Ll.out);have Lt:=hid (((g3.block K (by rw[aAZ];have:=cZ BU.out;omega) (λe=>bE pG BU.out (by decide) e.symm)).trans (aBl _ _ _ (cZ BU.out))).trans BU.out);have t13:w3.cell? ⟨K,1,none⟩=some (.slice a2 n2 c2):=by rw[aBJ w3 K 1 _ _ _ Lt.out];rfl
     have as3:Hid (∀ q,q<p->some q≠(Value.slice a2 n2 c2).ownBlock->w3.heap[q]?=W0.heap[q]?):=hid (λq h1 h2=>((g3.block q (by rw[aAZ];omega) h2).trans (aBl _ _ _ (by omega))).trans (as4.out q h1 h2));have kF:=hid (⟨g3.os.trans kF.out.1,g3.tape.trans kF.out.2.1,g3.output.trans kF.out.2.2⟩:w3.os=W0.os/\w3.tape=W0.tape/\w3.output=W0.output);have aF:=rq D3 g3 ku (aF.alloc (.cells #[Value.slice (some ⟨p,0,none⟩) 1 1,Value.slice (some ⟨p,0,none⟩) 1 1,Value.slice (some ⟨p,0,none⟩) 1 1] 22)) (lS.more (by omega));have dR:=rq D3 g3 ku (dR.alloc (.cells #[Value.slice (some ⟨p,0,none⟩) 1 1,Value.slice (some ⟨p,0,none⟩) 1 1,Value.slice (some ⟨p,0,none⟩) 1 1] 22)) (Pi.more (by omega));clear D3 g3 e3 t12;obtain⟨x1,y1,ex1⟩:=ai aF;obtain⟨x2,y2,ex2⟩:=ai dR;obtain⟨x3,y3,ex3⟩:=ai ku;subst ex1;subst ex2;subst ex3;have mm:w3.cell? ⟨M,1,none⟩=some (.slice aO N4 cO):=by rw[aBJ w3 M 1 _ _ _ qp.out];rfl
     have vZ:=hid aF;have jy:=hid dR;have yJ:=hid ku;have HOV:=hid J7;have rY:=asO.out;have aer:=cZ qp.out;clear aF dR ku J7 pG pI qG lS Pi bs3;go_wp2_with fail
     go_region_law ((refine aBN _ (by rfl) (.tmp 70) (.tmp 76) 30 (by rfl) 0 23 i1 (.slice none 0 0) 1 24 Tryz.underlying30 iC fe eZ eY rfl (by decide) (.slice aO N4 cO) N4 _ (by rfl) (rY.alloc _).drew ⟨w3.heap.size,0,none⟩ 4 4 [.slice a2 n2 c2,.slice x1 (n2+1) y1,.slice x2 (n2+2) y2,.slice x3 (n2+3) y3] (by rfl) (by rfl) (World.news_of_block (cs:=#[.slice a2 n2 c2,.slice x1 (n2+1) y1,.slice x2 (n2+2) y2,.slice x3 (n2+3) y3]) (t:=23) (fr:=(0,0)) (heap_alloc_last w3 _)) (by simp[Value.oneCell']) (by decide) (by unfold maxLen;omega) (by omega) (aA8 _) _ rfl ?_;intro gg cc w7 hown hgrow hat iw;have hM7:w7.heap[M]?=some (.cells #[fC,.slice aO N4 cO] 32 (0,0)):=(((hgrow.block M (by show M<(w3.alloc (.cells #[.slice a2 n2 c2,.slice x1 (n2+1) y1,.slice x2 (n2+2) y2,.slice x3 (n2+3) y3] 23)).heap.size;rw[aAZ];omega) (λe=>bE rY qp.out (by decide) e.symm)).trans (aBl w3 (.cells #[.slice a2 n2 c2,.slice x1 (n2+1) y1,.slice x2 (n2+2) y2,.slice x3 (n2+3) y3] 23) _ aer)).trans qp.out);have d0:w7.cell? ⟨M,1,none⟩=some (.slice aO N4 cO):=(by rw[aBJ w7 M 1 _ _ _ hM7];rfl);have d1:w7.frozen? ⟨M,1,none⟩=false:=(by simp[World.frozen?,hM7])))
     all_goals
      have ajS:w3.heap.size+1<=w7.heap.size:=by
       have h9:=hgrow.size;have h8:(w3.alloc (.cells #[.slice a2 n2 c2,.slice x1 (n2+1) y1,.slice x2 (n2+2) y2,.slice x3 (n2+3) y3] 23)).heap.size<=w7.heap.size:=h9;rw[aAZ]at h8;exact h8
      have ae0:∀ g,g<w3.heap.size->some g≠(Value.slice aO N4 cO).ownBlock->w7.heap[g]?=w3.heap[g]?:=λg h1 h2=>
       (hgrow.block g (by show g<(w3.alloc (.cells #[.slice a2 n2 c2,.slice x1 (n2+1) y1,.slice x2 (n2+2) y2,.slice x3 (n2+3) y3] 23)).heap.size;rw[aAZ];omega) h2).trans (aBl w3 (.cells #[.slice a2 n2 c2,.slice x1 (n2+1) y1,.slice x2 (n2+2) y2,.slice x3 (n2+3) y3] 23) _ h1)
      have hMp:M≠p:=by have:=PE.out;omega
      have HPF:=hid (((aBv w7 ⟨M,1,none⟩ (.slice (some ⟨gg,0,none⟩) (N4+4) cc) p (λe=>hMp e.symm)).trans (ae0 p (cZ Eb.out) (λe=>bE rY Eb.out (by decide) e.symm))).trans Eb.out);have kp:∀ (X:Value) (nX:Nat),w3.ownsRow 0 22 1 X nX (List.replicate nX (Value.slice (some ⟨p,0,none⟩) 1 1))->Uj (w7.setCell ⟨M,1,none⟩ (.slice (some ⟨gg,0,none⟩) (N4+4) cc)) X nX p (77+r):=λX nX hX=>by
       have h1:w7.ownsRow 0 22 1 X nX (List.replicate nX (Value.slice (some ⟨p,0,none⟩) 1 1)):=(hX.alloc (.cells #[.slice a2 n2 c2,.slice x1 (n2+1) y1,.slice x2 (n2+2) y2,.slice x3 (n2+3) y3] 23)).drew.kept hgrow (aC hX rY (by decide));refine⟨bz h1 ⟨M,1,none⟩ _ (bE hX qp.out (by decide)),?_⟩;rw[<-HK.out];exact HPF.out
      have rM:=hid (bz hown ⟨M,1,none⟩ (.slice (some ⟨gg,0,none⟩) (N4+4) cc) (bE hown hM7 (by decide)));have Pz:Hid ((w7.setCell ⟨M,1,none⟩ (.slice (some ⟨gg,0,none⟩) (N4+4) cc)).heap[M]?=some (.cells #[fC,(.slice (some ⟨gg,0,none⟩) (N4+4) cc)] 32 (0,0))):=hid (by
       simp[World.setCell,Array.getElem?_modify,hM7])
      have HKB:Hid (KB W0 (w7.setCell ⟨M,1,none⟩ (.slice (some ⟨gg,0,none⟩) (N4+4) cc)) M (Value.slice a2 n2 c2).ownBlock (Value.slice aO N4 cO).ownBlock):=hid ⟨hgrow.os.trans kF.out.1,hgrow.tape.trans kF.out.2.1,hgrow.output.trans kF.out.2.2,by rw[aBj];have:=PE.out;omega,λq h1 h2 h3 h4=>by
       have hqp:q<p:=by have:=PE.out;omega
       rw[aBv _ _ _ _ h2,ae0 q (by omega) h4];exact as3.out q hqp h3⟩
      have wz:∀ (o:Value) (N:Nat),p<=N->(o.ownBlock=(Value.slice a2 n2 c2).ownBlock\/∃ g',o.ownBlock=some g'/\N<=g')->(o.ownBlock=(Value.slice a2 n2 c2).ownBlock\/∃ g',o.ownBlock=some g'/\W0.heap.size<=g'):=λo N hN h=>by
       rcases h with h | ⟨g',h1,h2⟩
       ·exact aA2 h
       ·exact aA3 ⟨g',h1,by have:=PE.out;omega⟩
      have Gx:=hid (LO.out W0 (w7.setCell ⟨M,1,none⟩ (.slice (some ⟨gg,0,none⟩) (N4+4) cc)) p fC (.slice (some ⟨gg,0,none⟩) (N4+4) cc) (.slice x1 (n2+1) y1) (.slice x2 (n2+2) y2) (.slice x3 (n2+3) y3) lV HM.out Pz.out rM.out (kp _ _ HOV.out) (kp _ _ vZ.out) (kp _ _ jy.out) (kp _ _ yJ.out) (by have:=PE.out;omega)
       (λo ho=>by
        rcases ho with rfl | rfl | rfl
        ·exact wz _ _ (by rw[aAZ];omega) aK.out
        ·exact wz _ _ (by rw[aAZ];omega) aW.out
        ·exact wz _ _ (by rw[aAZ];omega) cu.out)
       (by
        rcases hat with h | h
        ·exact aA2 h.symm
        ·refine aA3 ⟨gg,rfl,?_⟩;have h8:gg=(w3.alloc (.cells #[.slice a2 n2 c2,.slice x1 (n2+1) y1,.slice x2 (n2+2) y2,.slice x3 (n2+3) y3] 23)).heap.size:=h;rw[aAZ]at h8;have:=PE.out;omega) HKB.out)
      clear kp wz ae0 hgrow hat hown rY d0 d1 hM7 mm;go_wp2_with fail
      go_end0
      exact Gx.out
def kH(nx:Nat->Nat->Nat):Nat->List Nat->Nat
 | i,[]=>i
 | i,a::u=>kH nx (nx i a) u
theorem Ct(nx:Nat->Nat->Nat)(i:Nat)(u v:List Nat):kH nx i (u++v)=kH nx (kH nx i u) v:=by
 induction u generalizing i with
 | nil=>rfl
 | cons a u ih=>exact ih _
def mZ(u:List Nat):Prop:=∀ x∈u,x<8
def met(nx:Nat->Nat->Nat):Nat->Nat
 | 0=>1
 | p+1=>max (met nx p) (nx (p / 8) (p % 8)+1)
def ji(n:Nat)(nx:Nat->Nat->Nat):Prop:=(∀ p,p<8*n->p / 8<met nx p/\nx (p / 8) (p % 8)<=met nx p)/\met nx (8*n)=n
def iU(out:Nat->Nat)(nx:Nat->Nat->Nat)(out':Nat->Nat)(nx':Nat->Nat->Nat)(i j:Nat):Prop:=∀ w,mZ w->out (kH nx i w)=out' (kH nx' j w)
theorem zl{out out':Nat->Nat}{nx nx':Nat->Nat->Nat}{i j a:Nat}(h:iU out nx out' nx' i j)(ha:a<8):iU out nx out' nx' (nx i a) (nx' j a):=λw hw=>h (a::w) (λx hx=>by
 rcases List.mem_cons.1 hx with rfl | hx
 ·exact ha
 ·exact hw x hx)
theorem ru{out out':Nat->Nat}{nx nx':Nat->Nat->Nat}{i j:Nat}(h:iU out nx out' nx' i j):iU out' nx' out nx j i:=λw hw=>(h w hw).symm
theorem pJ{o1 o2 o3:Nat->Nat}{n1 n2 n3:Nat->Nat->Nat}{i j k:Nat}(h:iU o1 n1 o2 n2 i j)(h':iU o2 n2 o3 n3 j k):iU o1 n1 o3 n3 i k:=λw hw=>(h w hw).trans (h' w hw)
def Apart(n:Nat)(out:Nat->Nat)(nx:Nat->Nat->Nat):Prop:=∀ i j,i<n->j<n->iU out nx out nx i j->i=j
theorem qI(nx:Nat->Nat->Nat){p q:Nat}(h:p<=q):met nx p<=met nx q:=by
 obtain⟨d,rfl⟩:∃ d,q=p+d:=⟨q - p,by omega⟩;clear h
 induction d with
 | zero=>exact aAU _
 | succ d ih=>rw[<-Nat.add_assoc];simp only[met];omega
theorem ah4(nx:Nat->Nat->Nat)(p:Nat):0<met nx p:=by
 have:=qI nx (aA8 p);simp only[met]at this;omega
theorem XK{n n':Nat}{out out':Nat->Nat}{nx nx':Nat->Nat->Nat}(h:ji n nx)(h':ji n' nx')(ha:Apart n out nx)(ha':Apart n' out' nx')(h0:iU out nx out' nx' 0 0) :
  ∀ p,p<=8*n->p<=8*n'->met nx p=met nx' p/\(∀ k,k<met nx p->iU out nx out' nx' k k)/\∀ q,q<p->nx (q / 8) (q % 8)=nx' (q / 8) (q % 8):=by
 intro p
 induction p with
 | zero=>
  intro _ _;refine⟨rfl,λk hk=>?_,λq hq=>by omega⟩;simp only[met]at hk;have:k=0:=by omega
  subst this;exact h0
 | succ p ih=>
  intro hp hp';obtain⟨e1,e2,e3⟩:=ih (by omega) (by omega);obtain⟨a1,a2⟩:=h.1 p (by omega);obtain⟨b1,b2⟩:=h'.1 p (by omega);have m1:=qI nx (show p<=8*n by omega);have m2:=qI nx' (show p<=8*n' by omega);have m3:=qI nx (show p+1<=8*n by omega);have m4:=qI nx' (show p+1<=8*n' by omega);rw[h.2]at m1 m3;rw[h'.2]at m2 m4;have hl:=zl (e2 (p / 8) a1) (Nat.mod_lt p (by omega:0<8));simp only[met]at m3 m4;generalize ht:nx (p / 8) (p % 8)=t at *;generalize ht':nx' (p / 8) (p % 8)=t' at *;have key:t=t':=by
   by_cases c1:t<met nx p
   ·exact ha' t t' (by omega) (by omega) (pJ (ru (e2 t c1)) hl)
   ·by_cases c2:t'<met nx' p
    ·have l2:=e2 t' (by omega);exact ha t t' (by omega) (by omega) (pJ hl (ru l2))
    ·omega
  refine⟨?_,?_,?_⟩
  ·simp only[met,ht,ht'];rw[e1,key]
  ·intro k hk;simp only[met,ht]at hk;by_cases c:k<met nx p
   ·exact e2 k c
   ·have:k=t:=by omega
    subst this;rw[<-key]at hl;exact hl
  ·intro q hq;by_cases c:q=p
   ·subst c;rw[ht,ht',key]
   ·exact e3 q (by omega)
theorem QL{n n':Nat}{out out':Nat->Nat}{nx nx':Nat->Nat->Nat}(h:ji n nx)(h':ji n' nx')(ha:Apart n out nx)(ha':Apart n' out' nx')(h0:iU out nx out' nx' 0 0) :
  n=n'/\(∀ i,i<n->out i=out' i)/\∀ i a,i<n->a<8->nx i a=nx' i a:=by
 have key:=XK h h' ha ha' h0;have hn:n=n':=by
  rcases Nat.lt_trichotomy n n' with c | c | c
  ·obtain⟨e1,_,_⟩:=key (8*n) (aAU _) (by omega);have:=(h'.1 (8*n) (by omega)).1;rw[h.2]at e1;rw[<-e1]at this;omega
  ·exact c
  ·obtain⟨e1,_,_⟩:=key (8*n') (by omega) (aAU _);have:=(h.1 (8*n') (by omega)).1;rw[h'.2]at e1;rw[e1]at this;omega
 subst hn;obtain⟨e1,e2,e3⟩:=key (8*n) (aAU _) (aAU _);rw[h.2]at e2;refine⟨rfl,λi hi=>e2 i hi [] (λx hx=>by simp at hx),λi a hi ha=>?_⟩;have:=e3 (8*i+a) (by omega);rw[show (8*i+a) / 8=i by omega,show (8*i+a) % 8=a by omega]at this;exact this
