import Derived.Test.YtjagijohfkffiabGreatFREM45
set_option maxHeartbeats 16000000
set_option maxRecDepth 100000
set_option linter.unusedSimpArgs false
namespace Go.Proofs.YtjagijohfkffiabGreat
open Go.RowKit
set_option linter.unusedVariables false
structure wQ where
 gf:Nat
 ao:Option Addr
 cap:Nat
 ls:List (Nat × Nat)
 goal:Nat->Bool
 found:Nat->Bool
def Ni(n:Nat)(r:wQ):List Value:=[.slice (some ⟨r.gf,0,none⟩) n n,.slice r.ao r.ls.length r.cap,.int .i64 ((aG r.goal (n*256)).length:Nat)]
def jf(n:Nat)(rs:List wQ):List Value:=rs.flatMap (Ni n)
theorem Vr(n:Nat)(rs:List wQ)(r:wQ):jf n (rs++[r])=jf n rs++Ni n r:=by simp[jf]
theorem YM{n:Nat}{rs:List wQ}{i:Nat}{r:wQ}(h:rs[i]?=some r):(jf n rs)[i*3]?=some (.slice (some ⟨r.gf,0,none⟩) n n)/\(jf n rs)[i*3+1]?=some (.slice r.ao r.ls.length r.cap)/\(jf n rs)[i*3+2]?=some (.int .i64 ((aG r.goal (n*256)).length:Nat)):=by
 induction rs generalizing i with
 | nil=>simp at h
 | cons q qs ih=>
  cases i with
  | zero=>simp at h;subst h;simp[jf,Ni]
  | succ i=>
   have:=ih (by simpa using h);rw[show jf n (q::qs)=Ni n q++jf n qs by simp[jf]];have hl:(Ni n q).length=3:=rfl;rw[aBa (by omega),aBa (by omega),aBa (by omega),hl];simpa [show (i+1)*3 - 3=i*3 by omega,show (i+1)*3+1 - 3=i*3+1 by omega,show (i+1)*3+2 - 3=i*3+2 by omega] using this
structure lq (w:World) (B:Nat) (E:Nat->Nat->Prop) (N:Nat) (last:Nat->Bool) (r:wQ):Prop where
 ow:w.ownsRow B 221 3 (.slice r.ao r.ls.length r.cap) r.ls.length (jg r.ls)
 sk:pR E N r.goal r.ls r.found
 gl:∀ x,r.goal x=true->last x=true
 fd:∀ x,last x=true->r.found x=true
theorem lq.below{w w':World}{B:Nat}{E:Nat->Nat->Prop}{N:Nat}{last:Nat->Bool}{r:wQ}(h:lq w B E N last r)(hb:Below w.heap.size w w'):lq w' B E N last r:=⟨ae h.ow hb,h.sk,h.gl,h.fd⟩
theorem lq.grown{w w':World}{B B':Nat}{E:Nat->Nat->Prop}{N:Nat}{last:Nat->Bool}{r:wQ}{v:Value}{k:Nat}{xs:List Value}(h:lq w B E N last r)(ho:w.ownsRow B' 171 3 v k xs)(hg:w.grownBy w' v.ownBlock):lq w' B E N last r:=⟨h.ow.kept hg (aC h.ow ho (by decide)),h.sk,h.gl,h.fd⟩
theorem lq.lk{w:World}{B:Nat}{E:Nat->Nat->Prop}{N:Nat}{last:Nat->Bool}{r:wQ}(h:lq w B E N last r):xx w r.ao r.cap r.ls:=by
 obtain⟨ao,cap,e,hl⟩:=CF h.ow;cases e;exact hl
structure ae6 (n:Nat) (cs:List (Nat->Bool)) (f:Nat->Bool) (rs:List wQ):Prop where
 pos:0<rs.length
 len:cs.length<=rs.length
 le:rs.length<=8
 mark:∀ (k:Nat) c,cs[k]?=some c->∃ r,rs[k]?=some r/\∀ x,r.goal x=true->c (x % 256)=true
theorem Tryz.Ym:(Tryz.prog.info? 171).map (λi=>(i.zero,i.size,i.bytes))=some (some (.agg #[.slice none 0 0,.slice none 0 0,.int .i64 0]),3,56):=by kernel_rfl
def Dk(n:Nat)(ns:List Nd)(into:Nat->List (Nat × Nat))(cs:List (Nat->Bool))(f:Nat->Bool)(w:World)(e:Ending)(w':World):Prop:=
 ∃ rs v,e=.returned v/\w'.ownsRow w.heap.size 171 3 v rs.length (jf n rs)/\(∀ r∈rs,lq w' w.heap.size (Ew n ns into) (n*256) f r)/\ae6 n cs f rs/\Below w.heap.size w w'
theorem DF{cs:List (Nat->Bool)}{k:Nat}{c:Nat->Bool}(h:cs[k]?=some c):spread c∈spreads cs:=aBM.2 ⟨c,aBB h,rfl⟩
theorem pM(f:Nat->Bool)(n:Nat):(aG f n).length<=n:=by rw[qm];exact Bt f n
theorem QJ(P gi n bY g cap:Nat)(ns:List Nd)(into:Nat->List (Nat × Nat))(cs:List (Nat->Bool))(f:Nat->Bool)(w:World)(h8:ns.length<=8)(hp:uV n into)(mF:uN w P ns)(hP:P<w.heap.size)(hcm:qC w P cs)(hcl:cs.length<=8)(hw:nY w gi n into)(hf:bU w g (n*256) f)(hg:g<w.heap.size)(wZ:∀ x,f x=true↔iI (Ew n ns into) (spreads cs) x) :
  Calls Tryz.prog 133 #[.pointer (some ⟨P,0,none⟩),.agg #[.slice (some ⟨gi,0,none⟩) n bY],.slice (some ⟨g,0,none⟩) n cap] w (Dk n ns into cs f w):=by
 have hn:=hp.le;have HP:=hid hp;have HM:=hid mF;have HW:=hid hw;have HF:=hid hf;have PI:=hid wZ;have zD:=hw.lt;obtain⟨ca,ala,Pg,Fe⟩:=hcm;have Eh:=hid Fe;obtain⟨i0,tN,aR,aP,aN⟩:=info_parts Tryz.Ym;clear hp mF hw hf Fe wZ;generalize hm:cs.length=m at *;have nJ:=hid hm;clear hm;have ba:=hid ((aAW w.heap.size w).alloc (aAU _) (.cells #[.slice (some ⟨gi,0,none⟩) n bY] 159));have C0:Hid ((w.alloc (.cells #[.slice (some ⟨gi,0,none⟩) n bY] 159)).cell? ⟨w.heap.size,0,none⟩=some (.slice (some ⟨gi,0,none⟩) n bY)):=hid (by simp);have rE:=(ba.out.cell (p:=⟨P,2048,none⟩) hP).trans Pg;go_enter Tryz.func133,Tryz.ntmps133;go_wp2_with fail;generalize hW:(w.alloc (.cells #[.slice (some ⟨gi,0,none⟩) n bY] 159))=W at *;have DT:W.heap.size=w.heap.size+1:=by rw[<-hW];simp
 clear hW rE Pg
 go_loopw [7,18] (λv i wq=>∃ (k:Nat) (rs:List wQ),k<=m/\i=.int .i64 k/\Hid (rs.length=k)/\Hid (wq.ownsRow (w.heap.size+1) 171 3 v rs.length (jf n rs))/\Hid (∀ r∈rs,lq wq w.heap.size (Ew n ns into) (n*256) f r)/\Hid (∀ (j:Nat) c,j<k->cs[j]?=some c->∃ r,rs[j]?=some r/\∀ x,r.goal x=true->c (x % 256)=true)/\Hid (wq.cell? ⟨w.heap.size,0,none⟩=some (.slice (some ⟨gi,0,none⟩) n bY))/\Hid (Below w.heap.size w wq)/\w.heap.size<wq.heap.size) (λ_ i _=>m - (intOf i).toNat)
 case atStart=>exact⟨0,[],aA8 _,rfl,hid rfl,hid (aBh _ _ _ _),hid (λr hr=>by simp at hr),hid (λj c hj=>by omega),C0,ba,by omega⟩
 case round=>
  obtain⟨k,rs,hk,rfl,rM,HO,Ee,HMK,HC,HB,hsz⟩:=hrel;rename World=>W0;rename Value=>v0;clear C0 ba;obtain⟨zT,zL,rfl⟩:=ai HO.out;by_cases hlk:k<m
  ·obtain⟨gc,e,Bj,hcell⟩:=Eh.out (by omega);subst e;obtain⟨c,hc⟩:∃ c,cs[k]?=some c:=⟨cs[k]'(by rw[nJ.out];exact hlk),aAV (by rw[nJ.out];exact hlk)⟩;have GC:=hid ((hcell k c hc).below HB.out Bj);have Xi:=hid hc;clear hcell hc;go_wp2_with (first | (refine aQ rfl (.tmp 20) rfl gc (k*256) c rfl GC.out ?_) | (refine bW rfl (.tmp 9) (.tmp 21) rfl W0.heap.size 0 c rfl rfl (gN W0).there ?_))
   intro w2 S2;have bR:Below W0.heap.size W0 w2:=S2.bG _ _ (aAU _) ((aAW _ _).alloc (aAU _) _);have A9:=hid S2.at_;have aW:=hid (HB.out.trans (bR.mono (by omega)));have Gn:=hid bR;have lm:=bR.size;clear S2 bR GC;go_wp2_with (refine aQ rfl (.tmp 9) rfl W0.heap.size 0 c rfl A9.out ?_);refine(Jv g n cap f c w2 (by omega) (HF.out.below aW.out hg) (by omega)).mono ?_;rintro e w3 ⟨g3,rfl,hg3,YB,F3,aI⟩;have F3:=hid F3;have cu:=hid (aW.out.trans (aI.mono (by omega)));have Ul:=hid (Gn.out.trans (aI.mono lm));have Tz:=(Ul.out.cell (p:=⟨w.heap.size,0,none⟩) hsz).trans HC.out;have vF:=aI.size;clear aI Gn aW A9;go_wp2_with fail;refine(xU P gi n bY g3 n ns into (eG f c) w3 h8 HP.out (HM.out.below cu.out hP) (by omega) (HW.out.below cu.out) F3.out YB).mono ?_;rintro e w4 ⟨g4,found,ls,vl,rfl,hg4,RZ,F4,L4,SK,OL,eH⟩;obtain⟨al,cl,rfl,LM⟩:=CF OL;have Uk:=hid (Ul.out.trans (eH.mono (by omega)));have iN:=hid (cu.out.trans (eH.mono (by omega)));have zu:=eH.size;have HOL:=hid (bJ OL (show w.heap.size<=w3.heap.size by omega));clear LM;have pu:=hid SK;have kz:=pM (eG f c) (n*256);have Uz:Hid (∀ x,eG f c x=true->f x=true/\c (x % 256)=true):=hid (λx hx=>by unfold eG at hx;simpa using hx);have HFD:Hid (∀ x,f x=true->found x=true):=hid (λx hx=>by
    rw[L4 x];have h9:=Yk (c:=spread c) (DF Xi.out) ((PI.out x).1 hx);refine fE.mono (λy hy=>?_) h9;unfold eG;rw[(PI.out y).2 hy.1];exact hy.2)
   clear eH L4 SK OL F3 F4 Tz;have bc:=(aAW w4.heap.size w4).alloc (aAU _) (.cells #[.slice (some ⟨g4,0,none⟩) n n,.slice al ls.length cl,.int .i64 ((aG (eG f c) (n*256)).length:Nat)] 171);have kS:=hid (λq h=>(HO.out.lt q h).1);have O4:=hid ((ae HO.out Uk.out).alloc (.cells #[.slice (some ⟨g4,0,none⟩) n n,.slice al ls.length cl,.int .i64 ((aG (eG f c) (n*256)).length:Nat)] 171));have vG:=rM.out;have Py:Hid (Ni n ⟨g4,al,cl,ls,eG f c,found⟩=[.slice (some ⟨g4,0,none⟩) n n,.slice al ls.length cl,.int .i64 ((aG (eG f c) (n*256)).length:Nat)]):=hid rfl;have oh:=hid (show (⟨g4,al,cl,ls,eG f c,found⟩:wQ)=⟨g4,al,cl,ls,eG f c,found⟩ from rfl);generalize aej:(aG (eG f c) (n*256)).length=nW at *;clear vG;go_wp2_with (at_builtin;go_must (refine aBw _ rfl (.tmp 29) (.tmp 31) 216 rfl (w.heap.size+1) 171 i0 (.agg #[.slice none 0 0,.slice none 0 0,.int .i64 0]) 3 56 Tryz.underlying216 tN aR aP aN rfl (by decide) _ rs.length _ rfl (O4.out.alloc _) ⟨w4.heap.size+1,0,none⟩ 1 1 [.slice (some ⟨g4,0,none⟩) n n,.slice al ls.length cl,.int .i64 (nW:Nat)] rfl rfl ?c1 ?c2 (by decide) ?c3 ?c4 ?c5 (w4.heap.size+2) ?c6 ?_))
   case c1=>exact(by simpa using vQ (w4.alloc (.cells #[.slice (some ⟨g4,0,none⟩) n n,.slice al ls.length cl,.int .i64 (nW:Nat)] 171)) [.slice (some ⟨g4,0,none⟩) n n,.slice al ls.length cl,.int .i64 (nW:Nat)] 171)
   case c2=>intro y hy;simp at hy;rcases hy with rfl | rfl | rfl <;> rfl
   case c3=>unfold maxLen;have:=rM.out;omega
   case c4=>have:=rM.out;omega
   case c5=>simp;omega
   case c6=>simp
   intro gg cc w7 hown hgrow hat uD;have b7:Below w4.heap.size w4 ((w4.alloc (.cells #[.slice (some ⟨g4,0,none⟩) n n,.slice al ls.length cl,.int .i64 (nW:Nat)] 171)).alloc (.cells #[.slice (some ⟨g4,0,none⟩) n n,.slice al ls.length cl,.int .i64 (nW:Nat)] 171)):=bc.alloc (by simp) _;have iG:=hid ((iN.out.trans (b7.mono (by omega))).grown hgrow (by simp;omega) (λq h=>by have:=kS.out q h;omega));have OX:=(O4.out.alloc (.cells #[.slice (some ⟨g4,0,none⟩) n n,.slice al ls.length cl,.int .i64 (nW:Nat)] 171));have C7:Hid (w7.cell? ⟨w.heap.size,0,none⟩=some (.slice (some ⟨gi,0,none⟩) n bY)):=hid (hgrow.cell ((b7.cell (p:=⟨w.heap.size,0,none⟩) (by show w.heap.size<w4.heap.size;omega)).trans ((Uk.out.cell (p:=⟨w.heap.size,0,none⟩) hsz).trans HC.out)) (λh=>by have:=kS.out w.heap.size h.symm;omega));have NEW:Hid (lq w7 w.heap.size (Ew n ns into) (n*256) f ⟨g4,al,cl,ls,eG f c,found⟩):=hid ((lq.below ⟨HOL.out,pu.out,λx hx=>(Uz.out x hx).1,HFD.out⟩ b7).grown OX hgrow);have OLD:Hid (∀ r∈rs,lq w7 w.heap.size (Ew n ns into) (n*256) f r):=hid (λr hr=>(((Ee.out r hr).below Uk.out).below b7).grown OX hgrow);have ALL:Hid (∀ r∈rs++[⟨g4,al,cl,ls,eG f c,found⟩],lq w7 w.heap.size (Ew n ns into) (n*256) f r):=hid (λr hr=>by
    rcases aBy.1 hr with hr | hr
    ·exact OLD.out r hr
    ·simp at hr;rw[hr];exact NEW.out)
   have MK:Hid (∀ (j:Nat) c',j<k+1->cs[j]?=some c'->∃ r,(rs++[⟨g4,al,cl,ls,eG f c,found⟩])[j]?=some r/\∀ x,r.goal x=true->c' (x % 256)=true):=hid (λj c' hj oW=>by
    by_cases e:j=k
    ·subst e;rw[Xi.out]at oW;cases oW;exact⟨_,by rw[aBa (by rw[rM.out];exact aAU _),rM.out];simp;rfl,λx hx=>(Uz.out x hx).2⟩
    ·obtain⟨r,h1,h2⟩:=HMK.out j c' (by omega) oW;exact⟨r,by rw[aA9 (by rw[rM.out];omega)];exact h1,h2⟩)
   have BI:Hid (w7.ownsRow (w.heap.size+1) 171 3 (.slice (some ⟨gg,0,none⟩) (rs.length+1) cc) (rs++[(⟨g4,al,cl,ls,eG f c,found⟩:wQ)]).length (jf n (rs++[(⟨g4,al,cl,ls,eG f c,found⟩:wQ)]))):=hid (by
    rw[Vr,Py.out,aA5];exact hown)
   have RL:Hid ((rs++[(⟨g4,al,cl,ls,eG f c,found⟩:wQ)]).length=k+1):=hid (by rw[aA5,rM.out];rfl);have ajS:w.heap.size<w7.heap.size:=by have:=hgrow.size;simp at this;omega
   clear hown hgrow hat b7 bc OX;go_wp2_with fail;go_roundw
   case rel=>exact⟨k+1,_,by omega,by go_num,RL,BI,ALL,MK,C7,iG,ajS⟩
   case measure=>simp[intOf] <;> omega
  ·obtain rfl:k=m:=by omega
   have hcs:cs.length=k:=nJ.out;by_cases hk0:k=0
   ·subst hk0;obtain rfl:rs=[]:=List.length_eq_zero_iff.1 rM.out;have Tz:=HC.out;have WX:Hid (cs=[]):=hid (List.length_eq_zero_iff.1 hcs);go_wp2_with fail;refine(xU P gi n bY g cap ns into f _ h8 HP.out (HM.out.below HB.out hP) (by omega) (HW.out.below HB.out) (HF.out.below HB.out hg) (by omega)).mono ?_;rintro e w4 ⟨g4,found,ls,vl,rfl,hg4,RZ,F4,L4,SK,OL,eH⟩;obtain⟨al,cl,rfl⟩:=ai OL;have iN:=hid (HB.out.trans (eH.mono (by omega)));have zu:=eH.size;have HOL:=hid (bJ OL (show w.heap.size<=W0.heap.size by omega));have pu:=hid SK;have HFD:Hid (∀ x,f x=true->found x=true):=hid (λx hx=>by
     rw[L4 x];have h9:=Mk ((PI.out x).1 hx);exact fE.mono (λy hy=>(PI.out y).2 hy) h9)
    have bc:=(aAW w4.heap.size w4).alloc (aAU _) (.cells #[.slice (some ⟨g4,0,none⟩) n n,.slice al ls.length cl,.int .i64 ((aG f (n*256)).length:Nat)] 171);have Py:Hid (Ni n ⟨g4,al,cl,ls,f,found⟩=[.slice (some ⟨g4,0,none⟩) n n,.slice al ls.length cl,.int .i64 ((aG f (n*256)).length:Nat)]):=hid rfl;have kS:=hid (λq h=>(HO.out.lt q h).1);have O4:Hid ((w4.alloc (.cells #[.slice (some ⟨g4,0,none⟩) n n,.slice al ls.length cl,.int .i64 ((aG f (n*256)).length:Nat)] 171)).ownsRow (w.heap.size+1) 171 3 (.slice zT 0 zL) 0 []):=hid ((ae HO.out eH).alloc _);clear eH L4 SK OL F4 Tz;generalize (aG f (n*256)).length=nW at *;go_wp2_with (at_builtin;go_must (refine aBw _ rfl (.tmp 41) (.tmp 43) 216 rfl (w.heap.size+1) 171 i0 (.agg #[.slice none 0 0,.slice none 0 0,.int .i64 0]) 3 56 Tryz.underlying216 tN aR aP aN rfl (by decide) _ 0 [] rfl (O4.out.alloc _) ⟨w4.heap.size+1,0,none⟩ 1 1 [.slice (some ⟨g4,0,none⟩) n n,.slice al ls.length cl,.int .i64 (nW:Nat)] rfl rfl ?c1 ?c2 (by decide) ?c3 ?c4 ?c5 (w4.heap.size+2) ?c6 ?_))
    case c1=>exact(by simpa using vQ (w4.alloc (.cells #[.slice (some ⟨g4,0,none⟩) n n,.slice al ls.length cl,.int .i64 (nW:Nat)] 171)) [.slice (some ⟨g4,0,none⟩) n n,.slice al ls.length cl,.int .i64 (nW:Nat)] 171)
    case c2=>intro y hy;simp at hy;rcases hy with rfl | rfl | rfl <;> rfl
    case c3=>unfold maxLen;omega
    case c4=>omega
    case c5=>simp;omega
    case c6=>simp
    intro gg cc w7 hown hgrow hat uD;have b7:Below w4.heap.size w4 ((w4.alloc (.cells #[.slice (some ⟨g4,0,none⟩) n n,.slice al ls.length cl,.int .i64 (nW:Nat)] 171)).alloc (.cells #[.slice (some ⟨g4,0,none⟩) n n,.slice al ls.length cl,.int .i64 (nW:Nat)] 171)):=bc.alloc (by simp) _;have iG:=hid ((iN.out.trans (b7.mono (by omega))).grown hgrow (by simp;omega) (λq h=>by have:=kS.out q h;omega));have OX:=(O4.out.alloc (.cells #[.slice (some ⟨g4,0,none⟩) n n,.slice al ls.length cl,.int .i64 (nW:Nat)] 171));have N0:lq w4 w.heap.size (Ew n ns into) (n*256) f ⟨g4,al,cl,ls,f,found⟩:=⟨HOL.out,pu.out,λx hx=>hx,HFD.out⟩;have NEW:Hid (lq w7 w.heap.size (Ew n ns into) (n*256) f ⟨g4,al,cl,ls,f,found⟩):=hid ((N0.below b7).grown OX hgrow);have Iq:Hid (ae6 n cs f [⟨g4,al,cl,ls,f,found⟩]):=hid ⟨by simp,by rw[WX.out];simp,by simp,λj c hc=>by rw[WX.out]at hc;simp at hc⟩;have BI:Hid (w7.ownsRow w.heap.size 171 3 (.slice (some ⟨gg,0,none⟩) 1 cc) 1 (jf n [⟨g4,al,cl,ls,f,found⟩])):=hid (by
     rw[show jf n [⟨g4,al,cl,ls,f,found⟩]=Ni n ⟨g4,al,cl,ls,f,found⟩ by simp[jf],Py.out];exact bJ hown (by omega))
    clear hown hgrow hat b7 bc OX;go_wp2_with fail;go_ret;unfold Dk;exact⟨[⟨g4,al,cl,ls,f,found⟩],_,rfl,BI.out,λr hr=>by simp at hr;rw[hr];exact NEW.out,Iq.out,iG.out⟩
   ·have Iq:Hid (ae6 n cs f rs):=hid ⟨by rw[rM.out];omega,by rw[rM.out,hcs];exact aAU _,by rw[rM.out];omega,λj c hc=>HMK.out j c (by have:=(aA1.1 hc).1;omega) hc⟩;have hz:((rs.length:Int)==0)=false:=aA6.2 (by have:=rM.out;omega);have BI:=hid (bJ HO.out (show w.heap.size<=w.heap.size+1 by omega));go_wp2_with fail;go_ret;unfold Dk;exact⟨rs,_,rfl,BI.out,Ee.out,Iq.out,HB.out⟩
structure Y3 (g:Nat) (w w':World):Prop where
 size:w.heap.size<=w'.heap.size
 block:∀ i,i<w.heap.size->i≠g->w'.heap[i]?=w.heap[i]?
theorem GJ{g:Nat}{B:Nat}{e:TypeId}{s:Nat}{v:Value}{n:Nat}{xs:List Value}{w w':World}(h:w.ownsRow B e s v n xs)(hs:Y3 g w w')(hne:v.ownBlock≠some g):w'.ownsRow B e s v n xs:=by
 refine⟨h.1,?_⟩;rcases h.2 with h0 | ⟨g',cap,cur,ev,hb,hg,r⟩
 ·exact aA2 h0
 ·refine aA3 ⟨g',cap,cur,ev,hb,(hs.block g' (aBm.1 hg).1 (λe=>hne ?_)).trans hg,r⟩;rw[ev,e];rfl
theorem jC(xa:Nat){xb:Nat}(h:xb<256):(xa*256+xb) / 256=xa/\(xa*256+xb) % 256=xb:=⟨by omega,by omega⟩
theorem jK(xa:Nat){xb:Nat}(h:xb<256):Dx (xa*256+xb)=.agg #[.int .i64 (xa:Nat),.int .u8 (xb:Nat)]:=by
 unfold Dx;rw[(jC xa h).1,(jC xa h).2]
theorem Qw{w:World}{b:Nat}{x0 x1:Value}(d0:w.cell? ⟨b,0,none⟩=some x0)(d1:w.cell? ⟨b,1,none⟩=some x1)(y0 y1:Value):((w.setCell ⟨b,0,none⟩ y0).setCell ⟨b,1,none⟩ y1).rangeAt b 0 [y0,y1]:=by
 have e1:(w.setCell ⟨b,0,none⟩ y0).cell? ⟨b,1,none⟩=some x1:=by rw[aA0 _ _ _ _ (by simp)];exact d1
 intro j v hj;have:j=0\/j=1:=by have:=(aA1.1 hj).1;simp at this;omega
 rcases this with rfl | rfl
 ·simp at hj;subst hj;rw[aBo,aA0 _ _ _ _ (by simp)];exact aBr _ _ _ d0
 ·simp at hj;subst hj;exact aBr _ _ _ e1
theorem Two.sets{w:World}{b:Nat}{x y:Value}(h:Two w b x y)(x' y':Value):Two ((w.setCell ⟨b,0,none⟩ x').setCell ⟨b,1,none⟩ y') b x' y':=by
 have:=Qw h.c0 h.c1 x' y';refine⟨?_,?_,?_,?_⟩
 ·have h1:=this 0 x' rfl;simpa using h1
 ·have h1:=this 1 y' rfl;simpa using h1
 ·rw[aBe,aBe];exact h.f0
 ·rw[aBe,aBe];exact h.f1
theorem Tryz.Zt:(Tryz.prog.info? 166).map (·.size)=some 2:=by kernel_rfl
theorem oG{w:World}{b o i:Nat}{v:Value}(h:i≠b):(w.setCell ⟨b,o,none⟩ v).heap[i]?=w.heap[i]?:=by
 unfold World.setCell;simp only[Array.getElem?_modify];rw[aBT (λe=>h e.symm)]
def G9(n:Nat)(ns:List Nd)(into:Nat->List (Nat × Nat))(cs:List (Nat->Bool))(f:Nat->Bool)(x:Nat)(w:World)(e:Ending)(w':World):Prop:=
 ∃ t,e=.returned (Dx t)/\t<n*256/\Qj (Ew n ns into) (spreads cs) f x t/\Below w.heap.size w w'
theorem acQ(P gi n bY g cap x:Nat)(ns:List Nd)(into:Nat->List (Nat × Nat))(cs:List (Nat->Bool))(f:Nat->Bool)(w:World)(h8:ns.length<=8)(hp:uV n into)(hn8:n<=1048576)(mF:uN w P ns)(hP:P<w.heap.size)(hcm:qC w P cs)(hcl:cs.length<=8)(hw:nY w gi n into)(hf:bU w g (n*256) f)(hg:g<w.heap.size)(wZ:∀ x,f x=true↔iI (Ew n ns into) (spreads cs) x)(hx:f x=true)(hxn:x<n*256) :
  Calls Tryz.prog 93 #[.pointer (some ⟨P,0,none⟩),.agg #[.slice (some ⟨gi,0,none⟩) n bY],.slice (some ⟨g,0,none⟩) n cap,Dx x] w (G9 n ns into cs f x w):=by
 have hn:=hp.le;have SR:=hid (λW (b:Below w.heap.size w W)=>QJ P gi n bY g cap ns into cs f W h8 hp (mF.below b hP) (aBi hP b.size) (hcm.below b hP) hcl (hw.below b) (hf.below b hg) (aBi hg b.size) wZ);have HFN:Hid (∀ y,f y=true->y<n*256):=hid (λy hy=>by
  obtain⟨q,h0,hq,_⟩:=(wZ y).1 hy;rw[<-h0];exact MI h8 hp (hq 0))
 obtain⟨xa,xb,rfl,Ht⟩:∃ xa xb,x=xa*256+xb/\xb<256:=⟨x / 256,x % 256,by omega,by omega⟩;rw[jK xa Ht];have HX:=hid hx;have VY:xa<n:=by omega
 unfold Dk at SR;clear mF hcm hw hf wZ hp hx;have ba:=(aAW w.heap.size w).alloc (aAU _) (.cells #[.slice (some ⟨gi,0,none⟩) n bY] 159);have bb:=ba.alloc (by simp) (.cells #[.int .i64 (xa:Nat),.int .u8 (xb:Nat)] 166);have bc:=bb.alloc (by simp;omega) (.cells #[.int .i64 0,.int .u8 0] 166);have B0:=hid bc;have F0:Hid (Two (((w.alloc (.cells #[.slice (some ⟨gi,0,none⟩) n bY] 159)).alloc (.cells #[.int .i64 (xa:Nat),.int .u8 (xb:Nat)] 166)).alloc (.cells #[.int .i64 0,.int .u8 0] 166)) (w.heap.size+1) (.int .i64 (xa:Nat)) (.int .u8 (xb:Nat))):=hid (by
  have h1:=dD (w.alloc (.cells #[.slice (some ⟨gi,0,none⟩) n bY] 159)) (.int .i64 (xa:Nat)) (.int .u8 (xb:Nat)) 166;rw[show (w.alloc (.cells #[.slice (some ⟨gi,0,none⟩) n bY] 159)).heap.size=w.heap.size+1 by simp]at h1;exact h1.below ((aAW (w.heap.size+2) _).alloc (by simp) (.cells #[.int .i64 0,.int .u8 0] 166)) (by omega))
 have R0:Hid (Two (((w.alloc (.cells #[.slice (some ⟨gi,0,none⟩) n bY] 159)).alloc (.cells #[.int .i64 (xa:Nat),.int .u8 (xb:Nat)] 166)).alloc (.cells #[.int .i64 0,.int .u8 0] 166)) (w.heap.size+2) (.int .i64 0) (.int .u8 0)):=hid (by
  have h1:=dD ((w.alloc (.cells #[.slice (some ⟨gi,0,none⟩) n bY] 159)).alloc (.cells #[.int .i64 (xa:Nat),.int .u8 (xb:Nat)] 166)) (.int .i64 0) (.int .u8 0) 166;rw[show ((w.alloc (.cells #[.slice (some ⟨gi,0,none⟩) n bY] 159)).alloc (.cells #[.int .i64 (xa:Nat),.int .u8 (xb:Nat)] 166)).heap.size=w.heap.size+2 by simp]at h1;exact h1)
 clear ba bb bc;go_enter Tryz.func93,Tryz.ntmps93;go_wp2_with fail;generalize hW:(((w.alloc (.cells #[.slice (some ⟨gi,0,none⟩) n bY] 159)).alloc (.cells #[.int .i64 (xa:Nat),.int .u8 (xb:Nat)] 166)).alloc (.cells #[.int .i64 0,.int .u8 0] 166))=W at *;have DT:W.heap.size=w.heap.size+3:=by rw[<-hW];simp
 clear hW;refine(SR.out _ B0.out).mono ?_;rintro e w1 ⟨rs,vS,rfl,OS,OK,SP,aM⟩;obtain⟨aS,cS,rfl⟩:=ai OS;have F1:=hid (F0.out.below aM (by omega));have R1:=hid (R0.out.below aM (by omega));have B1:=hid (B0.out.trans (aM.mono (by omega)));have hs1:=aM.size;have iF:=hid OS;have Ee:=hid OK;have Iq:=hid SP;have Lm:Hid ((∀ k,(Value.slice aS rs.length cS).ownBlock=some k->k<w1.heap.size)/\∀ r∈rs,∀ k,(Value.slice r.ao r.ls.length r.cap).ownBlock=some k->k<w1.heap.size):=hid ⟨λk h=>(OS.lt k h).2,λr hr k h=>((OK r hr).ow.lt k h).2⟩;clear aM OS OK SP F0 R0 B0 SR;go_wp2_with (at_make;go_must (refine iV _ rfl (.tmp 21) rfl n rfl (by omega) ?_));intro w2 F2 gu ak;have G2:=hid F2;have Ue:=hid (ae iF.out ak);have OK2:Hid (∀ r∈rs,lq w2 W.heap.size (Ew n ns into) (n*256) f r):=hid (λr hr=>(Ee.out r hr).below ak);have FF2:=hid (F1.out.below ak (by omega));have R2:=hid (R1.out.below ak (by omega));have B2:=hid (B1.out.trans (ak.mono (by omega)));have f0:=FF2.out.c0;have f1:=FF2.out.c1;clear F2 ak F1 R1 B1 iF Ee;have ba:=(aAW w2.heap.size w2).alloc (aAU _) (.cells #[.int .i64 (xa:Nat),.int .u8 (xb:Nat)] 166);have T3:=hid (dD w2 (.int .i64 (xa:Nat)) (.int .u8 (xb:Nat)) 166);have G3:=hid (G2.out.below ba gu);have OS3:=hid (ae Ue.out ba);have OK3:Hid (∀ r∈rs,lq (w2.alloc (.cells #[.int .i64 (xa:Nat),.int .u8 (xb:Nat)] 166)) W.heap.size (Ew n ns into) (n*256) f r):=hid (λr hr=>(OK2.out r hr).below ba);have R3:=hid (R2.out.below ba (by omega));have B3:=hid (B2.out.trans (ba.mono (by omega)));clear ba G2 Ue OK2 FF2 R2 B2;go_wp2_with fail;generalize Wl:(w2.alloc (.cells #[.int .i64 (xa:Nat),.int .u8 (xb:Nat)] 166))=W3 at *;have ayg:W3.heap.size=w2.heap.size+1:=by rw[<-Wl];simp
 clear Wl f0 f1;have TI0:Hid (Ha (Ew n ns into) (spreads cs) f (xa*256+xb) (λ_=>false) (xa*256+xb)):=hid (UX _ HX.out)
 go_loopw [] (λwq=>∃ (ya yb:Nat) (seen:Nat->Bool),ya<n/\yb<256/\Hid (Two wq w2.heap.size (.int .i64 (ya:Nat)) (.int .u8 (yb:Nat)))/\Hid (bU wq w1.heap.size (n*256) seen)/\Hid (Ha (Ew n ns into) (spreads cs) f (xa*256+xb) seen (ya*256+yb))/\Hid (wq.ownsRow W.heap.size 171 3 (.slice aS rs.length cS) rs.length (jf n rs))/\Hid (∀ r∈rs,lq wq W.heap.size (Ew n ns into) (n*256) f r)/\Hid (Two wq (w.heap.size+2) (.int .i64 0) (.int .u8 0))/\Hid (Below w.heap.size w wq)/\w2.heap.size<wq.heap.size) (λwq=>n*256 - En wq w1.heap.size (n*256))
 case atStart=>exact⟨xa,xb,_,VY,Ht,T3,G3,TI0,OS3,OK3,R3,B3,by omega⟩
 case round=>
  obtain⟨ya,yb,seen,Rv,Bd,HT,HG,HI,iF,Ee,HR,HB,hsz⟩:=hrel;rename World=>W0;clear T3 G3 TI0 OS3 OK3 R3 B3;have t0:=HT.out.c0;have t1:=HT.out.c1;have hyN:ya*256+yb<n*256:=by omega
  have cs0:=HG.out.c (ya*256+yb) hyN;have cf0:=HG.out.f (ya*256+yb) hyN;have Um:=hid (uY HG.out _ (aAU _));have i1:(0:Int)<=(ya:Int):=by omega
  have i2:(ya:Int)<(n:Int):=by omega
  have i3:(0:Int)<=(yb:Int):=by omega
  have i4:(yb:Int)<256:=by omega
  cases hse:seen (ya*256+yb) with
  | true=>
   rw[hse]at cs0;have Ea:=hid (Zk HI.out hse);clear hse;have u0:=HR.out.c0;have u1:=HR.out.c1;have v0:=HR.out.f0;have v1:=HR.out.f1;have HQ:Hid (∀ q,Two (W0.drewN q) w2.heap.size (.int .i64 (ya:Nat)) (.int .u8 (yb:Nat))/\Two (W0.drewN q) (w.heap.size+2) (.int .i64 0) (.int .u8 0)/\Below w.heap.size w (W0.drewN q)):=hid (λq=>⟨HT.out.below (aBd (aAW _ _) q) HT.out.lt,HR.out.below (aBd (aAW _ _) q) HR.out.lt,aBd HB.out q⟩);go_wp2_with fail
   go_quiet (fail)
   obtain⟨q1,q2,q3⟩:=HQ.out nq;have t0:=q1.c0;have t1:=q1.c1;have u0:=q2.c0;have u1:=q2.c1;have v0:=q2.f0;have v1:=q2.f1;have PN:=hid q3;clear q1 q2 q3 HQ;generalize W0.drewN nq=W4 at *;go_wp2_with fail;refine zf (cs:=[.int .i64 (ya:Nat),.int .u8 (yb:Nat)]) (b:=w.heap.size+2) Tryz.results93 ?_ ?_ ?_ Tryz.underlying166 rfl Tryz.Zt ?_
   ·rfl
   ·rfl
   ·exact Qw u0 u1 _ _
   ·unfold G9;refine⟨ya*256+yb,by rw[jK ya Bd],hyN,Ea.out,?_⟩;exact(PN.out.setCell (p:=⟨w.heap.size+2,0,none⟩) (by show w.heap.size<=w.heap.size+2;omega) _).setCell (p:=⟨w.heap.size+2,1,none⟩) (by show w.heap.size<=w.heap.size+2;omega) _
  | false=>
   rw[hse]at cs0;have HSE:=hid hse;clear hse;have axR:w1.heap.size<w2.heap.size:=gu;have NX:Hid (∀ q,∃ W5,W5=((W0.drewN q).setCell ⟨w1.heap.size,ya*256+yb,none⟩ (.bool true)).drew/\Two W5 w2.heap.size (.int .i64 (ya:Nat)) (.int .u8 (yb:Nat))/\bU W5 w1.heap.size (n*256) (upd seen (ya*256+yb) true)/\W5.ownsRow W.heap.size 171 3 (.slice aS rs.length cS) rs.length (jf n rs)/\(∀ r∈rs,lq W5 W.heap.size (Ew n ns into) (n*256) f r)/\Two W5 (w.heap.size+2) (.int .i64 0) (.int .u8 0)/\Below w.heap.size w W5/\w2.heap.size<W5.heap.size):=hid (λq=>by
    have bt:Y3 w1.heap.size W0 ((W0.drewN q).setCell ⟨w1.heap.size,ya*256+yb,none⟩ (.bool true)).drew:=⟨by simp,λi hi hne=>by
     have:=oG (w:=W0.drewN q) (b:=w1.heap.size) (o:=ya*256+yb) (v:=.bool true) hne;exact this⟩
    have D5:=HG.out.set (ya*256+yb) true;have mR:=Lm.out;refine⟨_,rfl,?_,⟨D5.c,D5.f⟩,GJ iF.out bt ?_,λr hr=>?_,?_,?_,by simp;omega⟩
    ·have X:=HT.out.other (k:=w1.heap.size) (o:=ya*256+yb) (by omega) (.bool true);exact⟨X.c0,X.c1,X.f0,X.f1⟩
    ·exact λe=>by have:=mR.1 _ e;omega
    ·have h9:=Ee.out r hr;exact⟨GJ h9.ow bt (λe=>by have:=mR.2 r hr _ e;omega),h9.sk,h9.gl,h9.fd⟩
    ·have X:=HR.out.other (k:=w1.heap.size) (o:=ya*256+yb) (by omega) (.bool true);exact⟨X.c0,X.c1,X.f0,X.f1⟩
    ·exact aBd ((aBd HB.out q).setCell (p:=⟨w1.heap.size,ya*256+yb,none⟩) (by show w.heap.size<=w1.heap.size;omega) (.bool true)) 1)
   have HQ:Hid (∀ q,(W0.drewN q).cell? ⟨w2.heap.size,0,none⟩=some (.int .i64 (ya:Nat))/\(W0.drewN q).cell? ⟨w2.heap.size,1,none⟩=some (.int .u8 (yb:Nat))/\(W0.drewN q).cell? ⟨w1.heap.size,ya*256+yb,none⟩=some (.bool false)/\(W0.drewN q).frozen? ⟨w1.heap.size,ya*256+yb,none⟩=false):=hid (λq=>⟨t0,t1,cs0,cf0⟩);go_wp2_with fail
   go_quiet (fail)
   obtain⟨q0,q1,q2,q3⟩:=HQ.out nq;obtain⟨W5,eW,n1,n2,n3,n4,n5,n6,n7⟩:=NX.out nq;have N1:=hid n1;have N2:=hid n2;have N3:=hid n3;have N4:=hid n4;have N5:=hid n5;have N6:=hid n6;have s0:=n1.c0;have s1:=n1.c1;subst eW;clear n1 n2 n3 n4 n5 n6 NX HQ t0 t1 cs0 cf0 HT HG iF Ee HR HB;generalize W0.drewN nq=W4 at *;go_wp2_with fail
   go_region_held3 (λw'=>w'.cell? ⟨w2.heap.size,0,none⟩=some (.int .i64 (ya:Nat))/\w'.cell? ⟨w2.heap.size,1,none⟩=some (.int .u8 (yb:Nat)))
    (first
     | go_keep
     | exact⟨s0,s1⟩)
    (fail)
   clear s0 s1 q0 q1 q2 q3;generalize (W4.setCell ⟨w1.heap.size,ya*256+yb,none⟩ (.bool true)).drew=W5 at *;have vG:=Iq.out.le;have hrp:=Iq.out.pos;have RI0:Hid (Bz (Ew n ns into) (spreads cs) 0 (ya*256+yb) (ya*256+yb)):=hid (QO _ _ _);have L0:Hid (f (ya*256+yb)=true):=hid HI.out.last;go_wp2_with fail
   go_loopw [54] (λk wq=>∃ (j za zb:Nat),j<=rs.length/\k=.int .i64 j/\za<n/\zb<256/\Hid (Two wq w2.heap.size (.int .i64 (za:Nat)) (.int .u8 (zb:Nat)))/\Hid (Bz (Ew n ns into) (spreads cs) j (ya*256+yb) (za*256+zb))/\Hid (f (za*256+zb)=true)/\Hid (bU wq w1.heap.size (n*256) (upd seen (ya*256+yb) true))/\Hid (wq.ownsRow W.heap.size 171 3 (.slice aS rs.length cS) rs.length (jf n rs))/\Hid (∀ r∈rs,lq wq W.heap.size (Ew n ns into) (n*256) f r)/\Hid (Two wq (w.heap.size+2) (.int .i64 0) (.int .u8 0))/\Hid (Below w.heap.size w wq)/\w2.heap.size<wq.heap.size) (λk _=>rs.length - (intOf k).toNat)
   case atStart=>exact⟨0,ya,yb,aA8 _,rfl,Rv,Bd,N1,RI0,L0,N2,N3,N4,N5,N6,n7⟩
   case round=>
    obtain⟨j,za,zb,hj,rfl,hza,hzb,HT,HRI,HFZ,HG,iF,Ee,HR,HB,hsz⟩:=hrel;rename World=>W6;clear N1 RI0 L0 N2 N3 N4 N5 N6 n7;by_cases eQ:j<rs.length
    ·obtain⟨r,hr⟩:∃ r,rs[j]?=some r:=⟨rs[j],aAV eQ⟩;obtain⟨gS,eS,_,hgS,_⟩:=dX iF.out (by omega);cases eS;obtain⟨k0,k1,k2⟩:=YM (n:=n) hr;have d0:=(iF.out.cellAt (j*3) (by omega)).trans k0;have d1:=(iF.out.cellAt (j*3+1) (by omega)).trans k1;have d2:=(iF.out.cellAt (j*3+2) (by omega)).trans k2;have hok:=Ee.out r (aBB hr);have pu:=hid hok.sk;have Lr:=hid hok.lk;have Uz:=hid hok.gl;have ate:=hid (hok.sk.in_ (za*256+zb) (hok.fd _ HFZ.out));have asY:Hid (∀ c,(spreads cs)[j]?=some c->∀ y,r.goal y=true->c y=true):=hid (λc hc y hy=>by
      unfold spreads at hc;rw[aBk]at hc;cases hcs:cs[j]? with
      | none=>rw[hcs]at hc;simp at hc
      | some c0=>
       rw[hcs]at hc;simp at hc;subst hc;obtain⟨r',h1,h2⟩:=Iq.out.mark j c0 hcs;rw[hr]at h1;cases h1;exact h2 y hy)
     have jW:=mJ hok.sk;have akm:=pM r.goal (n*256);clear k0 k1 k2 hok hr;obtain⟨gf,rao,qF,ls,goal,found⟩:=r;dsimp only at *;have bs:=(aAW W6.heap.size W6).alloc (aAU _) (.cells #[.slice (some ⟨gf,0,none⟩) n n,.slice rao ls.length qF,.int .i64 ((aG goal (n*256)).length:Nat)] 171);have wR:=hid (dH W6 (.slice (some ⟨gf,0,none⟩) n n) (.slice rao ls.length qF) (.int .i64 ((aG goal (n*256)).length:Nat)) 171);have WR:=hid (HT.out.below bs (by omega));have Pw:=hid bs;have t0:=WR.out.c0;have t1:=WR.out.c1;have amo:=hid (Lr.out.below bs);have i1:(0:Int)<=(j:Int):=by omega
     have i2:(j:Int)<(rs.length:Int):=by omega
     have NA:=Ah W6.heap.size (za*256+zb) (.slice (some ⟨gf,0,none⟩) n n) rao qF (aG goal (n*256)).length ls _ wR.out amo.out (by omega) (by omega) ate.out;rw[jK za hzb]at NA;have PG:=hid NA;clear bs NA;generalize Fa:(aG goal (n*256)).length=nW at *;have Dt:=hid Fa;clear Fa;go_wp2_with fail;refine PG.out.mono ?_;rintro e w8 ⟨i,t,rfl,zD,hit,Fj⟩;simp only[aAZ]at Fj;have BK:=hid (Pw.out.trans (Fj.mono (by omega)));have WS:=hid (wR.out.below Fj (by omega));have amn:=hid (Lr.out.below BK.out);have DK:=BK.out.size;have arI:W6.heap.size<w8.heap.size:=WS.out.lt;have WA:=Ch W6.heap.size i (za*256+zb) t (Ew n ns into) (n*256) goal found (.slice (some ⟨gf,0,none⟩) n n) rao qF ls w8 pu.out (by rw[Dt.out];exact WS.out) amn.out (by omega) (by omega) hit;rw[Dt.out]at WA;have Gp:=hid WA;clear Fj t0 t1 d0 d1 d2 Pw WR amo PG wR WS amn WA;go_wp2_with fail;refine Gp.out.mono ?_;intro e w9 zq;unfold xK at zq;obtain⟨ps,en,vp,rfl,OP,hgo,hne,_,Bg,Bi,Sb,yo,V3,sJ⟩:=zq;obtain⟨ap,cp,rfl⟩:=ai OP;have DZ:=hid (BK.out.trans (sJ.mono (by omega)));obtain⟨ea,eb,rfl,Sc⟩:∃ ea eb,en=ea*256+eb/\eb<256:=⟨en / 256,en % 256,by omega,by omega⟩;rw[(jC ea Sc).1,(jC ea Sc).2];have ajX:reach (Ew n ns into) (za*256+zb) (ea*256+eb):=by
      have h9:=Kv hgo;have h10:=hne zD;cases ps with
      | nil=>exact absurd rfl h10
      | cons p ps=>
       have h11:p=za*256+zb:=Bg;have h12:=h9.2 p (by simp);rw[h11]at h12;exact h12
     have asK:=hid (Va HRI.out ajX (λc hc=>asY.out c hc _ Bi));have jS:=hid (Uz.out _ Bi);have hea:ea<n:=by omega
     have bt:=(aAW w9.heap.size w9).alloc (aAU _) (.cells #[.slice ap ps.length cp,.int .i64 (ea:Nat),.int .u8 (eb:Nat)] 175);have MW:=hid (DZ.out.trans (bt.mono (by have:=DZ.out.size;omega)));have hs9:=DZ.out.size;have WL:=HT.out.below MW.out (by omega);have a0:=WL.c0;have a1:=WL.c1;have af0:=WL.f0;have af1:=WL.f1;have N1:=hid (WL.sets (.int .i64 (ea:Nat)) (.int .u8 (eb:Nat)));have G10:=HG.out.below MW.out (by omega);have N2:=hid ((G10.other ⟨w2.heap.size,0,none⟩ (.int .i64 (ea:Nat)) (by show w2.heap.size≠w1.heap.size;omega)).other ⟨w2.heap.size,1,none⟩ (.int .u8 (eb:Nat)) (by show w2.heap.size≠w1.heap.size;omega));have R10:=HR.out.below MW.out (by omega);have N5:=hid ((R10.other (k:=w2.heap.size) (o:=0) (by omega) (.int .i64 (ea:Nat))).other (k:=w2.heap.size) (o:=1) (by omega) (.int .u8 (eb:Nat)));have bt2:Y3 w2.heap.size (w9.alloc (.cells #[.slice ap ps.length cp,.int .i64 (ea:Nat),.int .u8 (eb:Nat)] 175)) (((w9.alloc (.cells #[.slice ap ps.length cp,.int .i64 (ea:Nat),.int .u8 (eb:Nat)] 175)).setCell ⟨w2.heap.size,0,none⟩ (.int .i64 (ea:Nat))).setCell ⟨w2.heap.size,1,none⟩ (.int .u8 (eb:Nat))):=⟨by simp,λi hi hne=>by rw[oG hne,oG hne]⟩;have mR:=Lm.out;have N3:=hid (GJ (ae iF.out MW.out) bt2 (λe=>by have:=mR.1 _ e;omega));have N4:Hid (∀ r∈rs,lq (((w9.alloc (.cells #[.slice ap ps.length cp,.int .i64 (ea:Nat),.int .u8 (eb:Nat)] 175)).setCell ⟨w2.heap.size,0,none⟩ (.int .i64 (ea:Nat))).setCell ⟨w2.heap.size,1,none⟩ (.int .u8 (eb:Nat))) W.heap.size (Ew n ns into) (n*256) f r):=hid (λr hr=>by
      have h9:=(Ee.out r hr).below MW.out;exact⟨GJ h9.ow bt2 (λe=>by have:=mR.2 r hr _ e;omega),h9.sk,h9.gl,h9.fd⟩)
     have N6:=hid (((HB.out.trans (MW.out.mono (by have:=HB.out.size;omega))).setCell (p:=⟨w2.heap.size,0,none⟩) (by show w.heap.size<=w2.heap.size;omega) (.int .i64 (ea:Nat))).setCell (p:=⟨w2.heap.size,1,none⟩) (by show w.heap.size<=w2.heap.size;omega) (.int .u8 (eb:Nat)));have n7:w2.heap.size<(((w9.alloc (.cells #[.slice ap ps.length cp,.int .i64 (ea:Nat),.int .u8 (eb:Nat)] 175)).setCell ⟨w2.heap.size,0,none⟩ (.int .i64 (ea:Nat))).setCell ⟨w2.heap.size,1,none⟩ (.int .u8 (eb:Nat))).heap.size:=by simp;omega
     clear OP hgo hne Bg Bi yo V3 sJ ajX bt WL G10 R10 bt2 Gp;go_wp2_with fail;go_roundw
     case rel=>exact⟨j+1,ea,eb,by omega,by go_num,hea,Sc,N1,asK,jS,N2,N3,N4,N5,N6,n7⟩
     case measure=>simp[intOf] <;> omega
    ·obtain rfl:j=rs.length:=by omega
     have Lu:=hid (Xx HI.out HRI.out hrp (by have:=Iq.out.len;simpa [spreads] using this) HFZ.out);have asD:=hid (uY HG.out _ (aAU _));have HCU:=hid (Ju HSE.out (n*256) hyN);have yM:=hid (Bt (upd seen (ya*256+yb) true) (n*256));go_wp2_with fail;go_roundw
     case rel=>exact⟨za,zb,_,hza,hzb,HT,HG,Lu,iF,Ee,HR,HB,hsz⟩
     case measure=>
      rw[asD.out,Um.out,HCU.out];have:=yM.out;rw[HCU.out]at this;omega
