import Derived.Test.YtjagijohfkffiabGreatFREM10
set_option maxHeartbeats 16000000
set_option maxRecDepth 100000
set_option linter.unusedSimpArgs false
namespace Go.Proofs.YtjagijohfkffiabGreat
open Go.RowKit
set_option linter.unusedVariables false
theorem dx(w:World)(cs:List Value)(t:TypeId):∀ j u,cs[j]?=some u->(w.alloc (.cells cs.toArray t)).cell? ((⟨w.heap.size,0,none⟩:Addr).add j)=some u:=λj u hj=>by
 rw[Addr.add_mid,aBJ (w.alloc (.cells cs.toArray t)) w.heap.size (0+j) cs.toArray t (0,0) (heap_alloc_last w _)];simpa using hj
theorem bz{w:World}{B e s n:Nat}{v:Value}{xs:List Value}(h:w.ownsRow B e s v n xs)(p:Addr)(u:Value)(h2:v.ownBlock≠some p.block):(w.setCell p u).ownsRow B e s v n xs:=
 h.kept (row:=some p.block) ⟨rfl,rfl,rfl,by rw[aBj];exact aAU _,λq hq hne=>aBv _ _ _ _ (λe=>hne (by rw[e]))⟩ (aA3 h2)
structure KB (w w':World) (T:Nat) (r1 r2:Option Nat):Prop where
 os:w'.os=w.os
 tape:w'.tape=w.tape
 output:w'.output=w.output
 size:w.heap.size<=w'.heap.size
 block:∀ k,k<w.heap.size->k≠T->some k≠r1->some k≠r2->w'.heap[k]?=w.heap[k]?
theorem KB.of_below{w w':World}{T:Nat}{r1 r2:Option Nat}(h:Below w.heap.size w w'):KB w w' T r1 r2:=⟨h.os,h.tape,h.output,h.size,λk hk _ _ _=>h.block k hk⟩
theorem KB.cell{w w':World}{T:Nat}{r1 r2:Option Nat}(h:KB w w' T r1 r2){p:Addr}(hp:p.block<w.heap.size)(h1:p.block≠T)(h2:some p.block≠r1)(h3:some p.block≠r2):w'.cell? p=w.cell? p:=aBf (h.block _ hp h1 h2 h3)
theorem dI{w w':World}{T B e s n:Nat}{r1 r2:Option Nat}{v:Value}{xs:List Value}(h:w.ownsRow B e s v n xs)(f:KB w w' T r1 r2)(h1:v.ownBlock≠some T)(h2:v.ownBlock=none\/v.ownBlock≠r1)(h3:v.ownBlock=none\/v.ownBlock≠r2):w'.ownsRow B e s v n xs:=by
 refine⟨h.1,?_⟩;rcases h.2 with h0 | ⟨g,cap,cur,ev,hb,hg,r⟩
 ·exact aA2 h0
 ·subst ev;refine aA3 ⟨g,cap,cur,rfl,hb,?_,r⟩;rw[f.block g (dB hg) (λe=>h1 (by rw[<-e];rfl)) (λe=>by
   rcases h2 with h2 | h2
   ·simp[Value.ownBlock]at h2
   ·exact h2 (by rw[<-e];rfl)) (λe=>by
   rcases h3 with h3 | h3
   ·simp[Value.ownBlock]at h3
   ·exact h3 (by rw[<-e];rfl))]
  exact hg
theorem Jw{B0:Nat}{a w w':World}{T:Nat}{r1 r2:Option Nat}(h:Below B0 a w)(f:KB w w' T r1 r2)(hB:B0<=w.heap.size)(h1:B0<=T)(h2:∀ k,r1=some k->B0<=k)(h3:∀ k,r2=some k->B0<=k):Below B0 a w':=
 ⟨f.os.trans h.os,f.tape.trans h.tape,f.output.trans h.output,aBO h.size f.size,λk hk=>(f.block k (by omega) (by omega) (λe=>by have:=h2 k e.symm;omega) (λe=>by have:=h3 k e.symm;omega)).trans (h.block k hk)⟩
def nC(rs:List (Nat × Nat))(M:Nat):List Value:=rs.flatMap λp=>[.slice (some ⟨p.1,0,none⟩) M M,.slice (some ⟨p.2,0,none⟩) M M]
theorem Ib(rs:List (Nat × Nat))(M:Nat)(p:Nat × Nat):nC (rs++[p]) M=nC rs M++[.slice (some ⟨p.1,0,none⟩) M M,.slice (some ⟨p.2,0,none⟩) M M]:=by simp[nC]
theorem xh{rs:List (Nat × Nat)}{M i:Nat}{p:Nat × Nat}(h:rs[i]?=some p):(nC rs M)[i*2]?=some (.slice (some ⟨p.1,0,none⟩) M M)/\(nC rs M)[i*2+1]?=some (.slice (some ⟨p.2,0,none⟩) M M):=by
 induction rs generalizing i with
 | nil=>simp at h
 | cons q qs ih=>
  cases i with
  | zero=>simp at h;subst h;simp[nC]
  | succ i=>
   have:=ih (by simpa using h);rw[show nC (q::qs) M=[.slice (some ⟨q.1,0,none⟩) M M,.slice (some ⟨q.2,0,none⟩) M M]++nC qs M by simp[nC]];rw[aBa (by simp;omega),aBa (by simp;omega)];simpa [show (i+1)*2 - 2=i*2 by omega,show (i+1)*2+1 - 2=i*2+1 by omega] using this
structure Ad (w:World) (B T M:Nat) (vS vO vN:Value) (rs:List (Nat × Nat)) (fs:List ((Nat->Bool) × (Nat->Bool))) (outs:List Nat):Prop where
 t:Three w T vS vO vN
 tB:T<B
 len:fs.length=rs.length
 Q6:outs.length=rs.length
 st:w.ownsRow B 144 2 vS rs.length (nC rs M)
 ou:w.ownsRow B 3 1 vO rs.length (aD outs)
 row:∀ (i:Nat) p q,rs[i]?=some p->fs[i]?=some q->w.ownsRow B 4 1 (.slice (some ⟨p.1,0,none⟩) M M) M (ay q.1 M M)/\w.ownsRow B 4 1 (.slice (some ⟨p.2,0,none⟩) M M) M (ay q.2 M M)
theorem Ad.below{w w':World}{B T M:Nat}{vS vO vN:Value}{rs:List (Nat × Nat)}{fs:List ((Nat->Bool) × (Nat->Bool))}{outs:List Nat}(h:Ad w B T M vS vO vN rs fs outs)(hb:Below w.heap.size w w'):Ad w' B T M vS vO vN rs fs outs:=
 ⟨h.t.below hb h.t.lt,h.tB,h.len,h.Q6,ae h.st hb,ae h.ou hb,λi p q h1 h2=>⟨ae (h.row i p q h1 h2).1 hb,ae (h.row i p q h1 h2).2 hb⟩⟩
theorem vo{w:World}{B g M:Nat}{f:Nat->Bool}(h:w.ownsRow B 4 1 (.slice (some ⟨g,0,none⟩) M M) M (ay f M M)):Rb w g M f:=⟨(h.lt _ rfl).2,λi hi=>by rw[h.cellAt i (by omega)];exact jM _ _ _ hi⟩
theorem Tryz.Yn:(Tryz.prog.info? 144).map (λi=>(i.zero,i.size,i.bytes))=some (some (.agg #[.slice none 0 0,.slice none 0 0]),2,48):=by kernel_rfl
def atr(w:World)(B T M:Nat)(vS vO vN:Value)(rs:List (Nat × Nat))(fs:List ((Nat->Bool) × (Nat->Bool)))(outs:List Nat)(by_ bn:Nat)(f h:Nat->Bool)(e:Ending)(w':World):Prop:=
 ∃ j vS' nQ rs' fs' outs',e=.returned (.int .i64 (j:Nat))/\Ad w' B T M vS' nQ vN rs' fs' outs'/\KB w w' T vS.ownBlock vO.ownBlock /\
  (nQ.ownBlock=vO.ownBlock\/∃ q,nQ.ownBlock=some q/\w.heap.size<=q) /\
  ((rs'=rs/\fs'=fs/\outs'=outs/\∃ p,fs[j]?=some p/\(∀ i,i<M->p.1 i=f i)) \/
  (j=rs.length/\rs'=rs++[(by_,bn)]/\fs'=fs++[(f,h)]/\outs'=outs++[Ck (ja f M) (ja h M)]/\∀ p∈fs,¬ ((∀ i,i<M->p.1 i=f i)/\∀ i,i<M->p.2 i=h i)))
theorem Wx(w:World)(B T M:Nat)(vS vO vN:Value)(rs:List (Nat × Nat))(fs:List ((Nat->Bool) × (Nat->Bool)))(outs:List Nat)(by_ bn:Nat)(f h:Nat->Bool)(hm:Ad w B T M vS vO vN rs fs outs)(hB:B<=w.heap.size)(hlen:rs.length<=8589934592)(hM:M<=1099511627776)
  (h1:w.ownsRow B 4 1 (.slice (some ⟨by_,0,none⟩) M M) M (ay f M M)) (h2:w.ownsRow B 4 1 (.slice (some ⟨bn,0,none⟩) M M) M (ay h M M)) :
  Calls Tryz.prog 77 #[.pointer (some ⟨T,0,none⟩),.agg #[.slice (some ⟨by_,0,none⟩) M M,.slice (some ⟨bn,0,none⟩) M M]] w (atr w B T M vS vO vN rs fs outs by_ bn f h):=by
 have hT:=hm.t.lt;have Wm:=hm.tB;have HM:=hid hm;have H1:=hid h1;have H2:=hid h2;obtain⟨wO,tV,rfl⟩:=ai hm.st;obtain⟨tX,yF,rfl⟩:=ai hm.ou;obtain⟨i0,hi,aR,aP,aN⟩:=info_parts Tryz.Yn;obtain⟨i1,iC,fe,eZ,eY⟩:=info_parts Tryz.lW;have Iz:=hid (λq (h:(Value.slice wO rs.length tV).ownBlock=some q)=>hm.st.lt q h);have nI:=hid (λq (h:(Value.slice tX rs.length yF).ownBlock=some q)=>hm.ou.lt q h);clear hm h1 h2;generalize zw:rs.length=n at *;have gm:=hid zw;clear zw;have ba:=hid ((aAW w.heap.size w).alloc (aAU _) (.cells #[.slice (some ⟨by_,0,none⟩) M M,.slice (some ⟨bn,0,none⟩) M M] 144));go_enter Tryz.func77,Tryz.ntmps77;go_wp2_with fail
 go_loopw [5] (λi wq=>∃ k:Nat,k<=n/\i=.int .i64 k/\Hid (∀ i p,i<k->fs[i]?=some p->¬ ((∀ i,i<M->p.1 i=f i)/\∀ i,i<M->p.2 i=h i))/\Hid (Two wq w.heap.size (.slice (some ⟨by_,0,none⟩) M M) (.slice (some ⟨bn,0,none⟩) M M))/\w.heap.size<wq.heap.size/\Hid (Below w.heap.size w wq)) (λi _=>n - (intOf i).toNat)
 case atStart=>exact⟨0,aA8 _,rfl,hid (λi p h=>by omega),hid (dD _ _ _ _),by simp,ba⟩
 case round=>
  obtain⟨k,hk,rfl,HA,HX,hsz,HB⟩:=hrel;rename World=>W0;clear ba;have dP:=hid (HM.out.below HB.out);have cT:=dP.out.t.c0;have x0:=HX.out.c0;have x1:=HX.out.c1;by_cases hlk:k<n
  ·obtain⟨p,hp⟩:∃ p,rs[k]?=some p:=⟨rs[k]'(by rw[gm.out];exact hlk),aAV (by rw[gm.out];exact hlk)⟩;obtain⟨q,hq⟩:∃ q,fs[k]?=some q:=by
    have h9:k<fs.length:=by rw[HM.out.len,gm.out];exact hlk
    exact⟨fs[k],aAV h9⟩
   obtain⟨o1,o2⟩:=dP.out.row k p q hp hq;obtain⟨p1,p2⟩:=p;obtain⟨q1,q2⟩:=q;have wG:=dP.out.st;rw[gm.out]at wG;obtain⟨gS,rfl,hgS,akp,hcS⟩:=dX wG (by omega);have y0:W0.cell? ⟨gS,k*2,none⟩=some (.slice (some ⟨p1,0,none⟩) M M):=by rw[wG.cellAt (k*2) (by omega),(xh hp).1]
   have y1:W0.cell? ⟨gS,k*2+1,none⟩=some (.slice (some ⟨p2,0,none⟩) M M):=by rw[wG.cellAt (k*2+1) (by omega),(xh hp).2]
   have C1:=λm=>Nl p1 by_ M q1 f (W0.drewN m) ((vo o1).drewN m) ((vo (ae H1.out HB.out)).drewN m) hM;have C2:=λm=>Nl p2 bn M q2 h (W0.drewN m) ((vo o2).drewN m) ((vo (ae H2.out HB.out)).drewN m) hM;have HQ:=hid hq;clear hp hq o1 o2 wG;have cT':∀ m,(W0.drewN m).cell? ⟨T,0,none⟩=some (.slice (some ⟨gS,0,none⟩) n tV):=λm=>cT;have y1':∀ m,(W0.drewN m).cell? ⟨gS,k*2+1,none⟩=some (.slice (some ⟨p2,0,none⟩) M M):=λm=>y1;have El:∀ m,(W0.drewN m).cell? ⟨w.heap.size,1,none⟩=some (.slice (some ⟨bn,0,none⟩) M M):=λm=>x1;have hS1:=hid (yX (f:=q1) (h:=f) (N:=M));have Wn:=hid (yX (f:=q2) (h:=h) (N:=M));generalize Cs q1 f M=s1 at *;generalize Cs q2 h M=s2 at *;go_wp2_with fail
   go_quiet ((go_at_call 125;exact Calls.quiet_of (C1 _)))
   have z1:=cT' nq;have z2:=y1' nq;have z3:=El nq;have C3:=λm=>(by rw[World.drewN_drewN];exact C2 (nq+m):Calls Tryz.prog 125 #[.slice (some ⟨p2,0,none⟩) M M,.slice (some ⟨bn,0,none⟩) M M] ((W0.drewN nq).drewN m) λe w'=>e=.returned (.bool s2)/\∃ m',w'=((W0.drewN nq).drewN m).drewN m');have aK:=hid (aBd HB.out nq);have HX1:Hid (Two (W0.drewN nq) w.heap.size (.slice (some ⟨by_,0,none⟩) M M) (.slice (some ⟨bn,0,none⟩) M M)):=hid (HX.out.below (aBd (aAW W0.heap.size W0) nq) hsz);have uC:w.heap.size<(W0.drewN nq).heap.size:=hsz;clear C1 C2 cT' y1' El cT x0 x1 y0 y1 HB HX dP;generalize W0.drewN nq=W1 at *;go_wp2_with fail
   go_quiet ((go_at_call 125;exact Calls.quiet_of (C3 _)))
   have aW:=hid (aBd aK.out nq);have Gn:Hid (Two (W1.drewN nq) w.heap.size (.slice (some ⟨by_,0,none⟩) M M) (.slice (some ⟨bn,0,none⟩) M M)):=hid (HX1.out.below (aBd (aAW W1.heap.size W1) nq) uC);have oO:w.heap.size<(W1.drewN nq).heap.size:=uC;clear C3 z1 z2 z3 aK HX1;generalize W1.drewN nq=W2 at *;have Ef:Hid ((s1&&s2)=false->∀ i p,i<k+1->fs[i]?=some p->¬ ((∀ i,i<M->p.1 i=f i)/\∀ i,i<M->p.2 i=h i)):=hid (λe i p hi hp=>by
    by_cases c:i=k
    ·subst c;rw[HQ.out]at hp;cases hp;rintro ⟨a1,a2⟩;rw[hS1.out.2 a1,Wn.out.2 a2]at e;cases e
    ·exact HA.out i p (by omega) hp)
   cases s1 with
   | false=>
    go_wp2_with fail;go_roundw
    case rel=>exact⟨k+1,by omega,by go_num,hid (Ef.out rfl),Gn,oO,aW⟩
    case measure=>simp[intOf];omega
   | true=>
    cases s2 with
    | false=>
     go_wp2_with fail;go_roundw
     case rel=>exact⟨k+1,by omega,by go_num,hid (Ef.out rfl),Gn,oO,aW⟩
     case measure=>simp[intOf];omega
    | true=>
     go_wp2_with fail;go_ret;have uh:=HM.out.below aW.out;exact⟨k,_,_,rs,fs,outs,rfl,uh,KB.of_below aW.out,aA2 rfl,aA2 ⟨rfl,rfl,rfl,(q1,q2),HQ.out,hS1.out.1 (by first | rfl | trivial)⟩⟩
  ·obtain rfl:k=n:=by omega
   have TD:=acS by_ bn M f h W0 (vo (ae H1.out HB.out)) (vo (ae H2.out HB.out)) hM;generalize htd:Ck (ja f M) (ja h M)=td at *;have HTD:=hid htd;clear htd;go_wp2_with fail;refine TD.mono ?_;rintro e W0 ⟨rfl,rfl⟩;clear TD;go_wp2_with fail;have fT:=dP.out.t.fz 0 (by omega);have tO:T<W0.heap.size:=by omega
   have OW:=dP.out.st;rw[gm.out]at OW;have OW:=hid OW;have MZ:Hid (∀ q,(Value.slice wO k tV).ownBlock=some q->q<w.heap.size):=hid (λq h=>(Iz.out q h).2);have asU:Hid (∀ q,(Value.slice wO k tV).ownBlock=some q->B<=q):=hid (λq h=>(Iz.out q h).1);have CR:(Value.slice wO k tV).ownBlock≠some T:=λe=>by have:=asU.out _ e;omega
   have XH:Hid (W0.cell? ⟨w.heap.size,0,none⟩=some (.slice (some ⟨by_,0,none⟩) M M)/\W0.cell? ⟨w.heap.size,1,none⟩=some (.slice (some ⟨bn,0,none⟩) M M)):=hid ⟨x0,x1⟩;refine wp_region_held_drew (S:=λW=>W.cell? ⟨w.heap.size,0,none⟩=some (.slice (some ⟨by_,0,none⟩) M M)/\W.cell? ⟨w.heap.size,1,none⟩=some (.slice (some ⟨bn,0,none⟩) M M)) (by kernel_rfl) XH.out (λau=>?_);refine aA4 (i:=0) (oi:={ dst:=some 50,op:=Op.move (.tmp 0),type:=_,pos:=_,after:=_,guard:=none }) (v:=(Value.pointer (some ⟨T,0,none⟩))) rfl (by kernel_rfl) (by kernel_rfl) (by kernel_rfl) (λ_ _ _ h=>h) (aA2 ⟨by rfl,by intro w' af;(try dsimp only at af);go_simp⟩) (by assumption) ?_
   simp only[Act.put,aAT,aAX,aAY];refine aA4 (i:=1) (oi:={ dst:=some 51,op:=Op.move (.tmp 0),type:=_,pos:=_,after:=_,guard:=none }) (v:=(Value.pointer (some ⟨T,0,none⟩))) rfl (by kernel_rfl) (by kernel_rfl) (by kernel_rfl) (λ_ _ _ h=>h) (aA2 ⟨by rfl,by intro w' af;(try dsimp only at af);go_simp⟩) (by assumption) ?_
   simp only[Act.put,aAT,aAX,aAY];refine aA4 (i:=2) (oi:={ dst:=some 52,op:=Op.nilCheck (.tmp 51),type:=_,pos:=_,after:=_,guard:=none }) (v:=(Value.pointer (some ⟨T,0,none⟩))) rfl (by kernel_rfl) (by kernel_rfl) (by kernel_rfl) (λ_ _ _ h=>h) (aA2 ⟨by rfl,by intro w' af;(try dsimp only at af);go_simp⟩) (by assumption) ?_
   simp only[Act.put,aAT,aAX,aAY];refine aA4 (i:=3) (oi:={ dst:=some 53,op:=Op.fieldAddr _ (.tmp 52) 0,type:=_,pos:=_,after:=_,guard:=none }) (v:=(Value.pointer (some ⟨T,0,none⟩))) rfl (by kernel_rfl) (by kernel_rfl) (by kernel_rfl) (λ_ _ _ h=>h) (aA2 ⟨by rfl,by intro w' af;(try dsimp only at af);go_simp⟩) (by assumption) ?_
   simp only[Act.put,aAT,aAX,aAY];refine aA4 (i:=5) (oi:={ dst:=some 55,op:=Op.load 144 (.tmp 3),type:=_,pos:=_,after:=_,guard:=none }) (v:=(Value.agg #[Value.slice (some ⟨by_,0,none⟩) M M,Value.slice (some ⟨bn,0,none⟩) M M])) rfl (by kernel_rfl) (by kernel_rfl) (by kernel_rfl) (λ_ _ _ h=>h) (aA2 ⟨by rfl,by intro w' af;obtain⟨hSa,hSb⟩:=af;go_simp⟩) (by assumption) ?_;simp only[Act.put,aAT,aAX,aAY];refine aBc (rs:=[4,6]) (by kernel_rfl) (by simp) ?_;refine aA7 rfl (λK hK=>?_) (aA7 rfl (λK hK=>?_) aBb)
   ·go_simp
    refine hK.out _ _ (by assumption) (λau=>?_);clear hK K;refine aBc (rs:=[6]) (by kernel_rfl) (by simp) ?_;refine aA7 rfl (λK hK=>?_) aBb
    go_simp
    refine hK.out _ _ ⟨by show (W0.alloc _).cell? _=_;rw[aBt _ _ _ hsz];exact XH.out.1,by show (W0.alloc _).cell? _=_;rw[aBt _ _ _ hsz];exact XH.out.2⟩ (λau=>?_);clear hK K;refine aBc (rs:=[7]) (by kernel_rfl) (by simp) ?_;refine aA7 rfl (λK hK=>?_) aBb;refine aBN _ (by rfl) (.tmp 54) (.tmp 56) 79 (by rfl) B 144 i0 (.agg #[.slice none 0 0,.slice none 0 0]) 2 48 Tryz.underlying79 hi aR aP aN rfl (by decide) _ k (nC rs M) (by rfl) ((OW.out.alloc _).drew) ⟨W0.heap.size,0,none⟩ 1 1 [.slice (some ⟨by_,0,none⟩) M M,.slice (some ⟨bn,0,none⟩) M M] (by rfl) (by rfl) (dx W0 _ _) (by intro y hy;simp at hy;rcases hy with rfl | rfl <;> rfl) (by decide) (by unfold maxLen;omega) (by omega) (by simp;omega) (W0.heap.size+1) (by simp) ?_
    intro gg cc w2 hown hgrow hat gu;have hrow:∀ q,some q=(Value.slice wO k tV).ownBlock->q<w.heap.size:=λq h=>MZ.out q h.symm;have nN:gg≠T:=by
     rcases hat with h | h
     ·exact λe=>CR (by rw[<-e];exact h)
     ·omega
    have Jf:W0.heap.size+1<=w2.heap.size:=by
     have h4:(W0.drew.alloc (.cells #[Value.slice (some ⟨by_,0,none⟩) M M,Value.slice (some ⟨bn,0,none⟩) M M] 144)).heap.size<=w2.heap.size:=hgrow.size;rw[aAZ]at h4;exact h4
    have gF:KB W0 w2 T (Value.slice wO k tV).ownBlock none:=⟨hgrow.os,hgrow.tape,hgrow.output,by omega,λq hq h1 h2 _=>by
     rw[hgrow.block q (by show q<(W0.alloc (.cells #[Value.slice (some ⟨by_,0,none⟩) M M,Value.slice (some ⟨bn,0,none⟩) M M] 144)).heap.size;rw[aAZ];omega) h2];show (W0.alloc (.cells #[Value.slice (some ⟨by_,0,none⟩) M M,Value.slice (some ⟨bn,0,none⟩) M M] 144)).heap[q]?=_;rw[aBl _ _ _ (by omega)]⟩
    have T2:Three w2 T (.slice wO k tV) (.slice tX k yF) vN:=by
     have hb:=hgrow.block T (by show T<(W0.alloc (.cells #[Value.slice (some ⟨by_,0,none⟩) M M,Value.slice (some ⟨bn,0,none⟩) M M] 144)).heap.size;rw[aAZ];omega) (λe=>CR e.symm);have hc:∀ o,w2.cell? ⟨T,o,none⟩=W0.cell? ⟨T,o,none⟩:=λo=>by
      rw[aBf (a:=⟨T,o,none⟩) hb];show (W0.alloc (.cells #[Value.slice (some ⟨by_,0,none⟩) M M,Value.slice (some ⟨bn,0,none⟩) M M] 144)).cell? ⟨T,o,none⟩=_;exact aBt _ _ _ tO
     have hf:∀ o,w2.frozen? ⟨T,o,none⟩=W0.frozen? ⟨T,o,none⟩:=λo=>by
      rw[aBg (a:=⟨T,o,none⟩) hb];show (W0.alloc (.cells #[Value.slice (some ⟨by_,0,none⟩) M M,Value.slice (some ⟨bn,0,none⟩) M M] 144)).frozen? ⟨T,o,none⟩=_;exact aBK _ _ _ tO
     exact⟨(hc 0).trans dP.out.t.c0,(hc 1).trans dP.out.t.c1,(hc 2).trans dP.out.t.c2,λo ho=>(hf o).trans (dP.out.t.fz o ho)⟩
    have g2:w2.cell? ⟨w.heap.size,0,none⟩=some (.slice (some ⟨by_,0,none⟩) M M)/\w2.cell? ⟨w.heap.size,1,none⟩=some (.slice (some ⟨bn,0,none⟩) M M):=⟨(gF.cell (p:=⟨w.heap.size,0,none⟩) hsz (by show w.heap.size≠T;omega) (λe=>Nat.lt_irrefl _ (hrow _ e)) (by simp)).trans XH.out.1,(gF.cell (p:=⟨w.heap.size,1,none⟩) hsz (by show w.heap.size≠T;omega) (λe=>Nat.lt_irrefl _ (hrow _ e)) (by simp)).trans XH.out.2⟩;have D1:=hid (T2.set0 (.slice (some ⟨gg,0,none⟩) (k+1) cc));have D2:=hid (bz hown ⟨T,0,none⟩ (.slice (some ⟨gg,0,none⟩) (k+1) cc) (by simpa [Value.ownBlock] using nN));have J8:=dP.out.ou;rw[gm.out]at J8;have CS:(Value.slice tX k yF).ownBlock≠some T:=λe=>by have:=(nI.out _ e).1;omega
    have D3:=hid (bz (dI J8 gF CS (aC J8 OW.out (by decide)) (by cases (Value.slice tX k yF).ownBlock <;> simp)) ⟨T,0,none⟩ (.slice (some ⟨gg,0,none⟩) (k+1) cc) CS)
    have RW:Hid (∀ (g M:Nat) (F:Nat->Bool),W0.ownsRow B 4 1 (.slice (some ⟨g,0,none⟩) M M) M (ay F M M)->(w2.setCell ⟨T,0,none⟩ (.slice (some ⟨gg,0,none⟩) (k+1) cc)).ownsRow B 4 1 (.slice (some ⟨g,0,none⟩) M M) M (ay F M M)):=hid (λg M F ho=>by
     have hn:(Value.slice (some ⟨g,0,none⟩) M M).ownBlock≠some T:=λe=>by have:=(ho.lt _ e).1;omega
     exact bz (dI ho gF hn (aC ho OW.out (by decide)) (by simp[Value.ownBlock])) ⟨T,0,none⟩ _ hn)
    have nZ:Hid (KB w (w2.setCell ⟨T,0,none⟩ (.slice (some ⟨gg,0,none⟩) (k+1) cc)) T (Value.slice wO k tV).ownBlock none):=hid ⟨gF.os.trans HB.out.os,gF.tape.trans HB.out.tape,gF.output.trans HB.out.output,by rw[aBj];omega,λq hq h1 h2 h3=>by
     rw[aBv _ _ _ _ h1,gF.block q (by omega) h1 h2 h3];exact HB.out.block q hq⟩
    refine hK.out _ _ g2 (λau=>?_);have jw:Hid ((w2.setCell ⟨T,0,none⟩ (.slice (some ⟨gg,0,none⟩) (k+1) cc)).cell? ⟨w.heap.size,0,none⟩=some (.slice (some ⟨by_,0,none⟩) M M)/\(w2.setCell ⟨T,0,none⟩ (.slice (some ⟨gg,0,none⟩) (k+1) cc)).cell? ⟨w.heap.size,1,none⟩=some (.slice (some ⟨bn,0,none⟩) M M)):=hid ⟨by rw[aA0 _ _ _ _ (λe=>by have:=congrArg Addr.block e;simp at this;omega)];exact g2.1,by rw[aA0 _ _ _ _ (λe=>by have:=congrArg Addr.block e;simp at this;omega)];exact g2.2⟩;have c2:=T2.c0;have f2:=T2.fz 0 (by omega);clear hK K hown hgrow hat g2 hrow J8 gF T2;simp only[Act.put,aAT];refine aA4 (i:=8) (oi:={ dst:=some 58,op:=Op.nilCheck (.tmp 50),type:=_,pos:=_,after:=_,guard:=none }) (v:=(Value.pointer (some ⟨T,0,none⟩))) rfl (by kernel_rfl) (by kernel_rfl) (by kernel_rfl) (λ_ _ _ h=>h) (aA2 ⟨by rfl,by intro w' af;(try dsimp only at af);go_simp⟩) (by assumption) ?_
    simp only[Act.put];refine aA4 (i:=9) (oi:={ dst:=some 59,op:=Op.fieldAddr _ (.tmp 58) 0,type:=_,pos:=_,after:=_,guard:=none }) (v:=(Value.pointer (some ⟨T,0,none⟩))) rfl (by kernel_rfl) (by kernel_rfl) (by kernel_rfl) (λ_ _ _ h=>h) (aA2 ⟨by rfl,by intro w' af;(try dsimp only at af);go_simp⟩) (by assumption) ?_
    simp only[Act.put];refine aBc (rs:=[10]) (by kernel_rfl) (by simp) ?_;refine aA7 rfl (λK hK=>?_) aBb
    go_simp
    refine hK.out _ _ jw.out (λau=>?_);clear hK K;refine aBS (by kernel_rfl) ?_ _;clear au c2 f2 cT fT jw x0 x1;have arE:w.heap.size<(w2.setCell ⟨T,0,none⟩ (.slice (some ⟨gg,0,none⟩) (k+1) cc)).heap.size:=by rw[aBj];omega
    generalize w2.setCell ⟨T,0,none⟩ (.slice (some ⟨gg,0,none⟩) (k+1) cc)=W5 at *;have e0:=D1.out.c0;have e1:=D1.out.c1;have e2:=D1.out.fz 1 (by omega);go_wp2_with (at_builtin;go_must (refine aBw _ rfl (.tmp 64) (.tmp 66) 22 rfl B 3 i1 (.int .i64 0) 1 8 Tryz.underlying22 iC fe eZ eY rfl (by decide) _ k (aD outs) rfl (D3.out.alloc _) ⟨W5.heap.size,0,none⟩ 1 1 [.int .i64 (td:Nat)] rfl rfl (dx W5 [.int .i64 (td:Nat)] _) (by intro y hy;simp at hy;rcases hy with rfl;rfl) (by decide) (by unfold maxLen;omega) (by omega) (by simp;omega) (W5.heap.size+1) (by simp) ?_));intro go co w6 nU dz p8 Yu;have CO:W5.heap.size<=w6.heap.size:=by
     have h4:=dz.size;simp at h4;omega
    have CU:go≠T:=by
     rcases p8 with h | h
     ·exact λe=>CS (by rw[<-e];exact h)
     ·omega
    have jH:KB W5 w6 T (Value.slice tX k yF).ownBlock none:=⟨dz.os,dz.tape,dz.output,CO,λq hq h1 h2 _=>by
     rw[dz.block q (by rw[aAZ];omega) h2,aBl _ _ _ (by omega)]⟩
    have sI:=dz.block T (by rw[aAZ];omega) (λe=>CS e.symm);have T6:Three w6 T (.slice (some ⟨gg,0,none⟩) (k+1) cc) (.slice tX k yF) vN:=by
     have hc:∀ o,w6.cell? ⟨T,o,none⟩=W5.cell? ⟨T,o,none⟩:=λo=>by
      rw[aBf (a:=⟨T,o,none⟩) sI];exact aBt _ _ _ (by show T<W5.heap.size;omega)
     have hf:∀ o,w6.frozen? ⟨T,o,none⟩=W5.frozen? ⟨T,o,none⟩:=λo=>by
      rw[aBg (a:=⟨T,o,none⟩) sI];exact aBK _ _ _ (by show T<W5.heap.size;omega)
     exact⟨(hc 0).trans D1.out.c0,(hc 1).trans D1.out.c1,(hc 2).trans D1.out.c2,λo ho=>(hf o).trans (D1.out.fz o ho)⟩
    have q0:=T6.c0;have q1:=T6.c1;have q2:=T6.fz 1 (by omega);have E1:=hid (T6.set1 (.slice (some ⟨go,0,none⟩) (k+1) co));have e10:=E1.out.c0;have Hy:(Value.slice (some ⟨gg,0,none⟩) (k+1) cc).ownBlock≠some T:=by simpa [Value.ownBlock] using nN
    have E2:=hid (bz (dI D2.out jH Hy (aC D2.out D3.out (by decide)) (by simp[Value.ownBlock])) ⟨T,1,none⟩ (.slice (some ⟨go,0,none⟩) (k+1) co) Hy);have E3:=hid (bz nU ⟨T,1,none⟩ (.slice (some ⟨go,0,none⟩) (k+1) co) (by simpa [Value.ownBlock] using CU));have KW:Hid (∀ (g M:Nat) (F:Nat->Bool),W0.ownsRow B 4 1 (.slice (some ⟨g,0,none⟩) M M) M (ay F M M)->(w6.setCell ⟨T,1,none⟩ (.slice (some ⟨go,0,none⟩) (k+1) co)).ownsRow B 4 1 (.slice (some ⟨g,0,none⟩) M M) M (ay F M M)):=hid (λg M F ho=>by
     have hn:(Value.slice (some ⟨g,0,none⟩) M M).ownBlock≠some T:=λe=>by have:=(ho.lt _ e).1;omega
     have h5:=RW.out _ _ _ ho;exact bz (dI h5 jH hn (aC h5 D3.out (by decide)) (by simp[Value.ownBlock])) ⟨T,1,none⟩ _ hn)
    have Ld:Hid (KB w (w6.setCell ⟨T,1,none⟩ (.slice (some ⟨go,0,none⟩) (k+1) co)) T (Value.slice wO k tV).ownBlock (Value.slice tX k yF).ownBlock):=hid ⟨jH.os.trans nZ.out.os,jH.tape.trans nZ.out.tape,jH.output.trans nZ.out.output,by rw[aBj];omega,λq hq h1 h2 h3=>by
     rw[aBv _ _ _ _ h1,jH.block q (by omega) h1 h3 (by simp),nZ.out.block q hq h1 h2 (by simp)]⟩
    have OB:Hid ((Value.slice (some ⟨go,0,none⟩) (k+1) co).ownBlock=(Value.slice tX k yF).ownBlock\/∃ q,(Value.slice (some ⟨go,0,none⟩) (k+1) co).ownBlock=some q/\w.heap.size<=q):=hid (by
     rcases p8 with h | h
     ·exact aA2 (by rw[h];rfl)
     ·exact aA3 ⟨go,rfl,by omega⟩)
    clear nU dz p8 jH T6 sI D1 D2 D3 e0 e1 e2;go_wp2_with fail;go_ret;refine⟨k,.slice (some ⟨gg,0,none⟩) (k+1) cc,.slice (some ⟨go,0,none⟩) (k+1) co,rs++[(by_,bn)],fs++[(f,h)],outs++[td],by go_num,⟨E1.out,Wm,by rw[aA5,aA5,HM.out.len];rfl,by rw[aA5,aA5,HM.out.Q6];rfl,?_,?_,?_⟩,Ld.out,OB.out,aA3 ⟨gm.out.symm,rfl,rfl,by rw[HTD.out],λp hp=>?_⟩⟩
    ·rw[aA5,gm.out,Ib];exact E2.out
    ·rw[aA5,gm.out,show aD (outs++[td])=aD outs++[.int .i64 (td:Nat)] by simp[aD]];exact E3.out
    ·intro i p q hp hq;by_cases c:i<rs.length
     ·rw[aA9 c]at hp;rw[aA9 (by rw[HM.out.len];exact c)]at hq;obtain⟨r1,r2⟩:=dP.out.row i p q hp hq;exact⟨KW.out _ _ _ r1,KW.out _ _ _ r2⟩
     ·have c2:=(aA1.1 hp).1;simp at c2;have c3:i=rs.length:=by omega
      subst c3;rw[<-HM.out.len]at hq;simp at hp hq;subst hp;subst hq;exact⟨KW.out _ _ _ (ae H1.out HB.out),KW.out _ _ _ (ae H2.out HB.out)⟩
    ·obtain⟨i,hi,e⟩:=aBC hp;exact HA.out i p (by rw[<-gm.out,<-HM.out.len];exact hi) (by rw[aAV hi,e])
   ·go_simp
    refine hK.out _ _ ⟨by show (W0.alloc _).cell? _=_;rw[aBt _ _ _ hsz];exact XH.out.1,by show (W0.alloc _).cell? _=_;rw[aBt _ _ _ hsz];exact XH.out.2⟩ (λau=>?_);clear hK K;refine aBc (rs:=[4]) (by kernel_rfl) (by simp) ?_;refine aA7 rfl (λK hK=>?_) aBb
    go_simp
    refine hK.out _ _ (by assumption) (λau=>?_);clear hK K;refine aBc (rs:=[7]) (by kernel_rfl) (by simp) ?_;refine aA7 rfl (λK hK=>?_) aBb;refine aBN _ (by rfl) (.tmp 54) (.tmp 56) 79 (by rfl) B 144 i0 (.agg #[.slice none 0 0,.slice none 0 0]) 2 48 Tryz.underlying79 hi aR aP aN rfl (by decide) _ k (nC rs M) (by rfl) ((OW.out.alloc _).drew) ⟨W0.heap.size,0,none⟩ 1 1 [.slice (some ⟨by_,0,none⟩) M M,.slice (some ⟨bn,0,none⟩) M M] (by rfl) (by rfl) (dx W0 _ _) (by intro y hy;simp at hy;rcases hy with rfl | rfl <;> rfl) (by decide) (by unfold maxLen;omega) (by omega) (by simp;omega) (W0.heap.size+1) (by simp) ?_
    intro gg cc w2 hown hgrow hat gu;have hrow:∀ q,some q=(Value.slice wO k tV).ownBlock->q<w.heap.size:=λq h=>MZ.out q h.symm;have nN:gg≠T:=by
     rcases hat with h | h
     ·exact λe=>CR (by rw[<-e];exact h)
     ·omega
    have Jf:W0.heap.size+1<=w2.heap.size:=by
     have h4:(W0.drew.alloc (.cells #[Value.slice (some ⟨by_,0,none⟩) M M,Value.slice (some ⟨bn,0,none⟩) M M] 144)).heap.size<=w2.heap.size:=hgrow.size;rw[aAZ]at h4;exact h4
    have gF:KB W0 w2 T (Value.slice wO k tV).ownBlock none:=⟨hgrow.os,hgrow.tape,hgrow.output,by omega,λq hq h1 h2 _=>by
     rw[hgrow.block q (by show q<(W0.alloc (.cells #[Value.slice (some ⟨by_,0,none⟩) M M,Value.slice (some ⟨bn,0,none⟩) M M] 144)).heap.size;rw[aAZ];omega) h2];show (W0.alloc (.cells #[Value.slice (some ⟨by_,0,none⟩) M M,Value.slice (some ⟨bn,0,none⟩) M M] 144)).heap[q]?=_;rw[aBl _ _ _ (by omega)]⟩
    have T2:Three w2 T (.slice wO k tV) (.slice tX k yF) vN:=by
     have hb:=hgrow.block T (by show T<(W0.alloc (.cells #[Value.slice (some ⟨by_,0,none⟩) M M,Value.slice (some ⟨bn,0,none⟩) M M] 144)).heap.size;rw[aAZ];omega) (λe=>CR e.symm);have hc:∀ o,w2.cell? ⟨T,o,none⟩=W0.cell? ⟨T,o,none⟩:=λo=>by
      rw[aBf (a:=⟨T,o,none⟩) hb];show (W0.alloc (.cells #[Value.slice (some ⟨by_,0,none⟩) M M,Value.slice (some ⟨bn,0,none⟩) M M] 144)).cell? ⟨T,o,none⟩=_;exact aBt _ _ _ tO
     have hf:∀ o,w2.frozen? ⟨T,o,none⟩=W0.frozen? ⟨T,o,none⟩:=λo=>by
      rw[aBg (a:=⟨T,o,none⟩) hb];show (W0.alloc (.cells #[Value.slice (some ⟨by_,0,none⟩) M M,Value.slice (some ⟨bn,0,none⟩) M M] 144)).frozen? ⟨T,o,none⟩=_;exact aBK _ _ _ tO
     exact⟨(hc 0).trans dP.out.t.c0,(hc 1).trans dP.out.t.c1,(hc 2).trans dP.out.t.c2,λo ho=>(hf o).trans (dP.out.t.fz o ho)⟩
    have g2:w2.cell? ⟨w.heap.size,0,none⟩=some (.slice (some ⟨by_,0,none⟩) M M)/\w2.cell? ⟨w.heap.size,1,none⟩=some (.slice (some ⟨bn,0,none⟩) M M):=⟨(gF.cell (p:=⟨w.heap.size,0,none⟩) hsz (by show w.heap.size≠T;omega) (λe=>Nat.lt_irrefl _ (hrow _ e)) (by simp)).trans XH.out.1,(gF.cell (p:=⟨w.heap.size,1,none⟩) hsz (by show w.heap.size≠T;omega) (λe=>Nat.lt_irrefl _ (hrow _ e)) (by simp)).trans XH.out.2⟩;have D1:=hid (T2.set0 (.slice (some ⟨gg,0,none⟩) (k+1) cc));have D2:=hid (bz hown ⟨T,0,none⟩ (.slice (some ⟨gg,0,none⟩) (k+1) cc) (by simpa [Value.ownBlock] using nN));have J8:=dP.out.ou;rw[gm.out]at J8;have CS:(Value.slice tX k yF).ownBlock≠some T:=λe=>by have:=(nI.out _ e).1;omega
    have D3:=hid (bz (dI J8 gF CS (aC J8 OW.out (by decide)) (by cases (Value.slice tX k yF).ownBlock <;> simp)) ⟨T,0,none⟩ (.slice (some ⟨gg,0,none⟩) (k+1) cc) CS)
    have RW:Hid (∀ (g M:Nat) (F:Nat->Bool),W0.ownsRow B 4 1 (.slice (some ⟨g,0,none⟩) M M) M (ay F M M)->(w2.setCell ⟨T,0,none⟩ (.slice (some ⟨gg,0,none⟩) (k+1) cc)).ownsRow B 4 1 (.slice (some ⟨g,0,none⟩) M M) M (ay F M M)):=hid (λg M F ho=>by
     have hn:(Value.slice (some ⟨g,0,none⟩) M M).ownBlock≠some T:=λe=>by have:=(ho.lt _ e).1;omega
     exact bz (dI ho gF hn (aC ho OW.out (by decide)) (by simp[Value.ownBlock])) ⟨T,0,none⟩ _ hn)
    have nZ:Hid (KB w (w2.setCell ⟨T,0,none⟩ (.slice (some ⟨gg,0,none⟩) (k+1) cc)) T (Value.slice wO k tV).ownBlock none):=hid ⟨gF.os.trans HB.out.os,gF.tape.trans HB.out.tape,gF.output.trans HB.out.output,by rw[aBj];omega,λq hq h1 h2 h3=>by
     rw[aBv _ _ _ _ h1,gF.block q (by omega) h1 h2 h3];exact HB.out.block q hq⟩
    refine hK.out _ _ g2 (λau=>?_);have jw:Hid ((w2.setCell ⟨T,0,none⟩ (.slice (some ⟨gg,0,none⟩) (k+1) cc)).cell? ⟨w.heap.size,0,none⟩=some (.slice (some ⟨by_,0,none⟩) M M)/\(w2.setCell ⟨T,0,none⟩ (.slice (some ⟨gg,0,none⟩) (k+1) cc)).cell? ⟨w.heap.size,1,none⟩=some (.slice (some ⟨bn,0,none⟩) M M)):=hid ⟨by rw[aA0 _ _ _ _ (λe=>by have:=congrArg Addr.block e;simp at this;omega)];exact g2.1,by rw[aA0 _ _ _ _ (λe=>by have:=congrArg Addr.block e;simp at this;omega)];exact g2.2⟩;have c2:=T2.c0;have f2:=T2.fz 0 (by omega);clear hK K hown hgrow hat g2 hrow J8 gF T2;simp only[Act.put,aAT];refine aA4 (i:=8) (oi:={ dst:=some 58,op:=Op.nilCheck (.tmp 50),type:=_,pos:=_,after:=_,guard:=none }) (v:=(Value.pointer (some ⟨T,0,none⟩))) rfl (by kernel_rfl) (by kernel_rfl) (by kernel_rfl) (λ_ _ _ h=>h) (aA2 ⟨by rfl,by intro w' af;(try dsimp only at af);go_simp⟩) (by assumption) ?_
    simp only[Act.put];refine aA4 (i:=9) (oi:={ dst:=some 59,op:=Op.fieldAddr _ (.tmp 58) 0,type:=_,pos:=_,after:=_,guard:=none }) (v:=(Value.pointer (some ⟨T,0,none⟩))) rfl (by kernel_rfl) (by kernel_rfl) (by kernel_rfl) (λ_ _ _ h=>h) (aA2 ⟨by rfl,by intro w' af;(try dsimp only at af);go_simp⟩) (by assumption) ?_
    simp only[Act.put];refine aBc (rs:=[10]) (by kernel_rfl) (by simp) ?_;refine aA7 rfl (λK hK=>?_) aBb
    go_simp
    refine hK.out _ _ jw.out (λau=>?_);clear hK K;refine aBS (by kernel_rfl) ?_ _;clear au c2 f2 cT fT jw x0 x1;have arE:w.heap.size<(w2.setCell ⟨T,0,none⟩ (.slice (some ⟨gg,0,none⟩) (k+1) cc)).heap.size:=by rw[aBj];omega
    generalize w2.setCell ⟨T,0,none⟩ (.slice (some ⟨gg,0,none⟩) (k+1) cc)=W5 at *;have e0:=D1.out.c0;have e1:=D1.out.c1;have e2:=D1.out.fz 1 (by omega);go_wp2_with (at_builtin;go_must (refine aBw _ rfl (.tmp 64) (.tmp 66) 22 rfl B 3 i1 (.int .i64 0) 1 8 Tryz.underlying22 iC fe eZ eY rfl (by decide) _ k (aD outs) rfl (D3.out.alloc _) ⟨W5.heap.size,0,none⟩ 1 1 [.int .i64 (td:Nat)] rfl rfl (dx W5 [.int .i64 (td:Nat)] _) (by intro y hy;simp at hy;rcases hy with rfl;rfl) (by decide) (by unfold maxLen;omega) (by omega) (by simp;omega) (W5.heap.size+1) (by simp) ?_));intro go co w6 nU dz p8 Yu;have CO:W5.heap.size<=w6.heap.size:=by
     have h4:=dz.size;simp at h4;omega
    have CU:go≠T:=by
     rcases p8 with h | h
     ·exact λe=>CS (by rw[<-e];exact h)
     ·omega
    have jH:KB W5 w6 T (Value.slice tX k yF).ownBlock none:=⟨dz.os,dz.tape,dz.output,CO,λq hq h1 h2 _=>by
     rw[dz.block q (by rw[aAZ];omega) h2,aBl _ _ _ (by omega)]⟩
    have sI:=dz.block T (by rw[aAZ];omega) (λe=>CS e.symm);have T6:Three w6 T (.slice (some ⟨gg,0,none⟩) (k+1) cc) (.slice tX k yF) vN:=by
     have hc:∀ o,w6.cell? ⟨T,o,none⟩=W5.cell? ⟨T,o,none⟩:=λo=>by
      rw[aBf (a:=⟨T,o,none⟩) sI];exact aBt _ _ _ (by show T<W5.heap.size;omega)
     have hf:∀ o,w6.frozen? ⟨T,o,none⟩=W5.frozen? ⟨T,o,none⟩:=λo=>by
      rw[aBg (a:=⟨T,o,none⟩) sI];exact aBK _ _ _ (by show T<W5.heap.size;omega)
     exact⟨(hc 0).trans D1.out.c0,(hc 1).trans D1.out.c1,(hc 2).trans D1.out.c2,λo ho=>(hf o).trans (D1.out.fz o ho)⟩
    have q0:=T6.c0;have q1:=T6.c1;have q2:=T6.fz 1 (by omega);have E1:=hid (T6.set1 (.slice (some ⟨go,0,none⟩) (k+1) co));have e10:=E1.out.c0;have Hy:(Value.slice (some ⟨gg,0,none⟩) (k+1) cc).ownBlock≠some T:=by simpa [Value.ownBlock] using nN
    have E2:=hid (bz (dI D2.out jH Hy (aC D2.out D3.out (by decide)) (by simp[Value.ownBlock])) ⟨T,1,none⟩ (.slice (some ⟨go,0,none⟩) (k+1) co) Hy);have E3:=hid (bz nU ⟨T,1,none⟩ (.slice (some ⟨go,0,none⟩) (k+1) co) (by simpa [Value.ownBlock] using CU));have KW:Hid (∀ (g M:Nat) (F:Nat->Bool),W0.ownsRow B 4 1 (.slice (some ⟨g,0,none⟩) M M) M (ay F M M)->(w6.setCell ⟨T,1,none⟩ (.slice (some ⟨go,0,none⟩) (k+1) co)).ownsRow B 4 1 (.slice (some ⟨g,0,none⟩) M M) M (ay F M M)):=hid (λg M F ho=>by
     have hn:(Value.slice (some ⟨g,0,none⟩) M M).ownBlock≠some T:=λe=>by have:=(ho.lt _ e).1;omega
     have h5:=RW.out _ _ _ ho;exact bz (dI h5 jH hn (aC h5 D3.out (by decide)) (by simp[Value.ownBlock])) ⟨T,1,none⟩ _ hn)
    have Ld:Hid (KB w (w6.setCell ⟨T,1,none⟩ (.slice (some ⟨go,0,none⟩) (k+1) co)) T (Value.slice wO k tV).ownBlock (Value.slice tX k yF).ownBlock):=hid ⟨jH.os.trans nZ.out.os,jH.tape.trans nZ.out.tape,jH.output.trans nZ.out.output,by rw[aBj];omega,λq hq h1 h2 h3=>by
     rw[aBv _ _ _ _ h1,jH.block q (by omega) h1 h3 (by simp),nZ.out.block q hq h1 h2 (by simp)]⟩
    have OB:Hid ((Value.slice (some ⟨go,0,none⟩) (k+1) co).ownBlock=(Value.slice tX k yF).ownBlock\/∃ q,(Value.slice (some ⟨go,0,none⟩) (k+1) co).ownBlock=some q/\w.heap.size<=q):=hid (by
     rcases p8 with h | h
     ·exact aA2 (by rw[h];rfl)
     ·exact aA3 ⟨go,rfl,by omega⟩)
    clear nU dz p8 jH T6 sI D1 D2 D3 e0 e1 e2;go_wp2_with fail;go_ret;refine⟨k,.slice (some ⟨gg,0,none⟩) (k+1) cc,.slice (some ⟨go,0,none⟩) (k+1) co,rs++[(by_,bn)],fs++[(f,h)],outs++[td],by go_num,⟨E1.out,Wm,by rw[aA5,aA5,HM.out.len];rfl,by rw[aA5,aA5,HM.out.Q6];rfl,?_,?_,?_⟩,Ld.out,OB.out,aA3 ⟨gm.out.symm,rfl,rfl,by rw[HTD.out],λp hp=>?_⟩⟩
    ·rw[aA5,gm.out,Ib];exact E2.out
    ·rw[aA5,gm.out,show aD (outs++[td])=aD outs++[.int .i64 (td:Nat)] by simp[aD]];exact E3.out
    ·intro i p q hp hq;by_cases c:i<rs.length
     ·rw[aA9 c]at hp;rw[aA9 (by rw[HM.out.len];exact c)]at hq;obtain⟨r1,r2⟩:=dP.out.row i p q hp hq;exact⟨KW.out _ _ _ r1,KW.out _ _ _ r2⟩
     ·have c2:=(aA1.1 hp).1;simp at c2;have c3:i=rs.length:=by omega
      subst c3;rw[<-HM.out.len]at hq;simp at hp hq;subst hp;subst hq;exact⟨KW.out _ _ _ (ae H1.out HB.out),KW.out _ _ _ (ae H2.out HB.out)⟩
    ·obtain⟨i,hi,e⟩:=aBC hp;exact HA.out i p (by rw[<-gm.out,<-HM.out.len];exact hi) (by rw[aAV hi,e])
