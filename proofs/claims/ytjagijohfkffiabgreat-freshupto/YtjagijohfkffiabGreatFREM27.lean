import Derived.Test.YtjagijohfkffiabGreatFREM26
set_option maxHeartbeats 16000000
set_option maxRecDepth 100000
set_option linter.unusedSimpArgs false
namespace Go.Proofs.YtjagijohfkffiabGreat
open Go.RowKit
set_option linter.unusedVariables false
theorem adJ{w:World}{R N:Nat}{x:Option Addr}{v:Value}{to:Nat->List Nat}(h:K8 w v N to)(h0:w.cell? ⟨R,0,none⟩=some (.pointer x))(u:Value):K8 (w.setCell ⟨R,2,none⟩ u) v N to:=by
 obtain⟨ao,cap,rfl,hc,h⟩:=h;refine⟨ao,cap,rfl,hc,λhN=>?_⟩;obtain⟨g,rfl,hg,hcell⟩:=h hN;have hne:g≠R:=λe=>by
  subst e;obtain⟨r,hr,a2,c2,e2,_⟩:=hcell 0 hN;subst e2;rw[h0]at hr;cases hr
 refine⟨g,rfl,by rw[aBj];exact hg,λi hi=>?_⟩;obtain⟨r,hr,a2,c2,rfl,yx,hn⟩:=hcell i hi;refine⟨_,by rw[aA0 _ _ _ _ (λe=>hne (by have:=congrArg Addr.block e;simpa using this.symm))];exact hr,a2,c2,rfl,yx,λhl=>?_⟩;obtain⟨g2,rfl,oV,aa2⟩:=hn hl;have Yt:g2≠R:=λe=>by
  subst e;have:=aa2 0 hl;rw[h0]at this;cases this
 exact⟨g2,rfl,by rw[aBj];exact oV,λk hk=>by rw[aA0 _ _ _ _ (λe=>Yt (by have:=congrArg Addr.block e;simpa using this.symm))];exact aa2 k hk⟩
theorem QN(F gp cap:Nat)(ns:List Nd)(bs:List Nat)(w:World)(hf:FR w F gp cap ns bs)(hg:Good ns) :
  Calls Tryz.prog 36 #[.pointer (some ⟨F,0,none⟩)] w λe w'=>∃ R vs,e=.returned (.pointer (some ⟨R,0,none⟩))/\xu w' R F gp cap ns bs vs/\gB ns vs.length (bD vs)/\vs.length<=256/\Below w.heap.size w w':=by
 have SA:=hid (ade F gp cap ns bs w hf hg);have NA:=hid (λ(W:World) (vs:List Nat) (Bs:Nat) (v:Value) (h1:Below w.heap.size w W) (h2:wF W Bs v ns.length vs) (h3:vs.length<=256)=>ah3 F gp cap Bs ns bs vs v W (hf.below h1) hg h2 h3);have EA:=hid (λ(W:World) (P:Nat)=>Tj ns hg P W);have Uv:Hid (∀ good:Nat->Bool,(∀ i,i<(dQ ns (2 ^ ns.length)).length->(good i=true↔chain ns [] (bD (dQ ns (2 ^ ns.length)) i)))->gB ns (iA (dQ ns (2 ^ ns.length)) good (dQ ns (2 ^ ns.length)).length).length (bD (iA (dQ ns (2 ^ ns.length)) good (dQ ns (2 ^ ns.length)).length))):=hid (λgood h=>aam hg.wf (JC hg.wf) h);have dw:=VC hg;have PK:=hid hf;have hF:=hf.Rl;have hpos:=hg.pos;obtain⟨i1,iC,fe,eZ,eY⟩:=info_parts Tryz.VV;clear hf hg;generalize dQ ns (2 ^ ns.length)=vs at *;go_enter Tryz.func36,Tryz.ntmps36;go_wp2_with fail;refine SA.out.mono ?_;rintro e w1 ⟨v,rfl,Am,aM⟩;have HSE:=hid Am;have aK:=hid aM;have s1:=aM.size;clear SA Am aM;go_wp2_with fail;refine(NA.out w1 vs w.heap.size v aK.out HSE.out dw).mono ?_;rintro e w2 ⟨rfl,RH,ak⟩;have gm:=hid RH;have aW:=hid (aK.out.trans (ak.mono s1));have alV:=hid (HSE.out.keeps ak);have s2:=ak.size;clear RH ak HSE;go_wp2_with fail;refine(EA.out w2 w1.heap.size gm.out).mono ?_;rintro e w3 ⟨ge,good,rfl,Bi,OG,zC,aI⟩;have HOG:=hid OG;have Xc:=hid zC;have cu:=hid (aW.out.trans (aI.mono (by omega)));have alU:=hid (alV.out.keeps aI);have s3:=aI.size;have ar7:=OG.blk.2;clear OG zC aI alV EA gm aK aW;obtain⟨bb,so,sr⟩:=alU.out;obtain⟨ao,acO,rfl⟩:=ai so;have HSO:=hid so;have Py:=hid sr;have HPL:=hid (adx vs good);clear alU so sr;have Ei:=hid (Uv.out good Xc.out);clear Uv Xc;generalize hNE:vs.length=N at *;have WW:=hid hNE;clear hNE;generalize zw:ns.length=n at *;have HnL:=hid zw;clear zw;go_wp2_with fail
 go_loopw [6] (λi wq=>∃ (j:Nat) (v1:Value),j<=N/\i=.int .i64 j/\Three wq w3.heap.size (.pointer (some ⟨F,0,none⟩)) v1 (.slice none 0 0)/\Hid (wq.ownsRow (w3.heap.size+1) 138 1 v1 (gG good j).length ((gG good j).map λq=>gD n (bb q)))/\Below w3.heap.size w3 wq) (λi _=>N - (intOf i).toNat)
 case atStart=>exact⟨0,_,aA8 _,rfl,dH w3 _ _ _ _,hid (aBh _ _ _ _),(aAW _ _).alloc (aAU _) _⟩
 case round=>
  obtain⟨j,v1,hj,rfl,t3,HO,aI⟩:=hrel;have hR:=t3.lt;by_cases hlt:j<N
  ·have og:=(aI.cell (p:=⟨ge,j,none⟩) ar7).trans (HOG.out.get hlt);have hil:(gG good j).length<=j:=by
    have:=HPL.out j;rw[Mm]at this;exact this
   cases Fb:good j with
   | false=>
    rw[Fb]at og;have Xa:Hid (gG good (j+1)=gG good j):=hid (ajG Fb);clear Fb;go_wp2_with fail;go_roundw
    case rel=>exact⟨j+1,v1,by omega,by go_num,t3,by rw[Xa.out];exact HO,aI⟩
    case measure=>simp[intOf];omega
   | true=>
    rw[Fb]at og;have Xa:Hid ((gG good (j+1)).length=(gG good j).length+1/\((gG good (j+1)).map λq=>gD n (bb q))=((gG good j).map λq=>gD n (bb q))++[.slice (some ⟨bb j,0,none⟩) n n]):=hid (by rw[aij Fb];simp[gD]);clear Fb;obtain⟨gs,e,_,nV,_⟩:=dX HSO.out (by omega);subst e;have cs:wr.cell? ⟨gs,j,none⟩=some (.slice (some ⟨bb j,0,none⟩) n n):=by
     rw[aI.cell (p:=⟨gs,j,none⟩) nV,HSO.out.cellAt j (by omega)];simp[aBk,aBx hlt,gD]
    have own:=HO.out;have p1:=t3.c1;have z1:(0:Int)<=(j:Int):=Int.natCast_nonneg _;have z2:(j:Int)<(N:Int):=by omega
    have Ay:gs<wr.heap.size:=by omega
    clear HO;go_wp2_with fail;refine wp_region_held_drew (S:=λw'=>w'.cell? ⟨gs,j,none⟩=some (.slice (some ⟨bb j,0,none⟩) n n)) (by kernel_rfl) cs (λau=>?_);refine aA4 (i:=0) (oi:={ dst:=some 26,op:=Op.move (.tmp 5),type:=_,pos:=_,after:=_,guard:=none }) (v:=(Value.pointer (some ⟨w3.heap.size,0,none⟩))) rfl (by kernel_rfl) (by kernel_rfl) (by kernel_rfl) (λ_ _ _ h=>h) (aA2 ⟨by rfl,by intro w' af;(try dsimp only at af);go_simp⟩) (by assumption) ?_
    simp only[Act.put,aAT,aAX,aAY];refine aA4 (i:=1) (oi:={ dst:=some 27,op:=Op.move (.tmp 5),type:=_,pos:=_,after:=_,guard:=none }) (v:=(Value.pointer (some ⟨w3.heap.size,0,none⟩))) rfl (by kernel_rfl) (by kernel_rfl) (by kernel_rfl) (λ_ _ _ h=>h) (aA2 ⟨by rfl,by intro w' af;(try dsimp only at af);go_simp⟩) (by assumption) ?_
    simp only[Act.put,aAT,aAX,aAY];refine aA4 (i:=2) (oi:={ dst:=some 28,op:=Op.nilCheck (.tmp 27),type:=_,pos:=_,after:=_,guard:=none }) (v:=(Value.pointer (some ⟨w3.heap.size,0,none⟩))) rfl (by kernel_rfl) (by kernel_rfl) (by kernel_rfl) (λ_ _ _ h=>h) (aA2 ⟨by rfl,by intro w' af;(try dsimp only at af);go_simp⟩) (by assumption) ?_
    simp only[Act.put,aAT,aAX,aAY];refine aA4 (i:=3) (oi:={ dst:=some 29,op:=Op.fieldAddr _ (.tmp 28) 1,type:=_,pos:=_,after:=_,guard:=none }) (v:=(Value.pointer (some ⟨w3.heap.size,1,none⟩))) rfl (by kernel_rfl) (by kernel_rfl) (by kernel_rfl) (λ_ _ _ h=>h) (aA2 ⟨by rfl,by intro w' af;(try dsimp only at af);go_simp⟩) (by assumption) ?_
    simp only[Act.put,aAT,aAX,aAY];refine aA4 (i:=5) (oi:={ dst:=some 31,op:=Op.move (.tmp 3),type:=_,pos:=_,after:=_,guard:=none }) (v:=(Value.slice (some ⟨gs,0,none⟩) N acO)) rfl (by kernel_rfl) (by kernel_rfl) (by kernel_rfl) (λ_ _ _ h=>h) (aA2 ⟨by rfl,by intro w' af;(try dsimp only at af);go_simp⟩) (by assumption) ?_
    simp only[Act.put,aAT,aAX,aAY];refine aA4 (i:=6) (oi:={ dst:=some 32,op:=Op.move (.tmp 6),type:=_,pos:=_,after:=_,guard:=none }) (v:=(Value.int .i64 (j:Nat))) rfl (by kernel_rfl) (by kernel_rfl) (by kernel_rfl) (λ_ _ _ h=>h) (aA2 ⟨by rfl,by intro w' af;(try dsimp only at af);go_simp⟩) (by assumption) ?_
    simp only[Act.put,aAT,aAX,aAY];refine aA4 (i:=7) (oi:={ dst:=some 33,op:=Op.indexAddr _ (.tmp 31) (.tmp 32),type:=_,pos:=_,after:=_,guard:=none }) (v:=(Value.pointer (some ⟨gs,j,none⟩))) rfl (by kernel_rfl) (by kernel_rfl) (by kernel_rfl) (λ_ _ _ h=>h) (aA2 ⟨by rfl,by intro w' af;(try dsimp only at af);go_simp⟩) (by assumption) ?_
    simp only[Act.put,aAT,aAX,aAY];refine aA4 (i:=8) (oi:={ dst:=some 34,op:=Op.load _ (.tmp 33),type:=_,pos:=_,after:=_,guard:=none }) (v:=(Value.slice (some ⟨bb j,0,none⟩) n n)) rfl (by kernel_rfl) (by kernel_rfl) (by kernel_rfl) (λ_ _ _ h=>h) (aA2 ⟨by rfl,by intro w' af;(try dsimp only at af);go_simp⟩) (by assumption) ?_
    simp only[Act.put,aAT,aAX,aAY];refine aBc (rs:=[4,9]) (by kernel_rfl) (by simp) ?_;refine aA7 rfl (λK hK=>?_) (aA7 rfl (λK hK=>?_) aBb)
    ·go_simp
     refine hK.out _ _ (by assumption) (λau=>?_);clear hK K;refine aBc (rs:=[9]) (by kernel_rfl) (by simp) ?_;refine aA7 rfl (λK hK=>?_) aBb
     go_simp
     refine hK.out _ _ ?hs (λau=>?_)
     case hs=>first | go_keep | simp[*]
     clear hK K;refine aBc (rs:=[10]) (by kernel_rfl) (by simp) ?_;refine aA7 rfl (λK hK=>?_) aBb;refine aBN _ (by rfl) (.tmp 30) (.tmp 35) 130 (by rfl) (w3.heap.size+1) 138 i1 (.slice none 0 0) 1 24 Tryz.underlying130 iC fe eZ eY rfl (by decide) _ (gG good j).length ((gG good j).map λq=>gD n (bb q)) (by rfl) ((own.alloc _).drew) ⟨wr.heap.size,0,none⟩ 1 1 [.slice (some ⟨bb j,0,none⟩) n n] (by rfl) (by rfl) (World.news_of_block (cs:=#[.slice (some ⟨bb j,0,none⟩) n n]) (t:=138) (fr:=(0,0)) (heap_alloc_new wr _)) (by simp[Value.oneCell']) (by decide) (by unfold maxLen;omega) (by omega) (by simp;omega) (wr.heap.size+1) (by simp) ?_;intro gg cc w5 hown hgrow hat gu;have bR:Below (w3.heap.size+1) wr w5:=(aBd ((aAW (w3.heap.size+1) wr).alloc (by omega) (.cells #[.slice (some ⟨bb j,0,none⟩) n n] 138)) 1).grown hgrow (by show w3.heap.size+1<=(wr.alloc (.cells #[.slice (some ⟨bb j,0,none⟩) n n] 138)).heap.size;rw[aAZ];omega) (λx h=>(own.lt x h).1);have s1:=t3.below bR (aBs _);have T5:=hid (s1.set1 (.slice (some ⟨gg,0,none⟩) ((gG good j).length+1) cc));have O5:=hid (ax hown (k:=w3.heap.size) (aBs _) 1 (.slice (some ⟨gg,0,none⟩) ((gG good j).length+1) cc));have BB:=hid ((aI.trans (bR.mono (by omega))).setCell (p:=⟨w3.heap.size,1,none⟩) (aAU _) (.slice (some ⟨gg,0,none⟩) ((gG good j).length+1) cc));have e1:=(bR.cell (p:=⟨gs,j,none⟩) (by show gs<w3.heap.size+1;omega)).trans cs;have d0:=s1.c1;have d1:=s1.fz 1 (by omega);have jw:Hid ((w5.setCell ⟨w3.heap.size,1,none⟩ (.slice (some ⟨gg,0,none⟩) ((gG good j).length+1) cc)).cell? ⟨gs,j,none⟩=some (.slice (some ⟨bb j,0,none⟩) n n)):=hid (by
      rw[aA0 _ _ _ _ (λe=>by have:=congrArg Addr.block e;simp at this;omega)];exact e1)
     refine hK.out _ _ e1 (λau=>?_);clear hK K bR hown hgrow hat s1 own;simp only[Act.put,aAT];refine aA4 (i:=11) (oi:={ dst:=some 37,op:=Op.nilCheck (.tmp 26),type:=_,pos:=_,after:=_,guard:=none }) (v:=(Value.pointer (some ⟨w3.heap.size,0,none⟩))) rfl (by kernel_rfl) (by kernel_rfl) (by kernel_rfl) (λ_ _ _ h=>h) (aA2 ⟨by rfl,by intro w' af;(try dsimp only at af);go_simp⟩) (by assumption) ?_
     simp only[Act.put];refine aA4 (i:=12) (oi:={ dst:=some 38,op:=Op.fieldAddr _ (.tmp 37) 1,type:=_,pos:=_,after:=_,guard:=none }) (v:=(Value.pointer (some ⟨w3.heap.size,1,none⟩))) rfl (by kernel_rfl) (by kernel_rfl) (by kernel_rfl) (λ_ _ _ h=>h) (aA2 ⟨by rfl,by intro w' af;(try dsimp only at af);go_simp⟩) (by assumption) ?_
     simp only[Act.put];refine aBc (rs:=[13]) (by kernel_rfl) (by simp) ?_;refine aA7 rfl (λK hK=>?_) aBb
     go_simp
     refine hK.out _ _ jw.out (λau=>?_);clear hK K;refine aBS (by kernel_rfl) ?_ _;clear au e1 d0 d1;go_wp2_with fail;go_roundw
     case rel=>exact⟨j+1,_,by omega,by go_num,T5.out,by rw[Xa.out.1,Xa.out.2];exact O5,BB.out⟩
     case measure=>simp[intOf];omega
    ·go_simp
     refine hK.out _ _ ?hs (λau=>?_)
     case hs=>first | go_keep | simp[*]
     clear hK K;refine aBc (rs:=[4]) (by kernel_rfl) (by simp) ?_;refine aA7 rfl (λK hK=>?_) aBb
     go_simp
     refine hK.out _ _ (by assumption) (λau=>?_);clear hK K;refine aBc (rs:=[10]) (by kernel_rfl) (by simp) ?_;refine aA7 rfl (λK hK=>?_) aBb;refine aBN _ (by rfl) (.tmp 30) (.tmp 35) 130 (by rfl) (w3.heap.size+1) 138 i1 (.slice none 0 0) 1 24 Tryz.underlying130 iC fe eZ eY rfl (by decide) _ (gG good j).length ((gG good j).map λq=>gD n (bb q)) (by rfl) ((own.alloc _).drew) ⟨wr.heap.size,0,none⟩ 1 1 [.slice (some ⟨bb j,0,none⟩) n n] (by rfl) (by rfl) (World.news_of_block (cs:=#[.slice (some ⟨bb j,0,none⟩) n n]) (t:=138) (fr:=(0,0)) (heap_alloc_new wr _)) (by simp[Value.oneCell']) (by decide) (by unfold maxLen;omega) (by omega) (by simp;omega) (wr.heap.size+1) (by simp) ?_;intro gg cc w5 hown hgrow hat gu;have bR:Below (w3.heap.size+1) wr w5:=(aBd ((aAW (w3.heap.size+1) wr).alloc (by omega) (.cells #[.slice (some ⟨bb j,0,none⟩) n n] 138)) 1).grown hgrow (by show w3.heap.size+1<=(wr.alloc (.cells #[.slice (some ⟨bb j,0,none⟩) n n] 138)).heap.size;rw[aAZ];omega) (λx h=>(own.lt x h).1);have s1:=t3.below bR (aBs _);have T5:=hid (s1.set1 (.slice (some ⟨gg,0,none⟩) ((gG good j).length+1) cc));have O5:=hid (ax hown (k:=w3.heap.size) (aBs _) 1 (.slice (some ⟨gg,0,none⟩) ((gG good j).length+1) cc));have BB:=hid ((aI.trans (bR.mono (by omega))).setCell (p:=⟨w3.heap.size,1,none⟩) (aAU _) (.slice (some ⟨gg,0,none⟩) ((gG good j).length+1) cc));have e1:=(bR.cell (p:=⟨gs,j,none⟩) (by show gs<w3.heap.size+1;omega)).trans cs;have d0:=s1.c1;have d1:=s1.fz 1 (by omega);have jw:Hid ((w5.setCell ⟨w3.heap.size,1,none⟩ (.slice (some ⟨gg,0,none⟩) ((gG good j).length+1) cc)).cell? ⟨gs,j,none⟩=some (.slice (some ⟨bb j,0,none⟩) n n)):=hid (by
      rw[aA0 _ _ _ _ (λe=>by have:=congrArg Addr.block e;simp at this;omega)];exact e1)
     refine hK.out _ _ e1 (λau=>?_);clear hK K bR hown hgrow hat s1 own;simp only[Act.put,aAT];refine aA4 (i:=11) (oi:={ dst:=some 37,op:=Op.nilCheck (.tmp 26),type:=_,pos:=_,after:=_,guard:=none }) (v:=(Value.pointer (some ⟨w3.heap.size,0,none⟩))) rfl (by kernel_rfl) (by kernel_rfl) (by kernel_rfl) (λ_ _ _ h=>h) (aA2 ⟨by rfl,by intro w' af;(try dsimp only at af);go_simp⟩) (by assumption) ?_
     simp only[Act.put];refine aA4 (i:=12) (oi:={ dst:=some 38,op:=Op.fieldAddr _ (.tmp 37) 1,type:=_,pos:=_,after:=_,guard:=none }) (v:=(Value.pointer (some ⟨w3.heap.size,1,none⟩))) rfl (by kernel_rfl) (by kernel_rfl) (by kernel_rfl) (λ_ _ _ h=>h) (aA2 ⟨by rfl,by intro w' af;(try dsimp only at af);go_simp⟩) (by assumption) ?_
     simp only[Act.put];refine aBc (rs:=[13]) (by kernel_rfl) (by simp) ?_;refine aA7 rfl (λK hK=>?_) aBb
     go_simp
     refine hK.out _ _ jw.out (λau=>?_);clear hK K;refine aBS (by kernel_rfl) ?_ _;clear au e1 d0 d1;go_wp2_with fail;go_roundw
     case rel=>exact⟨j+1,_,by omega,by go_num,T5.out,by rw[Xa.out.1,Xa.out.2];exact O5,BB.out⟩
     case measure=>simp[intOf];omega
  ·obtain rfl:j=N:=by omega
   have ib:=cu.out.trans (aI.mono cu.out.size);have SL2:Hid (wF wr w.heap.size v1 n (iA vs good j)):=hid (by
    have h:=Nv (w:=wr) (B:=w.heap.size) (B1:=w3.heap.size+1) (B2:=w.heap.size) (v:=v1) (n:=n) (vs:=vs) (good:=good) (bb:=bb) (by omega) (aAU _) (by rw[WW.out];exact HO.out) (λi hi=>ae (Py.out i (by rw[<-WW.out];exact hi)) aI);rw[WW.out]at h;exact h)
   have HPJ:(iA vs good j).length<=256:=aBO (HPL.out j) dw;have p1:=t3.c1;have CN:=hid (NA.out wr (iA vs good j) w.heap.size v1 ib SL2.out HPJ);have Ab:=hid ib;have tZ:=hid t3;clear t3;go_wp2_with fail;refine CN.out.mono ?_;rintro e w5 ⟨rfl,RH,bV⟩;obtain⟨v2,c20,aef⟩:=RH.c0;obtain⟨mH,p9,e2⟩:∃ mH p9,v2=.slice mH (iA vs good j).length p9:=by
    obtain⟨a3,b3,e3,_⟩:=aef;exact⟨a3,b3,e3⟩
   subst e2;have s5:=tZ.out.below bV hR;have q2:=s5.c2;have f2:=s5.fz 2 (by omega);have zZ:=hid (adJ aef s5.c0 (.slice mH (iA vs good j).length p9));have T6:=hid (s5.set2 (.slice mH (iA vs good j).length p9));have B36:=hid ((aI.trans (bV.mono (Nat.le_of_lt hR))).setCell (p:=⟨w3.heap.size,2,none⟩) (aAU _) (.slice mH (iA vs good j).length p9));have BW6:=hid (cu.out.trans (B36.out.mono cu.out.size));have O6:=hid (ax (ae HO.out bV) (k:=w3.heap.size) (aBs _) 2 (.slice mH (iA vs good j).length p9));have SL6:Hid (wF (w5.setCell ⟨w3.heap.size,2,none⟩ (.slice mH (iA vs good j).length p9)) w.heap.size v1 n (iA vs good j)):=hid (by
    have h:=Nv (w:=w5.setCell ⟨w3.heap.size,2,none⟩ (.slice mH (iA vs good j).length p9)) (B:=w.heap.size) (B1:=w3.heap.size+1) (B2:=w.heap.size) (v:=v1) (n:=n) (vs:=vs) (good:=good) (bb:=bb) (by omega) (aAU _) (by rw[WW.out];exact O6.out) (λi hi=>ae (Py.out i (by rw[<-WW.out];exact hi)) B36.out);rw[WW.out]at h;exact h)
   have RM:Hid (xu (w5.setCell ⟨w3.heap.size,2,none⟩ (.slice mH (iA vs good j).length p9)) w3.heap.size F gp cap ns bs (iA vs good j)):=hid ⟨T6.out.lt,PK.out.below BW6.out,T6.out.c0,⟨v1,T6.out.c1,by rw[HnL.out];exact adf hpos SL6.out⟩,⟨_,T6.out.c2,zZ.out⟩⟩;clear RH bV aef s5 SL6 O6 zZ T6 SL2 CN HO tZ;go_wp2_with fail;go_ret;exact⟨w3.heap.size,_,rfl,RM.out,Ei.out,HPJ,BW6.out⟩
section
variable (ns:List Nd) (bs:List Nat) (gw n dC back:Nat) (xs:List Nat)
theorem anf(hw:gZ ns)(fZ:xs.length=n)(hb:back<n)(iZ:n<=20000)(h8:∀ x∈xs,x<8)(k b:Nat)(nd:Nd)(hn:ns[k]?=some nd)(hop:nd.op=48)(w:World)(hp:Parts w ns bs)(di:Wd w gw n dC xs)(hbk:bs[k]?=some b) :
  Calls Tryz.prog 128 #[.pointer (some ⟨b,0,none⟩),.slice (some ⟨gw,0,none⟩) n dC,.int .i64 back] w (jE ns n back xs k w):=by
 have fV:w.heap[b]?=some (.cells #[.int .u8 (48:Nat),.pointer (none),.pointer (none),.int .i64 k] 204):=by
  obtain⟨b',e,hh⟩:=hp k nd hn;rw[hbk]at e;cases e;rw[hh];simp[bO,kK,kI,hop,bF,bQ]
 have ib:=dB fV;have hcap:=di.cap;have Bh:=di.lt;obtain⟨i0,hi,aR,aP,aN⟩:=info_parts Tryz.eD;go_enter Tryz.func128,Tryz.ntmps128;go_wp2_with (at_make;go_must (refine aBA _ rfl (.tmp 15) (.tmp 15) 132 rfl w.heap.size 4 i0 (.bool false) 1 Tryz.underlying132 hi aR aP .i64 .i64 n n n rfl rfl rfl rfl ?m2 ?m3 (aAU _) ?_))
 case m2=>rw[aN];omega
 case m3=>unfold maxLen;omega
 intro w1 aF aZ;have eo:(madeCells #[Value.bool false] n).toList=List.replicate n (.bool false):=aBq _ _;rw[eo]at aF;have aM:Below w.heap.size w w1:=(aAW _ _).grown aZ (aAU _) (λk h=>by cases h);have hs1:w.heap.size<w1.heap.size:=(aF.lt _ rfl).2;have fO:w1.heap[b]?=some (.cells #[.int .u8 (48:Nat),.pointer (none),.pointer (none),.int .i64 k] 204):=by rw[aM.block b ib];exact fV
 obtain⟨p0,p1,p2,_⟩:=aT fO;have aK:=hid aM;have O1:=hid aF;clear aF aZ eo aM;go_wp2_with fail;clear p0 p1 p2;have gq:=aK;have iP:=hid hs1;have mo:=hid fO;have OS:=O1;have jZ:=hid (by intro i hi;rw[iW hn hw];simp[kZ,hop]:∀ i,i<n->((λ_=>false) i=true↔fA (aU n back) (ltOf xs) ns k i));have tY:=hid (di.below gq.out);obtain⟨f,fP⟩:∃ f:Nat->Bool,f=(λ_=>false):=⟨_,rfl⟩;rw[<-fP]at jZ;have jS:=hid fP;clear fP
 go_loopw [11] (λi wr=>∃ j:Nat,j<=n/\i=.int .i64 j/\wr.ownsRow w.heap.size 4 1 (.slice (some ⟨w.heap.size,0,none⟩) n n) n (ay f n j)/\w1.grownBy wr (some w.heap.size)) (λi _=>n - (intOf i).toNat)
 case atStart=>exact⟨0,aA8 _,rfl,by rw[dh];exact OS.out,World.grownBy.refl _ _⟩
 case round=>
  obtain⟨j,hj,rfl,own,bg⟩:=hrel;by_cases hlt:j<n
  ·have jc:wr.heap[b]?=_:=(bg.block b (by have:=iP.out;omega) (by simp;omega)).trans mo.out;obtain⟨p0,p1,p2,_⟩:=aT jc;have q0:=own.frozenAt j;have q1:(wr.cell? ⟨w.heap.size,j,none⟩).isSome=true:=by
    rw[own.cellAt j (by omega)];simp[ay,hlt]
   obtain⟨qv,q2⟩:=aBD.1 q1;have hO:=own.stored j (.bool (f j));rw[fB]at hO;have HO:=hid hO.1;have HG:=hid (fU bg hO.2);clear hO q1 own;have FV:Hid (f j=false):=hid (by rw[jS.out]);clear bg jc;go_wp2_with fail;go_roundw
   case rel=>
    have o:=HO.out;have g:=HG.out;rw[FV.out]at g;exact⟨j+1,by omega,by go_num,by rw[FV.out]at o;exact o,g⟩
   case measure=>simp[intOf];omega
  ·have iB:j=n:=by omega
   rw[iB]at own;have RD:=hid (jD ns n back xs (k:=k) gq.out bg iP.out own jZ.out);clear own bg iB;go_wp2_with fail;go_ret;exact RD.out
theorem ane(hw:gZ ns)(fZ:xs.length=n)(hb:back<n)(iZ:n<=20000)(h8:∀ x∈xs,x<8)(k b:Nat)(nd:Nd)(hn:ns[k]?=some nd)(hop:nd.op=49)(w:World)(hp:Parts w ns bs)(di:Wd w gw n dC xs)(hbk:bs[k]?=some b) :
  Calls Tryz.prog 128 #[.pointer (some ⟨b,0,none⟩),.slice (some ⟨gw,0,none⟩) n dC,.int .i64 back] w (jE ns n back xs k w):=by
 have fV:w.heap[b]?=some (.cells #[.int .u8 (49:Nat),.pointer (none),.pointer (none),.int .i64 k] 204):=by
  obtain⟨b',e,hh⟩:=hp k nd hn;rw[hbk]at e;cases e;rw[hh];simp[bO,kK,kI,hop,bF,bQ]
 have ib:=dB fV;have hcap:=di.cap;have Bh:=di.lt;obtain⟨i0,hi,aR,aP,aN⟩:=info_parts Tryz.eD;go_enter Tryz.func128,Tryz.ntmps128;go_wp2_with (at_make;go_must (refine aBA _ rfl (.tmp 15) (.tmp 15) 132 rfl w.heap.size 4 i0 (.bool false) 1 Tryz.underlying132 hi aR aP .i64 .i64 n n n rfl rfl rfl rfl ?m2 ?m3 (aAU _) ?_))
 case m2=>rw[aN];omega
 case m3=>unfold maxLen;omega
 intro w1 aF aZ;have eo:(madeCells #[Value.bool false] n).toList=List.replicate n (.bool false):=aBq _ _;rw[eo]at aF;have aM:Below w.heap.size w w1:=(aAW _ _).grown aZ (aAU _) (λk h=>by cases h);have hs1:w.heap.size<w1.heap.size:=(aF.lt _ rfl).2;have fO:w1.heap[b]?=some (.cells #[.int .u8 (49:Nat),.pointer (none),.pointer (none),.int .i64 k] 204):=by rw[aM.block b ib];exact fV
 obtain⟨p0,p1,p2,_⟩:=aT fO;have aK:=hid aM;have O1:=hid aF;clear aF aZ eo aM;go_wp2_with fail;clear p0 p1 p2;have gq:=aK;have iP:=hid hs1;have mo:=hid fO;have OS:=O1;have jZ:=hid (by intro i hi;rw[iW hn hw];simp[kZ,hop]:∀ i,i<n->((λ_=>true) i=true↔fA (aU n back) (ltOf xs) ns k i));have tY:=hid (di.below gq.out);obtain⟨f,fP⟩:∃ f:Nat->Bool,f=(λ_=>true):=⟨_,rfl⟩;rw[<-fP]at jZ;have jS:=hid fP;clear fP
 go_loopw [11] (λi wr=>∃ j:Nat,j<=n/\i=.int .i64 j/\wr.ownsRow w.heap.size 4 1 (.slice (some ⟨w.heap.size,0,none⟩) n n) n (ay f n j)/\w1.grownBy wr (some w.heap.size)) (λi _=>n - (intOf i).toNat)
 case atStart=>exact⟨0,aA8 _,rfl,by rw[dh];exact OS.out,World.grownBy.refl _ _⟩
 case round=>
  obtain⟨j,hj,rfl,own,bg⟩:=hrel;by_cases hlt:j<n
  ·have jc:wr.heap[b]?=_:=(bg.block b (by have:=iP.out;omega) (by simp;omega)).trans mo.out;obtain⟨p0,p1,p2,_⟩:=aT jc;have q0:=own.frozenAt j;have q1:(wr.cell? ⟨w.heap.size,j,none⟩).isSome=true:=by
    rw[own.cellAt j (by omega)];simp[ay,hlt]
   obtain⟨qv,q2⟩:=aBD.1 q1;have hO:=own.stored j (.bool (f j));rw[fB]at hO;have HO:=hid hO.1;have HG:=hid (fU bg hO.2);clear hO q1 own;have FV:Hid (f j=true):=hid (by rw[jS.out]);clear bg jc;go_wp2_with fail;go_roundw
   case rel=>
    have o:=HO.out;have g:=HG.out;rw[FV.out]at g;exact⟨j+1,by omega,by go_num,by rw[FV.out]at o;exact o,g⟩
   case measure=>simp[intOf];omega
  ·have iB:j=n:=by omega
   rw[iB]at own;have RD:=hid (jD ns n back xs (k:=k) gq.out bg iP.out own jZ.out);clear own bg iB;go_wp2_with fail;go_ret;exact RD.out
theorem am7(hw:gZ ns)(fZ:xs.length=n)(hb:back<n)(iZ:n<=20000)(h8:∀ x∈xs,x<8)(k b:Nat)(nd:Nd)(hn:ns[k]?=some nd)(hop:nd.op=112)(w:World)(hp:Parts w ns bs)(di:Wd w gw n dC xs)(hbk:bs[k]?=some b) :
  Calls Tryz.prog 128 #[.pointer (some ⟨b,0,none⟩),.slice (some ⟨gw,0,none⟩) n dC,.int .i64 back] w (jE ns n back xs k w):=by
 have fV:w.heap[b]?=some (.cells #[.int .u8 (112:Nat),.pointer (none),.pointer (none),.int .i64 k] 204):=by
  obtain⟨b',e,hh⟩:=hp k nd hn;rw[hbk]at e;cases e;rw[hh];simp[bO,kK,kI,hop,bF,bQ]
 have ib:=dB fV;have hcap:=di.cap;have Bh:=di.lt;obtain⟨i0,hi,aR,aP,aN⟩:=info_parts Tryz.eD;go_enter Tryz.func128,Tryz.ntmps128;go_wp2_with (at_make;go_must (refine aBA _ rfl (.tmp 15) (.tmp 15) 132 rfl w.heap.size 4 i0 (.bool false) 1 Tryz.underlying132 hi aR aP .i64 .i64 n n n rfl rfl rfl rfl ?m2 ?m3 (aAU _) ?_))
 case m2=>rw[aN];omega
 case m3=>unfold maxLen;omega
 intro w1 aF aZ;have eo:(madeCells #[Value.bool false] n).toList=List.replicate n (.bool false):=aBq _ _;rw[eo]at aF;have aM:Below w.heap.size w w1:=(aAW _ _).grown aZ (aAU _) (λk h=>by cases h);have hs1:w.heap.size<w1.heap.size:=(aF.lt _ rfl).2;have fO:w1.heap[b]?=some (.cells #[.int .u8 (112:Nat),.pointer (none),.pointer (none),.int .i64 k] 204):=by rw[aM.block b ib];exact fV
 obtain⟨p0,p1,p2,_⟩:=aT fO;have aK:=hid aM;have O1:=hid aF;clear aF aZ eo aM;go_wp2_with fail;clear p0 p1 p2;have gq:=aK;have iP:=hid hs1;have mo:=hid fO;have OS:=O1;have jZ:=hid (by intro i hi;rw[iW hn hw];simp[kZ,hop,jU]:∀ i,i<n->((λi=>jU (ltOf xs i) 112) i=true↔fA (aU n back) (ltOf xs) ns k i));have tY:=hid (di.below gq.out);obtain⟨f,fP⟩:∃ f:Nat->Bool,f=(λi=>jU (ltOf xs i) 112):=⟨_,rfl⟩;rw[<-fP]at jZ;have jS:=hid fP;clear fP
 go_loopw [11] (λi wr=>∃ j:Nat,j<=n/\i=.int .i64 j/\wr.ownsRow w.heap.size 4 1 (.slice (some ⟨w.heap.size,0,none⟩) n n) n (ay f n j)/\w1.grownBy wr (some w.heap.size)) (λi _=>n - (intOf i).toNat)
 case atStart=>exact⟨0,aA8 _,rfl,by rw[dh];exact OS.out,World.grownBy.refl _ _⟩
 case round=>
  obtain⟨j,hj,rfl,own,bg⟩:=hrel;by_cases hlt:j<n
  ·have jc:wr.heap[b]?=_:=(bg.block b (by have:=iP.out;omega) (by simp;omega)).trans mo.out;obtain⟨p0,p1,p2,_⟩:=aT jc;have q0:=own.frozenAt j;have q1:(wr.cell? ⟨w.heap.size,j,none⟩).isSome=true:=by
    rw[own.cellAt j (by omega)];simp[ay,hlt]
   obtain⟨qv,q2⟩:=aBD.1 q1;have hO:=own.stored j (.bool (f j));rw[fB]at hO;have HO:=hid hO.1;have HG:=hid (fU bg hO.2);clear hO q1 own;have FV:Hid (f j=jU (ltOf xs j) 112):=hid (by rw[jS.out]);have c:=(jd (o:=j) bg tY.out.lt (by omega)).trans (tY.out.cell j hlt);have Rw:ltOf xs j<8:=h8 _ (by simp[ltOf,List.getD,aAV (show j<xs.length by omega)]);generalize ltOf xs j=x at *;clear bg jc;go_wp2_with fail
   go_region_with (go_at_call 127;refine(Cr x 112 _ Rw (by omega)).mono ?_;rintro e w' ⟨rfl,rfl⟩)
   all_goals
    go_wp2_with fail;go_roundw
    case rel=>
     have o:=HO.out;have g:=HG.out;rw[FV.out]at g;exact⟨j+1,by omega,by go_num,by rw[FV.out]at o;exact o,CW g⟩
    case measure=>simp[intOf];omega
  ·have iB:j=n:=by omega
   rw[iB]at own;have RD:=hid (jD ns n back xs (k:=k) gq.out bg iP.out own jZ.out);clear own bg iB;go_wp2_with fail;go_ret;exact RD.out
theorem am6(hw:gZ ns)(fZ:xs.length=n)(hb:back<n)(iZ:n<=20000)(h8:∀ x∈xs,x<8)(k b:Nat)(nd:Nd)(hn:ns[k]?=some nd)(hop:nd.op=113)(w:World)(hp:Parts w ns bs)(di:Wd w gw n dC xs)(hbk:bs[k]?=some b) :
  Calls Tryz.prog 128 #[.pointer (some ⟨b,0,none⟩),.slice (some ⟨gw,0,none⟩) n dC,.int .i64 back] w (jE ns n back xs k w):=by
 have fV:w.heap[b]?=some (.cells #[.int .u8 (113:Nat),.pointer (none),.pointer (none),.int .i64 k] 204):=by
  obtain⟨b',e,hh⟩:=hp k nd hn;rw[hbk]at e;cases e;rw[hh];simp[bO,kK,kI,hop,bF,bQ]
 have ib:=dB fV;have hcap:=di.cap;have Bh:=di.lt;obtain⟨i0,hi,aR,aP,aN⟩:=info_parts Tryz.eD;go_enter Tryz.func128,Tryz.ntmps128;go_wp2_with (at_make;go_must (refine aBA _ rfl (.tmp 15) (.tmp 15) 132 rfl w.heap.size 4 i0 (.bool false) 1 Tryz.underlying132 hi aR aP .i64 .i64 n n n rfl rfl rfl rfl ?m2 ?m3 (aAU _) ?_))
 case m2=>rw[aN];omega
 case m3=>unfold maxLen;omega
 intro w1 aF aZ;have eo:(madeCells #[Value.bool false] n).toList=List.replicate n (.bool false):=aBq _ _;rw[eo]at aF;have aM:Below w.heap.size w w1:=(aAW _ _).grown aZ (aAU _) (λk h=>by cases h);have hs1:w.heap.size<w1.heap.size:=(aF.lt _ rfl).2;have fO:w1.heap[b]?=some (.cells #[.int .u8 (113:Nat),.pointer (none),.pointer (none),.int .i64 k] 204):=by rw[aM.block b ib];exact fV
 obtain⟨p0,p1,p2,_⟩:=aT fO;have aK:=hid aM;have O1:=hid aF;clear aF aZ eo aM;go_wp2_with fail;clear p0 p1 p2;have gq:=aK;have iP:=hid hs1;have mo:=hid fO;have OS:=O1;have jZ:=hid (by intro i hi;rw[iW hn hw];simp[kZ,hop,jU]:∀ i,i<n->((λi=>jU (ltOf xs i) 113) i=true↔fA (aU n back) (ltOf xs) ns k i));have tY:=hid (di.below gq.out);obtain⟨f,fP⟩:∃ f:Nat->Bool,f=(λi=>jU (ltOf xs i) 113):=⟨_,rfl⟩;rw[<-fP]at jZ;have jS:=hid fP;clear fP
 go_loopw [11] (λi wr=>∃ j:Nat,j<=n/\i=.int .i64 j/\wr.ownsRow w.heap.size 4 1 (.slice (some ⟨w.heap.size,0,none⟩) n n) n (ay f n j)/\w1.grownBy wr (some w.heap.size)) (λi _=>n - (intOf i).toNat)
 case atStart=>exact⟨0,aA8 _,rfl,by rw[dh];exact OS.out,World.grownBy.refl _ _⟩
 case round=>
  obtain⟨j,hj,rfl,own,bg⟩:=hrel;by_cases hlt:j<n
  ·have jc:wr.heap[b]?=_:=(bg.block b (by have:=iP.out;omega) (by simp;omega)).trans mo.out;obtain⟨p0,p1,p2,_⟩:=aT jc;have q0:=own.frozenAt j;have q1:(wr.cell? ⟨w.heap.size,j,none⟩).isSome=true:=by
    rw[own.cellAt j (by omega)];simp[ay,hlt]
   obtain⟨qv,q2⟩:=aBD.1 q1;have hO:=own.stored j (.bool (f j));rw[fB]at hO;have HO:=hid hO.1;have HG:=hid (fU bg hO.2);clear hO q1 own;have FV:Hid (f j=jU (ltOf xs j) 113):=hid (by rw[jS.out]);have c:=(jd (o:=j) bg tY.out.lt (by omega)).trans (tY.out.cell j hlt);have Rw:ltOf xs j<8:=h8 _ (by simp[ltOf,List.getD,aAV (show j<xs.length by omega)]);generalize ltOf xs j=x at *;clear bg jc;go_wp2_with fail
   go_region_with (go_at_call 127;refine(Cr x 113 _ Rw (by omega)).mono ?_;rintro e w' ⟨rfl,rfl⟩)
   all_goals
    go_wp2_with fail;go_roundw
    case rel=>
     have o:=HO.out;have g:=HG.out;rw[FV.out]at g;exact⟨j+1,by omega,by go_num,by rw[FV.out]at o;exact o,CW g⟩
    case measure=>simp[intOf];omega
  ·have iB:j=n:=by omega
   rw[iB]at own;have RD:=hid (jD ns n back xs (k:=k) gq.out bg iP.out own jZ.out);clear own bg iB;go_wp2_with fail;go_ret;exact RD.out
theorem am5(hw:gZ ns)(fZ:xs.length=n)(hb:back<n)(iZ:n<=20000)(h8:∀ x∈xs,x<8)(k b:Nat)(nd:Nd)(hn:ns[k]?=some nd)(hop:nd.op=114)(w:World)(hp:Parts w ns bs)(di:Wd w gw n dC xs)(hbk:bs[k]?=some b) :
  Calls Tryz.prog 128 #[.pointer (some ⟨b,0,none⟩),.slice (some ⟨gw,0,none⟩) n dC,.int .i64 back] w (jE ns n back xs k w):=by
 have fV:w.heap[b]?=some (.cells #[.int .u8 (114:Nat),.pointer (none),.pointer (none),.int .i64 k] 204):=by
  obtain⟨b',e,hh⟩:=hp k nd hn;rw[hbk]at e;cases e;rw[hh];simp[bO,kK,kI,hop,bF,bQ]
 have ib:=dB fV;have hcap:=di.cap;have Bh:=di.lt;obtain⟨i0,hi,aR,aP,aN⟩:=info_parts Tryz.eD;go_enter Tryz.func128,Tryz.ntmps128;go_wp2_with (at_make;go_must (refine aBA _ rfl (.tmp 15) (.tmp 15) 132 rfl w.heap.size 4 i0 (.bool false) 1 Tryz.underlying132 hi aR aP .i64 .i64 n n n rfl rfl rfl rfl ?m2 ?m3 (aAU _) ?_))
 case m2=>rw[aN];omega
 case m3=>unfold maxLen;omega
 intro w1 aF aZ;have eo:(madeCells #[Value.bool false] n).toList=List.replicate n (.bool false):=aBq _ _;rw[eo]at aF;have aM:Below w.heap.size w w1:=(aAW _ _).grown aZ (aAU _) (λk h=>by cases h);have hs1:w.heap.size<w1.heap.size:=(aF.lt _ rfl).2;have fO:w1.heap[b]?=some (.cells #[.int .u8 (114:Nat),.pointer (none),.pointer (none),.int .i64 k] 204):=by rw[aM.block b ib];exact fV
 obtain⟨p0,p1,p2,_⟩:=aT fO;have aK:=hid aM;have O1:=hid aF;clear aF aZ eo aM;go_wp2_with fail;clear p0 p1 p2;have gq:=aK;have iP:=hid hs1;have mo:=hid fO;have OS:=O1;have jZ:=hid (by intro i hi;rw[iW hn hw];simp[kZ,hop,jU]:∀ i,i<n->((λi=>jU (ltOf xs i) 114) i=true↔fA (aU n back) (ltOf xs) ns k i));have tY:=hid (di.below gq.out);obtain⟨f,fP⟩:∃ f:Nat->Bool,f=(λi=>jU (ltOf xs i) 114):=⟨_,rfl⟩;rw[<-fP]at jZ;have jS:=hid fP;clear fP
 go_loopw [11] (λi wr=>∃ j:Nat,j<=n/\i=.int .i64 j/\wr.ownsRow w.heap.size 4 1 (.slice (some ⟨w.heap.size,0,none⟩) n n) n (ay f n j)/\w1.grownBy wr (some w.heap.size)) (λi _=>n - (intOf i).toNat)
 case atStart=>exact⟨0,aA8 _,rfl,by rw[dh];exact OS.out,World.grownBy.refl _ _⟩
 case round=>
  obtain⟨j,hj,rfl,own,bg⟩:=hrel;by_cases hlt:j<n
  ·have jc:wr.heap[b]?=_:=(bg.block b (by have:=iP.out;omega) (by simp;omega)).trans mo.out;obtain⟨p0,p1,p2,_⟩:=aT jc;have q0:=own.frozenAt j;have q1:(wr.cell? ⟨w.heap.size,j,none⟩).isSome=true:=by
    rw[own.cellAt j (by omega)];simp[ay,hlt]
   obtain⟨qv,q2⟩:=aBD.1 q1;have hO:=own.stored j (.bool (f j));rw[fB]at hO;have HO:=hid hO.1;have HG:=hid (fU bg hO.2);clear hO q1 own;have FV:Hid (f j=jU (ltOf xs j) 114):=hid (by rw[jS.out]);have c:=(jd (o:=j) bg tY.out.lt (by omega)).trans (tY.out.cell j hlt);have Rw:ltOf xs j<8:=h8 _ (by simp[ltOf,List.getD,aAV (show j<xs.length by omega)]);generalize ltOf xs j=x at *;clear bg jc;go_wp2_with fail
   go_region_with (go_at_call 127;refine(Cr x 114 _ Rw (by omega)).mono ?_;rintro e w' ⟨rfl,rfl⟩)
   all_goals
    go_wp2_with fail;go_roundw
    case rel=>
     have o:=HO.out;have g:=HG.out;rw[FV.out]at g;exact⟨j+1,by omega,by go_num,by rw[FV.out]at o;exact o,CW g⟩
    case measure=>simp[intOf];omega
  ·have iB:j=n:=by omega
   rw[iB]at own;have RD:=hid (jD ns n back xs (k:=k) gq.out bg iP.out own jZ.out);clear own bg iB;go_wp2_with fail;go_ret;exact RD.out
end
