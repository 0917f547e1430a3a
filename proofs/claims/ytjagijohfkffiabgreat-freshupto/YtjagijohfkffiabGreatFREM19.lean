import Derived.Test.YtjagijohfkffiabGreatFREM18
set_option maxHeartbeats 16000000
set_option maxRecDepth 100000
set_option linter.unusedSimpArgs false
namespace Go.Proofs.YtjagijohfkffiabGreat
open Go.RowKit
set_option linter.unusedVariables false
def yO(f:Nat->Nat)(k:Nat):Nat->Nat:=λi=>if i<k then f i else 0
theorem Xv(f:Nat->Nat)(k:Nat):Xt (yO f k) k (f k)=yO f (k+1):=by
 funext j;unfold Xt yO;by_cases e:j=k
 ·subst e;simp
 ·by_cases h:j<k
  ·rw[aBT e,aBU h,aBU (by omega)]
  ·rw[aBT e,aBT h,aBT (by omega)]
theorem Xu(f:Nat->Nat):yO f 0=λ_=>0:=by funext j;simp[yO]
def bH(ns:List Nd)(k:Nat):List (Nat->Bool):=((List.range k).filter λi=>lI (aA ns i).op).map λi=>kN i (iR (aA ns i))
theorem FZ(ns:List Nd)(k:Nat):bH ns (k+1)=bH ns k++(if lI (aA ns k).op=true then [kN k (iR (aA ns k))] else []):=by
 unfold bH;rw[aBL,List.filter_append,aBE];cases e:lI (aA ns k).op <;> simp[e]
theorem uU(ns:List Nd):∀ k,(bH ns k).length<=k
 | 0=>by simp[bH]
 | k+1=>by
  have:=uU ns k;rw[FZ,aA5]
  split <;> simp <;> omega
theorem Da(cs:List (Nat->Bool))(c:Nat->Bool):mV (cs++[c])=mV cs++gv c:=by simp[mV]
theorem Ip.drew{w:World}{gn:Nat}{ns:List Nd}(h:Ip w gn ns):Ip w.drew gn ns:=⟨h.lt,h.c0,h.c1,h.c2⟩
theorem dE.drew{w:World}{b N:Nat}{c:Nat->Value}(h:dE w b N c):dE w.drew b N c:=⟨h.c,h.f⟩
theorem UY{w:World}{b o n:Nat}(h:w.there b o n):w.drew.there b o n:=h
theorem Jk(w:World)(g:Nat->Bool)(t:TypeId):∀ j u,(gv g)[j]?=some u->(w.alloc (.cells (gv g).toArray t)).cell? ((⟨w.heap.size,0,none⟩:Addr).add j)=some u:=λj u hj=>by
 rw[Addr.add_mid];exact(uF w g t).tJ j u hj
def lh(w:World)(B:Nat)(sl:Value)(cs:List (Nat->Bool)):Prop:=∃ ao cap,sl=.slice ao cs.length cap/\(0<cs.length->∃ gc,ao=some ⟨gc,0,none⟩/\B<=gc/\gc<w.heap.size/\∀ k c,cs[k]?=some c->bC w gc (k*256) c)
theorem abP{w:World}{B:Nat}{sl:Value}{cs:List (Nat->Bool)}(h:w.ownsRow B 61 256 sl cs.length (mV cs)):lh w B sl cs:=by
 obtain⟨ao,cap,e,h2⟩:=F9 h;refine⟨ao,cap,e,λh0=>?_⟩;obtain⟨gc,h3,h4,h5⟩:=h2 h0;subst h3;subst e;exact⟨gc,rfl,(h.lt _ rfl).1,h4,h5⟩
theorem lh.v{w:World}{B:Nat}{sl:Value}{cs:List (Nat->Bool)}(h:lh w B sl cs):Du w sl cs:=by
 obtain⟨ao,cap,e,h2⟩:=h;exact⟨ao,cap,e,λh0=>(h2 h0).imp λgc ⟨a,_,b,c⟩=>⟨a,b,c⟩⟩
theorem lh.one{w:World}{B:Nat}{sl:Value}{cs:List (Nat->Bool)}(h:lh w B sl cs):sl.oneCell'=true:=by
 obtain⟨ao,cap,rfl,_⟩:=h;rfl
theorem lh.below{w w':World}{B:Nat}{sl:Value}{cs:List (Nat->Bool)}(h:lh w B sl cs)(hb:Below w.heap.size w w'):lh w' B sl cs:=by
 obtain⟨ao,cap,h1,h2⟩:=h;refine⟨ao,cap,h1,λh0=>?_⟩;obtain⟨gc,h3,h6,h4,h5⟩:=h2 h0;exact⟨gc,h3,h6,aBi h4 hb.size,λk c hk=>(h5 k c hk).below hb h4⟩
theorem lh.stored{w w1:World}{B b o:Nat}{sl:Value}{cs:List (Nat->Bool)}{g:Nat->Bool}(h:lh w B sl cs)(s:uK w b o g w1)(hb:b<B):lh w1 B sl cs:=by
 obtain⟨ao,cap,h1,h2⟩:=h;refine⟨ao,cap,h1,λh0=>?_⟩;obtain⟨gc,h3,h6,h4,h5⟩:=h2 h0;exact⟨gc,h3,h6,by rw[s.size];exact h4,λk c hk=>s.zG (h5 k c hk) (aA2 (by omega))⟩
theorem lh.LU{w w1:World}{B b N:Nat}{sl:Value}{cs:List (Nat->Bool)}{r:Nat->Value}(h:lh w B sl cs)(s:Bw w b N r w1)(hb:b<B):lh w1 B sl cs:=by
 obtain⟨ao,cap,h1,h2⟩:=h;refine⟨ao,cap,h1,λh0=>?_⟩;obtain⟨gc,h3,h6,h4,h5⟩:=h2 h0;exact⟨gc,h3,h6,by rw[s.size];exact h4,λk c hk=>⟨λj hj=>by rw[s.cell ⟨gc,k*256+j,none⟩ (by show gc≠b;omega)];exact(h5 k c hk).c j hj,λj hj=>by rw[s.fz];exact(h5 k c hk).f j hj⟩⟩
theorem lh.set{w:World}{B:Nat}{sl:Value}{cs:List (Nat->Bool)}(h:lh w B sl cs)(p:Addr)(v:Value)(hb:p.block<B):lh (w.setCell p v) B sl cs:=by
 obtain⟨ao,cap,h1,h2⟩:=h;refine⟨ao,cap,h1,λh0=>?_⟩;obtain⟨gc,h3,h6,h4,h5⟩:=h2 h0;exact⟨gc,h3,h6,by rw[aBj];exact h4,λk c hk=>(h5 k c hk).other p v (aA2 (by omega))⟩
theorem ahN{fn:Func}{p b N:Nat}{ty:TypeId}{d:TypeDesc}{c:Nat->Value}{a:Act}{w:World}{R:Ending->World->Prop}(h:fn.results=#[.cell p ty])(hd:a.defers=[])(hp:a.tmps.getD p undef=.pointer (some ⟨b,0,none⟩))
  (hg:dE w b N c) (hu:Tryz.prog.underlying ty=some d) (hr:d.isRow=true) (hs:(Tryz.prog.info? ty).map (·.size)=some N) (hR:R (.returned (.agg (rv c N).toArray)) w):bodyPost Tryz.prog fn R .ret a w:=by
 refine bodyPost_ret (v:=.agg (rv c N).toArray) ?_ hd hR;rw[mM h,hp];simp only[asAddr,Sem.run_pure,Result.andThen_ok];exact run_loadVar_mid w b 0 _ (rv c N) d hg.tJ hu hr (by rw[oJ];exact hs)
def bu(ns:List Nd)(aa:Nat->Bool):Nat->Bool:=λv=>aa v&&v.testBit (ns.length - 1)
theorem Tryz.adC:∃ d,Tryz.prog.underlying 63=some d/\d.isRow=true:=⟨_,Tryz.underlying63,rfl⟩
theorem Rm(gn m1 Mg:Nat)(ns:List Nd)(w:World)(hm:Ip w gn ns)(hg:Good ns)(V8:ns.length=m1+1) :
  Calls Tryz.prog 31 #[.slice (some ⟨gn,0,none⟩) (m1+1) Mg] w λe w'=>∃ sl aa,e=.returned (.agg (rv (dM (nO ns) sl aa (bu ns aa)) 2561).toArray)/\jQ ns (bH ns ns.length) aa/\Du w' sl (bH ns ns.length)/\sl.oneCell'=true/\Below w.heap.size w w':=by
 have h8:=hg.le;have HG:=hid hg;have HM:=hid hm;have E9:=hm.lt;have nJ:=hid V8;have hm8:m1+1<=8:=by omega
 obtain⟨od,hod,RF⟩:=Tryz.adC;have HOD:=hid (And.intro hod RF);have BP:=hid Tryz.IW;have HZC:Hid ((Value.agg (gv λ_=>false).toArray).cells.size=256):=hid (by show (gv λ_=>false).toArray.size=256;rw[List.size_toArray,kD]);obtain⟨i0,hi,aR,aP,aN⟩:=info_parts Tryz.EN;clear hg hm V8 hod RF;go_enter Tryz.func31,Tryz.ntmps31;go_wp2_with (refine fH rfl 63 (.tmp 3) (.tmp 11) rfl (w.heap.size+1) 2561 (dM (λ_=>0) (.slice none 0 0) (λ_=>false) (λ_=>false)) rfl (congrArg Value.agg BP.out) ?t1 Tryz.xA (CB _ _ _ rfl) ?_)
 case t1=>
  have:=pE (w.alloc (.cells Tryz.zeroCells63 63)) (dM (λ_=>0) (.slice none 0 0) (λ_=>false) (λ_=>false)) 2561 63;rw[<-BP.out,size_alloc]at this;exact this.there 0 2561 (by omega)
 intro w1 S1;have R3:=hid S1.at_;have R2:Hid (dE w1 w.heap.size 2561 (dM (λ_=>0) (.slice none 0 0) (λ_=>false) (λ_=>false))):=by
  have:=pE w (dM (λ_=>0) (.slice none 0 0) (λ_=>false) (λ_=>false)) 2561 63;rw[<-BP.out]at this;exact hid (S1.raw (this.below ((aAW (w.heap.size+1) _).alloc (by simp) (.cells Tryz.zeroCells63 63)) (by omega)) (by omega))
 have aK:Hid (Below w.heap.size w w1):=hid (S1.bG _ _ (by omega) (((aAW _ _).alloc (aAU _) _).alloc (by simp) _));have hs1:w.heap.size+1<w1.heap.size:=by rw[S1.size];simp
 have R2:=hid (R2.out.there 0 2561 (by omega));clear S1;go_wp2_with fail
 go_loopw [12] (λi wq=>∃ x:Nat,x<=8/\i=.int .i64 x/\Hid (dE wq (w.heap.size+1) 2561 (dM (yO (nO ns) (x*256)) (.slice none 0 0) (λ_=>false) (λ_=>false)))/\Hid (wq.there w.heap.size 0 2561)/\w.heap.size+1<wq.heap.size/\Hid (Below w.heap.size w wq)) (λi _=>8 - (intOf i).toNat)
 case atStart=>exact⟨0,by omega,rfl,by rw[Nat.zero_mul,Xu];exact R3,R2,hs1,aK⟩
 case round=>
  obtain⟨x,hx,rfl,H3,H2,hz,HB⟩:=hrel;rename World=>W0;by_cases fZ:x<8
  ·go_wp2_with fail
   go_loopw [15] (λi wq=>∃ N:Nat,N<=256/\i=.int .i64 N/\Hid (dE wq (w.heap.size+1) 2561 (dM (yO (nO ns) (x*256+N)) (.slice none 0 0) (λ_=>false) (λ_=>false)))/\Hid (wq.there w.heap.size 0 2561)/\w.heap.size+1<wq.heap.size/\Hid (Below w.heap.size w wq)) (λi _=>256 - (intOf i).toNat)
   case atStart=>exact⟨0,by omega,rfl,H3,H2,hz,HB⟩
   case round=>
    obtain⟨N,hN,rfl,H3,H2,hz,HB⟩:=hrel;rename World=>W3;by_cases hlN:N<256
    ·have BF:=λW (h:Ip W gn ns)=>YT gn (m1+1) Mg x N ns W h HG.out nJ.out fZ hlN;have HND:=hid (HM.out.below HB.out E9).drew;have H3:=hid H3.out.drew;have H2:=hid (UY H2.out);have HB:=hid HB.out.drew;have hz':w.heap.size+1<W3.drew.heap.size:=hz;have HE:Hid (nO ns (x*256+N)=gY ns x N):=hid (by unfold nO;rw[show (x*256+N) / 256=x by omega,show (x*256+N) % 256=N by omega]);go_wp2_with fail
     go_region_held3 (λ_=>True) (trivial) ((go_at_call 62;refine(BF _ (by exact HND.out)).mono ?_;rintro e w9 ⟨rfl,sJ⟩;have q0:=(H3.out.below sJ hz').f (x*256+N) (by omega);have q1:=(H3.out.below sJ hz').c (x*256+N) (by omega)))
     have D3:=hid ((H3.out.below sJ hz').set (x*256+N) (.int .u8 (gY ns x N:Nat)));rw[adE _ _ _ _ (by omega),<-HE.out,Xv,HE.out]at D3;have D2:Hid ((w9.setCell ⟨w.heap.size+1,x*256+N,none⟩ (.int .u8 (gY ns x N:Nat))).there w.heap.size 0 2561):=hid (λj hj=>by
      obtain⟨a1,a2⟩:=H2.out j hj;rw[aBe,aA0 _ _ _ _ (λe=>by have:=congrArg Addr.block e;simp at this),sJ.cell (p:=⟨w.heap.size,0+j,none⟩) (by show w.heap.size<W3.drew.heap.size;omega),sJ.frozen (p:=⟨w.heap.size,0+j,none⟩) (by show w.heap.size<W3.drew.heap.size;omega)];exact⟨a1,a2⟩)
     have DB:=hid ((HB.out.trans (sJ.mono (by have:=HB.out.size;omega))).setCell (p:=⟨w.heap.size+1,x*256+N,none⟩) (by show w.heap.size<=w.heap.size+1;omega) (.int .u8 (gY ns x N:Nat)));have hz9:w.heap.size+1<w9.heap.size:=aBi hz' sJ.size;clear sJ q0 q1 H3 H2 HB BF;go_wp2_with fail;go_roundw
     case rel=>exact⟨N+1,by omega,by go_num,D3,D2,by simp;omega,DB⟩
     case measure=>simp[intOf];omega
    ·obtain rfl:N=256:=by omega
     go_wp2_with fail;go_roundw
     case rel=>exact⟨x+1,by omega,by go_num,by rw[show (x+1)*256=x*256+256 by omega];exact H3,H2,hz,HB⟩
     case measure=>simp[intOf];omega
  ·obtain rfl:x=8:=by omega
   have H3:=hid (H3.out.congr (d:=dM (nO ns) (.slice none 0 0) (λ_=>false) (λ_=>false)) (λj hj=>by
    unfold dM yO;by_cases h1:j<2048
    ·rw[aBU h1,aBU h1,aBU (by omega)]
    ·rw[aBT h1,aBT h1]))
   go_wp2_with fail
   go_loopw [31] (λi wq=>∃ (k:Nat) (sl:Value),k<=m1+1/\i=.int .i64 k/\Hid (dE wq (w.heap.size+1) 2561 (dM (nO ns) sl (λ_=>false) (λ_=>false)))/\Hid (wq.ownsRow (w.heap.size+2) 61 256 sl (bH ns k).length (mV (bH ns k)))/\Hid (wq.there w.heap.size 0 2561)/\w.heap.size+1<wq.heap.size/\Hid (Below w.heap.size w wq)) (λi _=>m1+1 - (intOf i).toNat)
   case atStart=>exact⟨0,_,by omega,rfl,H3,hid (aBh _ _ _ _),H2,hz,HB⟩
   case round=>
    obtain⟨k,sl,hk,rfl,H3,HO,H2,hz,HB⟩:=hrel;rename World=>W4;by_cases hlk:k<m1+1
    ·have V9:k<8:=by omega
     obtain⟨h1,h2⟩:=gZ.small HG.out.wf HG.out.le (mr (ns:=ns) (k:=k) (by rw[nJ.out];exact hlk));have n0:=(HB.out.cell (p:=⟨gn,k*3,none⟩) E9).trans (HM.out.c0 k (by rw[nJ.out];exact hlk));have n1:=(HB.out.cell (p:=⟨gn,k*3+1,none⟩) E9).trans (HM.out.c1 k (by rw[nJ.out];exact hlk));have n2:=(HB.out.cell (p:=⟨gn,k*3+2,none⟩) E9).trans (HM.out.c2 k (by rw[nJ.out];exact hlk));have HS:=hid (FZ ns k);have hcl:=uU ns k;have LW:=λW=>Zg (aA ns k) W;have LS:=λW=>U6 (aA ns k) k W V9 h1 h2;unfold DD at LW LS;generalize aA ns k=nd at *;generalize bH ns k=cs at *;go_wp2_with fail;refine(LW _).mono ?_;rintro e w5 ⟨rfl,bV⟩;have TB:Below W4.heap.size W4 w5:=((aAW _ _).alloc (aAU _) (.cells #[.int .u8 nd.op,.int .i64 nd.l,.int .i64 nd.r] 109)).trans (bV.mono (by simp));have UL:=hid (H3.out.below TB hz);have Lp:=hid (ae HO.out TB);have Xl:Hid (w5.there w.heap.size 0 2561):=hid (λj hj=>by
      rw[TB.cell (p:=⟨w.heap.size,0+j,none⟩) (by show w.heap.size<_;omega),TB.frozen (p:=⟨w.heap.size,0+j,none⟩) (by show w.heap.size<_;omega)];exact H2.out j hj)
     have iM:=hid (HB.out.trans (TB.mono (by omega)));have tL:=TB.size;have b0:w5.cell? ⟨W4.heap.size,0,none⟩=some (.int .u8 nd.op):=(bV.cell (p:=⟨W4.heap.size,0,none⟩) (by simp)).trans (by simp);have b1:w5.cell? ⟨W4.heap.size,1,none⟩=some (.int .i64 nd.l):=(bV.cell (p:=⟨W4.heap.size,1,none⟩) (by simp)).trans (by simp);have b2:w5.cell? ⟨W4.heap.size,2,none⟩=some (.int .i64 nd.r):=(bV.cell (p:=⟨W4.heap.size,2,none⟩) (by simp)).trans (by simp);clear bV TB H3 HO H2 HB n0 n1 n2 LW;cases hwv:lI nd.op with
     | false=>
      rw[hwv]at HS;clear hwv;go_wp2_with fail;go_roundw
      case rel=>exact⟨k+1,sl,by omega,by go_num,UL,by rw[HS.out];simpa using Lp,Xl,by omega,iM⟩
      case measure=>simp[intOf];omega
     | true=>
      rw[hwv]at HS;clear hwv;go_wp2_with fail;refine(LS _).mono ?_;rintro e w6 ⟨rfl,jG⟩;have tK:=jG.size;clear LS b0 b1 b2;go_wp2_with (refine bW rfl (.tmp 8) (.tmp 40) rfl w6.heap.size 0 (kN k (iR nd)) rfl rfl (gN w6).there ?_);intro w7 S7;have WG:Below w5.heap.size w5 w7:=S7.bG _ _ tK (jG.alloc tK _);have H37:=hid (UL.out.below WG (by omega));have Us:=hid (ae Lp.out WG);have H27:Hid (w7.there w.heap.size 0 2561):=hid (λj hj=>by
       rw[WG.cell (p:=⟨w.heap.size,0+j,none⟩) (by show w.heap.size<_;omega),WG.frozen (p:=⟨w.heap.size,0+j,none⟩) (by show w.heap.size<_;omega)];exact Xl.out j hj)
      have iG:=hid (iM.out.trans (WG.mono (by omega)));have A8:=hid S7.at_;have vE:w7.heap.size=w6.heap.size+1:=by rw[S7.size];simp
      have csl:=JS H37.out;have cfz:=H37.out.f 2048 (by omega);clear S7 WG jG UL Lp Xl iM;generalize Bj:kN k (iR nd)=gc at *;go_wp2_with (first | (refine aQ rfl (.tmp 8) rfl w6.heap.size 0 gc rfl A8.out ?_) | (refine xM rfl (.tmp 43) rfl gc rfl ?_) | (at_builtin;go_must (refine wpList_append_own _ rfl (.tmp 42) (.tmp 44) 59 rfl (w.heap.size+2) 61 i0 (.agg (gv λ_=>false).toArray) 256 256 Tryz.underlying59 hi aR aP aN HZC.out (by decide) _ _ _ rfl (Us.out.alloc _) ⟨w7.heap.size,0,none⟩ 1 1 (gv gc) rfl (by rw[kD]) (Jk w7 gc _) (FC gc) (by unfold maxLen;omega) (by omega) (by simp;omega) ?_)))
      intro v8 w8 hown hgrow _;have bs:Below (w.heap.size+2) w7 w8:=((aAW _ _).alloc (by omega) _).grown hgrow (by simp;omega) (λk h=>(Us.out.lt k h).1);obtain⟨ao8,Ty,rfl⟩:=ai hown;have H38:=H37.out.below bs (by omega);have aym:=JS H38;have ayn:=H38.f 2048 (by omega);have D3:=hid (H38.set 2048 (.slice ao8 (cs.length+1) Ty));rw[ahU]at D3;have DO:Hid ((w8.setCell ⟨w.heap.size+1,2048,none⟩ (.slice ao8 (cs.length+1) Ty)).ownsRow (w.heap.size+2) 61 256 (.slice ao8 (cs.length+1) Ty) (bH ns (k+1)).length (mV (bH ns (k+1)))):=hid (by
       rw[HS.out,aBU (by trivial),aA5,Da];exact ax hown (k:=w.heap.size+1) (by omega) 2048 _)
      have D2:Hid ((w8.setCell ⟨w.heap.size+1,2048,none⟩ (.slice ao8 (cs.length+1) Ty)).there w.heap.size 0 2561):=hid (λj hj=>by
       obtain⟨a1,a2⟩:=H27.out j hj;rw[aBe,aA0 _ _ _ _ (λe=>by have:=congrArg Addr.block e;simp at this),bs.cell (p:=⟨w.heap.size,0+j,none⟩) (by show w.heap.size<_;omega),bs.frozen (p:=⟨w.heap.size,0+j,none⟩) (by show w.heap.size<_;omega)];exact⟨a1,a2⟩)
      have DB:=hid ((iG.out.trans (bs.mono (by omega))).setCell (p:=⟨w.heap.size+1,2048,none⟩) (by show w.heap.size<=w.heap.size+1;omega) (.slice ao8 (cs.length+1) Ty));have hz8:w.heap.size+1<w8.heap.size:=by have:=bs.size;omega
      clear hown hgrow bs H38 H37 Us H27 iG csl cfz;go_wp2_with fail;go_roundw
      case rel=>exact⟨k+1,_,by omega,by go_num,D3,DO,D2,by simp;omega,DB⟩
      case measure=>simp[intOf];omega
    ·obtain rfl:k=m1+1:=by omega
     have hcl:=uU ns (m1+1);have CN:=hid (abP HO.out);clear HO;go_wp2_with fail;refine(MG (w.heap.size+1) ns (bH ns (m1+1)) W4 h8 (QT H3.out) hz (aeV H3.out CN.out.v) (by omega)).mono ?_;rintro e w5 ⟨aa,rfl,sF,bV⟩;have uj:=hid sF;have UL:=hid (H3.out.below bV hz);have CN5:=hid (CN.out.below bV);have Xl:Hid (w5.there w.heap.size 0 2561):=hid (λj hj=>by
      rw[bV.cell (p:=⟨w.heap.size,0+j,none⟩) (by show w.heap.size<_;omega),bV.frozen (p:=⟨w.heap.size,0+j,none⟩) (by show w.heap.size<_;omega)];exact H2.out j hj)
     have iM:=hid (HB.out.trans (bV.mono (by omega)));have hz5:w.heap.size+1<w5.heap.size:=aBi hz bV.size;clear bV sF H3 H2 HB CN;go_wp2_with (refine bW rfl (.tmp 49) (.tmp 48) rfl (w.heap.size+1) 2049 aa rfl rfl (UL.out.there 2049 256 (by omega)) ?_);intro w6 S6;have H36:=hid (ahP UL.out S6);have CN6:=hid (CN5.out.stored S6 (by omega));have H26:Hid (w6.there w.heap.size 0 2561):=hid (λj hj=>by
      rw[S6.cell ⟨w.heap.size,0+j,none⟩ (aA2 (by show w.heap.size≠w.heap.size+1;omega)),S6.fz];exact Xl.out j hj)
     have kG:=hid (S6.bG _ _ (by omega) iM.out);have hz6:w.heap.size+1<w6.heap.size:=by rw[S6.size];exact hz5
     clear S6 UL CN5 Xl iM;go_wp2_with fail
     go_loopw [50] (λi wq=>∃ v:Nat,v<=256/\i=.int .i64 v/\Hid (dE wq (w.heap.size+1) 2561 (dM (nO ns) sl aa (upTo (bu ns aa) v)))/\Hid (lh wq (w.heap.size+2) sl (bH ns (m1+1)))/\Hid (wq.there w.heap.size 0 2561)/\w.heap.size+1<wq.heap.size/\Hid (Below w.heap.size w wq)) (λi _=>256 - (intOf i).toNat)
     case atStart=>exact⟨0,by omega,rfl,by rw[qU];exact H36,CN6,H26,hz6,kG⟩
     case round=>
      obtain⟨v,hv,rfl,H3,CN,H2,hz,HB⟩:=hrel;rename World=>W7;by_cases sF:v<256
      ·have HA:=λW=>bN v m1 W sF (by omega);have c1:=(Nq H3.out).c v sF;have q0:=H3.out.f (2305+v) (by omega);have q1:=H3.out.c (2305+v) (by omega);have Ol:bu ns aa v=(aa v&&v.testBit m1):=by unfold bu;rw[nJ.out];rfl
       have D3:=hid (H3.out.set (2305+v) (.bool (bu ns aa v)));rw[adD _ _ _ _ sF,qV]at D3;have DN:=hid (CN.out.set ⟨w.heap.size+1,2305+v,none⟩ (.bool (bu ns aa v)) (by show w.heap.size+1<w.heap.size+2;omega));have D2:Hid ((W7.setCell ⟨w.heap.size+1,2305+v,none⟩ (.bool (bu ns aa v))).there w.heap.size 0 2561):=hid (λj hj=>by
        rw[aBe,aA0 _ _ _ _ (λe=>by have:=congrArg Addr.block e;simp at this)];exact H2.out j hj)
       have DB:=hid (HB.out.setCell (p:=⟨w.heap.size+1,2305+v,none⟩) (by show w.heap.size<=w.heap.size+1;omega) (.bool (bu ns aa v)));rw[Ol]at DN D2 DB;have D3:Hid (dE (W7.setCell ⟨w.heap.size+1,2305+v,none⟩ (.bool (aa v&&v.testBit m1))) (w.heap.size+1) 2561 (dM (nO ns) sl aa (upTo (bu ns aa) (v+1)))):=by rw[<-Ol];exact D3
       clear Ol;generalize dM (nO ns) sl aa (upTo (bu ns aa) v) (2305+v)=ov at *;generalize arW:aa v=lv at *;generalize YG:v.testBit m1=bv at *;clear arW YG;cases lv with
       | false=>
        simp only[Bool.false_and]at D3 DN D2 DB;go_wp2_with fail;refine(HA _).mono ?_;rintro e w8 ⟨rfl,rfl⟩;clear HA;go_wp2_with fail;go_roundw
        case rel=>exact⟨v+1,by omega,by go_num,D3,DN,D2,by simp;omega,DB⟩
        case measure=>simp[intOf];omega
       | true=>
        simp only[Bool.true_and]at D3 DN D2 DB;go_wp2_with fail;refine(HA _).mono ?_;rintro e w8 ⟨rfl,rfl⟩;clear HA;go_wp2_with fail;go_roundw
        case rel=>exact⟨v+1,by omega,by go_num,D3,DN,D2,by simp;omega,DB⟩
        case measure=>simp[intOf];omega
      ·obtain rfl:v=256:=by omega
       have H3:=hid (H3.out.congr (d:=dM (nO ns) sl aa (bu ns aa)) (λj hj=>by
        unfold dM;by_cases h1:j<2048
        ·rw[aBU h1,aBU h1]
        ·rw[aBT h1,aBT h1];by_cases h2:j=2048
         ·rw[aBU h2,aBU h2]
         ·rw[aBT h2,aBT h2];by_cases h3:j<2305
          ·rw[aBU h3,aBU h3]
          ·rw[aBT h3,aBT h3,IJ _ (by omega)]))
       have V4:=CN.out.one;go_wp2_with (first | (refine nP rfl 63 (.tmp 3) rfl (w.heap.size+1) 2561 (dM (nO ns) sl aa (bu ns aa)) od rfl H3.out HOD.out.1 HOD.out.2 Tryz.xA ?_) | (refine fH rfl 63 (.tmp 2) (.tmp 69) rfl w.heap.size 2561 (dM (nO ns) sl aa (bu ns aa)) rfl rfl H2.out Tryz.xA (CB _ _ _ V4) ?_))
       intro w9 S9;have CN9:=hid (CN.out.LU S9 (by omega));have PO:=hid (S9.bG _ _ (aAU _) HB.out);have R9:=hid S9.at_;clear S9;go_wp2_with fail;refine ahN Tryz.results31 ?_ ?_ R9.out HOD.out.1 HOD.out.2 Tryz.xA ?_
       ·rfl
       ·rfl
       ·exact⟨sl,aa,rfl,by rw[nJ.out];exact uj.out,by rw[nJ.out];exact CN9.out.v,V4,PO.out⟩
structure ul (w:World) (B T:Nat) (v:Value) (gs:List (Nat->Bool)):Prop where
 c:w.cell? ⟨T,0,none⟩=some v
 f:w.frozen? ⟨T,0,none⟩=false
 own:w.ownsRow B 61 256 v gs.length (mV gs)
 ne:v.ownBlock≠some T
theorem ul.lt{w:World}{B T:Nat}{v:Value}{gs:List (Nat->Bool)}(h:ul w B T v gs):T<w.heap.size:=World.block_lt_of_cell? w ⟨T,0,none⟩ h.c
theorem ul.below{w w':World}{B T:Nat}{v:Value}{gs:List (Nat->Bool)}(h:ul w B T v gs)(hb:Below w.heap.size w w'):ul w' B T v gs:=
 ⟨(hb.cell (p:=⟨T,0,none⟩) h.lt).trans h.c,(hb.frozen (p:=⟨T,0,none⟩) h.lt).trans h.f,ae h.own hb,h.ne⟩
structure sW (w w':World) (T:Nat) (row:Option Nat):Prop where
 os:w'.os=w.os
 tape:w'.tape=w.tape
 output:w'.output=w.output
 size:w.heap.size<=w'.heap.size
 block:∀ k,k<w.heap.size->k≠T->some k≠row->w'.heap[k]?=w.heap[k]?
theorem sW.of_below{w w':World}{T:Nat}{row:Option Nat}(h:Below w.heap.size w w'):sW w w' T row:=⟨h.os,h.tape,h.output,h.size,λk hk _ _=>h.block k hk⟩
theorem sW.cell{w w':World}{T:Nat}{row:Option Nat}(h:sW w w' T row){p:Addr}(hp:p.block<w.heap.size)(h1:p.block≠T)(h2:some p.block≠row):w'.cell? p=w.cell? p:=aBf (h.block _ hp h1 h2)
theorem sW.frozen{w w':World}{T:Nat}{row:Option Nat}(h:sW w w' T row){p:Addr}(hp:p.block<w.heap.size)(h1:p.block≠T)(h2:some p.block≠row):w'.frozen? p=w.frozen? p:=aBg (h.block _ hp h1 h2)
theorem AC{ops:Array Oper}{o:Oper}{a:Act}{w:World}{K:Act->World->Prop}{Q:Exit->Act->World->Prop}{E:Prop}(lX:o.guard=none)(x:Operand)(ho:o.op=.buildSlice 59 1 #[(0,x)])
  (g:Nat->Bool) (hx:a.eval x=.agg (gv g).toArray) (h:K (a.put o.dst (.slice (some ⟨w.heap.size,0,none⟩) 1 1)) (w.alloc (.cells (gv g).toArray 61))) :
  if Region.wanted o (yielded ops a.tmps)=true then Oper.wp Tryz.prog o a w K Q else E:=by
 have hw:Region.wanted o (yielded ops a.tmps)=true:=by simp[Region.wanted,lX]
 rw[aBU hw];unfold Oper.wp execOp;have:=uZ g w;simp only[ho,hx,List.map_toArray,List.map_cons,List.map_nil,Sem.run_bind,this,Result.andThen_ok,Sem.run_pure];exact h
def ab9(w w':World)(B T:Nat)(v:Value)(gs:List (Nat->Bool))(g:Nat->Bool)(j:Nat)(v':Value)(Wt:List (Nat->Bool)):Prop:=
 ul w' B T v' Wt/\sW w w' T v.ownBlock/\((Wt=gs/\v'=v/\∃ g0,gs[j]?=some g0/\geq g0 g=true)\/(j=gs.length/\Wt=gs++[g]/\(v'.ownBlock=v.ownBlock\/∃ q,v'.ownBlock=some q/\w.heap.size<=q)/\∀ g0∈gs,geq g0 g=false))
theorem Ya(B T:Nat)(v:Value)(gs:List (Nat->Bool))(g:Nat->Bool)(w:World)(hm:ul w B T v gs)(hB:B<=w.heap.size)(hlen:gs.length<=8589934592) :
  Calls Tryz.prog 70 #[.pointer (some ⟨T,0,none⟩),.agg (gv g).toArray] w λe w'=>∃ j v' Wt,e=.returned (.int .i64 (j:Nat))/\ab9 w w' B T v gs g j v' Wt:=by
 have hT:=hm.lt;have HM:=hid hm;have Ec:=hid hm.own;obtain⟨ao,cp,rfl⟩:=ai hm.own;have HCV:=hid (F9 hm.own);have c0:=hm.c;have EQ:=λg h W=>ni 9998 g h W;have BX:=hid (uF w g 61);have iQ:=hid ((aAW w.heap.size w).alloc (aAU _) (.cells (gv g).toArray 61));have hnp:∀ k,(Value.slice ao gs.length cp).ownBlock=some k->k<w.heap.size:=λk h=>(hm.own.lt k h).2;have HNP:=hid hnp;clear hm hnp;obtain⟨i0,hi,aR,aP,aN⟩:=info_parts Tryz.EN;have HZC:Hid ((Value.agg (gv λ_=>false).toArray).cells.size=256):=hid (by show (gv λ_=>false).toArray.size=256;rw[List.size_toArray,kD]);generalize zw:gs.length=n at *;have gm:=hid zw;clear zw;go_enter Tryz.func70,Tryz.ntmps70;go_wp2_with fail;clear c0
 go_loopw [12] (λi wq=>∃ k:Nat,k<=n/\i=.int .i64 k/\Hid (∀ i g0,i<k->gs[i]?=some g0->geq g0 g=false)/\Hid (bC wq w.heap.size 0 g)/\w.heap.size<wq.heap.size/\Hid (Below w.heap.size w wq)) (λi _=>n - (intOf i).toNat)
 case atStart=>exact⟨0,aA8 _,rfl,hid (λi g0 h=>by omega),BX,by simp,iQ⟩
 case round=>
  obtain⟨k,hk,rfl,HA,HG,hsz,HB⟩:=hrel;rename World=>W0;by_cases hlk:k<n
  ·obtain⟨mH,p9,e2,Bj⟩:=HCV.out;cases e2;obtain⟨gc,e3,ako,RY⟩:=Bj (by rw[gm.out];omega);subst e3;obtain⟨g0,hg0⟩:∃ g0,gs[k]?=some g0:=⟨gs[k]'(by rw[gm.out];exact hlk),aAV (by rw[gm.out];exact hlk)⟩;have GK:=hid ((RY k g0 hg0).below HB.out ako);have HG0:=hid hg0;clear RY hg0;rw[gm.out]at *;go_wp2_with (first | (refine aQ rfl (.tmp 15) rfl gc (k*256) g0 rfl GK.out ?_) | (refine bW rfl (.tmp 6) (.tmp 16) rfl W0.heap.size 0 g0 rfl rfl (gN W0).there ?_))
   intro w2 S2;have A6:=hid S2.at_;have A3:=hid (S2.zG (HG.out.alloc (.cells Tryz.zeroCells61 61)) (aA2 (by omega)));have AB:=hid (S2.bG _ _ (by omega) (HB.out.alloc (by omega) (.cells Tryz.zeroCells61 61)));have lm:w2.heap.size=W0.heap.size+1:=by rw[S2.size];simp
   clear S2 GK;have EQ0:=λW=>ni 9998 g0 g W;clear EQ;cases eq:geq g0 g with
   | true=>
    rw[eq]at EQ0;go_wp2_with (first | (refine aQ rfl (.tmp 6) rfl W0.heap.size 0 g0 rfl A6.out ?_) | (refine aQ rfl (.tmp 3) rfl w.heap.size 0 g rfl A3.out ?_))
    go_ret;exact⟨k,_,gs,rfl,HM.out.below AB.out,sW.of_below AB.out,aA2 ⟨rfl,rfl,g0,HG0.out,eq⟩⟩
   | false=>
    have tu:Hid (∀ i g1,i<k+1->gs[i]?=some g1->geq g1 g=false):=hid (λi g1 h1 h2=>by
     by_cases e:i=k
     ·subst e;rw[HG0.out]at h2;cases h2;exact eq
     ·exact HA.out i g1 (by omega) h2)
    rw[eq]at EQ0;clear eq;go_wp2_with (first | (refine aQ rfl (.tmp 6) rfl W0.heap.size 0 g0 rfl A6.out ?_) | (refine aQ rfl (.tmp 3) rfl w.heap.size 0 g rfl A3.out ?_))
    go_roundw
    case rel=>exact⟨k+1,by omega,by go_num,tu,A3,by omega,AB⟩
    case measure=>simp[intOf];omega
  ·obtain rfl:k=n:=by omega
   have qp:=hid (HM.out.below HB.out);have OW:=hid (ae Ec.out HB.out);have cT:=qp.out.c;have fT:=qp.out.f;have tO:T<W0.heap.size:=by omega
   go_wp2_with fail;refine wp_region_held_drew (S:=λW=>bC W w.heap.size 0 g) (by kernel_rfl) HG.out.drew (λau=>?_);refine aA4 (i:=0) (oi:={ dst:=some 22,op:=Op.move (.tmp 0),type:=_,pos:=_,after:=_,guard:=none }) (v:=(Value.pointer (some ⟨T,0,none⟩))) rfl (by kernel_rfl) (by kernel_rfl) (by kernel_rfl) (λ_ _ _ h=>h) (aA2 ⟨by rfl,by intro w' af;(try dsimp only at af);go_simp⟩) (by assumption) ?_
   simp only[Act.put,aAT,aAX,aAY];refine aA4 (i:=1) (oi:={ dst:=some 23,op:=Op.move (.tmp 0),type:=_,pos:=_,after:=_,guard:=none }) (v:=(Value.pointer (some ⟨T,0,none⟩))) rfl (by kernel_rfl) (by kernel_rfl) (by kernel_rfl) (λ_ _ _ h=>h) (aA2 ⟨by rfl,by intro w' af;(try dsimp only at af);go_simp⟩) (by assumption) ?_
   simp only[Act.put,aAT,aAX,aAY];refine aA4 (i:=2) (oi:={ dst:=some 24,op:=Op.nilCheck (.tmp 23),type:=_,pos:=_,after:=_,guard:=none }) (v:=(Value.pointer (some ⟨T,0,none⟩))) rfl (by kernel_rfl) (by kernel_rfl) (by kernel_rfl) (λ_ _ _ h=>h) (aA2 ⟨by rfl,by intro w' af;(try dsimp only at af);go_simp⟩) (by assumption) ?_
   simp only[Act.put,aAT,aAX,aAY];refine aA4 (i:=3) (oi:={ dst:=some 25,op:=Op.fieldAddr _ (.tmp 24) 0,type:=_,pos:=_,after:=_,guard:=none }) (v:=(Value.pointer (some ⟨T,0,none⟩))) rfl (by kernel_rfl) (by kernel_rfl) (by kernel_rfl) (λ_ _ _ h=>h) (aA2 ⟨by rfl,by intro w' af;(try dsimp only at af);go_simp⟩) (by assumption) ?_
   simp only[Act.put,aAT,aAX,aAY];refine aA4 (i:=5) (oi:={ dst:=some 27,op:=Op.load 61 (.tmp 3),type:=_,pos:=_,after:=_,guard:=none }) (v:=(Value.agg (gv g).toArray)) rfl (by kernel_rfl) (by kernel_rfl) (by kernel_rfl) (λ_ _ _ h=>h) (yieldsIf_load_mid (by rfl) 61 (.tmp 3) rfl w.heap.size 0 rfl (gv g) _ (λW h=>h.tJ) Tryz.je rfl (Tryz.nM g)) (by assumption) ?_;simp only[Act.put,aAT,aAX,aAY];refine aBc (rs:=[4,6]) (by kernel_rfl) (by simp) ?_;refine aA7 rfl (λK hK=>?_) (aA7 rfl (λK hK=>?_) aBb)
   ·go_simp
    refine hK.out _ _ (by assumption) (λau=>?_);clear hK K;refine aBc (rs:=[6]) (by kernel_rfl) (by simp) ?_;refine aA7 rfl (λK hK=>?_) aBb;refine AC (by rfl) (.tmp 27) (by rfl) g (by rfl) ?_;refine hK.out _ _ ((by exact au:bC _ w.heap.size 0 g).alloc _) (λau=>?_);clear hK K;refine aBc (rs:=[7]) (by kernel_rfl) (by simp) ?_;refine aA7 rfl (λK hK=>?_) aBb;refine aBN _ (by rfl) (.tmp 26) (.tmp 28) 59 (by rfl) B 61 i0 (.agg (gv λ_=>false).toArray) 256 256 Tryz.underlying59 hi aR aP aN HZC.out (by decide) _ k (mV gs) (by rfl) ((OW.out.alloc _).drew) ⟨W0.heap.size,0,none⟩ 1 1 (gv g) (by rfl) (by rw[kD]) (Jk W0 g _) (FC g) (by decide) (by unfold maxLen;omega) (by omega) (by simp;omega) (W0.heap.size+1) (by simp) ?_;intro gg cc w2 hown hgrow hat gu;have hrow:∀ q,some q=(Value.slice ao k cp).ownBlock->q<w.heap.size:=λq h=>HNP.out q h.symm;have h0:(W0.alloc (.cells (gv g).toArray 61)).cell? ⟨T,0,none⟩=some (.slice ao k cp):=by rw[aBt _ _ _ tO];exact cT
    have c2:w2.cell? ⟨T,0,none⟩=some (.slice ao k cp):=hgrow.cell h0 (λe=>HM.out.ne e.symm);have f2:w2.frozen? ⟨T,0,none⟩=false:=by
     have hb:=hgrow.block T (by show T<(W0.alloc (.cells (gv g).toArray 61)).heap.size;rw[aAZ];omega) (λe=>HM.out.ne e.symm);rw[aBg (a:=⟨T,0,none⟩) hb];show (W0.alloc (.cells (gv g).toArray 61)).frozen? ⟨T,0,none⟩=false;rw[aBK _ _ _ tO];exact fT
    have g2:bC w2 w.heap.size 0 g:=by
     have hb:=hgrow.block w.heap.size (by show w.heap.size<(W0.alloc (.cells (gv g).toArray 61)).heap.size;rw[aAZ];omega) (λe=>Nat.lt_irrefl _ (hrow _ e));have h3:=(HG.out.alloc (.cells (gv g).toArray 61)).drew;exact⟨λj hj=>(aBf (a:=⟨w.heap.size,0+j,none⟩) hb).trans (h3.c j hj),λj hj=>(aBg (a:=⟨w.heap.size,0+j,none⟩) hb).trans (h3.f j hj)⟩
    have nN:gg≠T:=by
     rcases hat with h | h
     ·exact λe=>HM.out.ne (by rw[<-e];exact h)
     ·omega
    have EX:Hid (ul (w2.setCell ⟨T,0,none⟩ (.slice (some ⟨gg,0,none⟩) (k+1) cc)) B T (.slice (some ⟨gg,0,none⟩) (k+1) cc) (gs++[g])):=hid ⟨aBr _ _ _ c2,by rw[aBe];exact f2,by
     rw[aA5,gm.out,Da];refine hown.kept (row:=some T) ⟨rfl,rfl,rfl,by rw[aBj];exact aAU _,λq hq hne=>aBv _ _ _ _ (λe=>hne (by rw[e]))⟩ (aA3 (by simpa [Value.ownBlock] using nN)),by simpa [Value.ownBlock] using nN⟩
    have Jf:W0.heap.size+1<=w2.heap.size:=by
     have h4:(W0.drew.alloc (.cells (gv g).toArray 61)).heap.size<=w2.heap.size:=hgrow.size;rw[aAZ]at h4;exact h4
    have NF:Hid (sW w (w2.setCell ⟨T,0,none⟩ (.slice (some ⟨gg,0,none⟩) (k+1) cc)) T (Value.slice ao k cp).ownBlock):=hid ⟨hgrow.os.trans HB.out.os,hgrow.tape.trans HB.out.tape,hgrow.output.trans HB.out.output,by rw[aBj];omega,λq hq h1 h2=>by
     rw[aBv _ _ _ _ h1,hgrow.block q (by show q<(W0.alloc (.cells (gv g).toArray 61)).heap.size;rw[aAZ];omega) h2];show (W0.alloc (.cells (gv g).toArray 61)).heap[q]?=_;rw[aBl _ _ _ (by omega)];exact HB.out.block q hq⟩
    have OB:Hid ((Value.slice (some ⟨gg,0,none⟩) (k+1) cc).ownBlock=(Value.slice ao k cp).ownBlock\/∃ q,(Value.slice (some ⟨gg,0,none⟩) (k+1) cc).ownBlock=some q/\w.heap.size<=q):=hid (by
     rcases hat with h | h
     ·exact aA2 (by rw[h];rfl)
     ·exact aA3 ⟨gg,rfl,by omega⟩)
    refine hK.out _ _ g2 (λau=>?_);have jw:=hid (g2.other ⟨T,0,none⟩ (.slice (some ⟨gg,0,none⟩) (k+1) cc) (aA2 (by show T≠w.heap.size;omega)));clear hK K hown hgrow hat g2 hrow;simp only[Act.put,aAT];refine aA4 (i:=8) (oi:={ dst:=some 30,op:=Op.nilCheck (.tmp 22),type:=_,pos:=_,after:=_,guard:=none }) (v:=(Value.pointer (some ⟨T,0,none⟩))) rfl (by kernel_rfl) (by kernel_rfl) (by kernel_rfl) (λ_ _ _ h=>h) (aA2 ⟨by rfl,by intro w' af;(try dsimp only at af);go_simp⟩) (by assumption) ?_
    simp only[Act.put];refine aA4 (i:=9) (oi:={ dst:=some 31,op:=Op.fieldAddr _ (.tmp 30) 0,type:=_,pos:=_,after:=_,guard:=none }) (v:=(Value.pointer (some ⟨T,0,none⟩))) rfl (by kernel_rfl) (by kernel_rfl) (by kernel_rfl) (λ_ _ _ h=>h) (aA2 ⟨by rfl,by intro w' af;(try dsimp only at af);go_simp⟩) (by assumption) ?_
    simp only[Act.put];refine aBc (rs:=[10]) (by kernel_rfl) (by simp) ?_;refine aA7 rfl (λK hK=>?_) aBb
    go_simp
    refine hK.out _ _ jw.out (λau=>?_);clear hK K;refine aBS (by kernel_rfl) ?_ _;have e1:=EX.out.c;clear au c2 f2 cT fT;go_wp2_with fail;go_ret;exact⟨k,_,_,rfl,EX.out,NF.out,aA3 ⟨gm.out.symm,rfl,OB.out,λg0 hg0=>by
     obtain⟨i,hi,e⟩:=aBC hg0;exact HA.out i g0 (by rw[<-gm.out];exact hi) (by rw[aAV hi,e])⟩⟩
   ·refine AC (by rfl) (.tmp 27) (by rfl) g (by rfl) ?_;refine hK.out _ _ ((by exact au:bC _ w.heap.size 0 g).alloc _) (λau=>?_);clear hK K;refine aBc (rs:=[4]) (by kernel_rfl) (by simp) ?_;refine aA7 rfl (λK hK=>?_) aBb
    go_simp
    refine hK.out _ _ (by assumption) (λau=>?_);clear hK K;refine aBc (rs:=[7]) (by kernel_rfl) (by simp) ?_;refine aA7 rfl (λK hK=>?_) aBb;refine aBN _ (by rfl) (.tmp 26) (.tmp 28) 59 (by rfl) B 61 i0 (.agg (gv λ_=>false).toArray) 256 256 Tryz.underlying59 hi aR aP aN HZC.out (by decide) _ k (mV gs) (by rfl) ((OW.out.alloc _).drew) ⟨W0.heap.size,0,none⟩ 1 1 (gv g) (by rfl) (by rw[kD]) (Jk W0 g _) (FC g) (by decide) (by unfold maxLen;omega) (by omega) (by simp;omega) (W0.heap.size+1) (by simp) ?_;intro gg cc w2 hown hgrow hat gu;have hrow:∀ q,some q=(Value.slice ao k cp).ownBlock->q<w.heap.size:=λq h=>HNP.out q h.symm;have h0:(W0.alloc (.cells (gv g).toArray 61)).cell? ⟨T,0,none⟩=some (.slice ao k cp):=by rw[aBt _ _ _ tO];exact cT
    have c2:w2.cell? ⟨T,0,none⟩=some (.slice ao k cp):=hgrow.cell h0 (λe=>HM.out.ne e.symm);have f2:w2.frozen? ⟨T,0,none⟩=false:=by
     have hb:=hgrow.block T (by show T<(W0.alloc (.cells (gv g).toArray 61)).heap.size;rw[aAZ];omega) (λe=>HM.out.ne e.symm);rw[aBg (a:=⟨T,0,none⟩) hb];show (W0.alloc (.cells (gv g).toArray 61)).frozen? ⟨T,0,none⟩=false;rw[aBK _ _ _ tO];exact fT
    have g2:bC w2 w.heap.size 0 g:=by
     have hb:=hgrow.block w.heap.size (by show w.heap.size<(W0.alloc (.cells (gv g).toArray 61)).heap.size;rw[aAZ];omega) (λe=>Nat.lt_irrefl _ (hrow _ e));have h3:=(HG.out.alloc (.cells (gv g).toArray 61)).drew;exact⟨λj hj=>(aBf (a:=⟨w.heap.size,0+j,none⟩) hb).trans (h3.c j hj),λj hj=>(aBg (a:=⟨w.heap.size,0+j,none⟩) hb).trans (h3.f j hj)⟩
    have nN:gg≠T:=by
     rcases hat with h | h
     ·exact λe=>HM.out.ne (by rw[<-e];exact h)
     ·omega
    have EX:Hid (ul (w2.setCell ⟨T,0,none⟩ (.slice (some ⟨gg,0,none⟩) (k+1) cc)) B T (.slice (some ⟨gg,0,none⟩) (k+1) cc) (gs++[g])):=hid ⟨aBr _ _ _ c2,by rw[aBe];exact f2,by
     rw[aA5,gm.out,Da];refine hown.kept (row:=some T) ⟨rfl,rfl,rfl,by rw[aBj];exact aAU _,λq hq hne=>aBv _ _ _ _ (λe=>hne (by rw[e]))⟩ (aA3 (by simpa [Value.ownBlock] using nN)),by simpa [Value.ownBlock] using nN⟩
    have Jf:W0.heap.size+1<=w2.heap.size:=by
     have h4:(W0.drew.alloc (.cells (gv g).toArray 61)).heap.size<=w2.heap.size:=hgrow.size;rw[aAZ]at h4;exact h4
    have NF:Hid (sW w (w2.setCell ⟨T,0,none⟩ (.slice (some ⟨gg,0,none⟩) (k+1) cc)) T (Value.slice ao k cp).ownBlock):=hid ⟨hgrow.os.trans HB.out.os,hgrow.tape.trans HB.out.tape,hgrow.output.trans HB.out.output,by rw[aBj];omega,λq hq h1 h2=>by
     rw[aBv _ _ _ _ h1,hgrow.block q (by show q<(W0.alloc (.cells (gv g).toArray 61)).heap.size;rw[aAZ];omega) h2];show (W0.alloc (.cells (gv g).toArray 61)).heap[q]?=_;rw[aBl _ _ _ (by omega)];exact HB.out.block q hq⟩
    have OB:Hid ((Value.slice (some ⟨gg,0,none⟩) (k+1) cc).ownBlock=(Value.slice ao k cp).ownBlock\/∃ q,(Value.slice (some ⟨gg,0,none⟩) (k+1) cc).ownBlock=some q/\w.heap.size<=q):=hid (by
     rcases hat with h | h
     ·exact aA2 (by rw[h];rfl)
     ·exact aA3 ⟨gg,rfl,by omega⟩)
    refine hK.out _ _ g2 (λau=>?_);have jw:=hid (g2.other ⟨T,0,none⟩ (.slice (some ⟨gg,0,none⟩) (k+1) cc) (aA2 (by show T≠w.heap.size;omega)));clear hK K hown hgrow hat g2 hrow;simp only[Act.put,aAT];refine aA4 (i:=8) (oi:={ dst:=some 30,op:=Op.nilCheck (.tmp 22),type:=_,pos:=_,after:=_,guard:=none }) (v:=(Value.pointer (some ⟨T,0,none⟩))) rfl (by kernel_rfl) (by kernel_rfl) (by kernel_rfl) (λ_ _ _ h=>h) (aA2 ⟨by rfl,by intro w' af;(try dsimp only at af);go_simp⟩) (by assumption) ?_
    simp only[Act.put];refine aA4 (i:=9) (oi:={ dst:=some 31,op:=Op.fieldAddr _ (.tmp 30) 0,type:=_,pos:=_,after:=_,guard:=none }) (v:=(Value.pointer (some ⟨T,0,none⟩))) rfl (by kernel_rfl) (by kernel_rfl) (by kernel_rfl) (λ_ _ _ h=>h) (aA2 ⟨by rfl,by intro w' af;(try dsimp only at af);go_simp⟩) (by assumption) ?_
    simp only[Act.put];refine aBc (rs:=[10]) (by kernel_rfl) (by simp) ?_;refine aA7 rfl (λK hK=>?_) aBb
    go_simp
    refine hK.out _ _ jw.out (λau=>?_);clear hK K;refine aBS (by kernel_rfl) ?_ _;have e1:=EX.out.c;clear au c2 f2 cT fT;go_wp2_with fail;go_ret;exact⟨k,_,_,rfl,EX.out,NF.out,aA3 ⟨gm.out.symm,rfl,OB.out,λg0 hg0=>by
     obtain⟨i,hi,e⟩:=aBC hg0;exact HA.out i g0 (by rw[<-gm.out];exact hi) (by rw[aAV hi,e])⟩⟩
