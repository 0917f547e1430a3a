import Derived.Test.YtjagijohfkffiabGreatFREM08
set_option maxHeartbeats 16000000
set_option maxRecDepth 1000000
set_option linter.unusedSimpArgs false
namespace Go.Proofs.YtjagijohfkffiabGreat
open Go.RowKit
set_option linter.unusedVariables false
theorem ahs(S T:Nat->Bool){k:Nat}{nd:Nd}(h:nd.op=48):ig nd k S T=true:=by simp[ig,h]
theorem ahr(S T:Nat->Bool){k:Nat}{nd:Nd}(h:nd.op=49):ig nd k S T=true:=by simp[ig,h]
theorem ac8(S T:Nat->Bool){k:Nat}{nd:Nd}(h:nd.op=112):ig nd k S T=true:=by simp[ig,h]
theorem ac7(S T:Nat->Bool){k:Nat}{nd:Nd}(h:nd.op=113):ig nd k S T=true:=by simp[ig,h]
theorem ac6(S T:Nat->Bool){k:Nat}{nd:Nd}(h:nd.op=114):ig nd k S T=true:=by simp[ig,h]
theorem ahu(S T:Nat->Bool){k:Nat}{nd:Nd}(h:nd.op=33):ig nd k S T=true:=by simp[ig,h]
theorem ahm(S T:Nat->Bool){k:Nat}{nd:Nd}(h:nd.op=88):ig nd k S T=(S k==T nd.l):=by simp[ig,h]
theorem ahq(S T:Nat->Bool){k:Nat}{nd:Nd}(h:nd.op=70):ig nd k S T=(S k==(S nd.l||T k)):=by simp[ig,h]
theorem ahp(S T:Nat->Bool){k:Nat}{nd:Nd}(h:nd.op=71):ig nd k S T=(S k==(S nd.l&&T k)):=by simp[ig,h]
theorem aht(S T:Nat->Bool){k:Nat}{nd:Nd}(h:nd.op=38):ig nd k S T=true:=by simp[ig,h]
theorem ac5(S T:Nat->Bool){k:Nat}{nd:Nd}(h:nd.op=124):ig nd k S T=true:=by simp[ig,h]
theorem ahn(S T:Nat->Bool){k:Nat}{nd:Nd}(h:nd.op=85):ig nd k S T=(S k==(S nd.r||(S nd.l&&T k))):=by simp[ig,h]
theorem aho(S T:Nat->Bool){k:Nat}{nd:Nd}(h:nd.op=82):ig nd k S T=(S k==(S nd.r&&(S nd.l||T k))):=by simp[ig,h]
theorem FK{a:Act}(h0:a.defers=[])(h1:a.tmps.size=165):∃ u:Nat->Value,(∀ i,u i=a.tmps.getD i undef)/\a=⟨#[u 0,u 1,u 2,u 3,u 4,u 5,u 6,u 7,u 8,u 9,u 10,u 11,u 12,u 13,u 14,u 15,u 16,u 17,u 18,u 19,u 20,u 21,u 22,u 23,u 24,u 25,u 26,u 27,u 28,u 29,u 30,u 31,u 32,u 33,u 34,u 35,u 36,u 37,u 38,u 39,u 40,u 41,u 42,u 43,u 44,u 45,u 46,u 47,u 48,u 49,u 50,u 51,u 52,u 53,u 54,u 55,u 56,u 57,u 58,u 59,u 60,u 61,u 62,u 63,u 64,u 65,u 66,u 67,u 68,u 69,u 70,u 71,u 72,u 73,u 74,u 75,u 76,u 77,u 78,u 79,u 80,u 81,u 82,u 83,u 84,u 85,u 86,u 87,u 88,u 89,u 90,u 91,u 92,u 93,u 94,u 95,u 96,u 97,u 98,u 99,u 100,u 101,u 102,u 103,u 104,u 105,u 106,u 107,u 108,u 109,u 110,u 111,u 112,u 113,u 114,u 115,u 116,u 117,u 118,u 119,u 120,u 121,u 122,u 123,u 124,u 125,u 126,u 127,u 128,u 129,u 130,u 131,u 132,u 133,u 134,u 135,u 136,u 137,u 138,u 139,u 140,u 141,u 142,u 143,u 144,u 145,u 146,u 147,u 148,u 149,u 150,u 151,u 152,u 153,u 154,u 155,u 156,u 157,u 158,u 159,u 160,u 161,u 162,u 163,u 164],[]⟩:=by
 refine⟨λi=>a.tmps.getD i undef,λ_=>rfl,?_⟩;obtain⟨t,d⟩:=a;simp only at h0 h1;subst h0;have:=Pm h1;exact congrArg (λx=>(⟨x,[]⟩:Act)) this
section
variable (F gp cap g h az bK:Nat) (ns:List Nd) (bs:List Nat) (S T:Nat->Bool) (w:World)
def qa(j:Nat):Prop:=∀ k,k<j->ig (aA ns k) k S T=true
theorem aez(hf:FR w F gp cap ns bs)(hs:Rb w g ns.length S)(ht:Rb w h ns.length T)(hg:Good ns)(hc:ns.length<=az)(hd:ns.length<=bK)(Q0:Exit->Act->World->Prop)
  (hx:CZ ns S T=true->∀ a' w'',a'.defers=[]->a'.tmps.size=165->(∃ m,w''=w.drewN m)->Q0 (.exit 0) a' w'')
  (hr:CZ ns S T=false->∀ a' w'',a'.defers=[]->a'.tmps.size=165->a'.tmps.getD 6 undef=.bool false->(∃ m,w''=w.drewN m)->Q0 .ret a' w'')
  (a:Act) (w':World) (hI:GI 165 [(0,.pointer (some ⟨F,0,none⟩)),(1,.slice (some ⟨g,0,none⟩) ns.length az),(2,.slice (some ⟨h,0,none⟩) ns.length bK)] 7 ns.length (qa ns S T) w a w'):Code.wp Tryz.prog (Code.loop (eT Tryz.f121)) Q0 a w':=by
 refine wp_loop (GI 165 [(0,.pointer (some ⟨F,0,none⟩)),(1,.slice (some ⟨g,0,none⟩) ns.length az),(2,.slice (some ⟨h,0,none⟩) ns.length bK)] 7 ns.length (qa ns S T) w) (GM 7 ns.length) hI ?_;intro a w1 hI;obtain⟨d0,d1,d2,j,hj,d5,hP,m,rfl⟩:=hI;have e0:=d2 _ (List.mem_cons_self ..);have e1:=d2 _ (List.mem_cons_of_mem _ (List.mem_cons_self ..));have e2:=d2 _ (List.mem_cons_of_mem _ (List.mem_cons_of_mem _ (List.mem_cons_self ..)));have hM:GM 7 ns.length a (w.drewN m)=ns.length - j:=by unfold GM;rw[d5];simp[intOf]
 rw[hM];obtain⟨u,hu,ea⟩:=FK d0 d1;simp only at e0 e1 e2;rw[<-hu]at e0 e1 e2 d5;rw[ea,e0,e1,e2,d5];have dw:=hg.le;have k0:=hf.c0;have kc:=hf.hcap;by_cases hlt:j<ns.length
 ·have c1:=hf.ptr j hlt;have c2:=hf.op j hlt;have sj:=hs.cell j hlt;have tj:=ht.cell j hlt;have hcl:=hg.wf j _ (jo hlt);have bZ:∀ k,k<j->w.cell? ⟨dG bs k,3,none⟩=some (.int .i64 k)/\w.cell? ⟨g,k,none⟩=some (.bool (S k))/\w.cell? ⟨h,k,none⟩=some (.bool (T k)):=λk hk=>⟨hf.nn k (by omega),hs.cell k (by omega),ht.cell k (by omega)⟩;have HY:ig (aA ns j) j S T=true->qa ns S T (j+1):=λh k hk=>by
   by_cases e:k<j
   ·exact hP k e
   ·rw[show k=j by omega];exact h
  have HN:ig (aA ns j) j S T=false->∀ a' w'',a'.defers=[]->a'.tmps.size=165->a'.tmps.getD 6 undef=.bool false->(∃ m,w''=w.drewN m)->Q0 .ret a' w'':=λh=>hr (MP hlt h);have lp:=hf.lp j hlt;have rp:=hf.rp j hlt;rcases hcl with⟨hop,_,_⟩ | ⟨hop,hl,_⟩ | ⟨hop,hl,fF⟩
  ·rcases lD hop with e | e | e | e | e
   ·rw[ahs S T e]at HY HN;rw[e]at c2;exact SX F gp cap g h az bK ns.length j (dG bs j) u (qa ns S T) Q0 w m hc hd dw kc hlt k0 c1 c2 (hid (HY rfl))
   ·rw[ahr S T e]at HY HN;rw[e]at c2;exact SV F gp cap g h az bK ns.length j (dG bs j) u (qa ns S T) Q0 w m hc hd dw kc hlt k0 c1 c2 (hid (HY rfl))
   ·rw[ac8 S T e]at HY HN;rw[e]at c2;exact PY F gp cap g h az bK ns.length j (dG bs j) u (qa ns S T) Q0 w m hc hd dw kc hlt k0 c1 c2 (hid (HY rfl))
   ·rw[ac7 S T e]at HY HN;rw[e]at c2;exact PX F gp cap g h az bK ns.length j (dG bs j) u (qa ns S T) Q0 w m hc hd dw kc hlt k0 c1 c2 (hid (HY rfl))
   ·rw[ac6 S T e]at HY HN;rw[e]at c2;exact PW F gp cap g h az bK ns.length j (dG bs j) u (qa ns S T) Q0 w m hc hd dw kc hlt k0 c1 c2 (hid (HY rfl))
  ·rcases nu hop with e | e | e | e
   ·rw[ahu S T e]at HY HN;rw[e]at c2;exact Tc F gp cap g h az bK ns.length j (dG bs j) u (qa ns S T) Q0 w m hc hd dw kc hlt k0 c1 c2 (hid (HY rfl))
   ·rw[ahm S T e]at HY HN;rw[e]at c2;exact Sz F gp cap g h az bK ns.length j (dG bs j) (aA ns j).l (dG bs (aA ns j).l) (S j) (S (aA ns j).l) (T (aA ns j).l) (T j) u (qa ns S T) Q0 w m hc hd dw kc hlt hl k0 c1 c2 sj tj (lp (by rw[e];rfl)) (bZ _ hl).1 (bZ _ hl).2.1 (bZ _ hl).2.2 (hid HY) (hid HN)
   ·rw[ahq S T e]at HY HN;rw[e]at c2;exact SQ F gp cap g h az bK ns.length j (dG bs j) (aA ns j).l (dG bs (aA ns j).l) (S j) (S (aA ns j).l) (T (aA ns j).l) (T j) u (qa ns S T) Q0 w m hc hd dw kc hlt hl k0 c1 c2 sj tj (lp (by rw[e];rfl)) (bZ _ hl).1 (bZ _ hl).2.1 (bZ _ hl).2.2 (hid HY) (hid HN)
   ·rw[ahp S T e]at HY HN;rw[e]at c2;exact SN F gp cap g h az bK ns.length j (dG bs j) (aA ns j).l (dG bs (aA ns j).l) (S j) (S (aA ns j).l) (T (aA ns j).l) (T j) u (qa ns S T) Q0 w m hc hd dw kc hlt hl k0 c1 c2 sj tj (lp (by rw[e];rfl)) (bZ _ hl).1 (bZ _ hl).2.1 (bZ _ hl).2.2 (hid HY) (hid HN)
  ·rcases ky hop with e | e | e | e
   ·rw[aht S T e]at HY HN;rw[e]at c2;exact Ta F gp cap g h az bK ns.length j (dG bs j) u (qa ns S T) Q0 w m hc hd dw kc hlt k0 c1 c2 (hid (HY rfl))
   ·rw[ac5 S T e]at HY HN;rw[e]at c2;exact PV F gp cap g h az bK ns.length j (dG bs j) u (qa ns S T) Q0 w m hc hd dw kc hlt k0 c1 c2 (hid (HY rfl))
   ·rw[ahn S T e]at HY HN;rw[e]at c2;exact SE F gp cap g h az bK ns.length j (dG bs j) (aA ns j).l (dG bs (aA ns j).l) (aA ns j).r (dG bs (aA ns j).r) (S j) (S (aA ns j).l) (T (aA ns j).l) (T j) (S (aA ns j).r) u (qa ns S T) Q0 w m hc hd dw kc hlt hl fF k0 c1 c2 sj tj (lp (by rw[e];rfl)) (bZ _ hl).1 (bZ _ hl).2.1 (bZ _ hl).2.2 (rp (by rw[e];rfl)) (bZ _ fF).1 (bZ _ fF).2.1 (hid HY) (hid HN)
   ·rw[aho S T e]at HY HN;rw[e]at c2;exact SI F gp cap g h az bK ns.length j (dG bs j) (aA ns j).l (dG bs (aA ns j).l) (aA ns j).r (dG bs (aA ns j).r) (S j) (S (aA ns j).l) (T (aA ns j).l) (T j) (S (aA ns j).r) u (qa ns S T) Q0 w m hc hd dw kc hlt hl fF k0 c1 c2 sj tj (lp (by rw[e];rfl)) (bZ _ hl).1 (bZ _ hl).2.1 (bZ _ hl).2.2 (rp (by rw[e];rfl)) (bZ _ fF).1 (bZ _ fF).2.1 (hid HY) (hid HN)
 ·obtain rfl:j=ns.length:=by omega
  exact ain F gp cap g h az bK ns.length u _ Q0 w m dw kc k0 (hx (qN.2 hP))
theorem Vq(hf:FR w F gp cap ns bs)(hs:Rb w g ns.length S)(ht:Rb w h ns.length T)(hg:Good ns)(hc:ns.length<=az)(hd:ns.length<=bK) :
  Calls Tryz.prog 121 #[.pointer (some ⟨F,0,none⟩),.slice (some ⟨g,0,none⟩) ns.length az,.slice (some ⟨h,0,none⟩) ns.length bK] w λe w'=>e=.returned (.bool (CZ ns S T))/\∃ m,w'=w.drewN m:=by
 have L:=aez F gp cap g h az bK ns bs S T w hf hs ht hg hc hd;have HL:=hid L;clear L hf hs ht hg hc hd;generalize ns.length=n at *;go_enter Tryz.func121,Tryz.ntmps121;go_wp2_with fail;refine HL.out _ ?_ ?_ _ _ ?_
 ·intro h a' w'' d0 d1 hm;obtain⟨m,rfl⟩:=hm;obtain⟨u,_,rfl⟩:=FK d0 d1;have H:=hid h;clear h HL d0 d1;go_wp2_with fail;go_ret;exact⟨by rw[H.out];rfl,m,rfl⟩
 ·intro h a' w'' d0 d1 h4 hm;obtain⟨m,rfl⟩:=hm;obtain⟨u,_,rfl⟩:=FK d0 d1;have H:=hid h;have h5:u 6=.bool false:=h4;have H5:=hid h5;clear h HL d0 d1 h4 h5;go_wp2_with fail;go_ret;exact⟨by rw[H.out];exact congrArg Ending.returned H5.out,m,rfl⟩
 ·exact⟨rfl,rfl,by simp,0,aA8 _,rfl,λk hk=>by omega,0,rfl⟩
end
theorem Tryz.lW:(Tryz.prog.info? 3).map (λi=>(i.zero,i.size,i.bytes))=some (some (.int .i64 0),1,8):=by kernel_rfl
theorem Tryz.ym:(Tryz.prog.info? 22).map (λi=>(i.zero,i.size,i.bytes))=some (some (.slice none 0 0),1,24):=by kernel_rfl
theorem Tryz.EP:(Tryz.prog.info? 132).map (λi=>(i.zero,i.size,i.bytes))=some (some (.slice none 0 0),1,24):=by kernel_rfl
def aD(l:List Nat):List Value:=l.map λx=>Value.int .i64 (x:Nat)
def NR(w:World)(v:Value)(l:List Nat):Prop:=
 ∃ ao cap,v=.slice ao l.length cap/\l.length<=cap/\(0<l.length->∃ g,ao=some ⟨g,0,none⟩/\g<w.heap.size/\∀ i,i<l.length->w.cell? ⟨g,i,none⟩=some (.int .i64 (df l i:Nat)))
theorem NR.below{w w':World}{v:Value}{l:List Nat}(h:NR w v l)(hb:Below w.heap.size w w'):NR w' v l:=by
 obtain⟨ao,cap,e,hc,h⟩:=h;refine⟨ao,cap,e,hc,λh0=>?_⟩;obtain⟨g,e2,hg,hcell⟩:=h h0;exact⟨g,e2,aBi hg hb.size,λi hi=>(hb.cell (p:=⟨g,i,none⟩) hg).trans (hcell i hi)⟩
theorem AY{w:World}{B:Nat}{v:Value}{l:List Nat}(h:w.ownsRow B 3 1 v l.length (aD l)):NR w v l:=by
 rcases h.2 with⟨rfl,h0⟩ | ⟨g,cap,cur,rfl,hb,hh,hc,hm,_⟩
 ·exact⟨none,0,by rw[h0],by omega,λh=>by omega⟩
 ·refine⟨_,cap,rfl,hc,λ_=>⟨g,rfl,dB hh,λi hi=>?_⟩⟩;rw[h.cellAt i (by omega)];simp[aD,df,List.getD,aAV hi]
def K8(w:World)(v:Value)(N:Nat)(to:Nat->List Nat):Prop:=
 ∃ ao cap,v=.slice ao N cap/\N<=cap/\(0<N->∃ g,ao=some ⟨g,0,none⟩/\g<w.heap.size/\∀ i,i<N->∃ r,w.cell? ⟨g,i,none⟩=some r/\NR w r (to i))
def PQ(w:World)(v:Value)(K N:Nat)(kp:Nat->Nat->Bool):Prop:=
 ∃ ao cap,v=.slice ao K cap/\K<=cap/\(0<K->∃ g,ao=some ⟨g,0,none⟩/\g<w.heap.size/\∀ i,i<K->∃ b,w.cell? ⟨g,i,none⟩=some (.slice (some ⟨b,0,none⟩) N N)/\Rb w b N (kp i))
def Xn(w:World)(v:Value)(K N:Nat)(kp:Nat->Nat->Bool):Prop:=
 ∃ ao cap,v=.slice ao K cap/\K<=cap/\(0<K->∃ g,ao=some ⟨g,0,none⟩/\g<w.heap.size/\∀ i,i<K->∃ b c,w.cell? ⟨g,i,none⟩=some (.slice (some ⟨b,0,none⟩) N c)/\N<=c/\Rb w b N (kp i))
theorem PQ.brc{w:World}{v:Value}{K N:Nat}{kp:Nat->Nat->Bool}(h:PQ w v K N kp):Xn w v K N kp:=by
 obtain⟨ao,cap,e,hc,h⟩:=h;refine⟨ao,cap,e,hc,λh0=>?_⟩;obtain⟨g,e2,hg,hcell⟩:=h h0;refine⟨g,e2,hg,λi hi=>?_⟩;obtain⟨b,h1,h2⟩:=hcell i hi;exact⟨b,N,h1,aAU _,h2⟩
theorem Xn.below{w w':World}{v:Value}{K N:Nat}{kp:Nat->Nat->Bool}(h:Xn w v K N kp)(hb:Below w.heap.size w w'):Xn w' v K N kp:=by
 obtain⟨ao,cap,e,hc,h⟩:=h;refine⟨ao,cap,e,hc,λh0=>?_⟩;obtain⟨g,e2,hg,hcell⟩:=h h0;refine⟨g,e2,aBi hg hb.size,λi hi=>?_⟩;obtain⟨b,c,hr,hk,hn⟩:=hcell i hi;exact⟨b,c,(hb.cell (p:=⟨g,i,none⟩) hg).trans hr,hk,hn.below hb⟩
theorem K8.below{w w':World}{v:Value}{N:Nat}{to:Nat->List Nat}(h:K8 w v N to)(hb:Below w.heap.size w w'):K8 w' v N to:=by
 obtain⟨ao,cap,e,hc,h⟩:=h;refine⟨ao,cap,e,hc,λh0=>?_⟩;obtain⟨g,e2,hg,hcell⟩:=h h0;refine⟨g,e2,aBi hg hb.size,λi hi=>?_⟩;obtain⟨r,hr,hn⟩:=hcell i hi;exact⟨r,(hb.cell (p:=⟨g,i,none⟩) hg).trans hr,hn.below hb⟩
theorem PQ.below{w w':World}{v:Value}{K N:Nat}{kp:Nat->Nat->Bool}(h:PQ w v K N kp)(hb:Below w.heap.size w w'):PQ w' v K N kp:=by
 obtain⟨ao,cap,e,hc,h⟩:=h;refine⟨ao,cap,e,hc,λh0=>?_⟩;obtain⟨g,e2,hg,hcell⟩:=h h0;refine⟨g,e2,aBi hg hb.size,λi hi=>?_⟩;obtain⟨b,hr,hn⟩:=hcell i hi;exact⟨b,(hb.cell (p:=⟨g,i,none⟩) hg).trans hr,hn.below hb⟩
structure pq (w:World) (P N:Nat) (to:Nat->List Nat) (K:Nat) (kp:Nat->Nat->Bool):Prop where
 lt:P<w.heap.size
 c0:∃ v,w.cell? ⟨P,0,none⟩=some v/\K8 w v N to
 c1:∃ v,w.cell? ⟨P,1,none⟩=some v/\Xn w v K N kp
theorem pq.below{w w':World}{P N K:Nat}{to:Nat->List Nat}{kp:Nat->Nat->Bool}(h:pq w P N to K kp)(hb:Below w.heap.size w w'):pq w' P N to K kp:=by
 obtain⟨v0,a0,b0⟩:=h.c0;obtain⟨v1,a1,b1⟩:=h.c1;exact⟨aBi h.lt hb.size,⟨v0,(hb.cell (p:=⟨P,0,none⟩) h.lt).trans a0,b0.below hb⟩,⟨v1,(hb.cell (p:=⟨P,1,none⟩) h.lt).trans a1,b1.below hb⟩⟩
structure iE (w:World) (B e e':Nat) (v:Value) (j:Nat) (V:Nat->Value) (xs:Nat->List Value):Prop where
 out:w.ownsRow B e 1 v j ((List.range j).map V)
 row:∀ i,i<j->w.ownsRow B e' 1 (V i) (xs i).length (xs i)
theorem xz(w:World)(B e e':Nat)(V:Nat->Value)(xs:Nat->List Value):iE w B e e' (.slice none 0 0) 0 V xs:=⟨aBh _ _ _ _,λi h=>by omega⟩
theorem iE.keeps{w w':World}{B e e' j:Nat}{v:Value}{V:Nat->Value}{xs:Nat->List Value}(h:iE w B e e' v j V xs)(hb:Below w.heap.size w w'):iE w' B e e' v j V xs:=⟨ae h.out hb,λi hi=>ae (h.row i hi) hb⟩
theorem iE.set{w:World}{B e e' j:Nat}{v:Value}{V:Nat->Value}{xs:Nat->List Value}(h:iE w B e e' v j V xs){k:Nat}(hk:k<B)(o:Nat)(u:Value):iE (w.setCell ⟨k,o,none⟩ u) B e e' v j V xs:=⟨ax h.out hk o u,λi hi=>ax (h.row i hi) hk o u⟩
theorem iE.grown{w w':World}{B e e' j:Nat}{v:Value}{V:Nat->Value}{xs:Nat->List Value}(h:iE w B e e' v j V xs){B2 e2 s2 n2:Nat}{v2:Value}{ys:List Value}(h2:w.ownsRow B2 e2 s2 v2 n2 ys)(hg:w.grownBy w' v2.ownBlock)(h1:e≠e2)(h3:e'≠e2):iE w' B e e' v j V xs:=
 ⟨h.out.kept hg (aC h.out h2 h1),λi hi=>(h.row i hi).kept hg (aC (h.row i hi) h2 h3)⟩
theorem oI{w w1:World}{B e e' j:Nat}{v v':Value}{V:Nat->Value}{xs:Nat->List Value}{x:Value}(h:iE w B e e' v j V xs)(hx:w.ownsRow B e' 1 x (xs j).length (xs j))(hne:e'≠e)(hg:w.grownBy w1 v.ownBlock)
  (hown:w1.ownsRow B e 1 v' (j+1) ((List.range j).map V++[x])):iE w1 B e e' v' (j+1) (λi=>if i=j then x else V i) xs:=by
 refine⟨?_,λi hi=>?_⟩
 ·rw[aBL,aBE];rw[show (List.range j).map (λi=>if i=j then x else V i)=(List.range j).map V from aBP (λi hi=>by rw[aBI]at hi;rw[aBT (by omega)])];simpa using hown
 ·by_cases e:i=j
  ·subst e;simp only[if_true];exact hx.kept hg (aC hx h.out hne)
  ·simp only[aBT e];exact(h.row i (by omega)).kept hg (aC (h.row i (by omega)) h.out hne)
def ja(f:Nat->Bool)(N:Nat):Bool:=(List.range N).all λi=>!f i
theorem EB{f:Nat->Bool}{N:Nat}:ja f N=true↔∀ i,i<N->f i=false:=by simp[ja,List.all_eq_true]
theorem adK{f:Nat->Bool}{N i:Nat}(hi:i<N)(h:f i=true):ja f N=false:=by
 cases e:ja f N with
 | false=>rfl
 | true=>rw[EB]at e;rw[e i hi]at h;cases h
def Ck(y n:Bool):Nat:=if y=true then 2 else if n=true then 1 else 0
theorem Q9(g N:Nat)(f:Nat->Bool)(w:World)(h:Rb w g N f)(hN:N<=1099511627776):Calls Tryz.prog 139 #[.slice (some ⟨g,0,Option.none⟩) N N] w λe w'=>e=.returned (.bool (ja f N))/\w'=w:=by
 go_enter Tryz.func139,Tryz.ntmps139;go_wp2_with fail
 go_loop [3] (λi=>∃ j:Nat,j<=N/\i=.int .i64 j/\Hid (∀ k,k<j->f k=false)) (λi=>N - (intOf i).toNat)
 case atStart=>exact⟨0,aA8 _,rfl,hid (λk hk=>by omega)⟩
 case round=>
  obtain⟨j,hj,rfl,HI⟩:=hrel;by_cases hlt:j<N
  ·have c:=h.cell j hlt;cases hv:f j with
   | true=>
    rw[hv]at c;have HN:=hid (adK hlt hv);clear hv;go_wp2_with fail;go_ret;exact⟨by rw[HN.out];rfl,rfl⟩
   | false=>
    rw[hv]at c;have HV:=hid hv;clear hv;go_wp2_with fail
    go_round
    case rel=>
     refine⟨j+1,by omega,by go_num,hid (λk hk=>?_)⟩;by_cases e:k<j
     ·exact HI.out k e
     ·rw[show k=j by omega];exact HV.out
    case measure=>simp[intOf];omega
  ·have HA:=hid (EB.2 (λk hk=>HI.out k (by omega)):ja f N=true);go_wp2_with fail;go_ret;exact⟨by rw[HA.out];rfl,rfl⟩
theorem acS(g h N:Nat)(y n:Nat->Bool)(w:World)(hy:Rb w g N y)(hn:Rb w h N n)(hN:N<=1099511627776) :
  Calls Tryz.prog 104 #[.slice (some ⟨g,0,Option.none⟩) N N,.slice (some ⟨h,0,Option.none⟩) N N] w λe w'=>e=.returned (.int .i64 (Ck (ja y N) (ja n N):Nat))/\w'=w:=by
 have A:=Q9 g N y w hy hN;have B:=Q9 h N n w hn hN;generalize ja y N=a at *;generalize ja n N=b at *;cases a <;> cases b
 all_goals
  go_enter Tryz.func104,Tryz.ntmps104;go_wp2_with fail;refine A.mono ?_;rintro e w1 ⟨rfl,rfl⟩;go_wp2_with fail;refine B.mono ?_;rintro e w1 ⟨rfl,rfl⟩;go_wp2_with fail;go_ret;exact⟨rfl,rfl⟩
def Cs(f h:Nat->Bool)(N:Nat):Bool:=(List.range N).all λi=>f i==h i
theorem yX{f h:Nat->Bool}{N:Nat}:Cs f h N=true↔∀ i,i<N->f i=h i:=by simp[Cs,List.all_eq_true]
theorem adm{f h:Nat->Bool}{N i:Nat}(hi:i<N)(hne:f i≠h i):Cs f h N=false:=by
 cases e:Cs f h N with
 | false=>rfl
 | true=>exact absurd (yX.1 e i hi) hne
theorem Nl(g1 g2 N:Nat)(f h:Nat->Bool)(w:World)(h1:Rb w g1 N f)(h2:Rb w g2 N h)(hN:N<=1099511627776) :
  Calls Tryz.prog 125 #[.slice (some ⟨g1,0,Option.none⟩) N N,.slice (some ⟨g2,0,Option.none⟩) N N] w λe w'=>e=.returned (.bool (Cs f h N))/\∃ m,w'=w.drewN m:=by
 have H1:=hid h1;have H2:=hid h2;clear h1 h2;go_enter Tryz.func125,Tryz.ntmps125;go_wp2_with fail
 go_loopw [5] (λi wq=>∃ k:Nat,k<=N/\i=.int .i64 k/\Hid (∀ i,i<k->f i=h i)/\Hid (∃ m,wq=w.drewN m)) (λi _=>N - (intOf i).toNat)
 case atStart=>exact⟨0,aA8 _,rfl,hid (λi hi=>by omega),hid ⟨0,rfl⟩⟩
 case round=>
  obtain⟨k,hk,rfl,HA,HM⟩:=hrel;rename World=>W0;have HB:Hid (Below w.heap.size w W0):=hid (by
   obtain⟨m,rfl⟩:=HM.out;exact aBd (aAW _ _) m)
  have HQ:Hid (∀ n,∃ m,W0.drewN n=w.drewN m):=hid (λn=>by
   obtain⟨m,rfl⟩:=HM.out;exact⟨m+n,by rw[World.drewN_drewN]⟩)
  by_cases hlk:k<N
  ·have c1:=(HB.out.cell (p:=⟨g1,k,Option.none⟩) H1.out.1).trans (H1.out.2 k hlk);have c2:=(HB.out.cell (p:=⟨g2,k,Option.none⟩) H2.out.1).trans (H2.out.2 k hlk);by_cases he:f k=h k
   ·have HE:=hid he;rw[he]at c1;clear he;have kk:(h k !=h k)=false:=by simp
    go_wp2_with fail
    go_quiet (fail)
    go_wp2_with fail;go_roundw
    case rel=>
     refine⟨k+1,by omega,by go_num,hid (λi hi=>?_),hid (HQ.out _)⟩;by_cases e:i=k
     ·subst e;exact HE.out
     ·exact HA.out i (by omega)
    case measure=>simp[intOf];omega
   ·have HE:=hid (adm hlk he);cases ha:f k <;> cases hb:h k
    ·exact absurd (ha.trans hb.symm) he
    ·rw[ha]at c1;rw[hb]at c2;clear he ha hb;go_wp2_with fail
     go_quiet (fail)
     go_wp2_with fail;go_ret;exact⟨by rw[HE.out];rfl,HQ.out _⟩
    ·rw[ha]at c1;rw[hb]at c2;clear he ha hb;go_wp2_with fail
     go_quiet (fail)
     go_wp2_with fail;go_ret;exact⟨by rw[HE.out];rfl,HQ.out _⟩
    ·exact absurd (ha.trans hb.symm) he
  ·obtain rfl:k=N:=by omega
   have HS:=hid (yX.2 HA.out);go_wp2_with fail;go_ret;exact⟨by rw[HS.out];rfl,HM.out⟩
structure Three (w:World) (b:Nat) (x y z:Value):Prop where
 c0:w.cell? ⟨b,0,none⟩=some x
 c1:w.cell? ⟨b,1,none⟩=some y
 c2:w.cell? ⟨b,2,none⟩=some z
 fz:∀ o,o<3->w.frozen? ⟨b,o,none⟩=false
theorem Three.lt{w:World}{b:Nat}{x y z:Value}(h:Three w b x y z):b<w.heap.size:=World.block_lt_of_cell? w ⟨b,0,none⟩ h.c0
theorem dH(w:World)(x y z:Value)(t:TypeId):Three (w.alloc (.cells #[x,y,z] t)) w.heap.size x y z:=⟨by simp,by simp,by simp,λo ho=>by simp⟩
theorem Three.below{B:Nat}{w w':World}{b:Nat}{x y z:Value}(h:Three w b x y z)(hb:Below B w w')(hlt:b<B):Three w' b x y z:=
 ⟨(hb.cell (p:=⟨b,0,none⟩) hlt).trans h.c0,(hb.cell (p:=⟨b,1,none⟩) hlt).trans h.c1,(hb.cell (p:=⟨b,2,none⟩) hlt).trans h.c2,λo ho=>(hb.frozen (p:=⟨b,o,none⟩) hlt).trans (h.fz o ho)⟩
theorem Three.set1{w:World}{b:Nat}{x y z:Value}(h:Three w b x y z)(v:Value):Three (w.setCell ⟨b,1,none⟩ v) b x v z:=
 ⟨by rw[aA0 _ _ _ _ (by simp)];exact h.c0,aBr _ _ _ h.c1,by rw[aA0 _ _ _ _ (by simp)];exact h.c2,λo ho=>by rw[aBe];exact h.fz o ho⟩
theorem Three.set2{w:World}{b:Nat}{x y z:Value}(h:Three w b x y z)(v:Value):Three (w.setCell ⟨b,2,none⟩ v) b x y v:=
 ⟨by rw[aA0 _ _ _ _ (by simp)];exact h.c0,by rw[aA0 _ _ _ _ (by simp)];exact h.c1,aBr _ _ _ h.c2,λo ho=>by rw[aBe];exact h.fz o ho⟩
theorem Three.set0{w:World}{b:Nat}{x y z:Value}(h:Three w b x y z)(v:Value):Three (w.setCell ⟨b,0,none⟩ v) b v y z:=
 ⟨aBr _ _ _ h.c0,by rw[aA0 _ _ _ _ (by simp)];exact h.c1,by rw[aA0 _ _ _ _ (by simp)];exact h.c2,λo ho=>by rw[aBe];exact h.fz o ho⟩
theorem Three.other{w:World}{b k o:Nat}{x y z:Value}(h:Three w b x y z)(hk:k≠b)(v:Value):Three (w.setCell ⟨k,o,none⟩ v) b x y z:=
 ⟨by rw[aA0 _ _ _ _ (λe=>hk (congrArg Addr.block e))];exact h.c0,by rw[aA0 _ _ _ _ (λe=>hk (congrArg Addr.block e))];exact h.c1,by rw[aA0 _ _ _ _ (λe=>hk (congrArg Addr.block e))];exact h.c2,λq hq=>by rw[aBe];exact h.fz q hq⟩
theorem CE:∀ (n:Nat) (l:List Nat),l.Nodup->(∀ b∈l,b<n)->l.length<=n
 | 0,l,_,h=>by
  cases l with
  | nil=>exact aAU _
  | cons b l=>exact absurd (h b (List.mem_cons_self ..)) (by omega)
 | n+1,l,hd,h=>by
  have h1:=CE n (l.erase n) (hd.erase n) (λb hb=>by
   have ak:=(List.Nodup.mem_erase_iff hd).1 hb;have:=h b ak.2;omega)
  have h2:l.length<=(l.erase n).length+1:=by rw[List.length_erase];split <;> omega
  omega
def upd(f:Nat->Bool)(b:Nat)(v:Bool):Nat->Bool:=λi=>if i=b then v else f i
structure II (E:Nat->Nat->Prop) (n lT:Nat) (todo:List Nat) (seen:Nat->Bool):Prop where
 parts:∃ rest,todo=lT::rest/\rest.Nodup/\(∀ b,seen b=true↔b∈rest)/\∀ b∈rest,reach E lT b/\b<n
theorem abT(E:Nat->Nat->Prop)(n lT:Nat):II E n lT [lT] (λ_=>false):=⟨[],rfl,List.nodup_nil,λb=>by simp,λb hb=>by simp at hb⟩
theorem II.len{E:Nat->Nat->Prop}{n lT:Nat}{todo:List Nat}{seen:Nat->Bool}(h:II E n lT todo seen):todo.length<=n+1:=by
 obtain⟨rest,rfl,h1,_,h3⟩:=h.parts;have:=CE n rest h1 (λb hb=>(h3 b hb).2);simp;omega
theorem II.mem{E:Nat->Nat->Prop}{n lT:Nat}{todo:List Nat}{seen:Nat->Bool}(h:II E n lT todo seen){a:Nat}(ha:a∈todo):a=lT\/(reach E lT a/\a<n):=by
 obtain⟨rest,rfl,_,_,h3⟩:=h.parts;rcases List.mem_cons.1 ha with rfl | ha
 ·exact aA2 rfl
 ·exact aA3 (h3 a ha)
theorem aiw{E:Nat->Nat->Prop}{n lT:Nat}{todo:List Nat}{seen:Nat->Bool}(h:II E n lT todo seen){a b:Nat}(ha:a∈todo)(he:E a b)(hb:b<n)(hs:seen b=false):II E n lT (todo++[b]) (upd seen b true):=by
 have hm:=h.mem ha;obtain⟨rest,rfl,h1,h2,h3⟩:=h.parts;have hnb:b ∉ rest:=λhx=>by rw[(h2 b).2 hx]at hs;simp at hs
 have hr:reach E lT b:=by
  rcases hm with rfl | ⟨hm,_⟩
  ·exact kJ he
  ·exact dU hm (kJ he)
 refine⟨rest++[b],rfl,?_,λc=>?_,λc hc=>?_⟩
 ·rw[List.nodup_append];refine⟨h1,by simp,λx hx y hy e=>?_⟩;simp at hy;subst hy;subst e;exact hnb hx
 ·unfold upd;by_cases e:c=b
  ·subst e;simp
  ·rw[aBT e,h2 c];simp[e]
 ·rcases aBy.1 hc with hc | hc
  ·exact h3 c hc
  ·simp at hc;subst hc;exact⟨hr,hb⟩
theorem ae2{E:Nat->Nat->Prop}{n lT:Nat}{todo:List Nat}{seen:Nat->Bool}(h:II E n lT todo seen)(hall:∀ a∈todo,∀ b,E a b->seen b=true)(b:Nat):seen b=true↔reach E lT b:=by
 obtain⟨rest,rfl,h1,h2,h3⟩:=h.parts;constructor
 ·intro hb;exact(h3 b ((h2 b).1 hb)).1
 ·rintro ⟨L,hL⟩;have key:∀ L a,a∈lT::rest->qg E (L+1) a b->seen b=true:=by
   intro L
   induction L with
   | zero=>
    rintro a ha ⟨c,he,hc⟩;cases hc;exact hall a ha _ he
   | succ L ih=>
    rintro a ha ⟨c,he,hc⟩;have hs:=hall a ha c he;exact ih c (List.mem_cons_of_mem _ ((h2 c).1 hs)) hc
  exact key L lT (List.mem_cons_self ..) hL
theorem xY{E:Nat->Nat->Prop}{a b:Nat}:reach (λx y=>E y x) a b↔reach E b a:=by
 have key:∀ (E:Nat->Nat->Prop) L a b,qg E L a b->qg (λx y=>E y x) L b a:=by
  intro E L
  induction L with
  | zero=>intro a b h;exact h.symm
  | succ L ih=>
   rintro a b ⟨c,he,hc⟩;have h1:=ih c b hc;exact Cw L 1 b c a h1 ⟨a,he,rfl⟩
 exact⟨λ⟨L,h⟩=>⟨L,key _ _ _ _ h⟩,λ⟨L,h⟩=>⟨L,key _ _ _ _ h⟩⟩
theorem ZP{E:Nat->Nat->Prop}{c:Nat}(h:reach E c c):(∃ d,E c d/\reach E d d)/\∃ d,E d c/\reach E d d:=by
 have one:∀ {E:Nat->Nat->Prop} {c:Nat},reach E c c->∃ d,E c d/\reach E d d:=by
  rintro E c ⟨L,d,he,hd⟩;refine⟨d,he,?_⟩;cases L with
  | zero=>cases hd;exact kJ he
  | succ L=>exact dU ⟨L,hd⟩ (kJ he)
 refine⟨one h,?_⟩;obtain⟨d,h1,h2⟩:=one (xY.2 h);exact⟨d,h1,xY.1 h2⟩
theorem Sr{E:Nat->Nat->Prop}{K:Nat->Nat->Prop}{m c i:Nat}(h1:reach E c i)(h2:reach E i c)(h:xy E K m c):xy E K m i:=by
 refine⟨dU h2 h1,λk hk=>?_⟩;obtain⟨j,a,b,d⟩:=h.2 k hk;exact⟨j,dU h2 a,dU b h1,d⟩
