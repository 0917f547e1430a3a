import Derived.Test.YtjagijohfkffiabGreatFREM46
set_option maxHeartbeats 16000000
set_option maxRecDepth 100000
set_option linter.unusedSimpArgs false
namespace Go.Proofs.YtjagijohfkffiabGreat
open Go.RowKit
set_option linter.unusedVariables false
structure Dn (w:World) (E:Nat->Nat->Prop) (n t gh:Nat) (ao:Option Addr) (cap:Nat) (ls:List (Nat × Nat)) (found:Nat->Bool):Prop where
 fl:bU w gh (n*256) found
 lt:gh<w.heap.size
 lk:xx w ao cap ls
 sk:pR E (n*256) (λy=>decide (y=t)) ls found
 fd:∀ x,found x=true↔fE E (λy=>decide (y=t)=true) x
theorem Dn.below{w w':World}{E:Nat->Nat->Prop}{n t gh:Nat}{ao:Option Addr}{cap:Nat}{ls:List (Nat × Nat)}{found:Nat->Bool}(h:Dn w E n t gh ao cap ls found)(hb:Below w.heap.size w w'):Dn w' E n t gh ao cap ls found:=
 ⟨h.fl.below hb h.lt,aBi h.lt hb.size,h.lk.below hb,h.sk,h.fd⟩
theorem Dn.reach{w:World}{E:Nat->Nat->Prop}{n t gh:Nat}{ao:Option Addr}{cap:Nat}{ls:List (Nat × Nat)}{found:Nat->Bool}(h:Dn w E n t gh ao cap ls found)(x:Nat):found x=true↔reach E x t:=by
 rw[h.fd x];constructor
 ·rintro ⟨y,h1,h2⟩;have:y=t:=by simpa using h2
  rw[<-this];exact h1
 ·intro h1;exact⟨t,h1,by simp⟩
def MV(n:Nat)(ns:List Nd)(into:Nat->List (Nat × Nat))(cs:List (Nat->Bool))(t:Nat)(w:World)(e:Ending)(w':World):Prop:=
 ∃ ps v,e=.returned v/\w'.ownsRow w.heap.size 166 2 v ps.length (dn ps)/\La (Ew n ns into) (spreads cs) t ps/\(∀ p∈ps,p<n*256)/\ps.length<=(cs.length+1)*(n*256)/\Below w.heap.size w w'
theorem Vi{c:Nat->Bool}{xs:List Nat}:rf c xs=true↔∃ p∈xs,spread c p=true:=by
 unfold rf spread;rw[List.any_eq_true]
theorem XF{cs:List (Nat->Bool)}{k:Nat}{c:Nat->Bool}(h:cs[k]?=some c):(spreads cs)[k]?=some (spread c):=by simp[spreads,h]
theorem KA(xs:List Nat):(dn xs).length=xs.length*2:=by
 induction xs with
 | nil=>rfl
 | cons x xs ih=>rw[show dn (x::xs)=[.int .i64 (x / 256:Nat),.int .u8 (x % 256:Nat)]++dn xs by simp[dn],aA5,ih];simp;omega
theorem KC(xs ys:List Nat):dn (xs++ys)=dn xs++dn ys:=by simp[dn]
theorem Kz(xs:List Nat):∀ u∈dn xs,u.oneCell'=true:=by
 intro u hu;simp only[dn,List.mem_flatMap]at hu;obtain⟨x,_,h⟩:=hu;simp at h;rcases h with rfl | rfl <;> rfl
theorem VF{w:World}{B:Nat}{ao:Option Addr}{cap:Nat}{xs:List Nat}(h:w.ownsRow B 166 2 (.slice ao xs.length cap) xs.length (dn xs)):(ao=none->xs.length=0/\cap=0)/\∀ ad,ao=some ad->∀ j u,(dn xs)[j]?=some u->w.cell? (ad.add j)=some u:=by
 rcases h.2 with⟨e,h0⟩ | ⟨g,cap',cur,e,hb,hh,hc,hm,_⟩
 ·obtain⟨e1,e2,e3⟩:=Value.slice.inj e;exact⟨λ_=>⟨h0,e3⟩,(λad h=>by rw[e1]at h;cases h)⟩
 ·obtain⟨e1,e2,e3⟩:=Value.slice.inj e;refine⟨(λh=>by rw[e1]at h;cases h),λad e j u hj=>?_⟩;rw[e1]at e;cases e;exact h.cells (by rw[e1];rfl) j u hj
theorem Hl{ops:Array Oper}{rest:List Oper}{op:Oper}{a:Act}{w:World}{Q:Exit->Act->World->Prop}(hw:Region.wanted op (yielded ops a.tmps)=true)(x:Operand)(ho:op.op=.load 61 x)
  (b o:Nat) (g:Nat->Bool) (hx:a.eval x=.pointer (some ⟨b,o,none⟩)) (hg:bC w b o g)
  (h:wpList Tryz.prog ops Q rest (a.put op.dst (.agg (gv g).toArray)) w):wpList Tryz.prog ops Q (op::rest) a w:=
 wpList_step λK hK=>by
  rw[aBU hw];exact wp_load_mid 61 x ho b o hx (gv g) _ hg.tJ Tryz.je rfl (Tryz.nM g) (hK _ _ h)
theorem ZL(P gi n bY t gh:Nat)(ns:List Nd)(into:Nat->List (Nat × Nat))(cs:List (Nat->Bool))(f:Nat->Bool)(x:Nat)(ao:Option Addr)(cap:Nat)(ls:List (Nat × Nat))(found:Nat->Bool)(w:World)(h8:ns.length<=8)(hp:uV n into)(hn8:n<=1048576)(mF:uN w P ns)(hP:P<w.heap.size)(hcm:qC w P cs)(hcl:cs.length<=8)(hw:nY w gi n into)(hh:Dn w (Ew n ns into) n t gh ao cap ls found)(ht:Qj (Ew n ns into) (spreads cs) f x t)(VZ:t<n*256) :
  Calls Tryz.prog 99 #[.pointer (some ⟨P,0,none⟩),.agg #[.slice (some ⟨gi,0,none⟩) n bY],.agg #[.slice (some ⟨gh,0,none⟩) n n,.slice ao ls.length cap,.int .i64 ((aG (λy=>decide (y=t)) (n*256)).length:Nat)],Dx t] w (MV n ns into cs t w):=by
 have hn:=hp.le;have HP:=hid hp;have HM:=hid (λW (b:Below w.heap.size w W)=>mF.below b hP);have HW:=hid (λW (b:Below w.heap.size w W)=>hw.below b);have HH:=hid (λW (b:Below w.heap.size w W)=>hh.below b);have HRE:=hid hh.reach;have Ea:=hid ht;obtain⟨ca,ala,Pg,Fe⟩:=hcm;have Eh:=hid Fe;have jW:=mJ hh.sk;have akm:=pM (λy=>decide (y=t)) (n*256);have hgh:=hh.lt;obtain⟨i0,tN,aR,aP,aN⟩:=info_parts Tryz.EM;clear hp mF hw hh ht Fe;obtain⟨ta,tb,rfl,htb⟩:∃ ta tb,t=ta*256+tb/\tb<256:=⟨t / 256,t % 256,by omega,by omega⟩;rw[jK ta htb];have hta:ta<n:=by omega
 have kF:Hid ((aG (λy=>decide (y=ta*256+tb)) (n*256)).length=(aG (λy=>decide (y=ta*256+tb)) (n*256)).length):=hid rfl;generalize aej:(aG (λy=>decide (y=ta*256+tb)) (n*256)).length=gl at *;have afg:=hid aej;clear aej kF;generalize hm:cs.length=m at *;have nJ:=hid hm;clear hm;have ba:=(aAW w.heap.size w).alloc (aAU _) (.cells #[.slice (some ⟨gi,0,none⟩) n bY] 159);have bb:=ba.alloc (by simp) (.cells #[.slice (some ⟨gh,0,none⟩) n n,.slice ao ls.length cap,.int .i64 (gl:Nat)] 171);have bc:=bb.alloc (by simp;omega) (.cells #[.int .i64 (ta:Nat),.int .u8 (tb:Nat)] 166);have bd:=bc.alloc (by simp;omega) (.cells #[.int .i64 (ta:Nat),.int .u8 (tb:Nat)] 166);have B0:=hid bd;go_enter Tryz.func99,Tryz.ntmps99;have rE:=(bd.cell (p:=⟨P,2048,none⟩) hP).trans Pg;have C0:((((w.alloc (.cells #[.slice (some ⟨gi,0,none⟩) n bY] 159)).alloc (.cells #[.slice (some ⟨gh,0,none⟩) n n,.slice ao ls.length cap,.int .i64 (gl:Nat)] 171)).alloc (.cells #[.int .i64 (ta:Nat),.int .u8 (tb:Nat)] 166)).alloc (.cells #[.int .i64 (ta:Nat),.int .u8 (tb:Nat)] 166)).cell? ⟨w.heap.size,0,none⟩=some (.slice (some ⟨gi,0,none⟩) n bY):=by
  have h1:(w.alloc (.cells #[.slice (some ⟨gi,0,none⟩) n bY] 159)).cell? ⟨w.heap.size,0,none⟩=some (.slice (some ⟨gi,0,none⟩) n bY):=by simp
  exact(((((aAW (w.heap.size+1) _).alloc (by simp) (.cells #[.slice (some ⟨gh,0,none⟩) n n,.slice ao ls.length cap,.int .i64 (gl:Nat)] 171)).alloc (by simp) (.cells #[.int .i64 (ta:Nat),.int .u8 (tb:Nat)] 166)).alloc (by simp) (.cells #[.int .i64 (ta:Nat),.int .u8 (tb:Nat)] 166)).cell (p:=⟨w.heap.size,0,none⟩) (by show w.heap.size<w.heap.size+1;omega)).trans h1
 have T0:Three ((((w.alloc (.cells #[.slice (some ⟨gi,0,none⟩) n bY] 159)).alloc (.cells #[.slice (some ⟨gh,0,none⟩) n n,.slice ao ls.length cap,.int .i64 (gl:Nat)] 171)).alloc (.cells #[.int .i64 (ta:Nat),.int .u8 (tb:Nat)] 166)).alloc (.cells #[.int .i64 (ta:Nat),.int .u8 (tb:Nat)] 166)) (w.heap.size+1) (.slice (some ⟨gh,0,none⟩) n n) (.slice ao ls.length cap) (.int .i64 (gl:Nat)):=by
  have h1:=dH (w.alloc (.cells #[.slice (some ⟨gi,0,none⟩) n bY] 159)) (.slice (some ⟨gh,0,none⟩) n n) (.slice ao ls.length cap) (.int .i64 (gl:Nat)) 171;rw[show (w.alloc (.cells #[.slice (some ⟨gi,0,none⟩) n bY] 159)).heap.size=w.heap.size+1 by simp]at h1;exact h1.below (((aAW (w.heap.size+2) _).alloc (by simp) (.cells #[.int .i64 (ta:Nat),.int .u8 (tb:Nat)] 166)).alloc (by simp) (.cells #[.int .i64 (ta:Nat),.int .u8 (tb:Nat)] 166)) (by omega)
 have A0:Two ((((w.alloc (.cells #[.slice (some ⟨gi,0,none⟩) n bY] 159)).alloc (.cells #[.slice (some ⟨gh,0,none⟩) n n,.slice ao ls.length cap,.int .i64 (gl:Nat)] 171)).alloc (.cells #[.int .i64 (ta:Nat),.int .u8 (tb:Nat)] 166)).alloc (.cells #[.int .i64 (ta:Nat),.int .u8 (tb:Nat)] 166)) (w.heap.size+3) (.int .i64 (ta:Nat)) (.int .u8 (tb:Nat)):=by
  have h1:=dD (((w.alloc (.cells #[.slice (some ⟨gi,0,none⟩) n bY] 159)).alloc (.cells #[.slice (some ⟨gh,0,none⟩) n n,.slice ao ls.length cap,.int .i64 (gl:Nat)] 171)).alloc (.cells #[.int .i64 (ta:Nat),.int .u8 (tb:Nat)] 166)) (.int .i64 (ta:Nat)) (.int .u8 (tb:Nat)) 166;rw[show (((w.alloc (.cells #[.slice (some ⟨gi,0,none⟩) n bY] 159)).alloc (.cells #[.slice (some ⟨gh,0,none⟩) n n,.slice ao ls.length cap,.int .i64 (gl:Nat)] 171)).alloc (.cells #[.int .i64 (ta:Nat),.int .u8 (tb:Nat)] 166)).heap.size=w.heap.size+3 by simp]at h1;exact h1
 have HC0:=hid C0;have HT0:=hid T0;have HA0:=hid A0;clear ba bb bc bd C0 T0 A0 Pg;go_wp2_with fail;generalize hWE:((((w.alloc (.cells #[.slice (some ⟨gi,0,none⟩) n bY] 159)).alloc (.cells #[.slice (some ⟨gh,0,none⟩) n n,.slice ao ls.length cap,.int .i64 (gl:Nat)] 171)).alloc (.cells #[.int .i64 (ta:Nat),.int .u8 (tb:Nat)] 166)).alloc (.cells #[.int .i64 (ta:Nat),.int .u8 (tb:Nat)] 166))=W at *;have DT:W.heap.size=w.heap.size+4:=by rw[<-hWE];simp
 clear hWE rE;have LI0:Hid (zW (Ew n ns into) (spreads cs) (ta*256+tb) 0 [] (ta*256+tb)):=hid (Vk Ea.out.ring)
 go_loopw [9,25] (λv i wq=>∃ (k ya yb:Nat) (ps:List Nat),k<=m/\i=.int .i64 k/\ya<n/\yb<256/\Hid (wq.ownsRow (w.heap.size+4) 166 2 v ps.length (dn ps))/\Hid (zW (Ew n ns into) (spreads cs) (ta*256+tb) k ps (ya*256+yb))/\Hid (Two wq (w.heap.size+3) (.int .i64 (ya:Nat)) (.int .u8 (yb:Nat)))/\Hid (∀ p∈ps,p<n*256)/\ps.length<=k*(n*256)/\Hid (Below (w.heap.size+3) W wq)/\w.heap.size+4<=wq.heap.size) (λ_ i _=>m - (intOf i).toNat)
 case atStart=>exact⟨0,ta,tb,[],aA8 _,rfl,hta,htb,hid (aBh _ _ _ _),LI0,HA0,hid (λp hp=>by simp at hp),aA8 _,hid (aAW _ _),by omega⟩
 case round=>
  obtain⟨k,ya,yb,ps,hk,rfl,Rv,Bd,HO,WY,HA,HPN,V3,HB,hsz⟩:=hrel;rename World=>W0;rename Value=>v0;clear LI0 HA0;obtain⟨aV,cV,rfl⟩:=ai HO.out;have Ab:=hid (B0.out.trans (HB.out.mono (by omega)));have hkN:k*(n*256)<=8*(n*256):=Nat.mul_le_mul_right _ (by omega);have a0:=HA.out.c0;have a1:=HA.out.c1;have i3:(0:Int)<=(yb:Int):=by omega
  have i4:(yb:Int)<256:=by omega
  by_cases hlk:k<m
  ·obtain⟨gc,e,Bj,hcell⟩:=Eh.out (by omega);subst e;obtain⟨c,hc⟩:∃ c,cs[k]?=some c:=⟨cs[k]'(by rw[nJ.out];exact hlk),aAV (by rw[nJ.out];exact hlk)⟩;have GC:=hid ((hcell k c hc).below Ab.out Bj);have Xi:=hid (XF hc);have UD:=hid (DF hc);clear hcell hc;go_wp2_with (first | (refine aQ rfl (.tmp 27) rfl gc (k*256) c rfl GC.out ?_) | (refine bW rfl (.tmp 12) (.tmp 28) rfl W0.heap.size 0 c rfl rfl (gN W0).there ?_))
   intro w2 S2;have bR:Below W0.heap.size W0 w2:=S2.bG _ _ (aAU _) ((aAW _ _).alloc (aAU _) _);have A2:=hid S2.at_;have Gn:=hid bR;have lm:=bR.size;have arJ:W0.heap.size<w2.heap.size:=World.block_lt_of_cell? w2 ⟨W0.heap.size,0,none⟩ (by have:=S2.at_.c 0 (by omega);exact this);have AA2:=HA.out.below bR (by omega);have cy:w2.cell? ⟨W0.heap.size,yb,none⟩=some (.bool (c yb)):=by have:=S2.at_.c yb Bd;rwa [aBo]at this
   have aW:=hid (HB.out.trans (bR.mono (by omega)));clear S2 bR GC a0 a1;have a0:=AA2.c0;have a1:=AA2.c1;have afj:=hid AA2;have O2:=hid (ae HO.out Gn.out);clear AA2;cases hcy:c yb with
   | true=>
    have oo:=hid (Ke WY.out Xi.out (aA2 (by unfold spread;rw[(jC ya Bd).2];exact hcy)));rw[hcy]at cy;clear hcy;go_wp2_with fail;go_roundw
    case rel=>exact⟨k+1,ya,yb,ps,by omega,by go_num,Rv,Bd,O2,oo,afj,HPN,by rw[Nat.succ_mul];omega,aW,by omega⟩
    case measure=>simp[intOf] <;> omega
   | false=>
    rw[hcy]at cy;clear hcy;obtain⟨aV',cV',eV,SM⟩:=QK O2.out;cases eV;have HSM:=hid SM;clear SM;have MT:=hid (λW (h:Ub W aV cV ps)=>aae aV cV ps c W h (by omega));go_wp2_with (first | (refine Hl (by rfl) (.tmp 12) rfl W0.heap.size 0 c rfl A2.out ?_))
    refine(MT.out _ HSM.out).mono ?_;rintro e w3 ⟨rfl,aI⟩;have Ul:=hid (Gn.out.trans (aI.mono (by omega)));have A3:=hid (A2.out.below aI arJ);have cu:=hid (aW.out.trans (aI.mono (by omega)));have AA3:=hid (afj.out.below aI (by omega));have O3:=hid (ae O2.out aI);have vF:=aI.size;clear aI HSM MT a0 a1 cy afj O2 A2;cases hmt:rf c ps with
    | true=>
     have oo:=hid (Ke WY.out Xi.out (aA3 (by obtain⟨p,h1,h2⟩:=Vi.1 hmt;exact⟨p,h1,h2⟩)));clear hmt;go_wp2_with fail;go_roundw
     case rel=>exact⟨k+1,ya,yb,ps,by omega,by go_num,Rv,Bd,O3,oo,AA3,HPN,by rw[Nat.succ_mul];omega,cu,by omega⟩
     case measure=>simp[intOf] <;> omega
    | false=>
     clear hmt;have T3:=hid (HT0.out.below cu.out (by omega));have atl:=hid (B0.out.trans (cu.out.mono (by omega)));have th0:=T3.out.c0;have Xb:=hid (HH.out _ atl.out);go_wp2_with (refine aQ rfl (.tmp 12) rfl W0.heap.size 0 c rfl A3.out ?_);refine(Jv gh n n found c w3 (by omega) Xb.out.fl (by omega)).mono ?_;rintro e w4 ⟨g4,rfl,hg4,RZ,F4,eH⟩;have Uk:=hid (Ul.out.trans (eH.mono (by omega)));have iN:=hid (cu.out.trans (eH.mono (by omega)));have amS:=hid (B0.out.trans (iN.out.mono (by omega)));have c4:=(iN.out.cell (p:=⟨w.heap.size,0,none⟩) (by show w.heap.size<w.heap.size+3;omega)).trans HC0.out;have PL:=hid F4;have zu:=eH.size;clear th0 eH F4 A3;go_wp2_with fail;refine(xU P gi n bY g4 n ns into (eG found c) w4 h8 HP.out (HM.out _ amS.out) (by omega) (HW.out _ amS.out) PL.out RZ).mono ?_;rintro e w5 ⟨g5,fo5,VP,v5,rfl,hg5,aek,_,L5,SK5,OL5,bV⟩;obtain⟨a5,cp5,rfl,LM5⟩:=CF OL5;have HX5:=hid (Uk.out.trans (bV.mono (by omega)));have iM:=hid (iN.out.trans (bV.mono (by omega)));have tL:=bV.size;have amm:=hid LM5;have asI:=hid SK5;have ax3:=mJ SK5;have ax7:=pM (eG found c) (n*256);have ata:Hid (∀ y,eG found c y=true->reach (Ew n ns into) y (ta*256+tb)/\spread c y=true):=hid (λy hy=>by
      unfold eG at hy;simp only[aBz]at hy;exact⟨(HRE.out y).1 hy.1,hy.2⟩)
     have atd:Hid (∃ i t:Nat,(aG (eG found c) (n*256)).length<=i/\VP[i]?=some (ya*256+yb,t)):=hid (SK5.in_ _ (by
      rw[L5];obtain⟨i,h1,h2,h3⟩:=Ea.out.met _ UD.out;refine⟨i,dU WY.out.home h1,?_⟩;show (found i&&c (i % 256))=true;rw[(HRE.out i).2 h3];exact h2))
     generalize Fa:(aG (eG found c) (n*256)).length=nW at *;have Dt:=hid Fa;clear Fa L5 SK5 OL5 LM5 bV c4;have bs:=(aAW w5.heap.size w5).alloc (aAU _) (.cells #[.slice (some ⟨g5,0,none⟩) n n,.slice a5 VP.length cp5,.int .i64 (nW:Nat)] 171);have Uo:=hid (dH w5 (.slice (some ⟨g5,0,none⟩) n n) (.slice a5 VP.length cp5) (.int .i64 (nW:Nat)) 171);have Gm:=hid (HX5.out.trans (bs.mono (by omega)));have AA6:=hid (HA.out.below Gm.out (by omega));have a0:=AA6.out.c0;have a1:=AA6.out.c1;have aml:=hid (amm.out.below bs);have NA:=Ah w5.heap.size (ya*256+yb) (.slice (some ⟨g5,0,none⟩) n n) a5 cp5 nW VP _ Uo.out aml.out (by omega) (by omega) atd.out;rw[jK ya Bd]at NA;have PG:=hid NA;clear bs NA aml;go_wp2_with fail;refine PG.out.mono ?_;rintro e w7 ⟨i,t,rfl,zD,hit,oZ⟩;simp only[aAZ]at oZ;have Pw:=hid (Gm.out.trans (oZ.mono (by omega)));have HS7:=hid (Uo.out.below oZ (by omega));have vE:w5.heap.size<w7.heap.size:=HS7.out.lt;have b57:Below w5.heap.size w5 w7:=((aAW w5.heap.size w5).alloc (aAU _) (.cells #[.slice (some ⟨g5,0,none⟩) n n,.slice a5 VP.length cp5,.int .i64 (nW:Nat)] 171)).trans (oZ.mono (by omega));have WA:=Ch w5.heap.size i (ya*256+yb) t (Ew n ns into) (n*256) (eG found c) fo5 (.slice (some ⟨g5,0,none⟩) n n) a5 cp5 VP w7 asI.out (by rw[Dt.out];exact HS7.out) (amm.out.below b57) (by omega) (by omega) hit;rw[Dt.out]at WA;have Gp:=hid WA;clear oZ a0 a1 b57 WA PG Uo HS7;go_wp2_with fail;refine Gp.out.mono ?_;intro e w8 zq;unfold xK at zq;obtain⟨qs,en,vp,rfl,OP,hgo,hne,_,Bg,Bi,Sb,yo,Kl,Fj⟩:=zq;obtain⟨ap,cp,rfl⟩:=ai OP;obtain⟨ea,eb,rfl,Sc⟩:∃ ea eb,en=ea*256+eb/\eb<256:=⟨en / 256,en % 256,by omega,by omega⟩;rw[(jC ea Sc).1,(jC ea Sc).2];have hea:ea<n:=by omega
     obtain⟨g1,g2⟩:=ata.out _ Bi;have oo:=hid (Yg WY.out Xi.out (hne zD) Bg hgo g1 g2);have BK:=hid (Pw.out.trans (Fj.mono (by omega)));have DK:=BK.out.size;have arI:=Fj.size;have bt:=(aAW w8.heap.size w8).alloc (aAU _) (.cells #[.slice ap qs.length cp,.int .i64 (ea:Nat),.int .u8 (eb:Nat)] 175);have DZ:=hid (BK.out.trans (bt.mono (by omega)));have O9:=hid (ae HO.out DZ.out);have NW:=VF (ae OP bt);have NW1:=hid NW.1;have NW2:=hid NW.2;have kS:=hid (λq h=>(HO.out.lt q h).1);have afb:Hid (∀ p∈ps++qs,p<n*256):=hid (λp hp=>(aBy.1 hp).elim (HPN.out p) (yo p));have ql:(k+1)*(n*256)=k*(n*256)+n*256:=Nat.succ_mul _ _;clear OP hgo hne Bg Bi yo Fj NW Gp g1 g2;go_wp2_with (at_builtin;go_must (refine lY _ rfl (.tmp 50) (.tmp 52) 163 rfl (w.heap.size+4) 166 i0 (.agg #[.int .i64 0,.int .u8 0]) 2 16 Tryz.underlying163 tN aR aP aN rfl (by decide) _ ps.length _ rfl O9.out ap qs.length cp (dn qs) rfl (KA qs) NW1.out NW2.out (Kz qs) ?c3 ?c4 ?c5 ?_))
     case c3=>unfold maxLen;omega
     case c4=>omega
     case c5=>simp;omega
     intro v10 xN hown hgrow;have DW:Below (w.heap.size+4) (w8.alloc (.cells #[.slice ap qs.length cp,.int .i64 (ea:Nat),.int .u8 (eb:Nat)] 175)) xN:=(aAW (w.heap.size+4) _).grown hgrow (by simp;omega) (λq h=>kS.out q h);have T9:Three (w8.alloc (.cells #[.slice ap qs.length cp,.int .i64 (ea:Nat),.int .u8 (eb:Nat)] 175)) w8.heap.size (.slice ap qs.length cp) (.int .i64 (ea:Nat)) (.int .u8 (eb:Nat)):=dH _ _ _ _ _;have alM:=λq h=>(HO.out.lt q h).2;have e1:xN.cell? ⟨w8.heap.size,1,none⟩=some (.int .i64 (ea:Nat)):=hgrow.cell T9.c1 (λh=>by have:=alM w8.heap.size h.symm;omega);have e2:xN.cell? ⟨w8.heap.size,2,none⟩=some (.int .u8 (eb:Nat)):=hgrow.cell T9.c2 (λh=>by have:=alM w8.heap.size h.symm;omega);have M0:=(HA.out.below DZ.out (by omega)).below DW (by omega);have a0:=M0.c0;have a1:=M0.c1;have af0:=M0.f0;have af1:=M0.f1;have N1:=hid (M0.sets (.int .i64 (ea:Nat)) (.int .u8 (eb:Nat)));have N2:Hid (((xN.setCell ⟨w.heap.size+3,0,none⟩ (.int .i64 (ea:Nat))).setCell ⟨w.heap.size+3,1,none⟩ (.int .u8 (eb:Nat))).ownsRow (w.heap.size+4) 166 2 v10 (ps++qs).length (dn (ps++qs))):=hid (by
      rw[KC,aA5];exact ax (ax hown (k:=w.heap.size+3) (by omega) 0 _) (k:=w.heap.size+3) (by omega) 1 _)
     have N3:=hid ((((HB.out.trans (DZ.out.mono (by omega))).trans (DW.mono (by omega))).setCell (p:=⟨w.heap.size+3,0,none⟩) (aAU _) (.int .i64 (ea:Nat))).setCell (p:=⟨w.heap.size+3,1,none⟩) (aAU _) (.int .u8 (eb:Nat)));have n4:w.heap.size+4<=((xN.setCell ⟨w.heap.size+3,0,none⟩ (.int .i64 (ea:Nat))).setCell ⟨w.heap.size+3,1,none⟩ (.int .u8 (eb:Nat))).heap.size:=by have:=DW.size;simp at this ⊢;omega
     have n5:(ps++qs).length<=(k+1)*(n*256):=by rw[aA5,ql];omega
     have n6:e2=e2:=rfl;obtain⟨ayt,ayl,rfl⟩:=ai hown;clear hown hgrow DW T9 M0 ql n6;go_wp2_with fail;go_roundw
     case rel=>exact⟨k+1,ea,eb,ps++qs,by omega,by go_num,hea,Sc,N2,oo,N1,afb,n5,N3,n4⟩
     case measure=>simp[intOf] <;> omega
  ·obtain rfl:k=m:=by omega
   have Oc:=HB.out.size;have T3:=hid (HT0.out.below HB.out (by omega));have Xb:=hid (HH.out _ Ab.out);have FN:Hid (∃ i t:Nat,gl<=i/\ls[i]?=some (ya*256+yb,t)):=hid (by
    have h9:=Xb.out.sk.in_ _ ((HRE.out (ya*256+yb)).2 WY.out.home);rw[afg.out]at h9;exact h9)
   have NA:=Ah (w.heap.size+1) (ya*256+yb) (.slice (some ⟨gh,0,none⟩) n n) ao cap gl ls W0 T3.out Xb.out.lk (by omega) (by omega) FN.out;rw[jK ya Bd]at NA;have PG:=hid NA;clear NA;go_wp2_with fail;refine PG.out.mono ?_;rintro e w7 ⟨i,t,rfl,zD,hit,oZ⟩;have T7:=hid (T3.out.below oZ (by omega));have WA:=Ch (w.heap.size+1) i (ya*256+yb) t (Ew n ns into) (n*256) (λy=>decide (y=ta*256+tb)) found (.slice (some ⟨gh,0,none⟩) n n) ao cap ls w7 Xb.out.sk (by rw[afg.out];exact T7.out) (Xb.out.lk.below oZ) (by omega) (by omega) hit;rw[afg.out]at WA;have Gp:=hid WA;have Pw:=hid oZ;have vE:=oZ.size;clear oZ WA PG a0 a1;go_wp2_with fail;refine Gp.out.mono ?_;intro e w8 zq;unfold xK at zq;obtain⟨qs,en,vp,rfl,OP,hgo,hne,_,Bg,Bi,Sb,yo,Kl,Fj⟩:=zq;obtain⟨ap,cp,rfl⟩:=ai OP;have hent:en=ta*256+tb:=by simpa using Bi
   subst hent;rw[(jC ta htb).1,(jC ta htb).2];have HLP:=hid (aak WY.out (by rw[show (spreads cs).length=cs.length by simp[spreads],nJ.out];exact aAU _) (hne zD) Bg hgo);have BK:=hid (Pw.out.trans (Fj.mono (by omega)));have DK:=BK.out.size;have bt:=(aAW w8.heap.size w8).alloc (aAU _) (.cells #[.slice ap qs.length cp,.int .i64 (ta:Nat),.int .u8 (tb:Nat)] 175);have DZ:=hid (BK.out.trans (bt.mono (by omega)));have O9:=hid (ae HO.out DZ.out);have NW:=VF (ae OP bt);have NW1:=hid NW.1;have NW2:=hid NW.2;have kS:=hid (λq h=>(HO.out.lt q h).1);have afb:Hid (∀ p∈ps++qs,p<n*256):=hid (λp hp=>(aBy.1 hp).elim (HPN.out p) (yo p));have ql:(k+1)*(n*256)=k*(n*256)+n*256:=Nat.succ_mul _ _;have t1:(w8.alloc (.cells #[.slice ap qs.length cp,.int .i64 (ta:Nat),.int .u8 (tb:Nat)] 175)).cell? ⟨w8.heap.size,0,none⟩=some (.slice ap qs.length cp):=(dH w8 _ _ _ _).c0;clear OP hgo hne Bg Bi yo Fj NW Gp bt;go_wp2_with (at_builtin;go_must (refine lY _ rfl (.tmp 61) (.tmp 63) 163 rfl (w.heap.size+4) 166 i0 (.agg #[.int .i64 0,.int .u8 0]) 2 16 Tryz.underlying163 tN aR aP aN rfl (by decide) _ ps.length _ rfl O9.out ap qs.length cp (dn qs) rfl (KA qs) NW1.out NW2.out (Kz qs) ?c3 ?c4 ?c5 ?_))
   case c3=>unfold maxLen;omega
   case c4=>omega
   case c5=>simp;omega
   intro v10 xN hown hgrow;have N2:Hid (xN.ownsRow w.heap.size 166 2 v10 (ps++qs).length (dn (ps++qs))):=hid (by
    rw[KC,aA5];exact bJ hown (by omega))
   have N3:=hid ((Ab.out.trans (DZ.out.mono (by omega))).grown hgrow (by simp;omega) (λq h=>by have:=kS.out q h;omega));have n5:(ps++qs).length<=(cs.length+1)*(n*256):=by rw[aA5,nJ.out,ql];omega
   clear hown hgrow ql;go_wp2_with fail;go_ret;unfold MV;exact⟨ps++qs,_,rfl,N2.out,HLP.out,afb.out,n5,N3.out⟩
