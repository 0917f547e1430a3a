import Derived.Test.YtjagijohfkffiabGreatFREM21
set_option maxHeartbeats 16000000
set_option maxRecDepth 100000
set_option linter.unusedSimpArgs false
namespace Go.Proofs.YtjagijohfkffiabGreat
open Go.RowKit
set_option linter.unusedVariables false
def Rdd(o:Option (Nat × List Nd))(R:Nat)(s:ByteArray)(w:World)(e:Ending)(w':World):Prop:=
 (o=none/\e=.returned (.bool false)/\Below R w w')\/(∃ a' d9,o=some (a',d9)/\e=.returned (.bool true)/\Rd w' R s a' d9/\Below R w w')
def Gw(k R:Nat)(s:ByteArray):Prop:=
 ∀ (a:Nat) (ns:List Nd) (w:World),Rd w R s a ns->s.size<a+k->a<=s.size->ns.length<=a->Calls Tryz.prog 61 #[.pointer (some ⟨R,0,none⟩)] w (Rdd (ps k s a ns) R s w)
theorem wX(k R:Nat)(s:ByteArray)(hs:s.size<=24)(H:Gw k R s)(op:Int)(ho:0<=op)(a:Nat)(ns:List Nd)(w:World)(hr:Rd w R s a ns)(hk:s.size<a+k)(ha:a<=s.size)(hn:ns.length<=a) :
  Calls Tryz.prog 112 #[.pointer (some ⟨R,0,none⟩),.int .u8 op] w (Rdd (ve op.toNat k s a ns) R s w):=by
 have C:=H a ns w hr hk ha hn;cases e0:ps k s a ns with
 | none=>
  have e1:Hid (ve op.toNat k s a ns=none):=hid (by simp[ve,e0]);have E0:=hid e0;clear e0;go_enter Tryz.func112,Tryz.ntmps112;go_wp2_with fail;refine C.mono ?_;rintro e w1 (⟨_,rfl,hb⟩ | ⟨a',d9,h,_⟩)
  ·go_wp2_with fail;go_ret;exact aA2 ⟨e1.out,rfl,hb⟩
  ·rw[E0.out]at h;cases h
 | some x=>
  obtain⟨a1,n1⟩:=x;have e1:Hid (ve op.toNat k s a ns=some (a1,n1++[⟨op.toNat,n1.length - 1,0⟩])):=hid (by simp[ve,e0]);have E0:=hid e0;have g:=eU k s a ns a1 n1 e0;clear e0;go_enter Tryz.func112,Tryz.ntmps112;go_wp2_with fail;refine C.mono ?_;rintro e w1 (⟨h,_⟩ | ⟨a',d9,h,rfl,fu,hb⟩)
  ·rw[E0.out]at h;cases h
  ·rw[E0.out]at h;simp only[aBu,aBH]at h;obtain⟨rfl,rfl⟩:=h;obtain⟨ao,cap,c2,_⟩:=fu.c2;go_wp2_with fail;refine(uJ R a1 op _ 0 s n1 w1 (by omega) ho (by omega) (by omega) fu).mono ?_;rintro e w2 ⟨rfl,fF,ak⟩;clear c2;go_wp2_with fail;go_ret;refine aA3 ⟨_,_,e1.out,rfl,?_,hb.trans ak⟩;rw[show ((n1.length:Int) - 1).toNat=n1.length - 1 from by omega]at fF;exact fF
theorem ny{s:ByteArray}{a:Nat}(h:bt s a≠0):nS s a=a+1:=by unfold nS;rw[aBU (jv h)]
theorem adz(k R:Nat)(s:ByteArray)(hs:s.size<=24)(H:Gw k R s)(a:Nat)(ns:List Nd)(w:World)(hr:Rd w R s a ns)(hk:s.size<a+k)(ha:a<=s.size)(hn:ns.length<=a) :
  Calls Tryz.prog 113 #[.pointer (some ⟨R,0,none⟩)] w (Rdd (ps2 k s a ns) R s w):=by
 have C:=H a ns w hr hk ha hn;cases e0:ps k s a ns with
 | none=>
  have e1:Hid (ps2 k s a ns=none):=hid (by simp[ps2,e0]);have E0:=hid e0;clear e0;go_enter Tryz.func113,Tryz.ntmps113;go_wp2_with fail;refine C.mono ?_;rintro e w1 (⟨_,rfl,hb⟩ | ⟨a',d9,h,_⟩)
  ·go_wp2_with fail;go_ret;exact aA2 ⟨e1.out,rfl,hb⟩
  ·rw[E0.out]at h;cases h
 | some x=>
  obtain⟨a1,n1⟩:=x;have g1:=eU k s a ns a1 n1 e0;have H1:a1+1<=s.size->Hid (∀ (w:World),Rd w R s (a1+1) n1->Calls Tryz.prog 61 #[.pointer (some ⟨R,0,none⟩)] w (Rdd (ps k s (a1+1) n1) R s w)):=λhl=>hid (λw h=>H (a1+1) n1 w h (by omega) hl (by omega));by_cases b4:bQ (bt s a1)=true
  ·have hlt:=jv (AA b4);have oQ:=hid (ny (AA b4));cases e2:ps k s (a1+1) n1 with
   | none=>
    have e1:Hid (ps2 k s a ns=none):=hid (by simp[ps2,e0,b4,e2]);have E0:=hid e0;have E2:=hid e2;have B4:=hid b4;clear e0 e2 b4;go_enter Tryz.func113,Tryz.ntmps113;go_wp2_with fail;refine C.mono ?_;rintro e w1 (⟨h,_⟩ | ⟨a',d9,h,rfl,fu,hb⟩)
    ·rw[E0.out]at h;cases h
    rw[E0.out]at h;simp only[aBu,aBH]at h;obtain⟨rfl,rfl⟩:=h;obtain⟨ao,cap,c2,_⟩:=fu.c2;go_wp2_with fail;refine(qD R a1 s n1 w1 hs (by omega) fu).mono ?_;rintro e w2 ⟨rfl,fF,ak⟩;rw[oQ.out]at fF;go_wp2_with fail;refine(zn (bt s a1) w2 (nD _ _)).mono ?_;rintro e w3 ⟨rfl,rfl⟩;rw[B4.out];go_wp2_with fail;refine((H1 hlt).out _ fF).mono ?_;rintro e w4 (⟨_,rfl,eH⟩ | ⟨a',d9,h,_⟩)
    ·go_wp2_with fail;go_ret;exact aA2 ⟨e1.out,rfl,(hb.trans ak).trans eH⟩
    ·rw[E2.out]at h;cases h
   | some x=>
    obtain⟨a2,n2⟩:=x;have g2:=eU k s _ n1 a2 n2 e2;by_cases b5:bt s a2=41
    ·have e1:Hid (ps2 k s a ns=some (a2+1,n2++[⟨bt s a1,n1.length - 1,n2.length - 1⟩])):=hid (by simp[ps2,e0,b4,e2,b5]);have arQ:=hid (ny (s:=s) (a:=a2) (by omega));have B5:=hid b5;have E0:=hid e0;have E2:=hid e2;have B4:=hid b4;clear e0 e2 b4 b5;go_enter Tryz.func113,Tryz.ntmps113;go_wp2_with fail;refine C.mono ?_;rintro e w1 (⟨h,_⟩ | ⟨a',d9,h,rfl,fu,hb⟩)
     ·rw[E0.out]at h;cases h
     rw[E0.out]at h;simp only[aBu,aBH]at h;obtain⟨rfl,rfl⟩:=h;obtain⟨ao,cap,c2,_⟩:=fu.c2;go_wp2_with fail;refine(qD R a1 s n1 w1 hs (by omega) fu).mono ?_;rintro e w2 ⟨rfl,fF,ak⟩;rw[oQ.out]at fF;clear c2;go_wp2_with fail;refine(zn (bt s a1) w2 (nD _ _)).mono ?_;rintro e w3 ⟨rfl,rfl⟩;rw[B4.out];go_wp2_with fail;refine((H1 hlt).out _ fF).mono ?_;rintro e w4 (⟨h,_⟩ | ⟨a',d9,h,rfl,hr4,eH⟩)
     ·rw[E2.out]at h;cases h
     rw[E2.out]at h;simp only[aBu,aBH]at h;obtain⟨rfl,rfl⟩:=h;obtain⟨mH,p9,c4,_⟩:=hr4.c2;go_wp2_with fail;refine(qD R a2 s n2 w4 hs (by omega) hr4).mono ?_;rintro e w5 ⟨rfl,hr5,bV⟩;rw[arQ.out]at hr5;rw[B5.out];clear c4;go_wp2_with fail;refine(uJ R (a2+1) _ _ _ s n2 w5 (by omega) (by omega) (by omega) (by omega) hr5).mono ?_;rintro e w6 ⟨rfl,hr6,jG⟩;go_wp2_with fail;go_ret;refine aA3 ⟨_,_,e1.out,rfl,?_,(((hb.trans ak).trans eH).trans bV).trans jG⟩;rw[show ((n1.length:Int) - 1).toNat=n1.length - 1 from by omega,show ((n2.length:Int) - 1).toNat=n2.length - 1 from by omega,Int.toNat_natCast]at hr6;exact hr6
    ·have e1:Hid (ps2 k s a ns=none):=hid (by simp[ps2,e0,b4,e2,b5]);have b6:((bt s a2:Int) !=41)=true:=by rw[bne_iff_ne];omega
     have E0:=hid e0;have E2:=hid e2;have B4:=hid b4;clear e0 e2 b4 b5;go_enter Tryz.func113,Tryz.ntmps113;go_wp2_with fail;refine C.mono ?_;rintro e w1 (⟨h,_⟩ | ⟨a',d9,h,rfl,fu,hb⟩)
     ·rw[E0.out]at h;cases h
     rw[E0.out]at h;simp only[aBu,aBH]at h;obtain⟨rfl,rfl⟩:=h;obtain⟨ao,cap,c2,_⟩:=fu.c2;go_wp2_with fail;refine(qD R a1 s n1 w1 hs (by omega) fu).mono ?_;rintro e w2 ⟨rfl,fF,ak⟩;rw[oQ.out]at fF;clear c2;go_wp2_with fail;refine(zn (bt s a1) w2 (nD _ _)).mono ?_;rintro e w3 ⟨rfl,rfl⟩;rw[B4.out];go_wp2_with fail;refine((H1 hlt).out _ fF).mono ?_;rintro e w4 (⟨h,_⟩ | ⟨a',d9,h,rfl,hr4,eH⟩)
     ·rw[E2.out]at h;cases h
     rw[E2.out]at h;simp only[aBu,aBH]at h;obtain⟨rfl,rfl⟩:=h;obtain⟨mH,p9,c4,_⟩:=hr4.c2;go_wp2_with fail;refine(qD R a2 s n2 w4 hs (by omega) hr4).mono ?_;rintro e w5 ⟨rfl,hr5,bV⟩;clear c4;go_wp2_with fail;go_ret;exact aA2 ⟨e1.out,rfl,((hb.trans ak).trans eH).trans bV⟩
  ·rw[Bool.not_eq_true]at b4;have e1:Hid (ps2 k s a ns=none):=hid (by simp[ps2,e0,b4]);have E0:=hid e0;have B4:=hid b4;clear e0 b4;go_enter Tryz.func113,Tryz.ntmps113;go_wp2_with fail;refine C.mono ?_;rintro e w1 (⟨h,_⟩ | ⟨a',d9,h,rfl,fu,hb⟩)
   ·rw[E0.out]at h;cases h
   rw[E0.out]at h;simp only[aBu,aBH]at h;obtain⟨rfl,rfl⟩:=h;obtain⟨ao,cap,c2,_⟩:=fu.c2;go_wp2_with fail;refine(qD R a1 s n1 w1 hs (by omega) fu).mono ?_;rintro e w2 ⟨rfl,fF,ak⟩;clear c2;go_wp2_with fail;refine(zn (bt s a1) w2 (nD _ _)).mono ?_;rintro e w3 ⟨rfl,rfl⟩;rw[B4.out];go_wp2_with fail;go_ret;exact aA2 ⟨e1.out,rfl,hb.trans ak⟩
theorem Vn(R:Nat)(s:ByteArray)(hs:s.size<=24)(k:Nat):Gw k R s:=by
 induction k with
 | zero=>intro a ns w hr hk ha hn;omega
 | succ k ih=>
  intro a ns w hr hk ha hn;have T:=qD R a s ns w hs ha hr;by_cases Ws:bt s a=48
  ·have e1:Hid (ps (k+1) s a ns=some (a+1,ns++[⟨48,0,0⟩])):=hid (by rw[nK (by rw[Ws];decide),Ws]);have oQ:=hid (ny (s:=s) (a:=a) (by omega));have B:=hid Ws;clear Ws;go_enter Tryz.func61,Tryz.ntmps61;go_wp2_with fail;refine T.mono ?_;rintro e w1 ⟨rfl,fu,hb⟩;rw[oQ.out]at fu;rw[B.out];go_wp2_with fail;refine(uJ R (a+1) _ 0 0 s ns w1 (by omega) (by omega) (by omega) (by omega) fu).mono ?_;rintro e w2 ⟨rfl,fF,ak⟩;go_wp2_with fail;go_ret;exact aA3 ⟨_,_,e1.out,rfl,fF,hb.trans ak⟩
  by_cases Ox:bt s a=49
  ·have e1:Hid (ps (k+1) s a ns=some (a+1,ns++[⟨49,0,0⟩])):=hid (by rw[nK (by rw[Ox];decide),Ox]);have oQ:=hid (ny (s:=s) (a:=a) (by omega));have B:=hid Ox;clear Ox;go_enter Tryz.func61,Tryz.ntmps61;go_wp2_with fail;refine T.mono ?_;rintro e w1 ⟨rfl,fu,hb⟩;rw[oQ.out]at fu;rw[B.out];go_wp2_with fail;refine(uJ R (a+1) _ 0 0 s ns w1 (by omega) (by omega) (by omega) (by omega) fu).mono ?_;rintro e w2 ⟨rfl,fF,ak⟩;go_wp2_with fail;go_ret;exact aA3 ⟨_,_,e1.out,rfl,fF,hb.trans ak⟩
  by_cases Fz:bt s a=112
  ·have e1:Hid (ps (k+1) s a ns=some (a+1,ns++[⟨112,0,0⟩])):=hid (by rw[nK (by rw[Fz];decide),Fz]);have oQ:=hid (ny (s:=s) (a:=a) (by omega));have B:=hid Fz;clear Fz;go_enter Tryz.func61,Tryz.ntmps61;go_wp2_with fail;refine T.mono ?_;rintro e w1 ⟨rfl,fu,hb⟩;rw[oQ.out]at fu;rw[B.out];go_wp2_with fail;refine(uJ R (a+1) _ 0 0 s ns w1 (by omega) (by omega) (by omega) (by omega) fu).mono ?_;rintro e w2 ⟨rfl,fF,ak⟩;go_wp2_with fail;go_ret;exact aA3 ⟨_,_,e1.out,rfl,fF,hb.trans ak⟩
  by_cases Fy:bt s a=113
  ·have e1:Hid (ps (k+1) s a ns=some (a+1,ns++[⟨113,0,0⟩])):=hid (by rw[nK (by rw[Fy];decide),Fy]);have oQ:=hid (ny (s:=s) (a:=a) (by omega));have B:=hid Fy;clear Fy;go_enter Tryz.func61,Tryz.ntmps61;go_wp2_with fail;refine T.mono ?_;rintro e w1 ⟨rfl,fu,hb⟩;rw[oQ.out]at fu;rw[B.out];go_wp2_with fail;refine(uJ R (a+1) _ 0 0 s ns w1 (by omega) (by omega) (by omega) (by omega) fu).mono ?_;rintro e w2 ⟨rfl,fF,ak⟩;go_wp2_with fail;go_ret;exact aA3 ⟨_,_,e1.out,rfl,fF,hb.trans ak⟩
  by_cases Fx:bt s a=114
  ·have e1:Hid (ps (k+1) s a ns=some (a+1,ns++[⟨114,0,0⟩])):=hid (by rw[nK (by rw[Fx];decide),Fx]);have oQ:=hid (ny (s:=s) (a:=a) (by omega));have B:=hid Fx;clear Fx;go_enter Tryz.func61,Tryz.ntmps61;go_wp2_with fail;refine T.mono ?_;rintro e w1 ⟨rfl,fu,hb⟩;rw[oQ.out]at fu;rw[B.out];go_wp2_with fail;refine(uJ R (a+1) _ 0 0 s ns w1 (by omega) (by omega) (by omega) (by omega) fu).mono ?_;rintro e w2 ⟨rfl,fF,ak⟩;go_wp2_with fail;go_ret;exact aA3 ⟨_,_,e1.out,rfl,fF,hb.trans ak⟩
  by_cases Oy:bt s a=33
  ·have e1:Hid (ps (k+1) s a ns=ve 33 k s (a+1) ns):=hid (by rw[rW (by rw[Oy];decide),Oy]);have hlt:=jv (s:=s) (i:=a) (by omega);have oQ:=hid (ny (s:=s) (a:=a) (by omega));have B:=hid Oy;clear Oy;go_enter Tryz.func61,Tryz.ntmps61;go_wp2_with fail;refine T.mono ?_;rintro e w1 ⟨rfl,fu,hb⟩;rw[oQ.out]at fu;rw[B.out];go_wp2_with fail;refine(wX k R s hs ih _ (by omega) (a+1) ns w1 fu (by omega) (by omega) (by omega)).mono ?_;rintro e w2 h;rcases h with⟨h,rfl,ak⟩ | ⟨a',d9,h,rfl,fF,ak⟩
   ·go_wp2_with fail;go_ret;exact aA2 ⟨e1.out.trans h,rfl,hb.trans ak⟩
   ·go_wp2_with fail;go_ret;exact aA3 ⟨a',d9,e1.out.trans h,rfl,fF,hb.trans ak⟩
  by_cases Ou:bt s a=88
  ·have e1:Hid (ps (k+1) s a ns=ve 88 k s (a+1) ns):=hid (by rw[rW (by rw[Ou];decide),Ou]);have hlt:=jv (s:=s) (i:=a) (by omega);have oQ:=hid (ny (s:=s) (a:=a) (by omega));have B:=hid Ou;clear Ou;go_enter Tryz.func61,Tryz.ntmps61;go_wp2_with fail;refine T.mono ?_;rintro e w1 ⟨rfl,fu,hb⟩;rw[oQ.out]at fu;rw[B.out];go_wp2_with fail;refine(wX k R s hs ih _ (by omega) (a+1) ns w1 fu (by omega) (by omega) (by omega)).mono ?_;rintro e w2 h;rcases h with⟨h,rfl,ak⟩ | ⟨a',d9,h,rfl,fF,ak⟩
   ·go_wp2_with fail;go_ret;exact aA2 ⟨e1.out.trans h,rfl,hb.trans ak⟩
   ·go_wp2_with fail;go_ret;exact aA3 ⟨a',d9,e1.out.trans h,rfl,fF,hb.trans ak⟩
  by_cases Ow:bt s a=70
  ·have e1:Hid (ps (k+1) s a ns=ve 70 k s (a+1) ns):=hid (by rw[rW (by rw[Ow];decide),Ow]);have hlt:=jv (s:=s) (i:=a) (by omega);have oQ:=hid (ny (s:=s) (a:=a) (by omega));have B:=hid Ow;clear Ow;go_enter Tryz.func61,Tryz.ntmps61;go_wp2_with fail;refine T.mono ?_;rintro e w1 ⟨rfl,fu,hb⟩;rw[oQ.out]at fu;rw[B.out];go_wp2_with fail;refine(wX k R s hs ih _ (by omega) (a+1) ns w1 fu (by omega) (by omega) (by omega)).mono ?_;rintro e w2 h;rcases h with⟨h,rfl,ak⟩ | ⟨a',d9,h,rfl,fF,ak⟩
   ·go_wp2_with fail;go_ret;exact aA2 ⟨e1.out.trans h,rfl,hb.trans ak⟩
   ·go_wp2_with fail;go_ret;exact aA3 ⟨a',d9,e1.out.trans h,rfl,fF,hb.trans ak⟩
  by_cases Ov:bt s a=71
  ·have e1:Hid (ps (k+1) s a ns=ve 71 k s (a+1) ns):=hid (by rw[rW (by rw[Ov];decide),Ov]);have hlt:=jv (s:=s) (i:=a) (by omega);have oQ:=hid (ny (s:=s) (a:=a) (by omega));have B:=hid Ov;clear Ov;go_enter Tryz.func61,Tryz.ntmps61;go_wp2_with fail;refine T.mono ?_;rintro e w1 ⟨rfl,fu,hb⟩;rw[oQ.out]at fu;rw[B.out];go_wp2_with fail;refine(wX k R s hs ih _ (by omega) (a+1) ns w1 fu (by omega) (by omega) (by omega)).mono ?_;rintro e w2 h;rcases h with⟨h,rfl,ak⟩ | ⟨a',d9,h,rfl,fF,ak⟩
   ·go_wp2_with fail;go_ret;exact aA2 ⟨e1.out.trans h,rfl,hb.trans ak⟩
   ·go_wp2_with fail;go_ret;exact aA3 ⟨a',d9,e1.out.trans h,rfl,fF,hb.trans ak⟩
  by_cases Fw:bt s a=40
  ·have e1:Hid (ps (k+1) s a ns=ps2 k s (a+1) ns):=hid (oK Fw);have hlt:=jv (s:=s) (i:=a) (by omega);have oQ:=hid (ny (s:=s) (a:=a) (by omega));have B:=hid Fw;clear Fw;go_enter Tryz.func61,Tryz.ntmps61;go_wp2_with fail;refine T.mono ?_;rintro e w1 ⟨rfl,fu,hb⟩;rw[oQ.out]at fu;rw[B.out];go_wp2_with fail;refine(adz k R s hs ih (a+1) ns w1 fu (by omega) (by omega) (by omega)).mono ?_;rintro e w2 h;rcases h with⟨h,rfl,ak⟩ | ⟨a',d9,h,rfl,fF,ak⟩
   ·go_wp2_with fail;go_ret;exact aA2 ⟨e1.out.trans h,rfl,hb.trans ak⟩
   ·go_wp2_with fail;go_ret;exact aA3 ⟨a',d9,e1.out.trans h,rfl,fF,hb.trans ak⟩
  have e1:Hid (ps (k+1) s a ns=none):=hid (GA (by simp[bF,Ws,Ox,Fz,Fy,Fx]) (by simp[dY,Oy,Ou,Ow,Ov]) Fw);have k48:((bt s a:Int)==48)=false:=aA6.2 (by omega);have k49:((bt s a:Int)==49)=false:=aA6.2 (by omega);have ajD:((bt s a:Int)==112)=false:=aA6.2 (by omega);have ajC:((bt s a:Int)==113)=false:=aA6.2 (by omega);have ajB:((bt s a:Int)==114)=false:=aA6.2 (by omega);have k33:((bt s a:Int)==33)=false:=aA6.2 (by omega);have k88:((bt s a:Int)==88)=false:=aA6.2 (by omega);have k70:((bt s a:Int)==70)=false:=aA6.2 (by omega);have k71:((bt s a:Int)==71)=false:=aA6.2 (by omega);have k40:((bt s a:Int)==40)=false:=aA6.2 (by omega);clear Ws Ox Fz Fy Fx Oy Ou Ow Ov Fw;go_enter Tryz.func61,Tryz.ntmps61;go_wp2_with fail;refine T.mono ?_;rintro e w1 ⟨rfl,fu,hb⟩;go_wp2_with fail;go_ret;exact aA2 ⟨e1.out,rfl,hb⟩
def sV(s:ByteArray)(w:World)(e:Ending)(w':World):Prop:=
 ∃ ao cap,e=.returned (.tuple #[.slice ao (aB s).2.length cap,.int .i64 (aB s).1])/\w'.ownsRow w.heap.size 109 3 (.slice ao (aB s).2.length cap) (aB s).2.length (flat (aB s).2)/\Below w.heap.size w w'
theorem wY{s:ByteArray}{w w':World}{k:Nat}(h:aB s=(k,[]))(hb:Below w.heap.size w w'):sV s w (.returned (.tuple #[.slice none 0 0,.int .i64 k])) w':=by
 unfold sV;rw[h];exact⟨none,0,rfl,aBh _ _ _ _,hb⟩
theorem ai8(w:World)(s:ByteArray):Rd (w.alloc (.cells #[.string s,.int .i64 0,.slice none 0 0] 106)) w.heap.size s 0 []:=
 ⟨by simp,by simp,⟨none,0,by simp,aBh _ _ _ _⟩,by simp,by simp⟩
theorem X0(s:ByteArray)(w:World)(hm:s.size<=maxLen)(h:24<s.size):Calls Tryz.prog 30 #[.string s] w (sV s w):=by
 unfold maxLen at hm;have P:=hid (wY (s:=s) (w:=w) (w':=w) (k:=1) (by simp[aB,h]) (aAW _ _));go_enter Tryz.func30,Tryz.ntmps30;go_wp2_with fail
 go_ret2
 exact P.out
theorem Vd(s:ByteArray)(w:World)(h:¬ 24<s.size):Calls Tryz.prog 30 #[.string s] w (sV s w):=by
 have C:=Vn w.heap.size s (by omega) 25 0 [] _ (ai8 w s) (by omega) (by omega) (by simp);cases e0:ps 25 s 0 [] with
 | none=>
  have P:=hid (λw'=>wY (s:=s) (w:=w) (w':=w') (k:=2) (by simp[aB,h,e0]));have E0:=hid e0;clear e0;go_enter Tryz.func30,Tryz.ntmps30;go_wp2_with fail;refine C.mono ?_;rintro e w1 (⟨_,rfl,hb⟩ | ⟨a',d9,h,_⟩)
  ·go_wp2_with fail
   go_ret2
   exact P.out _ (((aAW _ _).alloc (aAU _) _).trans hb)
  ·rw[E0.out]at h;cases h
 | some x=>
  obtain⟨a,ns⟩:=x;have g:=eU 25 s 0 [] a ns e0;by_cases h1:a=s.size
  ·by_cases h2:8<ns.length
   ·have P:=hid (λw'=>wY (s:=s) (w:=w) (w':=w') (k:=3) (by simp[aB,h,e0,h1,h2]));have E0:=hid e0;have h3:((a:Int) !=(s.size:Int))=false:=by rw[bne_eq_false_iff_eq];omega
    clear e0 h1;go_enter Tryz.func30,Tryz.ntmps30;go_wp2_with fail;refine C.mono ?_;rintro e w1 (⟨h,_⟩ | ⟨a',d9,h,rfl,fu,hb⟩)
    ·rw[E0.out]at h;cases h
    rw[E0.out]at h;simp only[aBu,aBH]at h;obtain⟨rfl,rfl⟩:=h;have c1:=fu.c1;obtain⟨ao,cap,c2,own⟩:=fu.c2;go_wp2_with fail
    go_ret2
    exact P.out _ (((aAW _ _).alloc (aAU _) _).trans hb)
   ·have P:Hid (aB s=(0,ns)):=hid (by simp[aB,h,e0,h1,h2]);have E0:=hid e0;have h3:((a:Int) !=(s.size:Int))=false:=by rw[bne_eq_false_iff_eq];omega
    clear e0 h1;go_enter Tryz.func30,Tryz.ntmps30;go_wp2_with fail;refine C.mono ?_;rintro e w1 (⟨h,_⟩ | ⟨a',d9,h,rfl,fu,hb⟩)
    ·rw[E0.out]at h;cases h
    rw[E0.out]at h;simp only[aBu,aBH]at h;obtain⟨rfl,rfl⟩:=h;have c1:=fu.c1;obtain⟨ao,cap,c2,own⟩:=fu.c2;go_wp2_with fail
    go_ret2
    unfold sV;rw[P.out];exact⟨ao,cap,rfl,bJ own (Nat.le_succ _),((aAW _ _).alloc (aAU _) _).trans hb⟩
  ·have P:=hid (λw'=>wY (s:=s) (w:=w) (w':=w') (k:=2) (by simp[aB,h,e0,h1]));have E0:=hid e0;have h3:((a:Int) !=(s.size:Int))=true:=by rw[bne_iff_ne];omega
   clear e0;go_enter Tryz.func30,Tryz.ntmps30;go_wp2_with fail;refine C.mono ?_;rintro e w1 (⟨h,_⟩ | ⟨a',d9,h,rfl,fu,hb⟩)
   ·rw[E0.out]at h;cases h
   rw[E0.out]at h;simp only[aBu,aBH]at h;obtain⟨rfl,rfl⟩:=h;have c1:=fu.c1;obtain⟨ao,cap,c2,own⟩:=fu.c2;go_wp2_with fail
   go_ret2
   exact P.out _ (((aAW _ _).alloc (aAU _) _).trans hb)
theorem Ex(s:ByteArray)(w:World)(hm:s.size<=maxLen):Calls Tryz.prog 30 #[.string s] w (sV s w):=by
 by_cases h:24<s.size
 ·exact X0 s w hm h
 ·exact Vd s w h
def jV(zs:List Int):List Nat:=zs.map Int.toNat
theorem Hq{zs:List Int}(h:iT zs=true):zs.map (Value.int .i64)=bX (jV zs)/\∀ x∈jV zs,x<8:=by
 unfold iT at h;rw[List.all_eq_true]at h;constructor
 ·unfold bX jV;rw[List.map_map];apply aBP;intro z hz;have:=l9.1 (h z hz);simp only[Function.comp];rw[Int.toNat_of_nonneg this.1]
 ·intro x hx;unfold jV at hx;obtain⟨z,hz,rfl⟩:=aBM.1 hx;have:=l9.1 (h z hz);omega
theorem Ik{a b:List Int}(h1:iT a=true)(h2:iT b=true):iT (a++b)=true:=by
 unfold iT at *;rw[List.all_append,h1,h2];rfl
section
variable (s:ByteArray) (a1 a2:Option Addr) (l1 c1 l2 c2:Nat) (z1 z2:List Int) (w:World)
end
theorem Z8{w:World}{B gn m Mg:Nat}{ns:List Nd}(h:w.ownsRow B 109 3 (.slice (some ⟨gn,0,none⟩) m Mg) m (flat ns))(hl:ns.length=m):Ip w gn ns:=
 ⟨(h.lt _ rfl).2,λi hi=>(h.cellAt (i*3) (by omega)).trans (flat_get ns i (by omega)).1,λi hi=>(h.cellAt (i*3+1) (by omega)).trans (flat_get ns i (by omega)).2.1,λi hi=>(h.cellAt (i*3+2) (by omega)).trans (flat_get ns i (by omega)).2.2⟩
section
variable (s:ByteArray) (a1:Option Addr) (l1 c1:Nat) (z1:List Int) (w:World)
end
theorem lY{P:Program}(w:World){ops:Array Oper}{rest:List Oper}{o:Oper}{a:Act}{Q:Exit->Act->World->Prop}(lX:o.guard=none)(s x:Operand)(t:TypeId)
  (ho:o.op=.call { callee:=.builtin .append,args:=#[s,x],argTypes:=#[t,t] })
  (base:Nat) (e:TypeId) (i:TypeInfo) (z:Value) (size bytes:Nat) (ht:P.underlying t=some (.slice e)) (hi:P.info? e=some i) (hz:i.zero=some z)
  (hsize:i.size=size) (hby:i.bytes=bytes) (hzs:z.cells.size=size) (hsz:0<size)
  (v:Value) (n:Nat) (xs:List Value) (hs:a.eval s=v) (hown:w.ownsRow base e size v n xs)
  (ao:Option Addr) (m c:Nat) (news:List Value) (hx:a.eval x=.slice ao m c) (hl:news.length=m*size) (hnone:ao=none->m=0/\c=0) (Qh:∀ ad,ao=some ad->∀ j u,news[j]?=some u->w.cell? (ad.add j)=some u) (h1:∀ u∈news,u.oneCell'=true)
  (h63:n+m<=maxLen) (Sd:(n+m)*bytes<=140737488355328) (hbase:base<=w.heap.size)
  (h:∀ v' w',w'.ownsRow base e size v' (n+m) (xs++news)->w.grownBy w' v.ownBlock->wpList P ops Q rest (a.put o.dst v') w'):wpList P ops Q (o::rest) a w:=by
 cases ao with
 | none=>
  obtain⟨rfl,rfl⟩:=hnone rfl;have hn:news=[]:=List.eq_nil_of_length_eq_zero (by simpa using hl);subst hn;refine wpList_append_own_none lX s x t ho base e i size ht hi v n xs hs hown hx ?_;exact h v w (by simpa using hown) (World.grownBy.refl _ _)
 | some ad=>
  exact wpList_append_own w lX s x t ho base e i z size bytes ht hi hz hsize hby hzs hsz v n xs hs hown ad m c news hx hl (Qh ad rfl) h1 h63 Sd hbase (λv' w' h2 h3 _=>h v' w' h2 h3)
def gW(xs:List Nat):List Int:=xs.map λx:Nat=>(x:Int)
theorem jJ(xs:List Nat):(gW xs).length=xs.length:=by simp[gW]
theorem CL(xs ys:List Nat):gW (xs++ys)=gW xs++gW ys:=by simp[gW]
theorem uR(xs:List Nat):(gW xs).map (Value.int .i64)=bX xs:=by simp[gW,bX]
theorem Yc(xs:List Nat):jV (gW xs)=xs:=by
 unfold jV gW;rw[List.map_map]
 conv=>rhs;rw[<-List.map_id xs]
 apply aBP;intro x _;simp
theorem Pp{xs:List Nat}(h:∀ x∈xs,x<8):iT (gW xs)=true:=by
 unfold iT gW;rw[List.all_eq_true];intro z hz;obtain⟨x,hx,rfl⟩:=aBM.1 hz;rw[l9];have:=h x hx;omega
theorem Cy{w:World}{B n:Nat}{v:Value}{xs:List Nat}(h:w.ownsRow B 3 1 v n (bX xs))(hl:xs.length=n):∃ ao cap,v=.slice ao n cap/\Ints w ao n cap (gW xs):=by
 rcases h.2 with⟨rfl,rfl⟩ | ⟨g,cap,cur,rfl,hb,hh,hc,hm,_⟩
 ·exact⟨none,0,rfl,by rw[jJ,hl],aAU _,by omega,λ_=>⟨rfl,rfl⟩,λh=>by omega⟩
 ·refine⟨_,cap,rfl,by rw[jJ,hl],hc,by unfold maxLen at hm;omega,λh=>by simp at h,λ_=>⟨g,0,rfl,dB hh,λi hi=>?_⟩⟩;rw[aBo,h.cellAt i (by omega)];simp[bX,gW,List.getD,aAV (show i<xs.length by omega)]
theorem adY(w:World)(z:Int):Ints (w.alloc (.cells #[.int .i64 z] 3)) (some ⟨w.heap.size,0,none⟩) 1 1 [z]:=
 ⟨rfl,aAU _,by omega,λh=>by simp at h,λ_=>⟨w.heap.size,0,rfl,by simp,λi hi=>by
  have:i=0:=by omega
  subst this;simp⟩⟩
def qd(A B:List Nat)(t:Nat):Nat:=if t<A.length then A.getD t 0 else B.getD ((t - A.length) % B.length) 0
def zg(a b t:Nat):Nat:=if t<a then t else a+(t - a) % b
theorem adM{q b:Nat}(hb:0<b):(q+1) % b=if q % b+1<b then q % b+1 else 0:=by
 have h:=Nat.mod_lt q hb;rw[Nat.add_mod];by_cases h1:b=1
 ·subst h1;simp[Nat.mod_one]
 ·rw[Nat.mod_eq_of_lt (show 1<b by omega)]
  split
  ·exact Nat.mod_eq_of_lt ‹_›
  ·rw[show q % b+1=b by omega];exact Nat.mod_self b
theorem aaA{a b:Nat}(hb:0<b)(t:Nat):it (aU (a+b) a) t 0=zg a b t:=by
 induction t with
 | zero=>
  simp only[it,zg]
  split
  ·rfl
  ·rename_i h;have:a=0:=by omega
   subst this;simp
 | succ t ih=>
  rw[xE,ih];unfold zg aU;by_cases h1:t+1<a
  ·rw[aBU h1,aBU (show t<a by omega),aBU (by omega)]
  ·rw[aBT h1];by_cases h2:t<a
   ·rw[aBU h2];have:t+1 - a=0:=by omega
    rw[this]
    split <;> simp <;> omega
   ·rw[aBT h2,show t+1 - a=(t - a)+1 by omega,adM hb];have:=Nat.mod_lt (t - a) hb;by_cases h3:(t - a) % b+1<b
    ·rw[aBU h3,aBU (by omega)];omega
    ·rw[aBT h3,aBT (by omega)];rfl
theorem adN{A B:List Nat}(hb:0<B.length)(t:Nat):ltOf (A++B) (zg A.length B.length t)=qd A B t:=by
 unfold ltOf zg qd;have:=Nat.mod_lt (t - A.length) hb;by_cases h:t<A.length
 ·rw[aBU h,aBU h];simp[List.getD,aA9 h]
 ·rw[aBT h,aBT h,List.getD,List.getD,aBa (by omega),Nat.add_sub_cancel_left]
theorem adi{A B:List Nat}(hb:0<B.length)(ns:List Nd)(k t:Nat):fA (λi=>i+1) (qd A B) ns k t↔fA (aU (A.length+B.length) A.length) (ltOf (A++B)) ns k (zg A.length B.length t):=by
 have h:=ahF (f:=λt=>it (aU (A.length+B.length) A.length) t 0) (nx1:=λi=>i+1) (lt1:=qd A B) (nx2:=aU (A.length+B.length) A.length) (lt2:=ltOf (A++B))
  (λi=>xE _ _ _) (λi=>by rw[aaA hb,adN hb]) ns k t
 rw[aaA hb]at h;exact h
theorem Yq{A B:List Nat}{ns:List Nd}(hg:Good ns)(hb:0<B.length)(hx:∀ x∈A++B,x<8):yu A.length ns (A++B)=true↔fA (λi=>i+1) (qd A B) ns (ns.length - 1) 0:=by
 rw[CQ hg (by simp;omega) hx,adi hb,aA5];have:zg A.length B.length 0=0:=by
  unfold zg
  split
  ·rfl
  ·rename_i h;have h0:A.length=0:=by omega
   rw[h0];simp
 rw[this]
theorem Ints.drew{w:World}{ao:Option Addr}{len cap:Nat}{zs:List Int}(h:Ints w ao len cap zs):Ints w.drew ao len cap zs:=⟨h.hlen,h.hcap,h.hmax,h.hnil,h.hcell⟩
theorem sP{B:Nat}{w w':World}(h:Below B w.drew w'):Below B w w':=⟨h.os,h.tape,h.output,h.size,h.block⟩
def pre(x:Nat->Nat)(k:Nat):List Nat:=(List.range k).map x
theorem QV(x:Nat->Nat)(k:Nat):pre x (k+1)=pre x k++[x k]:=by simp[pre,aBL]
theorem ai9{x:Nat->Nat}(h:jY x)(k:Nat):∀ y∈pre x k,y<8:=λy hy=>by
 obtain⟨i,_,rfl⟩:=aBM.1 hy;exact h i
theorem aev{g h:Nat->Bool}(k:geq g h=true):geq h g=true:=jl.2 λj hj=>(jl.1 k j hj).symm
theorem FH{g h i:Nat->Bool}(k:geq g h=true)(l:geq h i=true):geq g i=true:=jl.2 λj hj=>(jl.1 k j hj).trans (jl.1 l j hj)
theorem aew{ns:List Nd}(h8:ns.length<=8){aa g h:Nat->Bool}(k:geq g h=true)(l:Nat):geq (stepG ns aa g l) (stepG ns aa h l)=true:=jl.2 λj hj=>by
 unfold stepG;rw[jl.1 k _ (vU h8 l j)]
theorem aeu{aa g h:Nat->Bool}(k:geq g h=true):qx aa g=qx aa h:=by
 have e:∀ i,geq g i=geq h i:=λi=>by
  rw[Bool.eq_iff_iff];exact⟨λa=>FH (aev k) a,λa=>FH k a⟩
 unfold qx;rw[e,e]
section
variable {ns:List Nd} {aa:Nat->Bool} {us:List (List Nat)} {xs:List Nat}
theorem JI(hg:Good ns)(hl:jQ ns (bH ns ns.length) aa)(hE:jk ns aa (bu ns aa) us xs)(hx:xs.length=8*us.length){x:Nat->Nat}(hL:jY x){sp:Nat->Nat}(h0:sp 0=0)(hs:∀ t,sp (t+1)=dZ xs (sp t) (x t)) :
  ∀ t,sp t<us.length/\geq (dW ns aa (bu ns aa) (us.getD (sp t) [])) (dW ns aa (bu ns aa) (pre x t))=true
 | 0=>by
  have hp:=(aA1.1 hE.first).1
  rw[h0];refine⟨hp,?_⟩;have:us.getD 0 []=[]:=by simp[List.getD,hE.first]
  rw[this];exact jl.2 λ_ _=>rfl
 | t+1=>by
  obtain⟨h1,h2⟩:=JI hg hl hE hx hL h0 hs t;have h3:=hL t;obtain⟨u0,u1,e0,e1,hq⟩:=hE.ok (8*sp t+x t) (by omega);rw[show (8*sp t+x t) / 8=sp t by omega]at e0;rw[show (8*sp t+x t) % 8=x t by omega]at hq;have hn:dZ xs (sp t) (x t)=xs.getD (8*sp t+x t) 0:=rfl;rw[hs,hn];refine⟨(aA1.1 e1).1,?_⟩;have a1:us.getD (xs.getD (8*sp t+x t) 0) []=u1:=by simp only[List.getD]at e1 ⊢;rw[e1];rfl
  have a0:us.getD (sp t) []=u0:=by simp[List.getD,e0]
  rw[a0]at h2;rw[a1,QV,qY];exact FH hq (aew hg.le h2 _)
theorem QE(hg:Good ns)(hl:jQ ns (bH ns ns.length) aa)(hE:jk ns aa (bu ns aa) us xs)(hx:xs.length=8*us.length){x:Nat->Nat}(hL:jY x){sp:Nat->Nat}(h0:sp 0=0)(hs:∀ t,sp (t+1)=dZ xs (sp t) (x t))(t:Nat) :
  pQ ns (pre x t) (iJ ns aa (bu ns aa) us (sp t)):=by
 unfold iJ;rw[aeu (JI hg hl hE hx hL h0 hs t).2];exact Dw hg hl (ai9 hL t)
end
theorem fM{fn:Func}{p q b:Nat}{ty:TypeId}{d:TypeDesc}{cs:List Value}{v:Value}{a:Act}{w:World}{R:Ending->World->Prop}(h:fn.results=#[.cell p ty,.tmp q])(hd:a.defers=[])(hp:a.tmps.getD p undef=.pointer (some ⟨b,0,none⟩))(hq:a.tmps.getD q undef=v)
  (hg:w.rangeAt b 0 cs) (hu:Tryz.prog.underlying ty=some d) (hr:d.isRow=true) (hs:(Tryz.prog.info? ty).map (·.size)=some cs.length) (hR:R (.returned (.tuple #[.agg cs.toArray,v])) w):bodyPost Tryz.prog fn R .ret a w:=by
 refine bodyPost_ret (v:=.tuple #[.agg cs.toArray,v]) ?_ hd hR;rw[results_cell_tmp h,hp,hq];simp only[asAddr,Sem.run_pure,Result.andThen_ok];rw[run_loadVar_mid w b 0 _ cs d hg hu hr hs];rfl
section
variable (s:ByteArray) (w:World)
end
