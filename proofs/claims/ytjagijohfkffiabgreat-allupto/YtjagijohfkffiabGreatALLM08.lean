import Derived.Test.YtjagijohfkffiabGreatALLM01
import Derived.Test.YtjagijohfkffiabGreatALLM07
import Derived.Laws.AppendOwnNone
set_option maxHeartbeats 16000000
set_option maxRecDepth 100000
namespace Go.Proofs.YtjagijohfkffiabGreat
open Go.RowKit
set_option linter.unusedVariables false
def Rdd (o:Option (Nat × List Nd)) (R:Nat) (s:ByteArray) (w:World) (e:Ending) (w':World):Prop:=
 (o=none∧e=.returned (.bool false)∧Below R w w')∨(∃ a' ns',o=some (a',ns')∧e=.returned (.bool true)∧Rd w' R s a' ns'∧Below R w w')
def CF (k R:Nat) (s:ByteArray):Prop:=
 ∀ (a:Nat) (ns:List Nd) (w:World),Rd w R s a ns→s.size<a+k→a≤s.size→ns.length≤a→Calls Tryz.prog 61 #[.pointer (some ⟨R,0,none⟩)] w (Rdd (ps k s a ns) R s w)
theorem uT (k R:Nat) (s:ByteArray) (hs:s.size≤24) (H:CF k R s) (op:Int) (ho:0≤op) (a:Nat) (ns:List Nd) (w:World) (hr:Rd w R s a ns) (hk:s.size<a+k) (ha:a≤s.size) (hn:ns.length≤a) :
  Calls Tryz.prog 112 #[.pointer (some ⟨R,0,none⟩),.int .u8 op] w (Rdd (tY op.toNat k s a ns) R s w):=by
 have C:=H a ns w hr hk ha hn
 cases e0:ps k s a ns with
 | none=>
  have e1:Hid (tY op.toNat k s a ns=none):=hid (by simp [tY,e0])
  have E0:=hid e0
  clear e0
  go_enter Tryz.func112,Tryz.ntmps112
  go_wp2_with fail
  refine C.mono ?_
  rintro e w1 (⟨_,rfl,hb⟩ | ⟨a',ns',h,_⟩)
  ·go_wp2_with fail
   go_ret
   exact Or.inl ⟨e1.out,rfl,hb⟩
  ·rw [E0.out] at h;cases h
 | some x=>
  obtain ⟨a1,n1⟩:=x
  have e1:Hid (tY op.toNat k s a ns=some (a1,n1++[⟨op.toNat,n1.length - 1,0⟩])):=hid (by simp [tY,e0])
  have E0:=hid e0
  have g:=dJ k s a ns a1 n1 e0
  clear e0
  go_enter Tryz.func112,Tryz.ntmps112
  go_wp2_with fail
  refine C.mono ?_
  rintro e w1 (⟨h,_⟩ | ⟨a',ns',h,rfl,hr1,hb⟩)
  ·rw [E0.out] at h;cases h
  ·rw [E0.out] at h
   simp only [Option.some.injEq,Prod.mk.injEq] at h
   obtain ⟨rfl,rfl⟩:=h
   obtain ⟨ao,cap,c2,_⟩:=hr1.c2
   go_wp2_with fail
   refine (sW R a1 op _ 0 s n1 w1 (by omega) ho (by omega) (by omega) hr1).mono ?_
   rintro e w2 ⟨rfl,hr2,hb2⟩
   clear c2
   go_wp2_with fail
   go_ret
   refine Or.inr ⟨_,_,e1.out,rfl,?_,hb.trans hb2⟩
   rw [show ((n1.length:Int) - 1).toNat=n1.length - 1 from by omega] at hr2
   exact hr2
theorem mU {s:ByteArray} {a:Nat} (h:bt s a≠0):mV s a=a+1:=by unfold mV;rw [if_pos (iV h)]
theorem Zw (k R:Nat) (s:ByteArray) (hs:s.size≤24) (H:CF k R s) (a:Nat) (ns:List Nd) (w:World) (hr:Rd w R s a ns) (hk:s.size<a+k) (ha:a≤s.size) (hn:ns.length≤a) :
  Calls Tryz.prog 113 #[.pointer (some ⟨R,0,none⟩)] w (Rdd (ps2 k s a ns) R s w):=by
 have C:=H a ns w hr hk ha hn
 cases e0:ps k s a ns with
 | none=>
  have e1:Hid (ps2 k s a ns=none):=hid (by simp [ps2,e0])
  have E0:=hid e0
  clear e0
  go_enter Tryz.func113,Tryz.ntmps113
  go_wp2_with fail
  refine C.mono ?_
  rintro e w1 (⟨_,rfl,hb⟩ | ⟨a',ns',h,_⟩)
  ·go_wp2_with fail
   go_ret
   exact Or.inl ⟨e1.out,rfl,hb⟩
  ·rw [E0.out] at h;cases h
 | some x=>
  obtain ⟨a1,n1⟩:=x
  have g1:=dJ k s a ns a1 n1 e0
  have H1:a1+1≤s.size→Hid (∀ (w:World),Rd w R s (a1+1) n1→Calls Tryz.prog 61 #[.pointer (some ⟨R,0,none⟩)] w (Rdd (ps k s (a1+1) n1) R s w)):=fun hl=>hid (fun w h=>H (a1+1) n1 w h (by omega) hl (by omega))
  by_cases b4:bz (bt s a1)=true
  ·have hlt:=iV (yA b4)
   have hnx:=hid (mU (yA b4))
   cases e2:ps k s (a1+1) n1 with
   | none=>
    have e1:Hid (ps2 k s a ns=none):=hid (by simp [ps2,e0,b4,e2])
    have E0:=hid e0
    have E2:=hid e2
    have B4:=hid b4
    clear e0 e2 b4
    go_enter Tryz.func113,Tryz.ntmps113
    go_wp2_with fail
    refine C.mono ?_
    rintro e w1 (⟨h,_⟩ | ⟨a',ns',h,rfl,hr1,hb⟩)
    ·rw [E0.out] at h;cases h
    rw [E0.out] at h
    simp only [Option.some.injEq,Prod.mk.injEq] at h
    obtain ⟨rfl,rfl⟩:=h
    obtain ⟨ao,cap,c2,_⟩:=hr1.c2
    go_wp2_with fail
    refine (qa R a1 s n1 w1 hs (by omega) hr1).mono ?_
    rintro e w2 ⟨rfl,hr2,hb2⟩
    rw [hnx.out] at hr2
    go_wp2_with fail
    refine (xA (bt s a1) w2 (oq _ _)).mono ?_
    rintro e w3 ⟨rfl,rfl⟩
    rw [B4.out]
    go_wp2_with fail
    refine ((H1 hlt).out _ hr2).mono ?_
    rintro e w4 (⟨_,rfl,hb4⟩ | ⟨a',ns',h,_⟩)
    ·go_wp2_with fail
     go_ret
     exact Or.inl ⟨e1.out,rfl,(hb.trans hb2).trans hb4⟩
    ·rw [E2.out] at h;cases h
   | some x=>
    obtain ⟨a2,n2⟩:=x
    have g2:=dJ k s _ n1 a2 n2 e2
    by_cases b5:bt s a2=41
    ·have e1:Hid (ps2 k s a ns=some (a2+1,n2++[⟨bt s a1,n1.length - 1,n2.length - 1⟩])):=hid (by simp [ps2,e0,b4,e2,b5])
     have hnx2:=hid (mU (s:=s) (a:=a2) (by omega))
     have B5:=hid b5
     have E0:=hid e0
     have E2:=hid e2
     have B4:=hid b4
     clear e0 e2 b4 b5
     go_enter Tryz.func113,Tryz.ntmps113
     go_wp2_with fail
     refine C.mono ?_
     rintro e w1 (⟨h,_⟩ | ⟨a',ns',h,rfl,hr1,hb⟩)
     ·rw [E0.out] at h;cases h
     rw [E0.out] at h
     simp only [Option.some.injEq,Prod.mk.injEq] at h
     obtain ⟨rfl,rfl⟩:=h
     obtain ⟨ao,cap,c2,_⟩:=hr1.c2
     go_wp2_with fail
     refine (qa R a1 s n1 w1 hs (by omega) hr1).mono ?_
     rintro e w2 ⟨rfl,hr2,hb2⟩
     rw [hnx.out] at hr2
     clear c2
     go_wp2_with fail
     refine (xA (bt s a1) w2 (oq _ _)).mono ?_
     rintro e w3 ⟨rfl,rfl⟩
     rw [B4.out]
     go_wp2_with fail
     refine ((H1 hlt).out _ hr2).mono ?_
     rintro e w4 (⟨h,_⟩ | ⟨a',ns',h,rfl,hr4,hb4⟩)
     ·rw [E2.out] at h;cases h
     rw [E2.out] at h
     simp only [Option.some.injEq,Prod.mk.injEq] at h
     obtain ⟨rfl,rfl⟩:=h
     obtain ⟨ao2,cap2,c4,_⟩:=hr4.c2
     go_wp2_with fail
     refine (qa R a2 s n2 w4 hs (by omega) hr4).mono ?_
     rintro e w5 ⟨rfl,hr5,hb5⟩
     rw [hnx2.out] at hr5
     rw [B5.out]
     clear c4
     go_wp2_with fail
     refine (sW R (a2+1) _ _ _ s n2 w5 (by omega) (by omega) (by omega) (by omega) hr5).mono ?_
     rintro e w6 ⟨rfl,hr6,hb6⟩
     go_wp2_with fail
     go_ret
     refine Or.inr ⟨_,_,e1.out,rfl,?_,(((hb.trans hb2).trans hb4).trans hb5).trans hb6⟩
     rw [show ((n1.length:Int) - 1).toNat=n1.length - 1 from by omega,show ((n2.length:Int) - 1).toNat=n2.length - 1 from by omega,Int.toNat_natCast] at hr6
     exact hr6
    ·have e1:Hid (ps2 k s a ns=none):=hid (by simp [ps2,e0,b4,e2,b5])
     have b6:((bt s a2:Int)!=41)=true:=by rw [bne_iff_ne];omega
     have E0:=hid e0
     have E2:=hid e2
     have B4:=hid b4
     clear e0 e2 b4 b5
     go_enter Tryz.func113,Tryz.ntmps113
     go_wp2_with fail
     refine C.mono ?_
     rintro e w1 (⟨h,_⟩ | ⟨a',ns',h,rfl,hr1,hb⟩)
     ·rw [E0.out] at h;cases h
     rw [E0.out] at h
     simp only [Option.some.injEq,Prod.mk.injEq] at h
     obtain ⟨rfl,rfl⟩:=h
     obtain ⟨ao,cap,c2,_⟩:=hr1.c2
     go_wp2_with fail
     refine (qa R a1 s n1 w1 hs (by omega) hr1).mono ?_
     rintro e w2 ⟨rfl,hr2,hb2⟩
     rw [hnx.out] at hr2
     clear c2
     go_wp2_with fail
     refine (xA (bt s a1) w2 (oq _ _)).mono ?_
     rintro e w3 ⟨rfl,rfl⟩
     rw [B4.out]
     go_wp2_with fail
     refine ((H1 hlt).out _ hr2).mono ?_
     rintro e w4 (⟨h,_⟩ | ⟨a',ns',h,rfl,hr4,hb4⟩)
     ·rw [E2.out] at h;cases h
     rw [E2.out] at h
     simp only [Option.some.injEq,Prod.mk.injEq] at h
     obtain ⟨rfl,rfl⟩:=h
     obtain ⟨ao2,cap2,c4,_⟩:=hr4.c2
     go_wp2_with fail
     refine (qa R a2 s n2 w4 hs (by omega) hr4).mono ?_
     rintro e w5 ⟨rfl,hr5,hb5⟩
     clear c4
     go_wp2_with fail
     go_ret
     exact Or.inl ⟨e1.out,rfl,((hb.trans hb2).trans hb4).trans hb5⟩
  ·rw [Bool.not_eq_true] at b4
   have e1:Hid (ps2 k s a ns=none):=hid (by simp [ps2,e0,b4])
   have E0:=hid e0
   have B4:=hid b4
   clear e0 b4
   go_enter Tryz.func113,Tryz.ntmps113
   go_wp2_with fail
   refine C.mono ?_
   rintro e w1 (⟨h,_⟩ | ⟨a',ns',h,rfl,hr1,hb⟩)
   ·rw [E0.out] at h;cases h
   rw [E0.out] at h
   simp only [Option.some.injEq,Prod.mk.injEq] at h
   obtain ⟨rfl,rfl⟩:=h
   obtain ⟨ao,cap,c2,_⟩:=hr1.c2
   go_wp2_with fail
   refine (qa R a1 s n1 w1 hs (by omega) hr1).mono ?_
   rintro e w2 ⟨rfl,hr2,hb2⟩
   clear c2
   go_wp2_with fail
   refine (xA (bt s a1) w2 (oq _ _)).mono ?_
   rintro e w3 ⟨rfl,rfl⟩
   rw [B4.out]
   go_wp2_with fail
   go_ret
   exact Or.inl ⟨e1.out,rfl,hb.trans hb2⟩
theorem Qq (R:Nat) (s:ByteArray) (hs:s.size≤24) (k:Nat):CF k R s:=by
 induction k with
 | zero=>intro a ns w hr hk ha hn;omega
 | succ k ih=>
  intro a ns w hr hk ha hn
  have T:=qa R a s ns w hs ha hr
  by_cases h48:bt s a=48
  ·have e1:Hid (ps (k+1) s a ns=some (a+1,ns++[⟨48,0,0⟩])):=hid (by rw [nA (by rw [h48];decide),h48])
   have hnx:=hid (mU (s:=s) (a:=a) (by omega))
   have B:=hid h48
   clear h48
   go_enter Tryz.func61,Tryz.ntmps61
   go_wp2_with fail
   refine T.mono ?_
   rintro e w1 ⟨rfl,hr1,hb⟩
   rw [hnx.out] at hr1
   rw [B.out]
   go_wp2_with fail
   refine (sW R (a+1) _ 0 0 s ns w1 (by omega) (by omega) (by omega) (by omega) hr1).mono ?_
   rintro e w2 ⟨rfl,hr2,hb2⟩
   go_wp2_with fail
   go_ret
   exact Or.inr ⟨_,_,e1.out,rfl,hr2,hb.trans hb2⟩
  by_cases h49:bt s a=49
  ·have e1:Hid (ps (k+1) s a ns=some (a+1,ns++[⟨49,0,0⟩])):=hid (by rw [nA (by rw [h49];decide),h49])
   have hnx:=hid (mU (s:=s) (a:=a) (by omega))
   have B:=hid h49
   clear h49
   go_enter Tryz.func61,Tryz.ntmps61
   go_wp2_with fail
   refine T.mono ?_
   rintro e w1 ⟨rfl,hr1,hb⟩
   rw [hnx.out] at hr1
   rw [B.out]
   go_wp2_with fail
   refine (sW R (a+1) _ 0 0 s ns w1 (by omega) (by omega) (by omega) (by omega) hr1).mono ?_
   rintro e w2 ⟨rfl,hr2,hb2⟩
   go_wp2_with fail
   go_ret
   exact Or.inr ⟨_,_,e1.out,rfl,hr2,hb.trans hb2⟩
  by_cases h112:bt s a=112
  ·have e1:Hid (ps (k+1) s a ns=some (a+1,ns++[⟨112,0,0⟩])):=hid (by rw [nA (by rw [h112];decide),h112])
   have hnx:=hid (mU (s:=s) (a:=a) (by omega))
   have B:=hid h112
   clear h112
   go_enter Tryz.func61,Tryz.ntmps61
   go_wp2_with fail
   refine T.mono ?_
   rintro e w1 ⟨rfl,hr1,hb⟩
   rw [hnx.out] at hr1
   rw [B.out]
   go_wp2_with fail
   refine (sW R (a+1) _ 0 0 s ns w1 (by omega) (by omega) (by omega) (by omega) hr1).mono ?_
   rintro e w2 ⟨rfl,hr2,hb2⟩
   go_wp2_with fail
   go_ret
   exact Or.inr ⟨_,_,e1.out,rfl,hr2,hb.trans hb2⟩
  by_cases h113:bt s a=113
  ·have e1:Hid (ps (k+1) s a ns=some (a+1,ns++[⟨113,0,0⟩])):=hid (by rw [nA (by rw [h113];decide),h113])
   have hnx:=hid (mU (s:=s) (a:=a) (by omega))
   have B:=hid h113
   clear h113
   go_enter Tryz.func61,Tryz.ntmps61
   go_wp2_with fail
   refine T.mono ?_
   rintro e w1 ⟨rfl,hr1,hb⟩
   rw [hnx.out] at hr1
   rw [B.out]
   go_wp2_with fail
   refine (sW R (a+1) _ 0 0 s ns w1 (by omega) (by omega) (by omega) (by omega) hr1).mono ?_
   rintro e w2 ⟨rfl,hr2,hb2⟩
   go_wp2_with fail
   go_ret
   exact Or.inr ⟨_,_,e1.out,rfl,hr2,hb.trans hb2⟩
  by_cases h114:bt s a=114
  ·have e1:Hid (ps (k+1) s a ns=some (a+1,ns++[⟨114,0,0⟩])):=hid (by rw [nA (by rw [h114];decide),h114])
   have hnx:=hid (mU (s:=s) (a:=a) (by omega))
   have B:=hid h114
   clear h114
   go_enter Tryz.func61,Tryz.ntmps61
   go_wp2_with fail
   refine T.mono ?_
   rintro e w1 ⟨rfl,hr1,hb⟩
   rw [hnx.out] at hr1
   rw [B.out]
   go_wp2_with fail
   refine (sW R (a+1) _ 0 0 s ns w1 (by omega) (by omega) (by omega) (by omega) hr1).mono ?_
   rintro e w2 ⟨rfl,hr2,hb2⟩
   go_wp2_with fail
   go_ret
   exact Or.inr ⟨_,_,e1.out,rfl,hr2,hb.trans hb2⟩
  by_cases h33:bt s a=33
  ·have e1:Hid (ps (k+1) s a ns=tY 33 k s (a+1) ns):=hid (by rw [qY (by rw [h33];decide),h33])
   have hlt:=iV (s:=s) (i:=a) (by omega)
   have hnx:=hid (mU (s:=s) (a:=a) (by omega))
   have B:=hid h33
   clear h33
   go_enter Tryz.func61,Tryz.ntmps61
   go_wp2_with fail
   refine T.mono ?_
   rintro e w1 ⟨rfl,hr1,hb⟩
   rw [hnx.out] at hr1
   rw [B.out]
   go_wp2_with fail
   refine (uT k R s hs ih _ (by omega) (a+1) ns w1 hr1 (by omega) (by omega) (by omega)).mono ?_
   rintro e w2 h
   rcases h with ⟨h,rfl,hb2⟩ | ⟨a',ns',h,rfl,hr2,hb2⟩
   ·go_wp2_with fail
    go_ret
    exact Or.inl ⟨e1.out.trans h,rfl,hb.trans hb2⟩
   ·go_wp2_with fail
    go_ret
    exact Or.inr ⟨a',ns',e1.out.trans h,rfl,hr2,hb.trans hb2⟩
  by_cases h88:bt s a=88
  ·have e1:Hid (ps (k+1) s a ns=tY 88 k s (a+1) ns):=hid (by rw [qY (by rw [h88];decide),h88])
   have hlt:=iV (s:=s) (i:=a) (by omega)
   have hnx:=hid (mU (s:=s) (a:=a) (by omega))
   have B:=hid h88
   clear h88
   go_enter Tryz.func61,Tryz.ntmps61
   go_wp2_with fail
   refine T.mono ?_
   rintro e w1 ⟨rfl,hr1,hb⟩
   rw [hnx.out] at hr1
   rw [B.out]
   go_wp2_with fail
   refine (uT k R s hs ih _ (by omega) (a+1) ns w1 hr1 (by omega) (by omega) (by omega)).mono ?_
   rintro e w2 h
   rcases h with ⟨h,rfl,hb2⟩ | ⟨a',ns',h,rfl,hr2,hb2⟩
   ·go_wp2_with fail
    go_ret
    exact Or.inl ⟨e1.out.trans h,rfl,hb.trans hb2⟩
   ·go_wp2_with fail
    go_ret
    exact Or.inr ⟨a',ns',e1.out.trans h,rfl,hr2,hb.trans hb2⟩
  by_cases h70:bt s a=70
  ·have e1:Hid (ps (k+1) s a ns=tY 70 k s (a+1) ns):=hid (by rw [qY (by rw [h70];decide),h70])
   have hlt:=iV (s:=s) (i:=a) (by omega)
   have hnx:=hid (mU (s:=s) (a:=a) (by omega))
   have B:=hid h70
   clear h70
   go_enter Tryz.func61,Tryz.ntmps61
   go_wp2_with fail
   refine T.mono ?_
   rintro e w1 ⟨rfl,hr1,hb⟩
   rw [hnx.out] at hr1
   rw [B.out]
   go_wp2_with fail
   refine (uT k R s hs ih _ (by omega) (a+1) ns w1 hr1 (by omega) (by omega) (by omega)).mono ?_
   rintro e w2 h
   rcases h with ⟨h,rfl,hb2⟩ | ⟨a',ns',h,rfl,hr2,hb2⟩
   ·go_wp2_with fail
    go_ret
    exact Or.inl ⟨e1.out.trans h,rfl,hb.trans hb2⟩
   ·go_wp2_with fail
    go_ret
    exact Or.inr ⟨a',ns',e1.out.trans h,rfl,hr2,hb.trans hb2⟩
  by_cases h71:bt s a=71
  ·have e1:Hid (ps (k+1) s a ns=tY 71 k s (a+1) ns):=hid (by rw [qY (by rw [h71];decide),h71])
   have hlt:=iV (s:=s) (i:=a) (by omega)
   have hnx:=hid (mU (s:=s) (a:=a) (by omega))
   have B:=hid h71
   clear h71
   go_enter Tryz.func61,Tryz.ntmps61
   go_wp2_with fail
   refine T.mono ?_
   rintro e w1 ⟨rfl,hr1,hb⟩
   rw [hnx.out] at hr1
   rw [B.out]
   go_wp2_with fail
   refine (uT k R s hs ih _ (by omega) (a+1) ns w1 hr1 (by omega) (by omega) (by omega)).mono ?_
   rintro e w2 h
   rcases h with ⟨h,rfl,hb2⟩ | ⟨a',ns',h,rfl,hr2,hb2⟩
   ·go_wp2_with fail
    go_ret
    exact Or.inl ⟨e1.out.trans h,rfl,hb.trans hb2⟩
   ·go_wp2_with fail
    go_ret
    exact Or.inr ⟨a',ns',e1.out.trans h,rfl,hr2,hb.trans hb2⟩
  by_cases h40:bt s a=40
  ·have e1:Hid (ps (k+1) s a ns=ps2 k s (a+1) ns):=hid (nS h40)
   have hlt:=iV (s:=s) (i:=a) (by omega)
   have hnx:=hid (mU (s:=s) (a:=a) (by omega))
   have B:=hid h40
   clear h40
   go_enter Tryz.func61,Tryz.ntmps61
   go_wp2_with fail
   refine T.mono ?_
   rintro e w1 ⟨rfl,hr1,hb⟩
   rw [hnx.out] at hr1
   rw [B.out]
   go_wp2_with fail
   refine (Zw k R s hs ih (a+1) ns w1 hr1 (by omega) (by omega) (by omega)).mono ?_
   rintro e w2 h
   rcases h with ⟨h,rfl,hb2⟩ | ⟨a',ns',h,rfl,hr2,hb2⟩
   ·go_wp2_with fail
    go_ret
    exact Or.inl ⟨e1.out.trans h,rfl,hb.trans hb2⟩
   ·go_wp2_with fail
    go_ret
    exact Or.inr ⟨a',ns',e1.out.trans h,rfl,hr2,hb.trans hb2⟩
  have e1:Hid (ps (k+1) s a ns=none):=hid (CL (by simp [aP,h48,h49,h112,h113,h114]) (by simp [dB,h33,h88,h70,h71]) h40)
  have k48:((bt s a:Int)==48)=false:=beq_eq_false_iff_ne.2 (by omega)
  have k49:((bt s a:Int)==49)=false:=beq_eq_false_iff_ne.2 (by omega)
  have aes:((bt s a:Int)==112)=false:=beq_eq_false_iff_ne.2 (by omega)
  have aer:((bt s a:Int)==113)=false:=beq_eq_false_iff_ne.2 (by omega)
  have aeq:((bt s a:Int)==114)=false:=beq_eq_false_iff_ne.2 (by omega)
  have k33:((bt s a:Int)==33)=false:=beq_eq_false_iff_ne.2 (by omega)
  have k88:((bt s a:Int)==88)=false:=beq_eq_false_iff_ne.2 (by omega)
  have k70:((bt s a:Int)==70)=false:=beq_eq_false_iff_ne.2 (by omega)
  have k71:((bt s a:Int)==71)=false:=beq_eq_false_iff_ne.2 (by omega)
  have k40:((bt s a:Int)==40)=false:=beq_eq_false_iff_ne.2 (by omega)
  clear h48 h49 h112 h113 h114 h33 h88 h70 h71 h40
  go_enter Tryz.func61,Tryz.ntmps61
  go_wp2_with fail
  refine T.mono ?_
  rintro e w1 ⟨rfl,hr1,hb⟩
  go_wp2_with fail
  go_ret
  exact Or.inl ⟨e1.out,rfl,hb⟩
def jP (s:ByteArray) (w:World) (e:Ending) (w':World):Prop:=
 ∃ ao cap,e=.returned (.tuple #[.slice ao (af s).2.length cap,.int .i64 (af s).1])∧w'.ownsRow w.heap.size 109 3 (.slice ao (af s).2.length cap) (af s).2.length (flat (af s).2)∧Below w.heap.size w w'
theorem uU {s:ByteArray} {w w':World} {k:Nat} (h:af s=(k,[])) (hb:Below w.heap.size w w'):jP s w (.returned (.tuple #[.slice none 0 0,.int .i64 k])) w':=by
 unfold jP
 rw [h]
 exact ⟨none,0,rfl,World.ownsRow_nil _ _ _ _,hb⟩
theorem ad3 (w:World) (s:ByteArray):Rd (w.alloc (.cells #[.string s,.int .i64 0,.slice none 0 0] 106)) w.heap.size s 0 []:=
 ⟨by simp,by simp,⟨none,0,by simp,World.ownsRow_nil _ _ _ _⟩,by simp,by simp⟩
theorem Tu (s:ByteArray) (w:World) (hm:s.size≤maxLen) (h:24<s.size):Calls Tryz.prog 30 #[.string s] w (jP s w):=by
 unfold maxLen at hm
 have P:=hid (uU (s:=s) (w:=w) (w':=w) (k:=1) (by simp [af,h]) (Below.refl _ _))
 go_enter Tryz.func30,Tryz.ntmps30
 go_wp2_with fail
 go_ret2
 exact P.out
theorem Qe (s:ByteArray) (w:World) (h:¬ 24<s.size):Calls Tryz.prog 30 #[.string s] w (jP s w):=by
 have C:=Qq w.heap.size s (by omega) 25 0 [] _ (ad3 w s) (by omega) (by omega) (by simp)
 cases e0:ps 25 s 0 [] with
 | none=>
  have P:=hid (fun w'=>uU (s:=s) (w:=w) (w':=w') (k:=2) (by simp [af,h,e0]))
  have E0:=hid e0
  clear e0
  go_enter Tryz.func30,Tryz.ntmps30
  go_wp2_with fail
  refine C.mono ?_
  rintro e w1 (⟨_,rfl,hb⟩ | ⟨a',ns',h,_⟩)
  ·go_wp2_with fail
   go_ret2
   exact P.out _ (((Below.refl _ _).alloc (Nat.le_refl _) _).trans hb)
  ·rw [E0.out] at h;cases h
 | some x=>
  obtain ⟨a,ns⟩:=x
  have g:=dJ 25 s 0 [] a ns e0
  by_cases h1:a=s.size
  ·by_cases h2:8<ns.length
   ·have P:=hid (fun w'=>uU (s:=s) (w:=w) (w':=w') (k:=3) (by simp [af,h,e0,h1,h2]))
    have E0:=hid e0
    have h3:((a:Int)!=(s.size:Int))=false:=by rw [bne_eq_false_iff_eq];omega
    clear e0 h1
    go_enter Tryz.func30,Tryz.ntmps30
    go_wp2_with fail
    refine C.mono ?_
    rintro e w1 (⟨h,_⟩ | ⟨a',ns',h,rfl,hr1,hb⟩)
    ·rw [E0.out] at h;cases h
    rw [E0.out] at h
    simp only [Option.some.injEq,Prod.mk.injEq] at h
    obtain ⟨rfl,rfl⟩:=h
    have c1:=hr1.c1
    obtain ⟨ao,cap,c2,own⟩:=hr1.c2
    go_wp2_with fail
    go_ret2
    exact P.out _ (((Below.refl _ _).alloc (Nat.le_refl _) _).trans hb)
   ·have P:Hid (af s=(0,ns)):=hid (by simp [af,h,e0,h1,h2])
    have E0:=hid e0
    have h3:((a:Int)!=(s.size:Int))=false:=by rw [bne_eq_false_iff_eq];omega
    clear e0 h1
    go_enter Tryz.func30,Tryz.ntmps30
    go_wp2_with fail
    refine C.mono ?_
    rintro e w1 (⟨h,_⟩ | ⟨a',ns',h,rfl,hr1,hb⟩)
    ·rw [E0.out] at h;cases h
    rw [E0.out] at h
    simp only [Option.some.injEq,Prod.mk.injEq] at h
    obtain ⟨rfl,rfl⟩:=h
    have c1:=hr1.c1
    obtain ⟨ao,cap,c2,own⟩:=hr1.c2
    go_wp2_with fail
    go_ret2
    unfold jP
    rw [P.out]
    exact ⟨ao,cap,rfl,aY own (Nat.le_succ _),((Below.refl _ _).alloc (Nat.le_refl _) _).trans hb⟩
  ·have P:=hid (fun w'=>uU (s:=s) (w:=w) (w':=w') (k:=2) (by simp [af,h,e0,h1]))
   have E0:=hid e0
   have h3:((a:Int)!=(s.size:Int))=true:=by rw [bne_iff_ne];omega
   clear e0
   go_enter Tryz.func30,Tryz.ntmps30
   go_wp2_with fail
   refine C.mono ?_
   rintro e w1 (⟨h,_⟩ | ⟨a',ns',h,rfl,hr1,hb⟩)
   ·rw [E0.out] at h;cases h
   rw [E0.out] at h
   simp only [Option.some.injEq,Prod.mk.injEq] at h
   obtain ⟨rfl,rfl⟩:=h
   have c1:=hr1.c1
   obtain ⟨ao,cap,c2,own⟩:=hr1.c2
   go_wp2_with fail
   go_ret2
   exact P.out _ (((Below.refl _ _).alloc (Nat.le_refl _) _).trans hb)
theorem jr (s:ByteArray) (w:World) (hm:s.size≤maxLen):Calls Tryz.prog 30 #[.string s] w (jP s w):=by
 by_cases h:24<s.size
 ·exact Tu s w hm h
 ·exact Qe s w h
theorem YX (s:ByteArray) (w:World) (hm:s.size≤maxLen):Calls Tryz.prog 49 #[.string s] w fun e w'=>e=.returned (.tuple #[.int .i64 (af s).2.length,.int .i64 (af s).1])∧Below w.heap.size w w':=by
 go_enter Tryz.func49,Tryz.ntmps49
 go_wp2_with fail
 refine (jr s _ hm).mono ?_
 rintro e w1 ⟨ao,cap,rfl,_,hb⟩
 go_wp2_with fail
 go_ret2
 exact ⟨rfl,hb⟩
def dD (zs:List Int):List Nat:=zs.map Int.toNat
def fZ (s:ByteArray) (z1 z2:List Int):Nat:=if (af s).1=0 then bV z1 z2 else (af s).1
def gT (s:ByteArray) (z1 z2:List Int):Bool:=if fZ s z1 z2=0 then mX z1.length (af s).2 (dD (z1++z2)) else false
theorem xZ {zs:List Int} (h:bI zs=true):zs.map (Value.int .i64)=bD (dD zs)∧∀ x∈dD zs,x<8:=by
 unfold bI at h
 rw [List.all_eq_true] at h
 constructor
 ·unfold bD dD
  rw [List.map_map]
  apply List.map_congr_left
  intro z hz
  have:=gQ.1 (h z hz)
  simp only [Function.comp]
  rw [Int.toNat_of_nonneg this.1]
 ·intro x hx
  unfold dD at hx
  obtain ⟨z,hz,rfl⟩:=List.mem_map.1 hx
  have:=gQ.1 (h z hz)
  omega
theorem BD {z1 z2:List Int} (h:bV z1 z2=0):0<z2.length∧z1.length≤40∧z2.length≤40∧bI z1=true∧bI z2=true:=by
 unfold bV at h
 split at h
 ·simp at h
 ·split at h
  ·simp at h
  ·split at h
   ·rename_i h1 h2 h3;exact ⟨by omega,by omega,by omega,h3.1,h3.2⟩
   ·simp at h
theorem yt {a b:List Int} (h1:bI a=true) (h2:bI b=true):bI (a++b)=true:=by
 unfold bI at *
 rw [List.all_append,h1,h2];rfl
section
variable (s:ByteArray) (a1 a2:Option Addr) (l1 c1 l2 c2:Nat) (z1 z2:List Int) (w:World)
theorem Z6 (hm:s.size≤maxLen) (h:(af s).1≠0):Calls Tryz.prog 51 #[.string s,.slice a1 l1 c1,.slice a2 l2 c2] w fun e w'=>e=.returned (.tuple #[.bool (gT s z1 z2),.int .i64 (fZ s z1 z2)])∧Below w.heap.size w w':=by
 have E:Hid (fZ s z1 z2=(af s).1):=hid (by unfold fZ;rw [if_neg h])
 have V:Hid (gT s z1 z2=false):=hid (by unfold gT;rw [E.out,if_neg h])
 have C:=jr s w hm
 unfold jP at C
 generalize af s=p at *
 have k:((p.1:Int)!=0)=true:=by rw [bne_iff_ne];omega
 go_enter Tryz.func51,Tryz.ntmps51
 go_wp2_with fail
 refine C.mono ?_
 rintro e w1 ⟨ao,cap,rfl,_,hb⟩
 go_wp2_with fail
 go_ret2
 exact ⟨by rw [E.out,V.out];rfl,hb⟩
theorem WN (hm:s.size≤maxLen) (h:(af s).1=0) (h1:Ints w a1 l1 c1 z1) (h2:Ints w a2 l2 c2 z2) (hj:bV z1 z2≠0):Calls Tryz.prog 51 #[.string s,.slice a1 l1 c1,.slice a2 l2 c2] w fun e w'=>e=.returned (.tuple #[.bool (gT s z1 z2),.int .i64 (fZ s z1 z2)])∧Below w.heap.size w w':=by
 have E:Hid (fZ s z1 z2=bV z1 z2):=hid (by unfold fZ;rw [if_pos h])
 have V:Hid (gT s z1 z2=false):=hid (by unfold gT;rw [E.out,if_neg hj])
 have C:=jr s w hm
 unfold jP at C
 have J:=fun W (b:Below w.heap.size w W)=>Nf a1 a2 l1 c1 l2 c2 z1 z2 W (h1.below b) (h2.below b)
 unfold Joined at J
 generalize af s=p at *
 obtain ⟨p1,p2⟩:=p
 dsimp only at *
 subst h
 have k:((bV z1 z2:Int)!=0)=true:=by rw [bne_iff_ne];omega
 generalize bV z1 z2=je at *
 go_enter Tryz.func51,Tryz.ntmps51
 go_wp2_with fail
 refine C.mono ?_
 rintro e w1 ⟨ao,cap,rfl,own,hb⟩
 clear C own
 go_wp2_with fail
 refine (J _ hb).mono ?_
 rintro e w2 ⟨hb2,⟨_,rfl⟩ | ⟨h0,_⟩⟩
 ·have hz:=hb.size
  clear J
  go_wp2_with fail
  go_ret2
  exact ⟨by rw [E.out,V.out];rfl,(hb.trans (hb2.mono hz)).alloc (Nat.le_trans hz hb2.size) _⟩
 ·exact absurd h0 hj
theorem Z5 (hm:s.size≤maxLen) (h:(af s).1=0) (h1:Ints w a1 l1 c1 z1) (h2:Ints w a2 l2 c2 z2) (hj:bV z1 z2=0):Calls Tryz.prog 51 #[.string s,.slice a1 l1 c1,.slice a2 l2 c2] w fun e w'=>e=.returned (.tuple #[.bool (gT s z1 z2),.int .i64 (fZ s z1 z2)])∧Below w.heap.size w w':=by
 have E:Hid (fZ s z1 z2=0):=hid (by unfold fZ;rw [if_pos h];exact hj)
 have V:Hid (gT s z1 z2=mX z1.length (af s).2 (dD (z1++z2))):=hid (by unfold gT;rw [E.out,if_pos rfl])
 have C:=jr s w hm
 unfold jP at C
 have J:=fun W (b:Below w.heap.size w W)=>Nf a1 a2 l1 c1 l2 c2 z1 z2 W (h1.below b) (h2.below b)
 unfold Joined at J
 have G:=hid (fV h)
 obtain ⟨q1,q2,q3,q4,q5⟩:=BD hj
 have LN:=xZ (yt q4 q5)
 rw [LN.1] at J
 have L8:=hid LN.2
 have hnl:(dD (z1++z2)).length=z1.length+z2.length:=by simp [dD]
 clear LN q4 q5
 generalize af s=p at *
 obtain ⟨p1,p2⟩:=p
 dsimp only at *
 subst h
 rw [hj] at J
 generalize dD (z1++z2)=xs at *
 have KQ:=hid hnl
 clear hnl hj
 generalize z1.length=n1 at *
 generalize z2.length=n2 at *
 go_enter Tryz.func51,Tryz.ntmps51
 go_wp2_with fail
 refine C.mono ?_
 rintro e w1 ⟨ao,cap,rfl,own,hb⟩
 have OWN:=hid own
 clear C own
 go_wp2_with fail
 refine (J _ hb).mono ?_
 rintro e w2 ⟨hb2,⟨h0,_⟩ | ⟨_,g,cap2,rfl,eG⟩⟩
 ·exact absurd rfl h0
 have hz:=hb.size
 have aji:=hid eG
 have HB2:=hid hb2
 clear J eG hb2
 go_wp2_with fail
 have ad4:=(OWN.out.kept (row:=none) ⟨HB2.out.os,HB2.out.tape,HB2.out.output,HB2.out.size,fun k hk _=>HB2.out.block k hk⟩ (by cases hv:(Value.slice ao p2.length cap).ownBlock <;> simp)).alloc (.cells #[.slice (some ⟨g,0,none⟩) (n1+n2) cap2,.int .i64 n1] 180)
 refine (Un _ _ g (n1+n2) cap2 n1 p2.length cap ao xs p2 _ (aji.out.alloc _) ad4 G.out rfl KQ.out (by omega) (by omega) L8.out).mono ?_
 rintro e w3 ⟨rfl,hb3⟩
 clear ad4
 have hz2:=HB2.out.size
 have B3:=hid (((hb.trans (HB2.out.mono hz)).alloc (Nat.le_trans hz hz2) _).trans (hb3.mono (by simp;omega)))
 clear hb3
 go_wp2_with fail
 go_ret2
 exact ⟨by rw [E.out,V.out];rfl,B3.out⟩
theorem WO (hm:s.size≤maxLen) (h1:Ints w a1 l1 c1 z1) (h2:Ints w a2 l2 c2 z2):Calls Tryz.prog 51 #[.string s,.slice a1 l1 c1,.slice a2 l2 c2] w fun e w'=>e=.returned (.tuple #[.bool (gT s z1 z2),.int .i64 (fZ s z1 z2)])∧Below w.heap.size w w':=by
 by_cases h:(af s).1=0
 ·by_cases hj:bV z1 z2=0
  ·exact Z5 s a1 a2 l1 c1 l2 c2 z1 z2 w hm h h1 h2 hj
  ·exact WN s a1 a2 l1 c1 l2 c2 z1 z2 w hm h h1 h2 hj
 ·exact Z6 s a1 a2 l1 c1 l2 c2 z1 z2 w hm h
end
theorem lw {P:Program} (w:World) {ops:Array Oper} {rest:List Oper} {o:Oper} {a:Act} {Q:Exit→Act→World→Prop} (hgd:o.guard=none) (s x:Operand) (t:TypeId)
  (ho:o.op=.call { callee:=.builtin .append,args:=#[s,x],argTypes:=#[t,t] })
  (base:Nat) (e:TypeId) (i:TypeInfo) (z:Value) (size bytes:Nat) (ht:P.underlying t=some (.slice e)) (hi:P.info? e=some i) (hz:i.zero=some z)
  (hsize:i.size=size) (hby:i.bytes=bytes) (hzs:z.cells.size=size) (hsz:0<size)
  (v:Value) (n:Nat) (xs:List Value) (hs:a.eval s=v) (hown:w.ownsRow base e size v n xs)
  (ao:Option Addr) (m c:Nat) (news:List Value) (hx:a.eval x=.slice ao m c) (hl:news.length=m*size) (hnone:ao=none→m=0∧c=0) (hnews:∀ ad,ao=some ad→∀ j u,news[j]?=some u→w.cell? (ad.add j)=some u) (h1:∀ u∈news,u.oneCell'=true)
  (h63:n+m≤maxLen) (hbytes:(n+m)*bytes≤140737488355328) (hbase:base≤w.heap.size)
  (h:∀ v' w',w'.ownsRow base e size v' (n+m) (xs++news)→w.grownBy w' v.ownBlock→wpList P ops Q rest (a.put o.dst v') w'):wpList P ops Q (o::rest) a w:=by
 cases ao with
 | none=>
  obtain ⟨rfl,rfl⟩:=hnone rfl
  have hn:news=[]:=List.eq_nil_of_length_eq_zero (by simpa using hl)
  subst hn
  refine wpList_append_own_none hgd s x t ho base e i size ht hi v n xs hs hown hx ?_
  exact h v w (by simpa using hown) (World.grownBy.refl _ _)
 | some ad=>
  exact wpList_append_own w hgd s x t ho base e i z size bytes ht hi hz hsize hby hzs hsz v n xs hs hown ad m c news hx hl (hnews ad rfl) h1 h63 hbytes hbase (fun v' w' h2 h3 _=>h v' w' h2 h3)
def fM (xs:List Nat):List Int:=xs.map fun x:Nat=>(x:Int)
theorem jl (xs:List Nat):(fM xs).length=xs.length:=by simp [fM]
theorem zQ (xs ys:List Nat):fM (xs++ys)=fM xs++fM ys:=by simp [fM]
theorem tN (xs:List Nat):(fM xs).map (Value.int .i64)=bD xs:=by simp [fM,bD]
theorem TE (xs:List Nat):dD (fM xs)=xs:=by
 unfold dD fM
 rw [List.map_map]
 conv=>rhs;rw [←List.map_id xs]
 apply List.map_congr_left
 intro x _;simp
theorem KF {xs:List Nat} (h:∀ x∈xs,x<8):bI (fM xs)=true:=by
 unfold bI fM
 rw [List.all_eq_true]
 intro z hz
 obtain ⟨x,hx,rfl⟩:=List.mem_map.1 hz
 rw [gQ]
 have:=h x hx
 omega
theorem zL {w:World} {B n:Nat} {v:Value} {xs:List Nat} (h:w.ownsRow B 3 1 v n (bD xs)) (hl:xs.length=n):∃ ao cap,v=.slice ao n cap∧Ints w ao n cap (fM xs):=by
 rcases h.2 with ⟨rfl,rfl⟩ | ⟨g,cap,cur,rfl,hb,hh,hc,hm,_⟩
 ·exact ⟨none,0,rfl,by rw [jl,hl],Nat.le_refl _,by omega,fun _=>⟨rfl,rfl⟩,fun h=>by omega⟩
 ·refine ⟨_,cap,rfl,by rw [jl,hl],hc,by unfold maxLen at hm;omega,fun h=>by simp at h,fun _=>⟨g,0,rfl,bO hh,fun i hi=>?_⟩⟩
  rw [Nat.zero_add,h.cellAt i (by omega)]
  simp [bD,fM,List.getD,List.getElem?_eq_getElem (show i<xs.length by omega)]
theorem ZU (w:World) (z:Int):Ints (w.alloc (.cells #[.int .i64 z] 3)) (some ⟨w.heap.size,0,none⟩) 1 1 [z]:=
 ⟨rfl,Nat.le_refl _,by omega,fun h=>by simp at h,fun _=>⟨w.heap.size,0,rfl,by simp,fun i hi=>by
  have:i=0:=by omega
  subst this
  simp⟩⟩
def pg (A B:List Nat) (t:Nat):Nat:=if t<A.length then A.getD t 0 else B.getD ((t - A.length) % B.length) 0
def xu (a b t:Nat):Nat:=if t<a then t else a+(t - a) % b
theorem ZJ {q b:Nat} (hb:0<b):(q+1) % b=if q % b+1<b then q % b+1 else 0:=by
 have h:=Nat.mod_lt q hb
 rw [Nat.add_mod]
 by_cases h1:b=1
 ·subst h1;simp [Nat.mod_one]
 ·rw [Nat.mod_eq_of_lt (show 1<b by omega)]
  split
  ·exact Nat.mod_eq_of_lt ‹_›
  ·rw [show q % b+1=b by omega];exact Nat.mod_self b
theorem WB {a b:Nat} (hb:0<b) (t:Nat):it (aG (a+b) a) t 0=xu a b t:=by
 induction t with
 | zero=>
  simp only [it,xu]
  split
  ·rfl
  ·rename_i h
   have:a=0:=by omega
   subst this
   simp
 | succ t ih=>
  rw [vF,ih]
  unfold xu aG
  by_cases h1:t+1<a
  ·rw [if_pos h1,if_pos (show t<a by omega),if_pos (by omega)]
  ·rw [if_neg h1]
   by_cases h2:t<a
   ·rw [if_pos h2]
    have:t+1 - a=0:=by omega
    rw [this]
    split <;> simp <;> omega
   ·rw [if_neg h2,show t+1 - a=(t - a)+1 by omega,ZJ hb]
    have:=Nat.mod_lt (t - a) hb
    by_cases h3:(t - a) % b+1<b
    ·rw [if_pos h3,if_pos (by omega)];omega
    ·rw [if_neg h3,if_neg (by omega)];rfl
theorem ZK {A B:List Nat} (hb:0<B.length) (t:Nat):ltOf (A++B) (xu A.length B.length t)=pg A B t:=by
 unfold ltOf xu pg
 have:=Nat.mod_lt (t - A.length) hb
 by_cases h:t<A.length
 ·rw [if_pos h,if_pos h];simp [List.getD,List.getElem?_append_left h]
 ·rw [if_neg h,if_neg h,List.getD,List.getD,List.getElem?_append_right (by omega),Nat.add_sub_cancel_left]
theorem Zc {A B:List Nat} (hb:0<B.length) (ns:List Nd) (k t:Nat):dz (fun i=>i+1) (pg A B) ns k t↔dz (aG (A.length+B.length) A.length) (ltOf (A++B)) ns k (xu A.length B.length t):=by
 have h:=acx (f:=fun t=>it (aG (A.length+B.length) A.length) t 0) (nx1:=fun i=>i+1) (FX:=pg A B) (nx2:=aG (A.length+B.length) A.length) (FW:=ltOf (A++B))
  (fun i=>vF _ _ _) (fun i=>by rw [WB hb,ZK hb]) ns k t
 rw [WB hb] at h
 exact h
theorem Ub {A B:List Nat} {ns:List Nd} (hg:Good ns) (hb:0<B.length) (hx:∀ x∈A++B,x<8):mX A.length ns (A++B)=true↔dz (fun i=>i+1) (pg A B) ns (ns.length - 1) 0:=by
 rw [zS hg (by simp;omega) hx,Zc hb,List.length_append]
 have:xu A.length B.length 0=0:=by
  unfold xu
  split
  ·rfl
  ·rename_i h
   have h0:A.length=0:=by omega
   rw [h0];simp
 rw [this]
theorem Lb {A B:List Nat} {i:Nat} (h:i<A.length):(A++B).getD i 0=A.getD i 0:=by simp [List.getD,List.getElem?_append_left h]
theorem Ints.drew {w:World} {ao:Option Addr} {len cap:Nat} {zs:List Int} (h:Ints w ao len cap zs):Ints w.drew ao len cap zs:=⟨h.hlen,h.hcap,h.hmax,h.hnil,h.hcell⟩
theorem rH {B:Nat} {w w':World} (h:Below B w.drew w'):Below B w w':=⟨h.os,h.tape,h.output,h.size,h.block⟩
end Go.Proofs.YtjagijohfkffiabGreat
