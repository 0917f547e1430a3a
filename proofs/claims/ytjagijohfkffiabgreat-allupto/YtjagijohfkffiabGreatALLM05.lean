import Derived.Test.YtjagijohfkffiabGreatALLM04
set_option maxHeartbeats 16000000
set_option maxRecDepth 100000
set_option linter.unusedSimpArgs false
namespace Go.Proofs.YtjagijohfkffiabGreat
open Go.RowKit
set_option linter.unusedVariables false
def Rdd(o:Option (Nat × List Nd))(R:Nat)(s:ByteArray)(w:World)(e:Ending)(w':World):Prop:=
 (o=none/\e=.returned (.bool false)/\Below R w w')\/(∃ a' eQ,o=some (a',eQ)/\e=.returned (.bool true)/\Rd w' R s a' eQ/\Below R w w')
def IP(k R:Nat)(s:ByteArray):Prop:=
 ∀ (a:Nat) (ns:List Nd) (w:World),Rd w R s a ns->s.size<a+k->a<=s.size->ns.length<=a->Calls Tryz.prog 61 #[.pointer (some ⟨R,0,none⟩)] w (Rdd (ps k s a ns) R s w)
theorem yJ(k R:Nat)(s:ByteArray)(hs:s.size<=24)(H:IP k R s)(op:Int)(ho:0<=op)(a:Nat)(ns:List Nd)(w:World)(hr:Rd w R s a ns)(hk:s.size<a+k)(ha:a<=s.size)(hn:ns.length<=a) :
  Calls Tryz.prog 112 #[.pointer (some ⟨R,0,none⟩),.int .u8 op] w (Rdd (xy op.toNat k s a ns) R s w):=by
 have C:=H a ns w hr hk ha hn;cases e0:ps k s a ns with
 | none=>
  have d:Hid (xy op.toNat k s a ns=none):=hid (by simp[xy,e0]);have c:=hid e0;clear e0;go_enter Tryz.func112,Tryz.ntmps112;go_wp2_with fail;refine C.mono ?_;rintro e j (⟨_,rfl,f⟩ | ⟨n,o,h,_⟩)
  ·go_wp2_with fail;go_ret;exact aCa ⟨d.out,rfl,f⟩
  ·rw[c.out]at h;cases h
 | some x=>
  obtain⟨i,b⟩:=x;have d:Hid (xy op.toNat k s a ns=some (i,b++[⟨op.toNat,b.length - 1,0⟩])):=hid (by simp[xy,e0]);have c:=hid e0;have g:=eY k s a ns i b e0;clear e0;go_enter Tryz.func112,Tryz.ntmps112;go_wp2_with fail;refine C.mono ?_;rintro e j (⟨h,_⟩ | ⟨n,o,h,rfl,l,f⟩)
  ·rw[c.out]at h;cases h
  ·rw[c.out]at h;simp only[aCC,aCP]at h;obtain⟨rfl,rfl⟩:=h;obtain⟨q,cap,c2,_⟩:=l.c2;go_wp2_with fail;refine(wU R i op _ 0 s b j (by omega) ho (by omega) (by omega) l).mono ?_;rintro e r ⟨rfl,m,p⟩;clear c2;go_wp2_with fail;go_ret;refine aCb ⟨_,_,d.out,rfl,?_,f.trans p⟩;rw[show ((b.length:Int) - 1).toNat=b.length - 1 from by omega]at m;exact m
theorem pR{s:ByteArray}{a:Nat}(h:bt s a≠0):pU s a=a+1:=by unfold pU;rw[aC2 (kr h)]
theorem afm(k R:Nat)(s:ByteArray)(hs:s.size<=24)(H:IP k R s)(a:Nat)(ns:List Nd)(w:World)(hr:Rd w R s a ns)(hk:s.size<a+k)(ha:a<=s.size)(hn:ns.length<=a) :
  Calls Tryz.prog 113 #[.pointer (some ⟨R,0,none⟩)] w (Rdd (ps2 k s a ns) R s w):=by
 have C:=H a ns w hr hk ha hn;cases e0:ps k s a ns with
 | none=>
  have j:Hid (ps2 k s a ns=none):=hid (by simp[ps2,e0]);have d:=hid e0;clear e0;go_enter Tryz.func113,Tryz.ntmps113;go_wp2_with fail;refine C.mono ?_;rintro e n (⟨_,rfl,l⟩ | ⟨q,r,h,_⟩)
  ·go_wp2_with fail;go_ret;exact aCa ⟨j.out,rfl,l⟩
  ·rw[d.out]at h;cases h
 | some x=>
  obtain⟨b,f⟩:=x;have V:=eY k s a ns b f e0;have G:b+1<=s.size->Hid (∀ (w:World),Rd w R s (b+1) f->Calls Tryz.prog 61 #[.pointer (some ⟨R,0,none⟩)] w (Rdd (ps k s (b+1) f) R s w)):=λP=>hid (λw h=>H (b+1) f w h (by omega) P (by omega));by_cases c:bU (bt s b)=true
  ·have t:=kr (Cq c);have I:=hid (pR (Cq c));cases e2:ps k s (b+1) f with
   | none=>
    have j:Hid (ps2 k s a ns=none):=hid (by simp[ps2,e0,c,e2]);have d:=hid e0;have u:=hid e2;have v:=hid c;clear e0 e2 c;go_enter Tryz.func113,Tryz.ntmps113;go_wp2_with fail;refine C.mono ?_;rintro e n (⟨h,_⟩ | ⟨q,r,h,rfl,g,l⟩)
    ·rw[d.out]at h;cases h
    rw[d.out]at h;simp only[aCC,aCP]at h;obtain⟨rfl,rfl⟩:=h;obtain⟨J,cap,c2,_⟩:=g.c2;go_wp2_with fail;refine(tK R b s f n hs (by omega) g).mono ?_;rintro e y ⟨rfl,m,z⟩;rw[I.out]at m;go_wp2_with fail;refine(AY (bt s b) y (ru _ _)).mono ?_;rintro e K ⟨rfl,rfl⟩;rw[v.out];go_wp2_with fail;refine((G t).out _ m).mono ?_;rintro e F (⟨_,rfl,B⟩ | ⟨q,r,h,_⟩)
    ·go_wp2_with fail;go_ret;exact aCa ⟨j.out,rfl,(l.trans z).trans B⟩
    ·rw[u.out]at h;cases h
   | some x=>
    obtain⟨o,p⟩:=x;have W:=eY k s _ f o p e2;by_cases D:bt s o=41
    ·have j:Hid (ps2 k s a ns=some (o+1,p++[⟨bt s b,f.length - 1,p.length - 1⟩])):=hid (by simp[ps2,e0,c,e2,D]);have L:=hid (pR (s:=s) (a:=o) (by omega));have Q:=hid D;have d:=hid e0;have u:=hid e2;have v:=hid c;clear e0 e2 c D;go_enter Tryz.func113,Tryz.ntmps113;go_wp2_with fail;refine C.mono ?_;rintro e n (⟨h,_⟩ | ⟨q,r,h,rfl,g,l⟩)
     ·rw[d.out]at h;cases h
     rw[d.out]at h;simp only[aCC,aCP]at h;obtain⟨rfl,rfl⟩:=h;obtain⟨J,cap,c2,_⟩:=g.c2;go_wp2_with fail;refine(tK R b s f n hs (by omega) g).mono ?_;rintro e y ⟨rfl,m,z⟩;rw[I.out]at m;clear c2;go_wp2_with fail;refine(AY (bt s b) y (ru _ _)).mono ?_;rintro e K ⟨rfl,rfl⟩;rw[v.out];go_wp2_with fail;refine((G t).out _ m).mono ?_;rintro e F (⟨h,_⟩ | ⟨q,r,h,rfl,i,B⟩)
     ·rw[u.out]at h;cases h
     rw[u.out]at h;simp only[aCC,aCP]at h;obtain⟨rfl,rfl⟩:=h;obtain⟨S,T,M,_⟩:=i.c2;go_wp2_with fail;refine(tK R o s p F hs (by omega) i).mono ?_;rintro e O ⟨rfl,A,N⟩;rw[L.out]at A;rw[Q.out];clear M;go_wp2_with fail;refine(wU R (o+1) _ _ _ s p O (by omega) (by omega) (by omega) (by omega) A).mono ?_;rintro e X ⟨rfl,E,U⟩;go_wp2_with fail;go_ret;refine aCb ⟨_,_,j.out,rfl,?_,(((l.trans z).trans B).trans N).trans U⟩;rw[show ((f.length:Int) - 1).toNat=f.length - 1 from by omega,show ((p.length:Int) - 1).toNat=p.length - 1 from by omega,Int.toNat_natCast]at E;exact E
    ·have j:Hid (ps2 k s a ns=none):=hid (by simp[ps2,e0,c,e2,D]);have Y:((bt s o:Int) !=41)=true:=by rw[bne_iff_ne];omega
     have d:=hid e0;have u:=hid e2;have v:=hid c;clear e0 e2 c D;go_enter Tryz.func113,Tryz.ntmps113;go_wp2_with fail;refine C.mono ?_;rintro e n (⟨h,_⟩ | ⟨q,r,h,rfl,g,l⟩)
     ·rw[d.out]at h;cases h
     rw[d.out]at h;simp only[aCC,aCP]at h;obtain⟨rfl,rfl⟩:=h;obtain⟨J,cap,c2,_⟩:=g.c2;go_wp2_with fail;refine(tK R b s f n hs (by omega) g).mono ?_;rintro e y ⟨rfl,m,z⟩;rw[I.out]at m;clear c2;go_wp2_with fail;refine(AY (bt s b) y (ru _ _)).mono ?_;rintro e K ⟨rfl,rfl⟩;rw[v.out];go_wp2_with fail;refine((G t).out _ m).mono ?_;rintro e F (⟨h,_⟩ | ⟨q,r,h,rfl,i,B⟩)
     ·rw[u.out]at h;cases h
     rw[u.out]at h;simp only[aCC,aCP]at h;obtain⟨rfl,rfl⟩:=h;obtain⟨S,T,M,_⟩:=i.c2;go_wp2_with fail;refine(tK R o s p F hs (by omega) i).mono ?_;rintro e O ⟨rfl,A,N⟩;clear M;go_wp2_with fail;go_ret;exact aCa ⟨j.out,rfl,((l.trans z).trans B).trans N⟩
  ·rw[Bool.not_eq_true]at c;have j:Hid (ps2 k s a ns=none):=hid (by simp[ps2,e0,c]);have d:=hid e0;have v:=hid c;clear e0 c;go_enter Tryz.func113,Tryz.ntmps113;go_wp2_with fail;refine C.mono ?_;rintro e n (⟨h,_⟩ | ⟨q,r,h,rfl,g,l⟩)
   ·rw[d.out]at h;cases h
   rw[d.out]at h;simp only[aCC,aCP]at h;obtain⟨rfl,rfl⟩:=h;obtain⟨J,cap,c2,_⟩:=g.c2;go_wp2_with fail;refine(tK R b s f n hs (by omega) g).mono ?_;rintro e y ⟨rfl,m,z⟩;clear c2;go_wp2_with fail;refine(AY (bt s b) y (ru _ _)).mono ?_;rintro e K ⟨rfl,rfl⟩;rw[v.out];go_wp2_with fail;go_ret;exact aCa ⟨j.out,rfl,l.trans z⟩
theorem Xd(R:Nat)(s:ByteArray)(hs:s.size<=24)(k:Nat):IP k R s:=by
 induction k with
 | zero=>intro a ns w A D C E;omega
 | succ k ih=>
  intro a ns w A D C E;have T:=tK R a s ns w hs C A;by_cases o:bt s a=48
  ·have d:Hid (ps (k+1) s a ns=some (a+1,ns++[⟨48,0,0⟩])):=hid (by rw[qg (by rw[o];decide),o]);have j:=hid (pR (s:=s) (a:=a) (by omega));have B:=hid o;clear o;go_enter Tryz.func61,Tryz.ntmps61;go_wp2_with fail;refine T.mono ?_;rintro e g ⟨rfl,b,f⟩;rw[j.out]at b;rw[B.out];go_wp2_with fail;refine(wU R (a+1) _ 0 0 s ns g (by omega) (by omega) (by omega) (by omega) b).mono ?_;rintro e m ⟨rfl,l,c⟩;go_wp2_with fail;go_ret;exact aCb ⟨_,_,d.out,rfl,l,f.trans c⟩
  by_cases p:bt s a=49
  ·have d:Hid (ps (k+1) s a ns=some (a+1,ns++[⟨49,0,0⟩])):=hid (by rw[qg (by rw[p];decide),p]);have j:=hid (pR (s:=s) (a:=a) (by omega));have B:=hid p;clear p;go_enter Tryz.func61,Tryz.ntmps61;go_wp2_with fail;refine T.mono ?_;rintro e g ⟨rfl,b,f⟩;rw[j.out]at b;rw[B.out];go_wp2_with fail;refine(wU R (a+1) _ 0 0 s ns g (by omega) (by omega) (by omega) (by omega) b).mono ?_;rintro e m ⟨rfl,l,c⟩;go_wp2_with fail;go_ret;exact aCb ⟨_,_,d.out,rfl,l,f.trans c⟩
  by_cases q:bt s a=112
  ·have d:Hid (ps (k+1) s a ns=some (a+1,ns++[⟨112,0,0⟩])):=hid (by rw[qg (by rw[q];decide),q]);have j:=hid (pR (s:=s) (a:=a) (by omega));have B:=hid q;clear q;go_enter Tryz.func61,Tryz.ntmps61;go_wp2_with fail;refine T.mono ?_;rintro e g ⟨rfl,b,f⟩;rw[j.out]at b;rw[B.out];go_wp2_with fail;refine(wU R (a+1) _ 0 0 s ns g (by omega) (by omega) (by omega) (by omega) b).mono ?_;rintro e m ⟨rfl,l,c⟩;go_wp2_with fail;go_ret;exact aCb ⟨_,_,d.out,rfl,l,f.trans c⟩
  by_cases r:bt s a=113
  ·have d:Hid (ps (k+1) s a ns=some (a+1,ns++[⟨113,0,0⟩])):=hid (by rw[qg (by rw[r];decide),r]);have j:=hid (pR (s:=s) (a:=a) (by omega));have B:=hid r;clear r;go_enter Tryz.func61,Tryz.ntmps61;go_wp2_with fail;refine T.mono ?_;rintro e g ⟨rfl,b,f⟩;rw[j.out]at b;rw[B.out];go_wp2_with fail;refine(wU R (a+1) _ 0 0 s ns g (by omega) (by omega) (by omega) (by omega) b).mono ?_;rintro e m ⟨rfl,l,c⟩;go_wp2_with fail;go_ret;exact aCb ⟨_,_,d.out,rfl,l,f.trans c⟩
  by_cases t:bt s a=114
  ·have d:Hid (ps (k+1) s a ns=some (a+1,ns++[⟨114,0,0⟩])):=hid (by rw[qg (by rw[t];decide),t]);have j:=hid (pR (s:=s) (a:=a) (by omega));have B:=hid t;clear t;go_enter Tryz.func61,Tryz.ntmps61;go_wp2_with fail;refine T.mono ?_;rintro e g ⟨rfl,b,f⟩;rw[j.out]at b;rw[B.out];go_wp2_with fail;refine(wU R (a+1) _ 0 0 s ns g (by omega) (by omega) (by omega) (by omega) b).mono ?_;rintro e m ⟨rfl,l,c⟩;go_wp2_with fail;go_ret;exact aCb ⟨_,_,d.out,rfl,l,f.trans c⟩
  by_cases u:bt s a=33
  ·have d:Hid (ps (k+1) s a ns=xy 33 k s (a+1) ns):=hid (by rw[uU (by rw[u];decide),u]);have n:=kr (s:=s) (i:=a) (by omega);have j:=hid (pR (s:=s) (a:=a) (by omega));have B:=hid u;clear u;go_enter Tryz.func61,Tryz.ntmps61;go_wp2_with fail;refine T.mono ?_;rintro e g ⟨rfl,b,f⟩;rw[j.out]at b;rw[B.out];go_wp2_with fail;refine(yJ k R s hs ih _ (by omega) (a+1) ns g b (by omega) (by omega) (by omega)).mono ?_;rintro e m h;rcases h with⟨h,rfl,c⟩ | ⟨a',eQ,h,rfl,l,c⟩
   ·go_wp2_with fail;go_ret;exact aCa ⟨d.out.trans h,rfl,f.trans c⟩
   ·go_wp2_with fail;go_ret;exact aCb ⟨a',eQ,d.out.trans h,rfl,l,f.trans c⟩
  by_cases v:bt s a=88
  ·have d:Hid (ps (k+1) s a ns=xy 88 k s (a+1) ns):=hid (by rw[uU (by rw[v];decide),v]);have n:=kr (s:=s) (i:=a) (by omega);have j:=hid (pR (s:=s) (a:=a) (by omega));have B:=hid v;clear v;go_enter Tryz.func61,Tryz.ntmps61;go_wp2_with fail;refine T.mono ?_;rintro e g ⟨rfl,b,f⟩;rw[j.out]at b;rw[B.out];go_wp2_with fail;refine(yJ k R s hs ih _ (by omega) (a+1) ns g b (by omega) (by omega) (by omega)).mono ?_;rintro e m h;rcases h with⟨h,rfl,c⟩ | ⟨a',eQ,h,rfl,l,c⟩
   ·go_wp2_with fail;go_ret;exact aCa ⟨d.out.trans h,rfl,f.trans c⟩
   ·go_wp2_with fail;go_ret;exact aCb ⟨a',eQ,d.out.trans h,rfl,l,f.trans c⟩
  by_cases x:bt s a=70
  ·have d:Hid (ps (k+1) s a ns=xy 70 k s (a+1) ns):=hid (by rw[uU (by rw[x];decide),x]);have n:=kr (s:=s) (i:=a) (by omega);have j:=hid (pR (s:=s) (a:=a) (by omega));have B:=hid x;clear x;go_enter Tryz.func61,Tryz.ntmps61;go_wp2_with fail;refine T.mono ?_;rintro e g ⟨rfl,b,f⟩;rw[j.out]at b;rw[B.out];go_wp2_with fail;refine(yJ k R s hs ih _ (by omega) (a+1) ns g b (by omega) (by omega) (by omega)).mono ?_;rintro e m h;rcases h with⟨h,rfl,c⟩ | ⟨a',eQ,h,rfl,l,c⟩
   ·go_wp2_with fail;go_ret;exact aCa ⟨d.out.trans h,rfl,f.trans c⟩
   ·go_wp2_with fail;go_ret;exact aCb ⟨a',eQ,d.out.trans h,rfl,l,f.trans c⟩
  by_cases y:bt s a=71
  ·have d:Hid (ps (k+1) s a ns=xy 71 k s (a+1) ns):=hid (by rw[uU (by rw[y];decide),y]);have n:=kr (s:=s) (i:=a) (by omega);have j:=hid (pR (s:=s) (a:=a) (by omega));have B:=hid y;clear y;go_enter Tryz.func61,Tryz.ntmps61;go_wp2_with fail;refine T.mono ?_;rintro e g ⟨rfl,b,f⟩;rw[j.out]at b;rw[B.out];go_wp2_with fail;refine(yJ k R s hs ih _ (by omega) (a+1) ns g b (by omega) (by omega) (by omega)).mono ?_;rintro e m h;rcases h with⟨h,rfl,c⟩ | ⟨a',eQ,h,rfl,l,c⟩
   ·go_wp2_with fail;go_ret;exact aCa ⟨d.out.trans h,rfl,f.trans c⟩
   ·go_wp2_with fail;go_ret;exact aCb ⟨a',eQ,d.out.trans h,rfl,l,f.trans c⟩
  by_cases z:bt s a=40
  ·have d:Hid (ps (k+1) s a ns=ps2 k s (a+1) ns):=hid (qJ z);have n:=kr (s:=s) (i:=a) (by omega);have j:=hid (pR (s:=s) (a:=a) (by omega));have B:=hid z;clear z;go_enter Tryz.func61,Tryz.ntmps61;go_wp2_with fail;refine T.mono ?_;rintro e g ⟨rfl,b,f⟩;rw[j.out]at b;rw[B.out];go_wp2_with fail;refine(afm k R s hs ih (a+1) ns g b (by omega) (by omega) (by omega)).mono ?_;rintro e m h;rcases h with⟨h,rfl,c⟩ | ⟨a',eQ,h,rfl,l,c⟩
   ·go_wp2_with fail;go_ret;exact aCa ⟨d.out.trans h,rfl,f.trans c⟩
   ·go_wp2_with fail;go_ret;exact aCb ⟨a',eQ,d.out.trans h,rfl,l,f.trans c⟩
  have d:Hid (ps (k+1) s a ns=none):=hid (IU (by simp[bG,o,p,q,r,t]) (by simp[eF,u,v,x,y]) z);have F:((bt s a:Int)==48)=false:=aCe.2 (by omega);have G:((bt s a:Int)==49)=false:=aCe.2 (by omega);have H:((bt s a:Int)==112)=false:=aCe.2 (by omega);have I:((bt s a:Int)==113)=false:=aCe.2 (by omega);have J:((bt s a:Int)==114)=false:=aCe.2 (by omega);have K:((bt s a:Int)==33)=false:=aCe.2 (by omega);have L:((bt s a:Int)==88)=false:=aCe.2 (by omega);have M:((bt s a:Int)==70)=false:=aCe.2 (by omega);have N:((bt s a:Int)==71)=false:=aCe.2 (by omega);have O:((bt s a:Int)==40)=false:=aCe.2 (by omega);clear o p q r t u v x y z;go_enter Tryz.func61,Tryz.ntmps61;go_wp2_with fail;refine T.mono ?_;rintro e g ⟨rfl,b,f⟩;go_wp2_with fail;go_ret;exact aCa ⟨d.out,rfl,f⟩
def lQ(s:ByteArray)(w:World)(e:Ending)(w':World):Prop:=
 ∃ ao cap,e=.returned (.tuple #[.slice ao (af s).2.length cap,.int .i64 (af s).1])/\w'.ownsRow w.heap.size 109 3 (.slice ao (af s).2.length cap) (af s).2.length (flat (af s).2)/\Below w.heap.size w w'
theorem yK{s:ByteArray}{w w':World}{k:Nat}(h:af s=(k,[]))(hb:Below w.heap.size w w'):lQ s w (.returned (.tuple #[.slice none 0 0,.int .i64 k])) w':=by
 unfold lQ;rw[h];exact⟨none,0,rfl,aCp _ _ _ _,hb⟩
theorem akR(w:World)(s:ByteArray):Rd (w.alloc (.cells #[.string s,.int .i64 0,.slice none 0 0] 106)) w.heap.size s 0 []:=
 ⟨by simp,by simp,⟨none,0,by simp,aCp _ _ _ _⟩,by simp,by simp⟩
theorem ZC(s:ByteArray)(w:World)(hm:s.size<=maxLen)(h:24<s.size):Calls Tryz.prog 30 #[.string s] w (lQ s w):=by
 unfold maxLen at hm;have P:=hid (yK (s:=s) (w:=w) (w':=w) (k:=1) (by simp[af,h]) (aB4 _ _));go_enter Tryz.func30,Tryz.ntmps30;go_wp2_with fail
 go_ret2
 exact P.out
theorem WQ(s:ByteArray)(w:World)(h:¬ 24<s.size):Calls Tryz.prog 30 #[.string s] w (lQ s w):=by
 have C:=Xd w.heap.size s (by omega) 25 0 [] _ (akR w s) (by omega) (by omega) (by simp);cases e0:ps 25 s 0 [] with
 | none=>
  have P:=hid (λw'=>yK (s:=s) (w:=w) (w':=w') (k:=2) (by simp[af,h,e0]));have b:=hid e0;clear e0;go_enter Tryz.func30,Tryz.ntmps30;go_wp2_with fail;refine C.mono ?_;rintro e i (⟨_,rfl,d⟩ | ⟨j,l,h,_⟩)
  ·go_wp2_with fail
   go_ret2
   exact P.out _ (((aB4 _ _).alloc (aB2 _) _).trans d)
  ·rw[b.out]at h;cases h
 | some x=>
  obtain⟨a,ns⟩:=x;have g:=eY 25 s 0 [] a ns e0;by_cases f:a=s.size
  ·by_cases n:8<ns.length
   ·have P:=hid (λw'=>yK (s:=s) (w:=w) (w':=w') (k:=3) (by simp[af,h,e0,f,n]));have b:=hid e0;have o:((a:Int) !=(s.size:Int))=false:=by rw[bne_eq_false_iff_eq];omega
    clear e0 f;go_enter Tryz.func30,Tryz.ntmps30;go_wp2_with fail;refine C.mono ?_;rintro e i (⟨h,_⟩ | ⟨j,l,h,rfl,c,d⟩)
    ·rw[b.out]at h;cases h
    rw[b.out]at h;simp only[aCC,aCP]at h;obtain⟨rfl,rfl⟩:=h;have c1:=c.c1;obtain⟨m,cap,c2,own⟩:=c.c2;go_wp2_with fail
    go_ret2
    exact P.out _ (((aB4 _ _).alloc (aB2 _) _).trans d)
   ·have P:Hid (af s=(0,ns)):=hid (by simp[af,h,e0,f,n]);have b:=hid e0;have o:((a:Int) !=(s.size:Int))=false:=by rw[bne_eq_false_iff_eq];omega
    clear e0 f;go_enter Tryz.func30,Tryz.ntmps30;go_wp2_with fail;refine C.mono ?_;rintro e i (⟨h,_⟩ | ⟨j,l,h,rfl,c,d⟩)
    ·rw[b.out]at h;cases h
    rw[b.out]at h;simp only[aCC,aCP]at h;obtain⟨rfl,rfl⟩:=h;have c1:=c.c1;obtain⟨m,cap,c2,own⟩:=c.c2;go_wp2_with fail
    go_ret2
    unfold lQ;rw[P.out];exact⟨m,cap,rfl,bQ own (Nat.le_succ _),((aB4 _ _).alloc (aB2 _) _).trans d⟩
  ·have P:=hid (λw'=>yK (s:=s) (w:=w) (w':=w') (k:=2) (by simp[af,h,e0,f]));have b:=hid e0;have o:((a:Int) !=(s.size:Int))=true:=by rw[bne_iff_ne];omega
   clear e0;go_enter Tryz.func30,Tryz.ntmps30;go_wp2_with fail;refine C.mono ?_;rintro e i (⟨h,_⟩ | ⟨j,l,h,rfl,c,d⟩)
   ·rw[b.out]at h;cases h
   rw[b.out]at h;simp only[aCC,aCP]at h;obtain⟨rfl,rfl⟩:=h;have c1:=c.c1;obtain⟨m,cap,c2,own⟩:=c.c2;go_wp2_with fail
   go_ret2
   exact P.out _ (((aB4 _ _).alloc (aB2 _) _).trans d)
theorem kU(s:ByteArray)(w:World)(hm:s.size<=maxLen):Calls Tryz.prog 30 #[.string s] w (lQ s w):=by
 by_cases h:24<s.size
 ·exact ZC s w hm h
 ·exact WQ s w h
theorem aeN(s:ByteArray)(w:World)(hm:s.size<=maxLen):Calls Tryz.prog 49 #[.string s] w λe w'=>e=.returned (.tuple #[.int .i64 (af s).2.length,.int .i64 (af s).1])/\Below w.heap.size w w':=by
 go_enter Tryz.func49,Tryz.ntmps49;go_wp2_with fail;refine(kU s _ hm).mono ?_;rintro e b ⟨c,cap,rfl,_,a⟩;go_wp2_with fail
 go_ret2
 exact⟨rfl,a⟩
def eH(zs:List Int):List Nat:=zs.map Int.toNat
def iN(s:ByteArray)(z1 z2:List Int):Nat:=if (af s).1=0 then dI z1 z2 else (af s).1
def jb(s:ByteArray)(z1 z2:List Int):Bool:=if iN s z1 z2=0 then pW z1.length (af s).2 (eH (z1++z2)) else false
theorem BR{zs:List Int}(h:dh zs=true):zs.map (Value.int .i64)=cZ (eH zs)/\∀ x∈eH zs,x<8:=by
 unfold dh at h;rw[List.all_eq_true]at h;constructor
 ·unfold cZ eH;rw[List.map_map];apply aCX;intro z a;have:=ja.1 (h z a);simp only[Function.comp];rw[Int.toNat_of_nonneg this.1]
 ·intro x b;unfold eH at b;obtain⟨z,a,rfl⟩:=aCU.1 b;have:=ja.1 (h z a);omega
theorem Gh{z1 z2:List Int}(h:dI z1 z2=0):0<z2.length/\z1.length<=40/\z2.length<=40/\dh z1=true/\dh z2=true:=by
 unfold dI at h
 split at h
 ·simp at h
 ·split at h
  ·simp at h
  ·split at h
   ·rename_i h1 h2 h3;exact⟨by omega,by omega,by omega,h3.1,h3.2⟩
   ·simp at h
theorem Cj{a b:List Int}(h1:dh a=true)(h2:dh b=true):dh (a++b)=true:=by
 unfold dh at *;rw[List.all_append,h1,h2];rfl
section
variable (s:ByteArray) (a1 a2:Option Addr) (l1 c1 l2 c2:Nat) (z1 z2:List Int) (w:World)
theorem afY(hm:s.size<=maxLen)(h:(af s).1≠0):Calls Tryz.prog 51 #[.string s,.slice a1 l1 c1,.slice a2 l2 c2] w λe w'=>e=.returned (.tuple #[.bool (jb s z1 z2),.int .i64 (iN s z1 z2)])/\Below w.heap.size w w':=by
 have E:Hid (iN s z1 z2=(af s).1):=hid (by unfold iN;rw[aC1 h]);have V:Hid (jb s z1 z2=false):=hid (by unfold jb;rw[E.out,aC1 h]);have C:=kU s w hm;unfold lQ at C;generalize af s=p at *;have k:((p.1:Int) !=0)=true:=by rw[bne_iff_ne];omega
 go_enter Tryz.func51,Tryz.ntmps51;go_wp2_with fail;refine C.mono ?_;rintro e b ⟨c,cap,rfl,_,a⟩;go_wp2_with fail
 go_ret2
 exact⟨by rw[E.out,V.out];rfl,a⟩
theorem acx(hm:s.size<=maxLen)(h:(af s).1=0)(h1:Ints w a1 l1 c1 z1)(h2:Ints w a2 l2 c2 z2)(hj:dI z1 z2≠0):Calls Tryz.prog 51 #[.string s,.slice a1 l1 c1,.slice a2 l2 c2] w λe w'=>e=.returned (.tuple #[.bool (jb s z1 z2),.int .i64 (iN s z1 z2)])/\Below w.heap.size w w':=by
 have E:Hid (iN s z1 z2=dI z1 z2):=hid (by unfold iN;rw[aC2 h]);have V:Hid (jb s z1 z2=false):=hid (by unfold jb;rw[E.out,aC1 hj]);have C:=kU s w hm;unfold lQ at C;have J:=λW (b:Below w.heap.size w W)=>TI a1 a2 l1 c1 l2 c2 z1 z2 W (h1.below b) (h2.below b);unfold Joined at J;generalize af s=p at *;obtain⟨g,i⟩:=p;dsimp only at *;subst h;have k:((dI z1 z2:Int) !=0)=true:=by rw[bne_iff_ne];omega
 generalize dI z1 z2=je at *;go_enter Tryz.func51,Tryz.ntmps51;go_wp2_with fail;refine C.mono ?_;rintro e j ⟨l,cap,rfl,own,a⟩;clear C own;go_wp2_with fail;refine(J _ a).mono ?_;rintro e m ⟨c,⟨_,rfl⟩ | ⟨f,_⟩⟩
 ·have d:=a.size;clear J;go_wp2_with fail
  go_ret2
  exact⟨by rw[E.out,V.out];rfl,(a.trans (c.mono d)).alloc (aCW d c.size) _⟩
 ·exact absurd f hj
theorem afX(hm:s.size<=maxLen)(h:(af s).1=0)(h1:Ints w a1 l1 c1 z1)(h2:Ints w a2 l2 c2 z2)(hj:dI z1 z2=0):Calls Tryz.prog 51 #[.string s,.slice a1 l1 c1,.slice a2 l2 c2] w λe w'=>e=.returned (.tuple #[.bool (jb s z1 z2),.int .i64 (iN s z1 z2)])/\Below w.heap.size w w':=by
 have E:Hid (iN s z1 z2=0):=hid (by unfold iN;rw[aC2 h];exact hj);have V:Hid (jb s z1 z2=pW z1.length (af s).2 (eH (z1++z2))):=hid (by unfold jb;rw[E.out,aC2 rfl]);have C:=kU s w hm;unfold lQ at C;have J:=λW (b:Below w.heap.size w W)=>TI a1 a2 l1 c1 l2 c2 z1 z2 W (h1.below b) (h2.below b);unfold Joined at J;have G:=hid (iM h);obtain⟨H,I,K,m,n⟩:=Gh hj;have f:=BR (Cj m n);rw[f.1]at J;have x:=hid f.2;have c:(eH (z1++z2)).length=z1.length+z2.length:=by simp[eH]
 clear f m n;generalize af s=p at *;obtain⟨L,i⟩:=p;dsimp only at *;subst h;rw[hj]at J;generalize eH (z1++z2)=xs at *;have y:=hid c;clear c hj;generalize z1.length=n1 at *;generalize z2.length=n2 at *;go_enter Tryz.func51,Tryz.ntmps51;go_wp2_with fail;refine C.mono ?_;rintro e M ⟨o,cap,rfl,own,j⟩;have z:=hid own;clear C own;go_wp2_with fail;refine(J _ j).mono ?_;rintro e N ⟨q,⟨A,_⟩ | ⟨_,g,r,rfl,t⟩⟩
 ·exact absurd rfl A
 have u:=j.size;have l:=hid t;have a:=hid q;clear J t q;go_wp2_with fail;have d:=(z.out.kept (row:=none) ⟨a.out.os,a.out.tape,a.out.output,a.out.size,λk B _=>a.out.block k B⟩ (by cases hv:(Value.slice o i.length cap).ownBlock <;> simp)).alloc (.cells #[.slice (some ⟨g,0,none⟩) (n1+n2) r,.int .i64 n1] 180)
 refine(aao _ _ g (n1+n2) r n1 i.length cap o xs i _ (l.out.alloc _) d G.out rfl y.out (by omega) (by omega) x.out).mono ?_;rintro e O ⟨rfl,v⟩;clear d;have D:=a.out.size;have F:=hid (((j.trans (a.out.mono u)).alloc (aCW u D) _).trans (v.mono (by simp;omega)));clear v;go_wp2_with fail
 go_ret2
 exact⟨by rw[E.out,V.out];rfl,F.out⟩
theorem acy(hm:s.size<=maxLen)(h1:Ints w a1 l1 c1 z1)(h2:Ints w a2 l2 c2 z2):Calls Tryz.prog 51 #[.string s,.slice a1 l1 c1,.slice a2 l2 c2] w λe w'=>e=.returned (.tuple #[.bool (jb s z1 z2),.int .i64 (iN s z1 z2)])/\Below w.heap.size w w':=by
 by_cases h:(af s).1=0
 ·by_cases a:dI z1 z2=0
  ·exact afX s a1 a2 l1 c1 l2 c2 z1 z2 w hm h h1 h2 a
  ·exact acx s a1 a2 l1 c1 l2 c2 z1 z2 w hm h h1 h2 a
 ·exact afY s a1 a2 l1 c1 l2 c2 z1 z2 w hm h
end
theorem nO{P:Program}(w:World){ops:Array Oper}{rest:List Oper}{o:Oper}{a:Act}{Q:Exit->Act->World->Prop}(nZ:o.guard=none)(s x:Operand)(t:TypeId)
  (ho:o.op=.call { callee:=.builtin .append,args:=#[s,x],argTypes:=#[t,t] })
  (base:Nat) (e:TypeId) (i:TypeInfo) (z:Value) (size bytes:Nat) (ht:P.underlying t=some (.slice e)) (hi:P.info? e=some i) (hz:i.zero=some z)
  (hsize:i.size=size) (hby:i.bytes=bytes) (hzs:z.cells.size=size) (hsz:0<size)
  (v:Value) (n:Nat) (xs:List Value) (hs:a.eval s=v) (hown:w.ownsRow base e size v n xs)
  (ao:Option Addr) (m c:Nat) (news:List Value) (hx:a.eval x=.slice ao m c) (hl:news.length=m*size) (hnone:ao=none->m=0/\c=0) (apf:∀ ad,ao=some ad->∀ j u,news[j]?=some u->w.cell? (ad.add j)=some u) (h1:∀ u∈news,u.oneCell'=true)
  (h63:n+m<=maxLen) (amj:(n+m)*bytes<=140737488355328) (hbase:base<=w.heap.size)
  (h:∀ v' w',w'.ownsRow base e size v' (n+m) (xs++news)->w.grownBy w' v.ownBlock->wpList P ops Q rest (a.put o.dst v') w'):wpList P ops Q (o::rest) a w:=by
 cases ao with
 | none=>
  obtain⟨rfl,rfl⟩:=hnone rfl;have b:news=[]:=List.eq_nil_of_length_eq_zero (by simpa using hl);subst b;refine wpList_append_own_none nZ s x t ho base e i size ht hi v n xs hs hown hx ?_;exact h v w (by simpa using hown) (World.grownBy.refl _ _)
 | some ad=>
  exact wpList_append_own w nZ s x t ho base e i z size bytes ht hi hz hsize hby hzs hsz v n xs hs hown ad m c news hx hl (apf ad rfl) h1 h63 amj hbase (λv' w' d f _=>h v' w' d f)
def iF(xs:List Nat):List Int:=xs.map λx:Nat=>(x:Int)
theorem kP(xs:List Nat):(iF xs).length=xs.length:=by simp[iF]
theorem Eb(xs ys:List Nat):iF (xs++ys)=iF xs++iF ys:=by simp[iF]
theorem xm(xs:List Nat):(iF xs).map (Value.int .i64)=cZ xs:=by simp[iF,cZ]
theorem ZL(xs:List Nat):eH (iF xs)=xs:=by
 unfold eH iF;rw[List.map_map]
 conv=>rhs;rw[<-List.map_id xs]
 apply aCX;intro x _;simp
theorem QK{xs:List Nat}(h:∀ x∈xs,x<8):dh (iF xs)=true:=by
 unfold dh iF;rw[List.all_eq_true];intro z a;obtain⟨x,b,rfl⟩:=aCU.1 a;rw[ja];have:=h x b;omega
theorem DU{w:World}{B n:Nat}{v:Value}{xs:List Nat}(h:w.ownsRow B 3 1 v n (cZ xs))(hl:xs.length=n):∃ ao cap,v=.slice ao n cap/\Ints w ao n cap (iF xs):=by
 rcases h.2 with⟨rfl,rfl⟩ | ⟨g,cap,cur,rfl,hb,hh,hc,hm,_⟩
 ·exact⟨none,0,rfl,by rw[kP,hl],aB2 _,by omega,λ_=>⟨rfl,rfl⟩,λh=>by omega⟩
 ·refine⟨_,cap,rfl,by rw[kP,hl],hc,by unfold maxLen at hm;omega,λh=>by simp at h,λ_=>⟨g,0,rfl,dC hh,λi a=>?_⟩⟩;rw[aCw,h.cellAt i (by omega)];simp[cZ,iF,List.getD,aB3 (show i<xs.length by omega)]
theorem afM(w:World)(z:Int):Ints (w.alloc (.cells #[.int .i64 z] 3)) (some ⟨w.heap.size,0,none⟩) 1 1 [z]:=
 ⟨rfl,aB2 _,by omega,λh=>by simp at h,λ_=>⟨w.heap.size,0,rfl,by simp,λi hi=>by
  have:i=0:=by omega
  subst this;simp⟩⟩
def sD(A B:List Nat)(t:Nat):Nat:=if t<A.length then A.getD t 0 else B.getD ((t - A.length) % B.length) 0
def AQ(a b t:Nat):Nat:=if t<a then t else a+(t - a) % b
theorem afA{q b:Nat}(hb:0<b):(q+1) % b=if q % b+1<b then q % b+1 else 0:=by
 have h:=Nat.mod_lt q hb;rw[Nat.add_mod];by_cases a:b=1
 ·subst a;simp[Nat.mod_one]
 ·rw[Nat.mod_eq_of_lt (show 1<b by omega)]
  split
  ·exact Nat.mod_eq_of_lt ‹_›
  ·rw[show q % b+1=b by omega];exact Nat.mod_self b
theorem ach{a b:Nat}(hb:0<b)(t:Nat):it (aU (a+b) a) t 0=AQ a b t:=by
 induction t with
 | zero=>
  simp only[it,AQ]
  split
  ·rfl
  ·rename_i h;have:a=0:=by omega
   subst this;simp
 | succ t ih=>
  rw[zk,ih];unfold AQ aU;by_cases c:t+1<a
  ·rw[aC2 c,aC2 (show t<a by omega),aC2 (by omega)]
  ·rw[aC1 c];by_cases d:t<a
   ·rw[aC2 d];have:t+1 - a=0:=by omega
    rw[this]
    split <;> simp <;> omega
   ·rw[aC1 d,show t+1 - a=(t - a)+1 by omega,afA hb];have:=Nat.mod_lt (t - a) hb;by_cases e:(t - a) % b+1<b
    ·rw[aC2 e,aC2 (by omega)];omega
    ·rw[aC1 e,aC1 (by omega)];rfl
theorem afC{A B:List Nat}(hb:0<B.length)(t:Nat):ltOf (A++B) (AQ A.length B.length t)=sD A B t:=by
 unfold ltOf AQ sD;have:=Nat.mod_lt (t - A.length) hb;by_cases h:t<A.length
 ·rw[aC2 h,aC2 h];simp[List.getD,aCh h]
 ·rw[aC1 h,aC1 h,List.getD,List.getD,aCi (by omega),Nat.add_sub_cancel_left]
theorem ae2{A B:List Nat}(hb:0<B.length)(ns:List Nd)(k t:Nat):d9 (λi=>i+1) (sD A B) ns k t↔d9 (aU (A.length+B.length) A.length) (ltOf (A++B)) ns k (AQ A.length B.length t):=by
 have h:=ajh (f:=λt=>it (aU (A.length+B.length) A.length) t 0) (nx1:=λi=>i+1) (lt1:=sD A B) (nx2:=aU (A.length+B.length) A.length) (lt2:=ltOf (A++B))
  (λi=>zk _ _ _) (λi=>by rw[ach hb,afC hb]) ns k t
 rw[ach hb]at h;exact h
theorem Z0{A B:List Nat}{ns:List Nd}(hg:Good ns)(hb:0<B.length)(hx:∀ x∈A++B,x<8):pW A.length ns (A++B)=true↔d9 (λi=>i+1) (sD A B) ns (ns.length - 1) 0:=by
 rw[Ee hg (by simp;omega) hx,ae2 hb,aCd];have:AQ A.length B.length 0=0:=by
  unfold AQ
  split
  ·rfl
  ·rename_i h;have a:A.length=0:=by omega
   rw[a];simp
 rw[this]
theorem Re{A B:List Nat}{i:Nat}(h:i<A.length):(A++B).getD i 0=A.getD i 0:=by simp[List.getD,aCh h]
theorem Ints.drew{w:World}{ao:Option Addr}{len cap:Nat}{zs:List Int}(h:Ints w ao len cap zs):Ints w.drew ao len cap zs:=⟨h.hlen,h.hcap,h.hmax,h.hnil,h.hcell⟩
theorem Ag{B:Nat}{w w':World}(h:Below B w.drew w'):Below B w w':=⟨h.os,h.tape,h.output,h.size,h.block⟩
theorem ae0{cs:Array Value}{u v:Value}(h:cs[0]?=some u):(cs.setIfInBounds 0 v).setIfInBounds 0 u=cs:=by
 cases cs with
 | mk l=>
  cases l with
  | nil=>simp at h
  | cons a t=>
   simp at h;subst h;simp
theorem aad{zs:List Int}(h:0<zs.length):((zs.map (Value.int .i64)++[Value.int .i64 77,Value.int .i64 77]).toArray)[0]?=some (.int .i64 (zs.getD 0 0)):=by
 cases zs with
 | nil=>simp at h
 | cons a t=>simp
theorem Y4{w wq W:World}{g:Nat}{cs:Array Value}{t:TypeId}{u v:Value}(hb:Below w.heap.size w wq)(hblk:w.heap[g]?=some (.cells cs t (0,0)))(h0:cs[0]?=some u)
  (ho:W.os=wq.os) (ht:W.tape=wq.tape) (hp:W.output=wq.output) (hh:W.heap=((wq.setCell ⟨g,0,none⟩ v).setCell ⟨g,0,none⟩ u).heap):Below w.heap.size w W:=by
 refine⟨ho.trans hb.os,ht.trans hb.tape,hp.trans hb.output,by rw[hh];simpa using hb.size,λq a=>?_⟩;rw[hh];by_cases e:q=g
 ·subst e;have b:=(hb.block q a).trans hblk;rw[lF (lF b v) u,ae0 h0,hblk]
 ·rw[aCD _ _ _ _ e,aCD _ _ _ _ e];exact hb.block q a
theorem Cy(B G l c:Nat)(a:Option Addr)(aj:List (List Int))(gs:Nat->Nat)(p1 p2:Nat)(vO:Value)(w0 w:World)(hA:Lists w0 a l c aj)(hb0:Below w0.heap.size w0 w)(hB:w0.heap.size<=B)(hS:mI w B G l aj gs p1 p2 vO)(Uo:l<=1048576)(hr:∀ i,i<l->(aj.getD i []).length<=1048576) :
  Calls Tryz.prog 9 #[.slice (some ⟨G,0,none⟩) l (l+2),vO,.slice a l c] w λe w'=>e=.returned (.bool true)/\Below w.heap.size w w':=by
 have hc:=hA.hcap;have hm:=hA.hmax;have hI:=hA.below hb0;have SL:=hid (EP (some ⟨G,0,none⟩) a l (l+2) c aj w (hS.lists (by omega) (λi hi=>by have:=hr i hi;omega)) hI);have K:=hid hS;have HA:=hid hA;have iJ:=hid hb0;have HR:=hid hr;obtain⟨CX,xY,L⟩:=ak hS.own;subst L;have hcO:l<=xY/\xY<=9223372036854775807:=by
  rcases hS.own.2 with⟨e,h0⟩ | ⟨g,cap,cur,e,_,_,h1,h2,_⟩
  ·cases e;omega
  ·cases e;unfold maxLen at h2;omega
 clear hA hb0 hr hS hI;go_enter Tryz.func9,Tryz.ntmps9;go_wp2_with fail;refine SL.out.mono ?_;rintro e w1 ⟨rfl,nq,rfl⟩;have aK:=hid (aCl (aB4 w.heap.size w) nq);generalize w.drewN nq=w1 at *;clear SL;go_wp2_with fail
 go_loopw [9] (λi wq=>∃ j:Nat,j<=l/\i=.int .i64 j/\Hid (Below w.heap.size w wq)) (λi _=>l - (intOf i).toNat)
 case atStart=>exact⟨0,aCg _,rfl,aK⟩
 case round=>
  clear aK;obtain⟨j,hj,rfl,q⟩:=hrel;rename World=>W0;by_cases s:j<l
  ·have d:=K.out.below q.out;obtain⟨F,L,Yd,Bh,azy⟩:=eZ d.own (by omega);subst L;have H:W0.cell? ⟨F,j,none⟩=some (Sg aj gs j):=by
    rw[d.own.cellAt j (by omega)];exact Xt s
   have I:=d.cell s;obtain⟨hBg,m⟩:=d.rows j s;obtain⟨b,o,e,hb,u⟩:=HA.out.hcell (by omega);subst e;obtain⟨ra,f,rc,v,t⟩:=u j s;have y:=iJ.out.trans (q.out.mono iJ.out.size);have cr:=(y.cell (p:=⟨b,o+j,none⟩) hb).trans v;have XT:=t.below y;have Jr:=t.hlen;have M:=HR.out j s;have hrc:=t.hcap;have hrx:=t.hmax;have N:F≠gs j:=λe=>by
    have A:=zL d.own m;rw[<-e]at A;exact A rfl
   have O:G≠gs j:=λe=>by
    have A:=d.blk;rw[e,m.blk]at A;simp at A
   have C:=hid (K.out.rows j s).2;have D:=hid (m.fz 0);have r:=hid (λ(h:0<(aj.getD j []).length)=>m.c 0 h);unfold Sg at H I;rw[Jr]at H I m M r C;have NS:=hid (kG (gs j) ra f rc (aj.getD j []) W0.drew (m.same rfl) XT.drew (by omega));have P:=hid t;have V6:=hid Bh;have Gv:=m.lt;have Q:b<W0.heap.size:=by have:=y.size;omega
   have R:=vC d.blk;clear u d m XT t v;generalize Mc:gs j=g at *;have i1:(0:Int)<=(j:Int):=by omega
   have i2:(j:Int)<(l:Int):=by omega
   go_wp2_with fail
   go_region_with (go_at_call 8;go_must (refine NS.out.mono ?_;rintro e E ⟨rfl,b2⟩))
   all_goals
    have n:=Ag b2;have aM:=hid (q.out.trans (n.mono q.out.size));have S:=(n.cell (p:=⟨F,j,none⟩) Bh).trans H;have T:=(n.cell (p:=⟨G,j,none⟩) R).trans I;have U:=(n.cell (p:=⟨b,o+j,none⟩) Q).trans cr;have IJ:=hid ((n.frozen (p:=⟨g,0,none⟩) Gv).trans D.out);have Wi:=hid (λ(h:0<f)=>(n.cell (p:=⟨g,0,none⟩) Gv).trans (r.out h));have V:=hid (y.trans (n.mono y.size));clear b2 n H I cr NS q D r;by_cases hz:f=0
    ·have z0:decide ((0:Int)<(f:Int))=false:=by simp;omega
     have k:decide (0<f)=false:=by simp;omega
     go_wp2_with fail;go_roundw
     case rel=>exact⟨j+1,by omega,by go_num,aM⟩
     case measure=>simp[intOf];omega
    ·have z0:(0:Int)<(f:Int):=by omega
     have k:0<f:=by omega
     obtain⟨J,X,e',Y,uB⟩:=P.out.hcell (by omega);subst e';have ca:=(V.out.cell (p:=⟨J,X+0,none⟩) Y).trans (uB 0 k);rw[Nat.add_zero]at ca;have c0:=Wi.out k;have f0:=IJ.out;have Z:J≠g:=by omega
     have Qd:b≠g:=by omega
     have HU:Hid ((((aj.getD j []).map (Value.int .i64)++[Value.int .i64 77,Value.int .i64 77]).toArray)[0]?=some (.int .i64 ((aj.getD j []).getD 0 0))):=hid (aad (by rw[Jr];exact k));have cO3:∀ x,(E.setCell ⟨g,0,none⟩ x).cell? ⟨F,j,none⟩=some (Value.slice (some ⟨g,0,none⟩) f (f+2)):=λx=>by rw[aB8 _ _ _ _ (λe=>N (congrArg Addr.block e).symm)];exact S
     have cG3:∀ x,(E.setCell ⟨g,0,none⟩ x).cell? ⟨G,j,none⟩=some (Value.slice (some ⟨g,0,none⟩) f (f+2)):=λx=>by rw[aB8 _ _ _ _ (λe=>O (congrArg Addr.block e).symm)];exact T
     have cr3:∀ x,(E.setCell ⟨g,0,none⟩ x).cell? ⟨b,o+j,none⟩=some (Value.slice (some ⟨J,X,none⟩) f rc):=λx=>by rw[aB8 _ _ _ _ (λe=>Qd (congrArg Addr.block e).symm)];exact U
     have ca3:∀ x,(E.setCell ⟨g,0,none⟩ x).cell? ⟨J,X,none⟩=some (.int .i64 ((aj.getD j []).getD 0 0)):=λx=>by rw[aB8 _ _ _ _ (λe=>Z (congrArg Addr.block e).symm)];exact ca
     generalize (aj.getD j []).getD 0 0=z at *;have FIN:=hid (λW=>@Y4 w E W g _ _ (.int .i64 z) (.int .i64 (78+j)) aM.out C.out.blk HU.out);clear uB;go_wp2_with fail
     go_region
     all_goals
      go_wp2_with fail;go_roundw
      case rel=>exact⟨j+1,by omega,by go_num,FIN.out _ rfl rfl rfl rfl⟩
      case measure=>simp[intOf];omega
  ·obtain rfl:l=j:=by omega
   have d:=K.out.below q.out;have c1:=d.c1;have c2:=d.c2;have d1:W0.cell? ⟨p1,0,none⟩=some (.int .i64 77):=by rw[jm d.q1];rfl
   have d2:W0.cell? ⟨p2,0,none⟩=some (.int .i64 77):=by rw[jm d.q2];rfl
   unfold oN at c1 c2;have e0:(0:Int)<=(l:Int):=by omega
   have e1:(l:Int)<(l:Int)+2:=by omega
   have e2:(l:Int)+1<(l:Int)+2:=by omega
   have e3:(0:Int)<=(l:Int)+1:=by omega
   have e4:(0:Int)<=(l:Int)+2:=by omega
   clear d;go_wp2_with fail;go_ret;exact⟨rfl,q.out⟩
theorem Tryz.BV:(Tryz.prog.info? 127).map (λi=>(i.zero,i.size,i.bytes))=some (some (.pointer none),1,8):=by kernel_rfl
def JF(o:Option (Nat × List Nd))(F:Nat)(x:Int)(bs:List Nat)(w:World)(e:Ending)(w':World):Prop:=
 (o=none/\e=.returned (.tuple #[.pointer none,.int .i64 x,.bool false])/\Below F w w') \/
 (∃ a' eQ ext P,o=some (a',eQ)/\e=.returned (.tuple #[.pointer (some ⟨P,0,none⟩),.int .i64 (a':Nat),.bool true])/\Fm w' F eQ (bs++ext)/\(bs++ext)[eQ.length - 1]?=some P/\(∀ b∈ext,w.heap.size<=b)/\Below F w w'/\Kp F w w')
def ry(k F:Nat)(s:ByteArray):Prop:=
 ∀ (x:Int) (a:Nat) (ns:List Nd) (bs:List Nat) (w:World),x=(a:Int)->Fm w F ns bs->s.size<a+k->a<=s.size->ns.length<=a->Calls Tryz.prog 72 #[.pointer (some ⟨F,0,none⟩),.string s,.int .i64 x] w (JF (ps k s a ns) F x bs w)
theorem Kt{W w1:World}{F:Nat}{ns:List Nd}{bs:List Nat}(hf:Fm W F ns bs){Q:Obj}{v v':Value}{n0:Nat}{xs:List Value}(own:W.ownsRow (F+1) 127 1 v n0 xs)(hn0:n0=ns.length)(Gn:xs=bs.map mD)
  {P:Nat} (GU:F<P) (n:Nd) (h1:bG n.op=false->n.l<ns.length) (h2:bU n.op=true->n.r<ns.length) (hP:W.heap[P]?=some (bR bs ns.length n))
  (hown:w1.ownsRow (F+1) 127 1 v' (n0+1) (xs++[mD P])) (hg:(W.alloc Q).grownBy w1 v.ownBlock) :
  ∃ ll cap',v'=.slice ll (ns.length+1) cap'/\Fm (w1.setCell ⟨F,0,none⟩ (.slice ll (ns.length+1) cap')) F (ns++[n]) (bs++[P])/\Kp F W w1/\Below (F+1) W w1:=by
 subst hn0;subst Gn;have hF:=hf.uX;have a:Kp F W w1:=(Kp.alloc F W Q).trans (Kp.grown (own.alloc Q) hg);have b:Below (F+1) W w1:=((aB4 _ _).alloc (by omega) _).grown hg (by simp;omega) (λk h=>(own.lt k h).1);obtain⟨ll,cap',c⟩:∃ ll cap',v'=.slice ll (ns.length+1) cap':=by
  rcases hown.2 with⟨h,h0⟩ | ⟨g,cap',_,h,_⟩
  ·omega
  ·exact⟨_,cap',h⟩
 subst c;exact⟨ll,cap',rfl,hf.push a b GU n h1 h2 hP ll cap' hown,a,b⟩
theorem ab3{W:World}{ns:List Nd}{bs:List Nat}{P:Nat}{b:Nat}(hb:bG b=true)(h:W.heap[P]?=some (.cells #[.int .u8 b,.pointer none,.pointer none,.int .i64 ns.length] 204)):W.heap[P]?=some (bR bs ns.length ⟨b,0,0⟩):=by
 rw[h];simp[bR,lV,lT,hb,uZ hb]
theorem Gf{bs:List Nat}{ns:List Nd}{n:Nd}{P:Nat}(h:bs.length=ns.length):(bs++[P])[(ns++[n]).length - 1]?=some P:=by
 simp[<-h]
theorem WL(k F:Nat)(s:ByteArray)(hs:s.size<=24)(a:Nat)(ns:List Nd)(bs:List Nat)(w:World)(hf:Fm w F ns bs)(hn:ns.length<=a)(hb:bG (bt s a)=true) :
  Calls Tryz.prog 72 #[.pointer (some ⟨F,0,none⟩),.string s,.int .i64 a] w (JF (ps (k+1) s a ns) F a bs w):=by
 have f:=kr (XJ hb);have v:=hid (qg (k:=k) (ns:=ns) hb);have G:(s[a]'f).toNat=bt s a:=(iB f).symm;obtain⟨H,cap,m,own⟩:=hf.c0;have n:=hf.f0;have hF:=hf.uX;obtain⟨i0,x,y,z,A⟩:=info_parts Tryz.BV;have B:=mZ hb;have l:=hid hb;clear hb;generalize bt s a=b at *;rcases B with rfl | rfl | rfl | rfl | rfl
 all_goals
  go_enter Tryz.func72,Tryz.ntmps72;go_wp2_with (at_builtin;refine wpList_append_own _ rfl (.tmp 160) (.tmp 162) 124 rfl (F+1) 127 i0 (.pointer none) 1 8 Tryz.underlying124 x y z A rfl (by decide) _ _ _ rfl ((own.alloc _).alloc _) ⟨w.heap.size+1,0,none⟩ 1 1 [mD w.heap.size] rfl rfl ?c1 ?c2 ?c3 ?c4 ?c5 ?_)
  case c1=>intro j u g;match j,g with | 0,g=>simp at g;subst g;simp[Addr.add,mD]
  case c2=>intro u o;simp at o;subst o;rfl
  case c3=>unfold maxLen;omega
  case c4=>omega
  case c5=>simp;omega
  intro I J d c _;obtain⟨q,e,C,r,t,i⟩:=Kt (hf.alloc _) (own.alloc _) rfl rfl (P:=w.heap.size) (by omega) ⟨_,0,0⟩ (λh=>absurd l.out (by rw[h];decide)) (λh=>absurd (uZ l.out) (by rw[h];decide)) (ab3 l.out (heap_alloc_new _ _)) d c;subst C;have K:=(i.cell (p:=⟨F,0,none⟩) (aCA _)).trans ((World.cell?_alloc_past _ _ _ hF).trans m);have L:=(i.frozen (p:=⟨F,0,none⟩) (aCA _)).trans ((aCS _ _ _ hF).trans n);have D:=hid r;have B1:=hid ((((aB4 F w).alloc (by omega) _).trans (i.mono (Nat.le_succ F))).setCell (p:=⟨F,0,none⟩) (aB2 _) (.slice q (ns.length+1) e));have E:=hid (((Kp.alloc F w _).trans t).set (P:=F) (aCb rfl) 0 (.slice q (ns.length+1) e));clear r d c i t m n own;go_wp2
  go_ret3
  refine aCb ⟨_,_,[w.heap.size],w.heap.size,v.out,rfl,D.out,Gf hf.len,?_,B1.out,E.out⟩;intro b hb;simp at hb;omega
theorem Lt{w:World}{P:Nat}{c0 c1 c2 c3:Value}(h:w.heap[P]?=some (.cells #[c0,c1,c2,c3] 204 (0,0))) :
  w.cell? ⟨P,0,none⟩=some c0/\w.cell? ⟨P,1,none⟩=some c1/\w.cell? ⟨P,2,none⟩=some c2/\w.cell? ⟨P,3,none⟩=some c3:=by
 refine⟨?_,?_,?_,?_⟩ <;> (rw[aCR w P _ _ _ _ h];rfl)
theorem mX{c:Array Value}:∀ c',(Obj.cells c 204 (0,0))≠.cells c' 127 (0,0):=by intro c' h;simp at h
theorem aft{w1:World}{F P L b:Nat}{n1:List Nd}{bs:List Nat}(hf:Fm w1 F n1 bs)(hP:w1.heap[P]?=some (.cells #[.int .u8 b,.pointer none,.pointer none,.int .i64 0] 204 (0,0)))
  (CS:P ∉ bs) (GU:P≠F) (hL:bs[n1.length - 1]?=some L) (hb:eF b=true) :
  Fm ((w1.setCell ⟨P,1,none⟩ (.pointer (some ⟨L,0,none⟩))).setCell ⟨P,3,none⟩ (.int .i64 n1.length)) F n1 bs /\
  ((w1.setCell ⟨P,1,none⟩ (.pointer (some ⟨L,0,none⟩))).setCell ⟨P,3,none⟩ (.int .i64 n1.length)).heap[P]?=some (bR bs n1.length ⟨b,n1.length - 1,0⟩):=by
 have a:=heap_setCell_same w1 P 1 _ _ (.pointer (some ⟨L,0,none⟩)) hP;have c:=heap_setCell_same _ P 3 _ _ (.int .i64 n1.length) a;have d:=hf.set CS GU hP mX 1 (.pointer (some ⟨L,0,none⟩));refine⟨d.set CS GU a mX 3 _,c.trans ?_⟩;simp[bR,lV,lT,kW hb,l8 hb,List.getD,hL]
theorem Zl(k F:Nat)(s:ByteArray)(hs:s.size<=24)(H:ry k F s)(a:Nat)(ns:List Nd)(bs:List Nat)(w:World)(hf:Fm w F ns bs)(hk:s.size<a+(k+1))(hn:ns.length<=a)(hb:eF (bt s a)=true) :
  Calls Tryz.prog 72 #[.pointer (some ⟨F,0,none⟩),.string s,.int .i64 a] w (JF (ps (k+1) s a ns) F a bs w):=by
 have n:=kr (akT hb);have I:=hid (uU (k:=k) (ns:=ns) hb);have o:(s[a]'n).toNat=bt s a:=(iB n).symm;have hF:=hf.uX;obtain⟨i0,hi,aT,aP,aO⟩:=info_parts Tryz.BV;have J:=pQ hb;have K:=hid hb;clear hb;generalize bt s a=b at *;have C:=λW (h:Fm W F ns bs)=>H (a+1) (a+1) ns bs W (by omega) h (by omega) (by omega) (by omega);cases e0:ps k s (a+1) ns with
 | none=>
  have B:Hid (ps (k+1) s a ns=none):=hid (by rw[I.out];simp[xy,e0]);have y:=hid e0;clear e0;rcases J with rfl | rfl | rfl | rfl
  all_goals
   go_enter Tryz.func72,Tryz.ntmps72;go_wp2_with fail;refine(C _ (hf.alloc _)).mono ?_;rintro e r (⟨_,rfl,z⟩ | ⟨a',eQ,_,_,h,_⟩)
   ·go_wp2_with fail
    go_ret3
    exact aCa ⟨B.out,rfl,((aB4 F w).alloc (by omega) _).trans z⟩
   ·rw[y.out]at h;cases h
 | some x=>
  obtain⟨M,d⟩:=x;have B:Hid (ps (k+1) s a ns=some (M,d++[⟨b,d.length - 1,0⟩])):=hid (by rw[I.out];simp[xy,e0]);have g1:=eY k s _ ns M d e0;have y:=hid e0;clear e0;rcases J with rfl | rfl | rfl | rfl
  all_goals
   go_enter Tryz.func72,Tryz.ntmps72;go_wp2_with fail;refine(C _ (hf.alloc _)).mono ?_;rintro e r (⟨h,_⟩ | ⟨a',eQ,l,L,h,rfl,f,N,O,z,Q⟩)
   ·rw[y.out]at h;cases h
   rw[y.out]at h;simp only[aCC,aCP]at h;obtain⟨rfl,rfl⟩:=h;have m:=Q w.heap.size _ _ (heap_alloc_new _ _) (by decide) (by omega);obtain⟨p0,p1,p2,p3⟩:=Lt m;have q:∀ j,r.frozen? ⟨w.heap.size,j,none⟩=false:=λj=>frozen_of_row _ _ _ _ _ m;have R:w.heap.size ∉ bs++l:=λhm=>(aCG.1 hm).elim (λh=>by have:=(hf.lt _ h).1;omega) (λh=>by have:=O _ h;simp at this;omega);obtain⟨S,D⟩:∃ S,S=bs++l:=⟨_,rfl⟩;rw[<-D]at f N R;have T:=hid D;clear D;obtain⟨t,U⟩:=aft f m R (by omega) N K.out;obtain⟨ao,cap,E,_⟩:=f.c0;have V:=f.f0;have hsz:w.heap.size+1<=r.heap.size:=by have:=z.size;simp at this;omega
   have hF1:=f.uX;have HW:=hid t;have own:=(f.own E).2;have X:=hid (wL (wL own m mX 1 (.pointer (some ⟨L,0,none⟩))) (heap_setCell_same r w.heap.size 1 _ _ (.pointer (some ⟨L,0,none⟩)) m) mX 3 (.int .i64 d.length));have G:=hid U;have v:=f.len;clear f m t U own;go_wp2_with (at_builtin;refine wpList_append_own _ rfl (.tmp 160) (.tmp 162) 124 rfl (F+1) 127 i0 (.pointer none) 1 8 Tryz.underlying124 hi aT aP aO rfl (by decide) _ _ _ rfl (X.out.alloc _) ⟨r.heap.size,0,none⟩ 1 1 [mD w.heap.size] rfl rfl ?c1 ?c2 ?c3 ?c4 ?c5 ?_)
   case c1=>intro j u A;match j,A with | 0,A=>simp at A;subst A;simp[Addr.add,mD,World.cell?_alloc_here]
   case c2=>intro u Y;simp at Y;subst Y;rfl
   case c3=>unfold maxLen;omega
   case c4=>omega
   case c5=>simp;omega
   intro v' Z g c _;obtain⟨ll,i,hv,CP,wy,o⟩:=Kt HW.out X.out rfl rfl (P:=w.heap.size) (by omega) ⟨_,d.length - 1,0⟩ (λ_=>by show d.length - 1<d.length;omega) (λh=>absurd (l8 K.out) (by rw[h];decide)) G.out g c;subst hv;have k0:Z.cell? ⟨F,0,none⟩=some (.slice ao d.length cap):=(o.cell (p:=⟨F,0,none⟩) (aCA _)).trans ((aB8 _ _ _ _ (λe=>by have:=congrArg Addr.block e;simp at this;omega)).trans ((aB8 _ _ _ _ (λe=>by have:=congrArg Addr.block e;simp at this;omega)).trans E));have g0:Z.frozen? ⟨F,0,none⟩=false:=(o.frozen (p:=⟨F,0,none⟩) (aCA _)).trans (by rw[aCm,aCm];exact V);have HF:=hid CP;have B1:=hid (((((((aB4 F w).alloc (by omega) _).trans z).setCell (p:=⟨w.heap.size,1,none⟩) (by show F<=w.heap.size;omega) _).setCell (p:=⟨w.heap.size,3,none⟩) (by show F<=w.heap.size;omega) _).trans (o.mono (Nat.le_succ F))).setCell (p:=⟨F,0,none⟩) (aB2 _) (.slice ll (d.length+1) i));have K1:=hid ((((((Kp.alloc F w _).trans Q).set (P:=w.heap.size) (aCa (aB2 _)) 1 _).set (P:=w.heap.size) (aCa (aB2 _)) 3 _).trans wy).set (P:=F) (aCb rfl) 0 (.slice ll (d.length+1) i));clear CP g c o wy E V p0 p1 p2 p3 q;go_wp2
   go_ret3
   refine aCb ⟨_,_,l++[w.heap.size],w.heap.size,B.out,rfl,?_,?_,?_,B1.out,K1.out⟩
   ·rw[<-List.append_assoc,<-T.out];exact HF.out
   ·rw[<-List.append_assoc,<-T.out];exact Gf v
   ·intro b hb;rcases aCG.1 hb with hb | hb
    ·have:=O _ hb;simp at this;omega
    ·simp at hb;omega
