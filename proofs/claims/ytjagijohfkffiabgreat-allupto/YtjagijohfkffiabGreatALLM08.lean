import Derived.Test.YtjagijohfkffiabGreatALLM07
set_option maxHeartbeats 16000000
set_option maxRecDepth 100000
set_option linter.unusedSimpArgs false
namespace Go.Proofs.YtjagijohfkffiabGreat
open Go.RowKit
set_option linter.unusedVariables false
theorem Xz(ns:List Nd)(bs:List Nat)(gw n dG back:Nat)(xs:List Nat)(hw:iH ns)(gD:xs.length=n)(hb:back<n)(jH:n<=20000)(h8:∀ x∈xs,x<8)(k:Nat)(hk:k<ns.length):rO ns bs gw n dG back xs k:=by
 induction k using Nat.strongRecOn with
 | _ k ih=>
  intro w b d f a;have c:ns[k]?=some ns[k]:=aB3 hk;obtain⟨g,j,l⟩:=dZ hw c;rcases g with g | g | g
  ·rcases mZ g with e | e | e | e | e
   ·exact ao7 ns bs gw n dG back xs hw gD hb jH h8 k b _ c e w d f a
   ·exact ao5 ns bs gw n dG back xs hw gD hb jH h8 k b _ c e w d f a
   ·exact aoW ns bs gw n dG back xs hw gD hb jH h8 k b _ c e w d f a
   ·exact aoU ns bs gw n dG back xs hw gD hb jH h8 k b _ c e w d f a
   ·exact aoQ ns bs gw n dG back xs hw gD hb jH h8 k b _ c e w d f a
  ·have m:=j (kW g);have h:=ih _ m (by omega);rcases pQ g with e | e | e | e
   ·exact ajk ns bs gw n dG back xs hw gD hb jH h8 k b _ c e h w d f a
   ·exact aoY ns bs gw n dG back xs hw gD hb jH h8 k b _ c e h w d f a
   ·exact ao4 ns bs gw n dG back xs hw gD hb jH h8 k b _ c e h w d f a
   ·exact ao3 ns bs gw n dG back xs hw gD hb jH h8 k b _ c e h w d f a
  ·have h:=ih _ (j (nS g)) (by have:=j (nS g);omega);have i:=ih _ (l g) (by have:=l g;omega);rcases lJ g with e | e | e | e
   ·exact ajl ns bs gw n dG back xs hw gD hb jH h8 k b _ c e h i w d f a
   ·exact akK ns bs gw n dG back xs hw gD hb jH h8 k b _ c e h i w d f a
   ·exact aoZ ns bs gw n dG back xs hw gD hb jH h8 k b _ c e h i w d f a
   ·exact ao0 ns bs gw n dG back xs hw gD hb jH h8 k b _ c e h i w d f a
theorem wrap_small{m:Nat}(h:m<=1000):IntKind.i64.wrap (m:Int)=(m:Int):=by
 rw[IntKind.wrap_i64];omega
theorem Fm.partsOf{w:World}{F:Nat}{ns:List Nd}{bs:List Nat}(h:Fm w F ns bs):Parts w ns bs:=λi nd hn=>by
 obtain⟨b,e,_,hh⟩:=h.parts i nd hn;exact⟨b,e,hh⟩
theorem ahd{w:World}{B n cap:Nat}{ao:Option Addr}{zs:List Int}(own:w.ownsRow B 3 1 (.slice ao n cap) n (cZ (eH zs)))(hn:0<n)(hl:zs.length=n):∃ g,ao=some ⟨g,0,none⟩/\Wd w g n cap (eH zs):=by
 obtain⟨g,rfl,_,a,b⟩:=sG own hn;refine⟨g,rfl,a,b,λi c=>?_⟩;rw[own.cellAt i (by omega)];simp[cZ,eH,ltOf,List.getD,aB3 (show i<zs.length by omega)]
section
variable (F:Nat) (ns:List Nd) (bs:List Nat) (a1 a2:Option Addr) (l1 c1 l2 c2:Nat) (z1 z2:List Int) (w:World)
def xP(e:Ending)(w':World):Prop:=e=.returned (.bool (pW z1.length ns (eH (z1++z2))))/\Below w.heap.size w w'
theorem ajC(ad:Addr)(hf:Fm w F ns bs)(hg:Good ns)(hj:0<z2.length/\z1.length+z2.length<=20000/\dh z1=true/\dh z2=true)(h1:Ints w (some ad) l1 c1 z1)(h2:Ints w a2 l2 c2 z2) :
  Calls Tryz.prog 85 #[.pointer (some ⟨F,0,none⟩),.slice (some ad) l1 c1,.slice a2 l2 c2] w (xP ns z1 z2 w):=by
 obtain⟨q1,q2,q4,q5⟩:=hj;have n:=h1.hlen;have u:=h2.hlen;have o:=BR (Cj q4 q5);obtain⟨b2,v,rfl,_⟩:=h2.hcell (by omega);have K:=h1.src ad rfl;obtain⟨i0,L,M,N,O⟩:=info_parts Tryz.uw;go_enter Tryz.func85,Tryz.ntmps85;go_wp2_with (at_builtin;go_must (refine wpList_append_own _ rfl (.tmp 9) (.tmp 10) 22 rfl w.heap.size 3 i0 (.int .i64 0) 1 8 Tryz.underlying22 L M N O rfl (by decide) _ 0 [] rfl (aCp _ _ _ _) ad l1 c1 (z1.map (Value.int .i64)) rfl ?n1 K (uu z1) ?n2 ?n3 (aB2 _) ?_))
 case n1=>simp[n]
 case n2=>unfold maxLen;omega
 case n3=>omega
 intro v1 w1 q P _
 try simp only[aCw,List.nil_append]at q
 have r:Below w.heap.size w w1:=(aB4 _ _).grown P (aB2 _) (λk h=>by cases h);have Q:=(h2.below r).src _ rfl;have aK:=hid r;have d:=r.size;clear r P K;go_wp2_with (at_builtin;go_must (refine wpList_append_own _ rfl (.tmp 12) (.tmp 13) 22 rfl w.heap.size 3 i0 (.int .i64 0) 1 8 Tryz.underlying22 L M N O rfl (by decide) _ l1 (z1.map (Value.int .i64)) rfl q ⟨b2,v,none⟩ l2 c2 (z2.map (Value.int .i64)) rfl ?n4 Q (uu z2) ?n5 ?n6 d ?_))
 case n4=>simp[u]
 case n5=>unfold maxLen;omega
 case n6=>omega
 intro v2 a s R _;rw[<-aCM,o.1]at s;have b:Below w.heap.size w a:=aK.out.grown R d (λk h=>(q.lt k h).1);obtain⟨S,cap,hv⟩:∃ S cap,v2=.slice S (l1+l2) cap:=by
  rcases s.2 with⟨h,h0⟩ | ⟨g,cap',_,h,_⟩
  ·omega
  ·exact⟨_,cap',h⟩
 subst hv;obtain⟨gw,rfl,T⟩:=ahd s (by omega) (by simp[n,u]);have i:=hf.partsOf.below b;have z:(eH (z1++z2)).length=l1+l2:=by simp[eH,n,u]
 have U:=hid (Ee (back:=l1) (ns:=ns) (xs:=eH (z1++z2)) hg (by omega) o.2);rw[z]at U;have A:=hg.pos;have B:=hid (Xz ns bs gw (l1+l2) cap l1 (eH (z1++z2)) hg.wf z (by omega) (by omega) o.2 (ns.length - 1) (by omega));obtain⟨fo,atK,W,C⟩:=hf.c0;obtain⟨X,rfl,_,D,E⟩:=sG C (by omega);obtain⟨t,G⟩:∃ t,bs[ns.length - 1]?=some t:=⟨_,aB3 (by have:=hf.len;omega)⟩;have j:=(b.cell (p:=⟨F,0,none⟩) hf.uX).trans W;have l:a.cell? ⟨X,ns.length - 1,none⟩=some (.pointer (some ⟨t,0,none⟩)):=by
  rw[b.cell (p:=⟨X,ns.length - 1,none⟩) D,C.cellAt _ (by omega)];simp[G,mD]
 obtain⟨m,H⟩:∃ m,ns.length=m+1:=⟨ns.length - 1,by omega⟩;rw[H]at j E;rw[show ns.length - 1=m by omega]at l;have hmi:((m+1:Nat):Int) - 1=(m:Int):=by omega
 have atg:(m:Int)+1 - 1=(m:Int):=by omega
 have hwm:=wrap_small (m:=m) (by have:=hg.le;omega);have hml:m<=8:=by have:=hg.le;omega
 have HM:=hid H;clear H A;have I:=hid T;have HP:=hid i;have aM:=hid b;have J:=hid G;have kX:=b.size;clear q s R T i b G Q o C W z;go_wp2_with fail;have RW:=hid (B.out a.drew t (show Parts a.drew ns bs from HP.out) ⟨I.out.lt,I.out.cap,I.out.cell⟩ J.out)
 go_region_with (go_at_call 128;go_must (refine RW.out.mono ?_;rintro e Y ⟨g,f,rfl,Z,Uw,hR,c⟩))
 all_goals
  have y:=hR.cell 0 (by omega);have S0:=Z 0 (by omega);have V:Hid (f 0=pW l1 ns (eH (z1++z2))):=hid (by
   rw[Bool.eq_iff_iff,S0,U.out])
  have B3:Hid (Below w.heap.size w Y):=hid (aM.out.trans ((show Below a.heap.size a Y from ⟨c.os,c.tape,c.output,c.size,c.block⟩).mono kX));clear Z S0 hR c j l;generalize f 0=x at *;go_wp2_with fail;go_ret;unfold xP;rw[n,<-V.out];exact⟨rfl,B3.out⟩
theorem ajD(hf:Fm w F ns bs)(hg:Good ns)(hj:0<z2.length/\z1.length+z2.length<=20000/\dh z1=true/\dh z2=true)(h1:Ints w none l1 c1 z1)(h2:Ints w a2 l2 c2 z2) :
  Calls Tryz.prog 85 #[.pointer (some ⟨F,0,none⟩),Value.slice none l1 c1,.slice a2 l2 c2] w (xP ns z1 z2 w):=by
 obtain⟨q1,q2,W,X⟩:=hj;have l:=h1.hlen;have r:=h2.hlen;have n:=BR (Cj W X);obtain⟨Y,s,rfl,_⟩:=h2.hcell (by omega);obtain⟨Z,e2⟩:=h1.hnil rfl;subst Z;subst e2;have t:z1=[]:=List.eq_nil_of_length_eq_zero l;obtain⟨i0,J,aT,aP,aO⟩:=info_parts Tryz.uw;have u:w.ownsRow w.heap.size 3 1 (.slice none 0 0) 0 (z1.map (Value.int .i64)):=by rw[t];exact aCp _ _ _ _
 have K:=h2.src _ rfl;have HZ:=hid t;clear t;have aK:=hid (aB4 w.heap.size w);go_enter Tryz.func85,Tryz.ntmps85;go_wp2_with (first | (at_builtin;refine wpList_append_own_none rfl (.tmp 9) (.tmp 10) 22 rfl w.heap.size 3 i0 1 Tryz.underlying22 J _ 0 [] rfl (aCp _ _ _ _) rfl ?_) | (at_builtin;refine wpList_append_own _ rfl (.tmp 12) (.tmp 13) 22 rfl w.heap.size 3 i0 (.int .i64 0) 1 8 Tryz.underlying22 J aT aP aO rfl (by decide) _ 0 (z1.map (Value.int .i64)) rfl u ⟨Y,s,none⟩ l2 c2 (z2.map (Value.int .i64)) rfl ?n4 K (uu z2) ?n5 ?n6 (aB2 _) ?_))
 case n4=>simp[r]
 case n5=>unfold maxLen;omega
 case n6=>omega
 intro v2 a o L _;rw[<-aCM,n.1]at o;have b:Below w.heap.size w a:=aK.out.grown L (aB2 _) (λk h=>(u.lt k h).1);obtain⟨M,cap,hv⟩:∃ M cap,v2=.slice M (l2) cap:=by
  rcases o.2 with⟨h,h0⟩ | ⟨g,cap',_,h,_⟩
  ·omega
  ·exact⟨_,cap',h⟩
 subst hv;obtain⟨gw,rfl,N⟩:=ahd o (by omega) (by simp[l,r]);have d:=hf.partsOf.below b;have v:(eH (z1++z2)).length=l2:=by simp[eH,l,r]
 have O:=hid (Ee (back:=0) (ns:=ns) (xs:=eH (z1++z2)) hg (by omega) n.2);rw[v]at O;have z:=hg.pos;have A:=hid (Xz ns bs gw (l2) cap 0 (eH (z1++z2)) hg.wf v (by omega) (by omega) n.2 (ns.length - 1) (by omega));obtain⟨fo,atK,P,B⟩:=hf.c0;obtain⟨Q,rfl,_,C,D⟩:=sG B (by omega);obtain⟨q,E⟩:∃ q,bs[ns.length - 1]?=some q:=⟨_,aB3 (by have:=hf.len;omega)⟩;have i:=(b.cell (p:=⟨F,0,none⟩) hf.uX).trans P;have j:a.cell? ⟨Q,ns.length - 1,none⟩=some (.pointer (some ⟨q,0,none⟩)):=by
  rw[b.cell (p:=⟨Q,ns.length - 1,none⟩) C,B.cellAt _ (by omega)];simp[E,mD]
 obtain⟨m,G⟩:∃ m,ns.length=m+1:=⟨ns.length - 1,by omega⟩;rw[G]at i D;rw[show ns.length - 1=m by omega]at j;have hmi:((m+1:Nat):Int) - 1=(m:Int):=by omega
 have atg:(m:Int)+1 - 1=(m:Int):=by omega
 have hwm:=wrap_small (m:=m) (by have:=hg.le;omega);have hml:m<=8:=by have:=hg.le;omega
 have HM:=hid G;clear G z;have H:=hid N;have HP:=hid d;have aM:=hid b;have I:=hid E;have kX:=b.size;clear u o L N d b E K n B P v;go_wp2_with fail;have RW:=hid (A.out a.drew q (show Parts a.drew ns bs from HP.out) ⟨H.out.lt,H.out.cap,H.out.cell⟩ I.out)
 go_region_with (go_at_call 128;go_must (refine RW.out.mono ?_;rintro e R ⟨g,f,rfl,S,Uw,T,c⟩))
 all_goals
  have y:=T.cell 0 (by omega);have U:=S 0 (by omega);have V:Hid (f 0=pW 0 ns (eH (z1++z2))):=hid (by
   rw[Bool.eq_iff_iff,U,O.out])
  have B3:Hid (Below w.heap.size w R):=hid (aM.out.trans ((show Below a.heap.size a R from ⟨c.os,c.tape,c.output,c.size,c.block⟩).mono kX));clear S U T c i j;generalize f 0=x at *;go_wp2_with fail;go_ret;unfold xP;rw[l,<-V.out];exact⟨rfl,B3.out⟩
theorem XD(hf:Fm w F ns bs)(hg:Good ns)(hj:0<z2.length/\z1.length+z2.length<=20000/\dh z1=true/\dh z2=true)(h1:Ints w a1 l1 c1 z1)(h2:Ints w a2 l2 c2 z2) :
  Calls Tryz.prog 85 #[.pointer (some ⟨F,0,none⟩),.slice a1 l1 c1,.slice a2 l2 c2] w (xP ns z1 z2 w):=by
 cases a1 with
 | none=>exact ajD F ns bs a2 l1 c1 l2 c2 z1 z2 w hf hg hj h1 h2
 | some ad=>exact ajC F ns bs a2 l1 c1 l2 c2 z1 z2 w ad hf hg hj h1 h2
theorem akW(hf:Fm w F ns bs)(hg:Good ns)(hj:dI z1 z2=0)(h1:Ints w a1 l1 c1 z1)(h2:Ints w a2 l2 c2 z2) :
  Calls Tryz.prog 85 #[.pointer (some ⟨F,0,none⟩),.slice a1 l1 c1,.slice a2 l2 c2] w (xP ns z1 z2 w):=by
 obtain⟨a,d,e,b,c⟩:=Gh hj;exact XD F ns bs a1 a2 l1 c1 l2 c2 z1 z2 w hf hg ⟨a,by omega,b,c⟩ h1 h2
end
section
variable (s:ByteArray) (a1 a2:Option Addr) (l1 c1 l2 c2:Nat) (z1 z2:List Int) (w:World)
theorem abv(hm:s.size<=maxLen)(h:(af s).1≠0):Calls Tryz.prog 52 #[.string s,.slice a1 l1 c1,.slice a2 l2 c2] w λe w'=>e=.returned (.tuple #[.bool (jb s z1 z2),.int .i64 (iN s z1 z2)])/\Below w.heap.size w w':=by
 have E:Hid (iN s z1 z2=(af s).1):=hid (by unfold iN;rw[aC1 h]);have V:Hid (jb s z1 z2=false):=hid (by unfold jb;rw[E.out,aC1 h]);have C:=fe s w hm;unfold dF at C;generalize af s=p at *;have k:((p.1:Int) !=0)=true:=by rw[bne_iff_ne];omega
 go_enter Tryz.func52,Tryz.ntmps52;go_wp2_with fail;refine C.mono ?_;rintro e c ⟨a,⟨_,rfl⟩ | ⟨b,_⟩⟩
 ·go_wp2_with fail
  go_ret2
  exact⟨by rw[E.out,V.out];rfl,a⟩
 ·exact absurd b h
theorem Zp(hm:s.size<=maxLen)(h:(af s).1=0)(h1:Ints w a1 l1 c1 z1)(h2:Ints w a2 l2 c2 z2):Calls Tryz.prog 52 #[.string s,.slice a1 l1 c1,.slice a2 l2 c2] w λe w'=>e=.returned (.tuple #[.bool (jb s z1 z2),.int .i64 (iN s z1 z2)])/\Below w.heap.size w w':=by
 have E:Hid (iN s z1 z2=dI z1 z2):=hid (by unfold iN;rw[aC2 h]);have V:Hid (jb s z1 z2=if dI z1 z2=0 then pW z1.length (af s).2 (eH (z1++z2)) else false):=hid (by unfold jb;rw[E.out]);have C:=fe s w hm;unfold dF at C;have G:=hid (iM h);have m1:=h1.hmax;have A:=h2.hmax;have m3:=h1.hcap;have m4:=h2.hcap;have r:=h1.hlen;have t:=h2.hlen;have j:=λW (b:Below w.heap.size w W)=>ul a1 l1 c1 z1 W (h1.below b);have k:=λW (b:Below w.heap.size w W)=>ul a2 l2 c2 z2 W (h2.below b);have u:=λW (b:Below w.heap.size w W) c (d:Fm W w.heap.size (af s).2 c) (m:dI z1 z2=0)=>akW w.heap.size (af s).2 c a1 a2 l1 c1 l2 c2 z1 z2 W d (iM h) m (h1.below b) (h2.below b);unfold xP at u;generalize af s=p at *;obtain⟨B,D⟩:=p;dsimp only at *;subst h;by_cases n:l2=0
 ·have J:Hid (dI z1 z2=4):=hid (by simp[dI,t,n]);subst n;go_enter Tryz.func52,Tryz.ntmps52;go_wp2_with fail;refine C.mono ?_;rintro e v ⟨a,⟨f,_⟩ | ⟨_,c,rfl,d⟩⟩
  ·exact absurd rfl f
  go_wp2_with fail;refine(j _ a).mono ?_;rintro e g ⟨rfl,rfl⟩;go_wp2_with fail;refine(k _ a).mono ?_;rintro e g ⟨rfl,rfl⟩;go_wp2_with fail
  go_ret2
  exact⟨by rw[E.out,V.out,J.out];rfl,a⟩
 have F:((l2:Int)==0)=false:=aCe.2 (by omega);by_cases l:40<l1\/40<l2
 ·have J:Hid (dI z1 z2=5):=hid (by unfold dI;rw[r,t,aC1 n,aC2 l]);by_cases i:40<l1
  rotate_left
  focus
   have H:40<l2:=by omega
  all_goals
   clear l;go_enter Tryz.func52,Tryz.ntmps52;go_wp2_with fail;refine C.mono ?_;rintro e v ⟨a,⟨f,_⟩ | ⟨_,c,rfl,d⟩⟩
   ·exact absurd rfl f
   go_wp2_with fail;refine(j _ a).mono ?_;rintro e g ⟨rfl,rfl⟩;go_wp2_with fail;refine(k _ a).mono ?_;rintro e g ⟨rfl,rfl⟩;go_wp2_with fail
   go_ret2
   exact⟨by rw[E.out,V.out,J.out];rfl,a⟩
 have I:¬ 40<l1:=by omega
 have K:¬ 40<l2:=by omega
 by_cases i:dh z1=true/\dh z2=true
 ·have m:dI z1 z2=0:=by unfold dI;rw[r,t,aC1 n,aC1 l,aC2 i]
  have o:=λW b c d=>u W b c d m;have J:=hid m;have q:=hid i.1;have y:=hid i.2;clear u m l i;go_enter Tryz.func52,Tryz.ntmps52;go_wp2_with fail;refine C.mono ?_;rintro e v ⟨a,⟨f,_⟩ | ⟨_,c,rfl,d⟩⟩
  ·exact absurd rfl f
  go_wp2_with fail;refine(j _ a).mono ?_;rintro e g ⟨rfl,rfl⟩;rw[q.out];go_wp2_with fail;refine(k _ a).mono ?_;rintro e g ⟨rfl,rfl⟩;rw[y.out];go_wp2_with fail;refine(o _ a c d).mono ?_;rintro e L ⟨rfl,z⟩;clear o j k C;go_wp2_with fail
  go_ret2
  refine⟨by rw[E.out,V.out,J.out,aC2 rfl,r];rfl,a.trans (z.mono a.size)⟩
 ·have J:Hid (dI z1 z2=6):=hid (by unfold dI;rw[r,t,aC1 n,aC1 l,aC1 i]);clear u l;cases e1:dh z1 with
  | false=>
   have q:=hid e1;clear e1 i;go_enter Tryz.func52,Tryz.ntmps52;go_wp2_with fail;refine C.mono ?_;rintro e v ⟨a,⟨f,_⟩ | ⟨_,c,rfl,d⟩⟩
   ·exact absurd rfl f
   go_wp2_with fail;refine(j _ a).mono ?_;rintro e g ⟨rfl,rfl⟩;rw[q.out];go_wp2_with fail;refine(k _ a).mono ?_;rintro e g ⟨rfl,rfl⟩;go_wp2_with fail
   go_ret2
   exact⟨by rw[E.out,V.out,J.out];rfl,a⟩
  | true=>
   have x:dh z2=false:=by
    cases x:dh z2 with
    | false=>rfl
    | true=>exact absurd ⟨e1,x⟩ i
   have q:=hid e1;have y:=hid x;clear e1 x i;go_enter Tryz.func52,Tryz.ntmps52;go_wp2_with fail;refine C.mono ?_;rintro e v ⟨a,⟨f,_⟩ | ⟨_,c,rfl,d⟩⟩
   ·exact absurd rfl f
   go_wp2_with fail;refine(j _ a).mono ?_;rintro e g ⟨rfl,rfl⟩;rw[q.out];go_wp2_with fail;refine(k _ a).mono ?_;rintro e g ⟨rfl,rfl⟩;rw[y.out];go_wp2_with fail
   go_ret2
   exact⟨by rw[E.out,V.out,J.out];rfl,a⟩
theorem Zq(hm:s.size<=maxLen)(h1:Ints w a1 l1 c1 z1)(h2:Ints w a2 l2 c2 z2):Calls Tryz.prog 52 #[.string s,.slice a1 l1 c1,.slice a2 l2 c2] w λe w'=>e=.returned (.tuple #[.bool (jb s z1 z2),.int .i64 (iN s z1 z2)])/\Below w.heap.size w w':=by
 by_cases h:(af s).1=0
 ·exact Zp s a1 a2 l1 c1 l2 c2 z1 z2 w hm h h1 h2
 ·exact abv s a1 a2 l1 c1 l2 c2 z1 z2 w hm h
end
end Go.Proofs.YtjagijohfkffiabGreat
namespace Go.Proofs.YtjagijohfkffiabGreat.holdings
open Go.ChangeShapes Go.WideShapes Go.ChangeAt Go.RowKit
open Go.ChangeMaps (open_string shut_string)
set_option linter.unusedVariables false
theorem TE(s:ByteArray)(a1 a2:Option Addr)(l1 c1 l2 c2:Nat)(z1 z2:List Int)(w:World)(hm:s.size<=maxLen)(h1:Ints w a1 l1 c1 z1)(h2:Ints w a2 l2 c2 z2) :
  Calls Tryz.prog 24 #[.string s,.slice a1 l1 c1,.slice a2 l2 c2] w λe w'=>e=.returned (.bool true)/\Below w.heap.size w w':=by
 have c:=acy s a1 a2 l1 c1 l2 c2 z1 z2 w hm h1 h2;have d:=λW (b:Below w.heap.size w W)=>Zq s a1 a2 l1 c1 l2 c2 z1 z2 W hm (h1.below b) (h2.below b);generalize jb s z1 z2=v at *;generalize iN s z1 z2=er at *;go_enter Tryz.func24,Tryz.ntmps24;go_wp2_with fail;refine c.mono ?_;rintro e g ⟨rfl,a⟩;go_wp2_with fail;refine(d _ a).mono ?_;rintro e h ⟨rfl,f⟩;have B:=hid (a.trans (f.mono a.size));clear c d a f;go_wp2;go_ret;exact⟨rfl,B.out⟩
end Go.Proofs.YtjagijohfkffiabGreat.holdings
namespace Go.Proofs.YtjagijohfkffiabGreat
def Step(ns:List Nd)(x:Nat)(S T:Nat->Bool):Prop:=∀ (k:Nat) (nd:Nd),ns[k]?=some nd->S k=bg nd.op x (S nd.l) (S nd.r) (T k) (T nd.l)
def iq(nd:Nd)(k:Nat)(S:Nat->Bool):Bool:=
 if nd.op=70 then S nd.l||!S k else if nd.op=85 then S nd.r||!S k else if nd.op=71 then S k||!S nd.l else if nd.op=82 then S k||!S nd.r else true
structure yf (ns:List Nd) (x:Nat->Nat) (S:Nat->Nat->Bool):Prop where
 step:∀ t,Step ns (x t) (S t) (S (t+1))
 kept:∀ (k:Nat) (nd:Nd),ns[k]?=some nd->∀ t,∃ t',t<=t'/\iq nd k (S t')=true
theorem Ar{A B x:Nat->Bool}(h:∀ t,x t=(B t||(A t&&x (t+1))))(hk:∀ t,∃ t',t<=t'/\(B t'=true\/x t'=false))(t:Nat):x t=true↔∃ s,B (t+s)=true/\∀ m,m<s->A (t+m)=true:=by
 constructor
 ·intro b;obtain⟨t',j,f⟩:=hk t;obtain⟨d,rfl⟩:∃ d,t'=t+d:=⟨t' - t,by omega⟩;clear j
  induction d generalizing t with
  | zero=>
   refine⟨0,?_,λm e=>by omega⟩;rcases f with a | a
   ·exact a
   ·rw[Nat.add_zero]at a;rw[a]at b;simp at b
  | succ d ih=>
   by_cases g:B t=true
   ·exact⟨0,g,λm e=>by omega⟩
   ·rw[h t]at b;simp only[g,aCN,aCH,Bool.false_eq_true,false_or]at b;obtain⟨s,a,c⟩:=ih (t+1) b.2 (by rw[show t+1+d=t+(d+1) by omega];exact f);refine⟨s+1,by rw[show t+(s+1)=t+1+s by omega];exact a,λm e=>?_⟩;cases m with
    | zero=>exact b.1
    | succ m=>rw[show t+(m+1)=t+1+m by omega];exact c m (by omega)
 ·rintro ⟨s,a,c⟩
  induction s generalizing t with
  | zero=>rw[h t];simp at a;simp[a]
  | succ s ih=>
   have i:=c 0 (by omega);rw[Nat.add_zero]at i;rw[h t,i,ih (t+1) (by rw[show t+1+s=t+(s+1) by omega];exact a) (λm e=>by rw[show t+1+m=t+(m+1) by omega];exact c (m+1) (by omega))];simp
theorem Ot(lt:Nat->Nat)(nd:Nd)(rs:List (Nat->Prop))(t:Nat):mH (λi=>i+1) lt nd rs t ↔
  if nd.op=49 then True else if nd.op=112 then (lt t).testBit 0=true else if nd.op=113 then (lt t).testBit 1=true else if nd.op=114 then (lt t).testBit 2=true
  else if nd.op=33 then ¬ rs.getD nd.l (λ_=>False) t else if nd.op=88 then rs.getD nd.l (λ_=>False) (t+1)
  else if nd.op=70 then ∃ s,rs.getD nd.l (λ_=>False) (t+s) else if nd.op=71 then ∀ s,rs.getD nd.l (λ_=>False) (t+s)
  else if nd.op=38 then rs.getD nd.l (λ_=>False) t/\rs.getD nd.r (λ_=>False) t else if nd.op=124 then rs.getD nd.l (λ_=>False) t\/rs.getD nd.r (λ_=>False) t
  else if nd.op=85 then ∃ s,rs.getD nd.r (λ_=>False) (t+s)/\∀ m,m<s->rs.getD nd.l (λ_=>False) (t+m)
  else if nd.op=82 then ∀ s,rs.getD nd.r (λ_=>False) (t+s)\/∃ m,m<s/\rs.getD nd.l (λ_=>False) (t+m) else False:=by
 unfold mH;have e:∀ s i,it (λi=>i+1) s i=i+s:=by
  intro s
  induction s with
  | zero=>intro i;rfl
  | succ s ih=>intro i;simp only[it];rw[ih];omega
 simp only[e]
theorem Et{ns:List Nd}(hw:iH ns){x:Nat->Nat}{S:Nat->Nat->Bool}(h:yf ns x S)(k:Nat)(hk:k<ns.length)(t:Nat):S t k=true↔d9 (λi=>i+1) x ns k t:=by
 induction k using Nat.strongRecOn generalizing t with
 | _ k ih=>
  have g:ns[k]?=some ns[k]:=aB3 hk;obtain⟨c,q,u⟩:=dZ hw g;have st:=λt=>h.step t k _ g;have kp:=h.kept k _ g;rw[jy g hw,Ot];generalize ns[k]=nd at *;have L:bG nd.op=false->∀ t,(S t nd.l=true↔(rows (λi=>i+1) x ns).getD nd.l (λ_=>False) t):=λj t=>ih nd.l (q j) (by have:=q j;omega) t;have R:bU nd.op=true->∀ t,(S t nd.r=true↔(rows (λi=>i+1) x ns).getD nd.r (λ_=>False) t):=λn t=>ih nd.r (u n) (by have:=u n;omega) t;rcases c with c | c | c
  ·rcases mZ c with e | e | e | e | e <;> (simp only[e]at st ⊢;rw[st t];simp[bg])
  ·have L:=L (kW c);rcases pQ c with e | e | e | e
   ·simp only[e]at st ⊢;rw[st t];simp[bg,<-L]
   ·simp only[e]at st ⊢;rw[st t];simp[bg,<-L]
   ·simp only[e,Nat.reduceEqDiff,if_false,if_true]at st ⊢;have a:=Ar (A:=λ_=>true) (B:=λt=>S t nd.l) (x:=λt=>S t k) (λt=>by rw[st t];simp[bg]) (λt=>by
     obtain⟨d,f,b⟩:=kp t;refine⟨d,f,?_⟩;simp only[iq,e,if_true]at b;simpa using b) t
    rw[a];simp[L]
   ·simp only[e,Nat.reduceEqDiff,if_false,if_true]at st ⊢;have a:=Ar (A:=λ_=>true) (B:=λt=>!S t nd.l) (x:=λt=>!S t k) (λt=>by rw[st t];simp[bg]) (λt=>by
     obtain⟨d,f,b⟩:=kp t;refine⟨d,f,?_⟩;simp only[iq,e,Nat.reduceEqDiff,if_false,if_true]at b;simpa [or_comm] using b) t
    have o:S t k=true↔¬ ∃ s,(!S (t+s) nd.l)=true/\∀ m,m<s->true=true:=by rw[<-a];simp
    rw[o];simp[<-L]
  ·have L:=L (nS c);have R:=R c;rcases lJ c with e | e | e | e
   ·simp only[e]at st ⊢;rw[st t];simp[bg,<-L,<-R]
   ·simp only[e]at st ⊢;rw[st t];simp[bg,<-L,<-R]
   ·simp only[e,Nat.reduceEqDiff,if_false,if_true]at st ⊢;have a:=Ar (A:=λt=>S t nd.l) (B:=λt=>S t nd.r) (x:=λt=>S t k) (λt=>by rw[st t];simp[bg]) (λt=>by
     obtain⟨d,f,b⟩:=kp t;refine⟨d,f,?_⟩;simp only[iq,e,Nat.reduceEqDiff,if_false,if_true]at b;simpa using b) t
    rw[a];simp[L,R]
   ·simp only[e,Nat.reduceEqDiff,if_false,if_true]at st ⊢;have a:=Ar (A:=λt=>!S t nd.l) (B:=λt=>!S t nd.r) (x:=λt=>!S t k) (λt=>by rw[st t];simp[bg]) (λt=>by
     obtain⟨d,f,b⟩:=kp t;refine⟨d,f,?_⟩;simp only[iq,e,Nat.reduceEqDiff,if_false,if_true]at b;simpa [or_comm] using b) t
    have o:S t k=true↔¬ ∃ s,(!S (t+s) nd.r)=true/\∀ m,m<s->(!S (t+m) nd.l)=true:=by rw[<-a];simp
    rw[o];constructor
    ·intro h s;rw[<-R];cases n:S (t+s) nd.r with
     | true=>exact aCa rfl
     | false=>
      refine aCb (aCx λg=>h ⟨s,by simp[n],λm p=>?_⟩);cases j:S (t+m) nd.l with
      | false=>rfl
      | true=>exact absurd ⟨m,p,(L _).1 j⟩ g
    ·rintro h ⟨s,v,w⟩;rcases h s with h5 | ⟨m,p,h5⟩
     ·rw[(R _).2 h5]at v;simp at v
     ·have:=w m p;rw[(L _).2 h5]at this;simp at this
theorem pq{ns:List Nd}(hw:iH ns)(x:Nat->Nat):∃ S:Nat->Nat->Bool,(∀ t k,S t k=true↔d9 (λi=>i+1) x ns k t)/\yf ns x S:=by
 refine⟨λt k=>@decide _ (Classical.propDecidable (d9 (λi=>i+1) x ns k t)),λt k=>by simp,?_,?_⟩
 ·intro t k p f;obtain⟨b,u,v⟩:=dZ hw f;have c:=jy (nx:=λi=>i+1) (lt:=x) f hw t;have g:=jy (nx:=λi=>i+1) (lt:=x) f hw (t+1);rw[Ot]at c g;rw[Bool.eq_iff_iff];simp only[aCZ];rw[c];have w:∀ (P Q:Nat->Prop),(∃ s,Q (t+s)/\∀ m,m<s->P (t+m))↔Q t\/(P t/\∃ s,Q (t+1+s)/\∀ m,m<s->P (t+1+m)):=by
   intro P Q;constructor
   ·rintro ⟨s,a,n⟩;cases s with
    | zero=>exact aCa a
    | succ s=>exact aCb ⟨n 0 (by omega),s,by rw[show t+1+s=t+(s+1) by omega];exact a,λm j=>by rw[show t+1+m=t+(m+1) by omega];exact n (m+1) (by omega)⟩
   ·rintro (a | ⟨a,s,n,y⟩)
    ·exact⟨0,a,λm j=>by omega⟩
    ·refine⟨s+1,by rw[show t+(s+1)=t+1+s by omega];exact n,λm j=>?_⟩;cases m with
     | zero=>exact a
     | succ m=>rw[show t+(m+1)=t+1+m by omega];exact y m (by omega)
  have z:∀ (P:Nat->Prop),(∀ s,P (t+s))↔P t/\∀ s,P (t+1+s):=by
   intro P;constructor
   ·intro h;exact⟨h 0,λs=>by rw[show t+1+s=t+(s+1) by omega];exact h _⟩
   ·rintro ⟨h,q⟩ s;cases s with
    | zero=>exact h
    | succ s=>rw[show t+(s+1)=t+1+s by omega];exact q s
  have A:∀ (P:Nat->Prop),(∃ s,P (t+s))↔P t\/∃ s,P (t+1+s):=by
   intro P;constructor
   ·rintro ⟨s,h⟩;cases s with
    | zero=>exact aCa h
    | succ s=>exact aCb ⟨s,by rw[show t+1+s=t+(s+1) by omega];exact h⟩
   ·rintro (h | ⟨s,h⟩)
    ·exact⟨0,h⟩
    ·exact⟨s+1,by rw[show t+(s+1)=t+1+s by omega];exact h⟩
  have B:∀ (P Q:Nat->Prop),(∀ s,Q (t+s)\/∃ m,m<s/\P (t+m))↔Q t/\(P t\/∀ s,Q (t+1+s)\/∃ m,m<s/\P (t+1+m)):=by
   intro P Q;constructor
   ·intro h;refine⟨(h 0).resolve_right (λ⟨m,j,_⟩=>by omega),?_⟩;by_cases o:P t
    ·exact aCa o
    ·refine aCb λs=>?_;rcases h (s+1) with a | ⟨m,j,a⟩
     ·exact aCa (by rw[show t+1+s=t+(s+1) by omega];exact a)
     ·cases m with
      | zero=>exact absurd a o
      | succ m=>exact aCb ⟨m,by omega,by rw[show t+1+m=t+(m+1) by omega];exact a⟩
   ·rintro ⟨C,h⟩ s;cases s with
    | zero=>exact aCa C
    | succ s=>
     rcases h with o | h
     ·exact aCb ⟨0,by omega,o⟩
     ·rcases h s with a | ⟨m,j,a⟩
      ·exact aCa (by rw[show t+(s+1)=t+1+s by omega];exact a)
      ·exact aCb ⟨m+1,by omega,by rw[show t+(m+1)=t+1+m by omega];exact a⟩
  rcases b with b | b | b
  ·rcases mZ b with e | e | e | e | e <;> simp[e,bg]
  ·rcases pQ b with e | e | e | e
   ·simp only[e,bg,Nat.reduceEqDiff,if_false,if_true,Bool.not_eq_true',decide_eq_false_iff_not];rfl
   ·simp only[e,bg,Nat.reduceEqDiff,if_false,if_true,aCZ];rfl
   ·simp only[e,Nat.reduceEqDiff,if_false,if_true]at g ⊢;rw[A];simp only[bg,Nat.reduceEqDiff,if_false,if_true,aCN,aCZ,g];rfl
   ·simp only[e,Nat.reduceEqDiff,if_false,if_true]at g ⊢;rw[z];simp only[bg,Nat.reduceEqDiff,if_false,if_true,aCH,aCZ,g];rfl
  ·rcases lJ b with e | e | e | e
   ·simp only[e,bg,Nat.reduceEqDiff,if_false,if_true,aCH,aCZ];rfl
   ·simp only[e,bg,Nat.reduceEqDiff,if_false,if_true,aCN,aCZ];rfl
   focus
    simp only[e,Nat.reduceEqDiff,if_false,if_true]at g ⊢;rw[w]
   rotate_left
   focus
    simp only[e,Nat.reduceEqDiff,if_false,if_true]at g ⊢;rw[B]
   all_goals
    simp only[bg,Nat.reduceEqDiff,if_false,if_true,aCN,aCH,aCZ,g];rfl
 ·intro k p f t;obtain⟨b,u,v⟩:=dZ hw f;have c:=jy (nx:=λi=>i+1) (lt:=x) f hw t;rw[Ot]at c;unfold iq;rcases b with b | b | b
  ·rcases mZ b with e | e | e | e | e <;> exact⟨t,aB2 _,by simp[e]⟩
  ·rcases pQ b with e | e | e | e
   ·exact⟨t,aB2 _,by simp[e]⟩
   ·exact⟨t,aB2 _,by simp[e]⟩
   ·simp only[e,Nat.reduceEqDiff,if_false,if_true]at c ⊢;by_cases d:d9 (λi=>i+1) x ns k t
    ·obtain⟨s,a⟩:=c.1 d;refine⟨t+s,by omega,?_⟩;simp only[aCN,aCZ];exact aCa a
    ·exact⟨t,aB2 _,by simp[d]⟩
   ·simp only[e,Nat.reduceEqDiff,if_false,if_true]at c ⊢;by_cases d:d9 (λi=>i+1) x ns k t
    ·exact⟨t,aB2 _,by simp[d]⟩
    ·have:∃ s,¬ d9 (λi=>i+1) x ns p.l (t+s):=aCx λf=>d (c.2 λs=>aCx λh=>f ⟨s,h⟩);obtain⟨s,a⟩:=this;exact⟨t+s,by omega,by simp[a]⟩
  ·rcases lJ b with e | e | e | e
   ·exact⟨t,aB2 _,by simp[e]⟩
   ·exact⟨t,aB2 _,by simp[e]⟩
   ·simp only[e,Nat.reduceEqDiff,if_false,if_true]at c ⊢;by_cases d:d9 (λi=>i+1) x ns k t
    ·obtain⟨s,a,_⟩:=c.1 d;refine⟨t+s,by omega,?_⟩;simp only[aCN,aCZ];exact aCa a
    ·exact⟨t,aB2 _,by simp[d]⟩
   ·simp only[e,Nat.reduceEqDiff,if_false,if_true]at c ⊢;by_cases d:d9 (λi=>i+1) x ns k t
    ·exact⟨t,aB2 _,by simp[d]⟩
    ·have:∃ s,¬ d9 (λi=>i+1) x ns p.r (t+s):=aCx λf=>d (c.2 λs=>aCx λh=>f ⟨s,λq=>h (aCa q)⟩);obtain⟨s,a⟩:=this;exact⟨t+s,by omega,by simp[a]⟩
def rD(u:List Nat)(x:Nat->Nat):Prop:=∀ i,i<u.length->x i=u.getD i 0
def fu(x:Nat->Nat):Prop:=∀ t,x t<8
def dU(n:Nat)(S T:Nat->Bool):Prop:=∀ k,k<n->S k=T k
theorem dU.refl(n:Nat)(S:Nat->Bool):dU n S S:=λ_ _=>rfl
theorem dU.symm{n:Nat}{S T:Nat->Bool}(h:dU n S T):dU n T S:=λk hk=>(h k hk).symm
theorem dU.trans{n:Nat}{S T U:Nat->Bool}(h:dU n S T)(k:dU n T U):dU n S U:=λi hi=>(h i hi).trans (k i hi)
theorem nR{ns:List Nd}(hw:iH ns){k:Nat}{nd:Nd}(hn:ns[k]?=some nd):k<ns.length/\(nd.l<ns.length)/\(nd.r<ns.length):=by
 have a:=(aB9.1 hn).1;rcases hw k nd hn with⟨_,h1,h2⟩ | ⟨_,h1,h2⟩ | ⟨_,h1,h2⟩ <;> omega
theorem Dv{ns:List Nd}(hw:iH ns){x:Nat}{S S' T T':Nat->Bool}(hS:dU ns.length S S')(hT:dU ns.length T T')(h:Step ns x S T):Step ns x S' T':=by
 intro k a b;obtain⟨c,d,e⟩:=nR hw b;rw[<-hS k c,<-hS a.l d,<-hS a.r e,<-hT k c,<-hT a.l d];exact h k a b
def chain(ns:List Nd):List Nat->(Nat->Bool)->Prop
 | [],S=>∃ x S',fu x/\yf ns x S'/\dU ns.length (S' 0) S
 | a::u,S=>a<8/\∃ T,Step ns a S T/\chain ns u T
def I8{α:Type}(a:α)(x:Nat->α):Nat->α
 | 0=>a
 | t+1=>x t
theorem adb{ns:List Nd}(hw:iH ns){x:Nat->Nat}{S':Nat->Nat->Bool}(h:yf ns x S'){a:Nat}{S T:Nat->Bool}(hs:Step ns a S T)(hT:dU ns.length (S' 0) T):yf ns (I8 a x) (I8 S S'):=by
 refine⟨λt=>?_,λk b c t=>?_⟩
 ·cases t with
  | zero=>exact Dv hw (dU.refl _ _) hT.symm hs
  | succ t=>exact h.step t
 ·obtain⟨d,f,e⟩:=h.kept k b c t;exact⟨d+1,by omega,e⟩
theorem ada{ns:List Nd}{x:Nat->Nat}{S':Nat->Nat->Bool}(h:yf ns x S'):yf ns (λt=>x (t+1)) (λt=>S' (t+1)):=by
 refine⟨λt=>h.step (t+1),λk b c t=>?_⟩;obtain⟨a,e,d⟩:=h.kept k b c (t+1);refine⟨a - 1,by omega,?_⟩;show iq b k (S' (a - 1+1))=true;rw[show a - 1+1=a by omega];exact d
theorem uF{ns:List Nd}(hw:iH ns):∀ (u:List Nat) (S:Nat->Bool),(chain ns u S↔∃ x S',fu x/\rD u x/\yf ns x S'/\dU ns.length (S' 0) S)
 | [],S=>by
  constructor
  ·rintro ⟨x,S',h1,h2,h3⟩;exact⟨x,S',h1,λi hi=>by simp at hi,h2,h3⟩
  ·rintro ⟨x,S',h1,_,h2,h3⟩;exact⟨x,S',h1,h2,h3⟩
 | a::u,S=>by
  constructor
  ·rintro ⟨ha,T,hs,hc⟩;obtain⟨x,S',h1,h2,h3,h4⟩:=(uF hw u T).1 hc;refine⟨I8 a x,I8 S S',λt=>?_,λi hi=>?_,adb hw h3 hs h4,dU.refl _ _⟩
   ·cases t with
    | zero=>exact ha
    | succ t=>exact h1 t
   ·cases i with
    | zero=>simp[I8]
    | succ i=>
     have:=h2 i (by simpa using hi);simpa [I8] using this
  ·rintro ⟨x,S',h1,h2,h3,h4⟩;have hx:=h2 0 (by simp);simp at hx;refine⟨by rw[<-hx];exact h1 0,S' 1,?_,?_⟩
   ·have:=h3.step 0;rw[hx]at this;exact Dv hw h4 (dU.refl _ _) this
   ·refine(uF hw u (S' 1)).2 ⟨λt=>x (t+1),λt=>S' (t+1),λt=>h1 (t+1),λi hi=>?_,ada h3,dU.refl _ _⟩;have:=h2 (i+1) (by simpa using hi);simpa using this
theorem MH{ns:List Nd}(hw:iH ns){u:List Nat}{S:Nat->Bool}(h:chain ns u S):chain ns [] S:=by
 obtain⟨x,a,b,_,c,d⟩:=(uF hw u S).1 h;exact⟨x,a,b,c,d⟩
theorem Cg{ns:List Nd}(hw:iH ns){u:List Nat}{S T:Nat->Bool}(e:dU ns.length S T)(h:chain ns u S):chain ns u T:=by
 rw[uF hw]at h ⊢;obtain⟨x,a,b,c,d,f⟩:=h;exact⟨x,a,b,c,d,f.trans e⟩
def May(ns:List Nd)(u:List Nat)(b:Bool):Prop:=∃ x,fu x/\rD u x/\(d9 (λi=>i+1) x ns (ns.length - 1) 0↔b=true)
theorem XF{ns:List Nd}(hg:Good ns)(u:List Nat)(b:Bool):May ns u b↔∃ S:Nat->Bool,S (ns.length - 1)=b/\chain ns u S:=by
 have j:=hg.pos;constructor
 ·rintro ⟨x,a,c,d⟩;obtain⟨S,e,f⟩:=pq hg.wf x;refine⟨S 0,?_,(uF hg.wf u (S 0)).2 ⟨x,S,a,c,f,dU.refl _ _⟩⟩;rw[Bool.eq_iff_iff,e,d]
 ·rintro ⟨S,g,h⟩;obtain⟨x,k,a,c,d,i⟩:=(uF hg.wf u S).1 h;refine⟨x,a,c,?_⟩;rw[<-Et hg.wf d _ (by omega),i _ (by omega),g]
def jC(ns:List Nd)(u:List Nat)(v:Nat):Prop:=(v=2/\¬ May ns u true)\/(v=1/\May ns u true/\¬ May ns u false)\/(v=0/\May ns u true/\May ns u false)
theorem lZ{ns:List Nd}{u:List Nat}{v v':Nat}(h:jC ns u v)(h':jC ns u v'):v=v':=by
 rcases h with⟨rfl,a⟩ | ⟨rfl,a,b⟩ | ⟨rfl,a,b⟩ <;> rcases h' with⟨rfl,c⟩ | ⟨rfl,c,d⟩ | ⟨rfl,c,d⟩ <;> first | rfl | exact absurd ‹May ns u true› ‹¬ May ns u true› | exact absurd ‹May ns u false› ‹¬ May ns u false›
theorem Jk{ns:List Nd}{u:List Nat}(hu:∀ x∈u,x<8){v:Nat}(h:jC ns u v) :
  (v=1↔∀ x,fu x->rD u x->d9 (λi=>i+1) x ns (ns.length - 1) 0)/\(v=2↔∀ x,fu x->rD u x->¬ d9 (λi=>i+1) x ns (ns.length - 1) 0):=by
 have k:∃ x,fu x/\rD u x:=⟨λi=>u.getD i 0,λt=>by
  show u.getD t 0<8;rw[List.getD];cases e:u[t]? with
  | none=>simp
  | some y=>exact hu y (aCJ e),λi _=>rfl⟩
 have g:May ns u true↔∃ x,fu x/\rD u x/\d9 (λi=>i+1) x ns (ns.length - 1) 0:=by simp[May]
 have j:May ns u false↔∃ x,fu x/\rD u x/\¬ d9 (λi=>i+1) x ns (ns.length - 1) 0:=by simp[May]
 have l:¬ May ns u true↔∀ x,fu x->rD u x->¬ d9 (λi=>i+1) x ns (ns.length - 1) 0:=by
  rw[g];exact⟨λh x c d f=>h ⟨x,c,d,f⟩,λh ⟨x,c,d,f⟩=>h x c d f⟩
 have m:¬ May ns u false↔∀ x,fu x->rD u x->d9 (λi=>i+1) x ns (ns.length - 1) 0:=by
  rw[j];exact⟨λh x c d=>aCx λf=>h ⟨x,c,d,f⟩,λh ⟨x,c,d,f⟩=>f (h x c d)⟩
 have n:May ns u true\/May ns u false:=by
  obtain⟨x,c,d⟩:=k;by_cases f:d9 (λi=>i+1) x ns (ns.length - 1) 0
  ·exact aCa (g.2 ⟨x,c,d,f⟩)
  ·exact aCb (j.2 ⟨x,c,d,f⟩)
 rw[<-l,<-m];rcases h with⟨rfl,a⟩ | ⟨rfl,a,b⟩ | ⟨rfl,a,b⟩
 ·simp[a,n.resolve_left a]
 ·simp[a,b]
 ·simp[a,b]
def sF(E:Nat->Nat->Prop):Nat->Nat->Nat->Prop
 | 0,a,b=>a=b
 | L+1,a,b=>∃ c,E a c/\sF E L c b
def reach(E:Nat->Nat->Prop)(a b:Nat):Prop:=∃ L,sF E (L+1) a b
theorem DL{E:Nat->Nat->Prop}:∀ (L M a b c:Nat),sF E L a b->sF E M b c->sF E (L+M) a c
 | 0,M,a,b,c,h,k=>by cases h;rw[aCw];exact k
 | L+1,M,a,b,c,⟨d,h1,h2⟩,k=>by
  rw[show L+1+M=L+M+1 by omega];exact⟨d,h1,DL L M d b c h2 k⟩
theorem eu{E:Nat->Nat->Prop}{a b c:Nat}(h:reach E a b)(k:reach E b c):reach E a c:=by
 obtain⟨L,h⟩:=h;obtain⟨M,k⟩:=k;exact⟨L+M+1,by rw[show L+M+1+1=(L+1)+(M+1) by omega];exact DL _ _ _ _ _ h k⟩
theorem lU{E:Nat->Nat->Prop}{a b:Nat}(h:E a b):reach E a b:=⟨0,b,h,rfl⟩
theorem Zt{E:Nat->Nat->Prop}{a b c:Nat}(h:E a b)(k:reach E b c):reach E a c:=eu (lU h) k
def Walk(E:Nat->Nat->Prop)(p:Nat->Nat)(L a b:Nat):Prop:=p 0=a/\p L=b/\∀ i,i<L->E (p i) (p (i+1))
theorem Co{E:Nat->Nat->Prop}:∀ (L a b:Nat),sF E L a b->∃ p,Walk E p L a b
 | 0,a,b,h=>⟨λ_=>a,rfl,h,λi hi=>by omega⟩
 | L+1,a,b,⟨c,h1,h2⟩=>by
  obtain⟨p,p0,pL,pe⟩:=Co L c b h2;refine⟨λi=>match i with | 0=>a | i+1=>p i,rfl,pL,λi hi=>?_⟩
  cases i with
  | zero=>show E a (p 0);rw[p0];exact h1
  | succ i=>exact pe i (by omega)
theorem uQ{E:Nat->Nat->Prop}{p:Nat->Nat}(h:∀ t,E (p t) (p (t+1)))(s d:Nat):reach E (p s) (p (s+d+1)):=by
 induction d with
 | zero=>exact lU (h s)
 | succ d ih=>exact eu ih (lU (h (s+d+1)))
def tC(p q:Nat->Nat)(L:Nat)(i:Nat):Nat:=if i<L then p i else q (i - L)
theorem OZ{E:Nat->Nat->Prop}{p q:Nat->Nat}{L M a b c:Nat}(h:Walk E p L a b)(k:Walk E q M b c):Walk E (tC p q L) (L+M) a c:=by
 obtain⟨f,g,j⟩:=h;obtain⟨l,n,o⟩:=k;refine⟨?_,?_,λi r=>?_⟩
 ·unfold tC;by_cases h:0<L
  ·rw[aC2 h];exact f
  ·rw[aC1 h];have:L=0:=by omega
   subst this;rw[Nat.sub_self,l,<-g,f]
 ·unfold tC;rw[aC1 (by omega),Nat.add_sub_cancel_left];exact n
 ·unfold tC;by_cases m:i+1<L
  ·rw[aC2 (by omega),aC2 m];exact j i (by omega)
  ·rw[aC1 m];by_cases d:i<L
   ·have e:i+1=L:=by omega
    rw[aC2 d,e,Nat.sub_self,l,<-g,<-e];exact j i d
   ·rw[aC1 d,show i+1 - L=(i - L)+1 by omega];exact o (i - L) (by omega)
theorem FW{E:Nat->Nat->Prop}{c:Nat}(hc:reach E c c):∀ l:List Nat,(∀ i∈l,reach E c i/\reach E i c)->∃ p L,0<L/\Walk E p L c c/\∀ i∈l,∃ s,s<L/\p s=i
 | [],_=>by
  obtain⟨L,h⟩:=hc;obtain⟨p,hp⟩:=Co _ _ _ h;exact⟨p,L+1,by omega,hp,λi hi=>by simp at hi⟩
 | i::l,hl=>by
  obtain⟨p,L,hL,hp,hm⟩:=FW hc l (λj hj=>hl j (List.mem_cons_of_mem _ hj));obtain⟨⟨M,h1⟩,⟨M',h2⟩⟩:=hl i (List.mem_cons_self ..);obtain⟨q,hq⟩:=Co _ _ _ h1;obtain⟨r,hr⟩:=Co _ _ _ h2;have hqr:=OZ hq hr;refine⟨tC p (tC q r (M+1)) L,L+(M+1+(M'+1)),by omega,OZ hp hqr,λj hj=>?_⟩;rcases List.mem_cons.1 hj with rfl | hj
  ·refine⟨L+(M+1),by omega,?_⟩;unfold tC;rw[aC1 (by omega),Nat.add_sub_cancel_left,aC1 (by omega),Nat.sub_self];exact hr.1
  ·obtain⟨s,hs,e⟩:=hm j hj;refine⟨s,by omega,?_⟩;unfold tC;rw[aC2 hs];exact e
def Path(E:Nat->Nat->Prop)(q:Nat->Nat):Prop:=∀ t,E (q t) (q (t+1))
def xq(K:Nat->Nat->Prop)(m:Nat)(q:Nat->Nat):Prop:=∀ k,k<m->∀ t,∃ t',t<=t'/\K k (q t')
def ze(E:Nat->Nat->Prop)(K:Nat->Nat->Prop)(m c:Nat):Prop:=reach E c c/\∀ k,k<m->∃ i,reach E c i/\reach E i c/\K k i
theorem LC{E:Nat->Nat->Prop}{K:Nat->Nat->Prop}{c:Nat}:∀ m,(∀ k,k<m->∃ i,reach E c i/\reach E i c/\K k i)->∃ l:List Nat,(∀ i∈l,reach E c i/\reach E i c)/\∀ k,k<m->∃ i∈l,K k i
 | 0,_=>⟨[],λi hi=>by simp at hi,λk hk=>by omega⟩
 | m+1,h=>by
  obtain⟨l,h1,h2⟩:=LC m (λk hk=>h k (by omega));obtain⟨i,a,b,d⟩:=h m (by omega);refine⟨i::l,λj hj=>?_,λk hk=>?_⟩
  ·rcases List.mem_cons.1 hj with rfl | hj
   ·exact⟨a,b⟩
   ·exact h1 j hj
  ·by_cases e:k=m
   ·subst e;exact⟨i,List.mem_cons_self ..,d⟩
   ·obtain⟨j,hj,wy⟩:=h2 k (by omega);exact⟨j,List.mem_cons_of_mem _ hj,wy⟩
theorem abt{E:Nat->Nat->Prop}{p:Nat->Nat}{L c:Nat}(hL:0<L)(h:Walk E p L c c):Path E (λt=>p (t % L)):=by
 obtain⟨d,f,a⟩:=h;intro t;have b:=Nat.mod_lt t hL;show E (p (t % L)) (p ((t+1) % L));by_cases g:t % L+1<L
 ·have e:(t+1) % L=t % L+1:=by
   rw[Nat.add_mod];by_cases j:L=1
   ·omega
   ·rw[Nat.mod_eq_of_lt (show 1<L by omega),Nat.mod_eq_of_lt g]
  rw[e];exact a _ b
 ·have e:(t+1) % L=0:=by
   have k:t % L+1=L:=by omega
   have:=Nat.div_add_mod t L;have i:t+1=L*(t / L+1):=by rw[Nat.mul_add];omega
   rw[i,Nat.mul_mod_right]
  rw[e,d];have:=a (t % L) b;rw[show t % L+1=L by omega,f]at this;exact this
theorem acR{E:Nat->Nat->Prop}{K:Nat->Nat->Prop}{m c:Nat}(h:ze E K m c):∃ q,q 0=c/\Path E q/\xq K m q/\∃ L,0<L/\∀ t,q (t+L)=q t:=by
 obtain⟨f,a⟩:=h;obtain⟨l,g,j⟩:=LC m a;obtain⟨p,L,b,d,n⟩:=FW f l g;refine⟨λt=>p (t % L),by simp[d.1],abt b d,λk a t=>?_,L,b,λt=>by simp⟩;obtain⟨i,o,r⟩:=j k a;obtain⟨s,u,e⟩:=n i o;refine⟨t*L+s,?_,?_⟩
 ·have:t*1<=t*L:=Nat.mul_le_mul_left t b;omega
 ·show K k (p ((t*L+s) % L));rw[Nat.mul_comm,Nat.mul_add_mod,Nat.mod_eq_of_lt u,e];exact r
theorem Gd{q:Nat->Nat}{P:Nat->Prop}{n:Nat}(hn:∀ t,q t<n)(h:∀ t,∃ t',t<=t'/\P (q t')):∃ v,v<n/\P v/\∀ t,∃ t',t<=t'/\q t'=v:=by
 refine aCx λl=>?_;have d:∀ j,j<=n->∃ T,∀ t,T<=t->∀ v,v<j->P v->q t≠v:=by
  intro j
  induction j with
  | zero=>intro _;exact⟨0,λt _ v i=>by omega⟩
  | succ j ih=>
   intro r;obtain⟨T,c⟩:=ih (by omega);by_cases k:P j
   ·have:∃ f,∀ t,f<=t->q t≠j:=aCx λm=>l ⟨j,by omega,k,λt=>aCx λo=>m ⟨t,λt' b e=>o ⟨t',b,e⟩⟩⟩;obtain⟨f,g⟩:=this;refine⟨max T f,λt b v i a=>?_⟩;by_cases e:v=j
    ·subst e;exact g t (by omega)
    ·exact c t (by omega) v (by omega) a
   ·refine⟨T,λt b v i a=>?_⟩;by_cases e:v=j
    ·subst e;exact absurd a k
    ·exact c t b v (by omega) a
 obtain⟨T,c⟩:=d n (aB2 _);obtain⟨t',b,p⟩:=h T;exact c t' b (q t') (hn t') p rfl
theorem abD{E:Nat->Nat->Prop}{K:Nat->Nat->Prop}{m n:Nat}{q:Nat->Nat}(hq:Path E q)(hn:∀ t,q t<n)(hm:xq K m q):∃ c,c<n/\reach E (q 0) c/\ze E K m c:=by
 obtain⟨c,h,_,b⟩:=Gd (P:=λ_=>True) hn (λt=>⟨t,aB2 _,trivial⟩);have f:∀ s v,(∀ t,∃ a,t<=a/\q a=v)->reach E (q s) v:=by
  intro s v b;obtain⟨a,p,e⟩:=b (s+1);obtain⟨d,rfl⟩:∃ d,a=s+d+1:=⟨a - s - 1,by omega⟩;rw[<-e];exact uQ hq s d
 have back:∀ u v,(∀ t,∃ a,t<=a/\q a=u)->(∀ t,∃ a,t<=a/\q a=v)->reach E u v:=by
  intro u v j b;obtain⟨s,_,e⟩:=j 0;rw[<-e];exact f s v b
 refine⟨c,h,f 0 c b,back c c b b,λk l=>?_⟩;obtain⟨i,_,o,g⟩:=Gd (P:=K k) hn (hm k l);exact⟨i,back c i b g,back i c g b,o⟩
theorem Cc{E:Nat->Nat->Prop}{K:Nat->Nat->Prop}{m n a:Nat}(hE:∀ a b,E a b->b<n)(ha:a<n):(∃ q,q 0=a/\Path E q/\xq K m q)↔∃ c,c<n/\reach E a c/\ze E K m c:=by
 constructor
 ·rintro ⟨q,f,g,j⟩;have r:∀ t,q t<n:=λt=>by
   cases t with
   | zero=>rw[f];exact ha
   | succ t=>exact hE _ _ (g t)
  obtain⟨c,l,h,d⟩:=abD g r j;rw[f]at h;exact⟨c,l,h,d⟩
 ·rintro ⟨c,_,⟨L,l⟩,h⟩;obtain⟨p,i⟩:=Co _ _ _ l;obtain⟨q,f,g,j,_⟩:=acR h;refine⟨tC p q (L+1),?_,?_,?_⟩
  ·unfold tC;rw[aC2 (by omega)];exact i.1
  ·intro t;unfold tC;by_cases d:t+1<L+1
   ·rw[aC2 (by omega),aC2 d];exact i.2.2 t (by omega)
   ·rw[aC1 d];by_cases o:t<L+1
    ·have e:t+1=L+1:=by omega
     rw[aC2 o,e,Nat.sub_self,f];have:=i.2.2 t o;rw[e,i.2.1]at this;exact this
    ·rw[aC1 o,show t+1 - (L+1)=(t - (L+1))+1 by omega];exact g _
  ·intro k s t;obtain⟨u,v,d⟩:=j k s t;refine⟨L+1+u,by omega,?_⟩;unfold tC;rw[aC1 (by omega),Nat.add_sub_cancel_left];exact d
def iP(nd:Nd)(k:Nat)(S:Nat->Bool):Bool:=
 if nd.op=48 then !S k else if nd.op=49 then S k else if nd.op=33 then S k !=S nd.l else if nd.op=38 then S k==(S nd.l&&S nd.r) else if nd.op=124 then S k==(S nd.l||S nd.r)
 else if nd.op=70 then S k||!S nd.l else if nd.op=71 then !S k||S nd.l else if nd.op=85 then (S k||!S nd.r)&&(!S k||S nd.l||S nd.r) else if nd.op=82 then (!S k||S nd.r)&&(S k||!S nd.l||!S nd.r) else true
def qp(nd:Nd)(k:Nat)(S:Nat->Bool)(x:Nat):Bool:=if nd.op=112\/nd.op=113\/nd.op=114 then lh x nd.op==S k else true
def iO(nd:Nd)(k:Nat)(S T:Nat->Bool):Bool:=
 if nd.op=88 then S k==T nd.l else if nd.op=70 then S k==(S nd.l||T k) else if nd.op=71 then S k==(S nd.l&&T k) else if nd.op=85 then S k==(S nd.r||(S nd.l&&T k)) else if nd.op=82 then S k==(S nd.r&&(S nd.l||T k)) else true
def Bn(ns:List Nd)(S:Nat->Bool):Prop:=∀ k,k<ns.length->iP (au ns k) k S=true
def tu(ns:List Nd)(S:Nat->Bool)(x:Nat):Prop:=∀ k,k<ns.length->qp (au ns k) k S x=true
def Em(ns:List Nd)(S T:Nat->Bool):Prop:=∀ k,k<ns.length->iO (au ns k) k S T=true
theorem jS{ns:List Nd}{k:Nat}(h:k<ns.length):ns[k]?=some (au ns k):=by
 simp[au,List.getD,aB3 h]
theorem NN{ns:List Nd}{k:Nat}{nd:Nd}(h:ns[k]?=some nd):k<ns.length/\au ns k=nd:=by
 obtain⟨a,e⟩:=aB9.1 h;exact⟨a,by simp[au,List.getD,h]⟩
theorem PT{nd:Nd}(hc:bG nd.op=true\/eF nd.op=true\/bU nd.op=true)(k x:Nat)(S T:Nat->Bool):S k=bg nd.op x (S nd.l) (S nd.r) (T k) (T nd.l)↔iP nd k S=true/\qp nd k S x=true/\iO nd k S T=true:=by
 unfold iP qp iO;rcases hc with hc | hc | hc
 ·rcases mZ hc with e | e | e | e | e
  ·simp[e,bg]
  ·simp[e,bg]
  ·simp[e,bg,lh];exact eq_comm
  ·simp[e,bg,lh];exact eq_comm
  ·simp[e,bg,lh];exact eq_comm
 ·rcases pQ hc with e | e | e | e
  ·simp[e,bg];cases S k <;> cases S nd.l <;> simp
  ·simp[e,bg]
  ·simp[e,bg];cases S k <;> cases S nd.l <;> simp
  ·simp[e,bg];cases S k <;> cases S nd.l <;> simp
 ·rcases lJ hc with e | e | e | e
  ·simp[e,bg]
  ·simp[e,bg]
  ·simp[e,bg];cases S k <;> cases S nd.l <;> cases S nd.r <;> simp
  ·simp[e,bg];cases S k <;> cases S nd.l <;> cases S nd.r <;> simp
theorem lw{ns:List Nd}(hw:iH ns)(x:Nat)(S T:Nat->Bool):Step ns x S T↔Bn ns S/\tu ns S x/\Em ns S T:=by
 constructor
 ·intro h;have b:=λk (a:k<ns.length)=>(PT (dZ hw (jS a)).1 k x S T).1 (h k _ (jS a));exact⟨λk a=>(b k a).1,λk a=>(b k a).2.1,λk a=>(b k a).2.2⟩
 ·rintro ⟨d,f,g⟩ k i c;obtain⟨a,e⟩:=NN c;subst e;exact(PT (dZ hw c).1 k x S T).2 ⟨d k a,f k a,g k a⟩
def Bt(S:Nat->Bool):Nat->Nat
 | 0=>0
 | j+1=>(if S j then 2 ^ j else 0)+Bt S j
theorem Vt(S:Nat->Bool)(n:Nat):Bt S n<2 ^ n:=by
 induction n with
 | zero=>simp[Bt]
 | succ n ih=>simp only[Bt,Nat.pow_succ];split <;> omega
theorem ady(S:Nat->Bool)(n k:Nat)(hk:k<n):(Bt S n).testBit k=S k:=by
 induction n with
 | zero=>omega
 | succ n ih=>
  simp only[Bt];have a:=Vt S n;by_cases e:k=n
  ·subst e;cases hS:S k with
   | true=>rw[aC2 rfl,Nat.testBit_two_pow_add_eq,Nat.testBit_lt_two_pow a];rfl
   | false=>rw[aC1 (by simp),aCw,Nat.testBit_lt_two_pow a]
  ·cases hS:S n with
   | true=>rw[aC2 rfl,Nat.testBit_two_pow_add_gt (by omega)];exact ih (by omega)
   | false=>rw[aC1 (by simp),aCw];exact ih (by omega)
structure Jf (ns:List Nd) (N:Nat) (m:Nat->Nat->Bool):Prop where
 fits:∀ i,i<N->Bn ns (m i)
 read:∀ i,i<N->∃ x,x<8/\tu ns (m i) x
 all:∀ S x,x<8->Bn ns S->tu ns S x->∃ i,i<N/\dU ns.length S (m i)
theorem Es{ns:List Nd}(hw:iH ns){S T:Nat->Bool}(h:dU ns.length S T)(hf:Bn ns S):Bn ns T:=λk hk=>by
 obtain⟨h1,h2,h3⟩:=nR hw (jS hk);have:=hf k hk;unfold iP at this ⊢;rw[<-h k h1,<-h _ h2,<-h _ h3];exact this
theorem DK{ns:List Nd}{S T:Nat->Bool}(h:dU ns.length S T){x:Nat}(hf:tu ns S x):tu ns T x:=λk hk=>by
 have:=hf k hk;unfold qp at this ⊢;rw[<-h k hk];exact this
theorem Hm{ns:List Nd}(hw:iH ns){S T S' T':Nat->Bool}(h:dU ns.length S S')(h':dU ns.length T T')(hf:Em ns S T):Em ns S' T':=λk hk=>by
 obtain⟨h1,h2,h3⟩:=nR hw (jS hk);have:=hf k hk;unfold iO at this ⊢;rw[<-h k h1,<-h _ h2,<-h _ h3,<-h' k h1,<-h' _ h2];exact this
theorem LJ{ns:List Nd}(hw:iH ns){S T:Nat->Bool}(h:dU ns.length S T){k:Nat}(hk:k<ns.length):iq (au ns k) k S=iq (au ns k) k T:=by
 obtain⟨a,b,c⟩:=nR hw (jS hk);unfold iq;rw[h k a,h _ b,h _ c]
def I7(ns:List Nd)(N:Nat)(m:Nat->Nat->Bool)(i j:Nat):Prop:=i<N/\j<N/\Em ns (m i) (m j)
def Rx(ns:List Nd)(m:Nat->Nat->Bool)(k i:Nat):Prop:=iq (au ns k) k (m i)=true
theorem abZ{ns:List Nd}(hw:iH ns){N:Nat}{m:Nat->Nat->Bool}(hA:Jf ns N m){i:Nat}(hi:i<N) :
  chain ns [] (m i)↔∃ q,q 0=i/\Path (I7 ns N m) q/\xq (Rx ns m) ns.length q:=by
 constructor
 ·rintro ⟨x,S,o,d,p⟩;have f:∀ t,∃ j,j<N/\dU ns.length (S t) (m j):=λt=>by
   obtain⟨r,s,_⟩:=(lw hw (x t) (S t) (S (t+1))).1 (d.step t);exact hA.all (S t) (x t) (o t) r s
  let q:Nat->Nat:=λt=>if t=0 then i else Classical.choose (f t)
  have a:∀ t,q t<N/\dU ns.length (S t) (m (q t)):=λt=>by
   by_cases e:t=0
   ·subst e;exact⟨hi,p⟩
   ·have u:q t=Classical.choose (f t):=aC1 e;rw[u];exact Classical.choose_spec (f t)
  refine⟨q,aC2 rfl,λt=>⟨(a t).1,(a (t+1)).1,?_⟩,λk b t=>?_⟩
  ·obtain⟨_,_,v⟩:=(lw hw (x t) (S t) (S (t+1))).1 (d.step t);exact Hm hw (a t).2 (a (t+1)).2 v
  ·obtain⟨c,g,h⟩:=d.kept k _ (jS b) t;exact⟨c,g,by unfold Rx;rw[<-LJ hw (a c).2 b];exact h⟩
 ·rintro ⟨q,w,a,y⟩;have l:∀ t,q t<N:=λt=>(a t).1
  let x:Nat->Nat:=λt=>Classical.choose (hA.read (q t) (l t))
  have n:∀ t,x t<8/\tu ns (m (q t)) (x t):=λt=>Classical.choose_spec (hA.read (q t) (l t));refine⟨x,λt=>m (q t),λt=>(n t).1,⟨λt=>?_,λk A z t=>?_⟩,by show dU _ (m (q 0)) (m i);rw[w];exact dU.refl _ _⟩
  ·exact(lw hw _ _ _).2 ⟨hA.fits _ (l t),(n t).2,(a t).2.2⟩
  ·obtain⟨b,e⟩:=NN z;obtain⟨c,g,h⟩:=y k b t;subst e;exact⟨c,g,h⟩
theorem ab0{ns:List Nd}(hw:iH ns){N:Nat}{m:Nat->Nat->Bool}(hA:Jf ns N m){i:Nat}(hi:i<N) :
  chain ns [] (m i)↔∃ c,c<N/\reach (I7 ns N m) i c/\ze (I7 ns N m) (Rx ns m) ns.length c:=by
 rw[abZ hw hA hi];exact Cc (λa b h=>h.2.1) hi
structure gB (ns:List Nd) (M:Nat) (m:Nat->Nat->Bool):Prop where
 live:∀ i,i<M->chain ns [] (m i)
 all:∀ S,chain ns [] S->∃ i,i<M/\dU ns.length S (m i)
def PI(ns:List Nd)(M:Nat)(m:Nat->Nat->Bool)(P:Nat->Prop)(a:Nat)(j:Nat):Prop:=j<M/\∃ i,i<M/\P i/\tu ns (m i) a/\Em ns (m i) (m j)
def vV(ns:List Nd)(M:Nat)(m:Nat->Nat->Bool):List Nat->(Nat->Prop)->Nat->Prop
 | [],P=>P
 | a::u,P=>vV ns M m u (PI ns M m P a)
theorem Ex{ns:List Nd}(hw:iH ns){S:Nat->Bool}(h:chain ns [] S):Bn ns S:=by
 obtain⟨x,c,_,a,b⟩:=h;exact Es hw b ((lw hw _ _ _).1 (a.step 0)).1
theorem QL{ns:List Nd}(hw:iH ns){M:Nat}{m:Nat->Nat->Bool}(hL:gB ns M m):∀ (u:List Nat) (P:Nat->Prop),(∀ x∈u,x<8)->(∀ i,P i->i<M)->((∃ j,vV ns M m u P j)↔∃ i,P i/\chain ns u (m i))
 | [],P,_,hP=>⟨λ⟨j,h⟩=>⟨j,h,hL.live j (hP j h)⟩,λ⟨i,h,_⟩=>⟨i,h⟩⟩
 | a::u,P,hu,hP=>by
  show (∃ j,vV ns M m u (PI ns M m P a) j)↔_;rw[QL hw hL u _ (λx hx=>hu x (List.mem_cons_of_mem _ hx)) (λi h=>h.1)];constructor
  ·rintro ⟨j,⟨hj,i,hi,hp,hr,hf⟩,hc⟩;exact⟨i,hp,hu a (List.mem_cons_self ..),m j,(lw hw _ _ _).2 ⟨Ex hw (hL.live i hi),hr,hf⟩,hc⟩
  ·rintro ⟨i,hp,_,T,hs,hc⟩;obtain⟨j,hj,e⟩:=hL.all T (MH hw hc);obtain⟨_,f2,f3⟩:=(lw hw _ _ _).1 hs;exact⟨j,⟨hj,i,hP i hp,hp,f2,Hm hw (dU.refl _ _) e f3⟩,Cg hw e hc⟩
theorem RX{ns:List Nd}(hg:Good ns){M:Nat}{m:Nat->Nat->Bool}(hL:gB ns M m)(u:List Nat)(hu:∀ x∈u,x<8)(b:Bool) :
  (∃ j,vV ns M m u (λi=>i<M/\m i (ns.length - 1)=b) j)↔May ns u b:=by
 have d:=hg.pos;rw[QL hg.wf hL u _ hu (λi h=>h.1),XF hg];constructor
 ·rintro ⟨i,⟨_,h⟩,a⟩;exact⟨m i,h,a⟩
 ·rintro ⟨S,h,a⟩;obtain⟨i,c,e⟩:=hL.all S (MH hg.wf a);exact⟨i,⟨c,by rw[<-e _ (by omega)];exact h⟩,Cg hg.wf e a⟩
open Go.RowKit
set_option linter.unusedVariables false
def dP(bs:List Nat)(k:Nat):Nat:=bs.getD k 0
structure FR (w:World) (F gp cap:Nat) (ns:List Nd) (bs:List Nat):Prop where
 c0:w.cell? ⟨F,0,none⟩=some (.slice (some ⟨gp,0,none⟩) ns.length cap)
 hcap:ns.length<=cap
 PM:F<w.heap.size
 ltp:gp<w.heap.size
 ptr:∀ k,k<ns.length->w.cell? ⟨gp,k,none⟩=some (.pointer (some ⟨dP bs k,0,none⟩))
 op:∀ k,k<ns.length->w.cell? ⟨dP bs k,0,none⟩=some (.int .u8 (au ns k).op)
 lp:∀ k,k<ns.length->bG (au ns k).op=false->w.cell? ⟨dP bs k,1,none⟩=some (.pointer (some ⟨dP bs (au ns k).l,0,none⟩))
 rp:∀ k,k<ns.length->bU (au ns k).op=true->w.cell? ⟨dP bs k,2,none⟩=some (.pointer (some ⟨dP bs (au ns k).r,0,none⟩))
 nn:∀ k,k<ns.length->w.cell? ⟨dP bs k,3,none⟩=some (.int .i64 k)
 ltb:∀ k,k<ns.length->dP bs k<w.heap.size
theorem FR.below{w w':World}{F gp cap:Nat}{ns:List Nd}{bs:List Nat}(h:FR w F gp cap ns bs)(hb:Below w.heap.size w w'):FR w' F gp cap ns bs:=
 ⟨(hb.cell (p:=⟨F,0,none⟩) h.PM).trans h.c0,h.hcap,aCq h.PM hb.size,aCq h.ltp hb.size,λk hk=>(hb.cell (p:=⟨gp,k,none⟩) h.ltp).trans (h.ptr k hk),
  λk hk=>(hb.cell (p:=⟨dP bs k,0,none⟩) (h.ltb k hk)).trans (h.op k hk),λk hk e=>(hb.cell (p:=⟨dP bs k,1,none⟩) (h.ltb k hk)).trans (h.lp k hk e),λk hk e=>(hb.cell (p:=⟨dP bs k,2,none⟩) (h.ltb k hk)).trans (h.rp k hk e),
  λk hk=>(hb.cell (p:=⟨dP bs k,3,none⟩) (h.ltb k hk)).trans (h.nn k hk),λk hk=>aCq (h.ltb k hk) hb.size⟩
theorem Rz{w:World}{F:Nat}{ns:List Nd}{bs:List Nat}(h:Fm w F ns bs)(hp:0<ns.length):∃ gp cap,FR w F gp cap ns bs:=by
 obtain⟨m,cap,f,own⟩:=h.c0;obtain⟨gp,rfl,_,g,d⟩:=sG own hp;have a:∀ k,k<ns.length->w.heap[dP bs k]?=some (bR bs k (au ns k)):=λk c=>by
  obtain⟨b,i,_,j⟩:=h.parts k _ (jS c);have:dP bs k=b:=by simp[dP,List.getD,i]
  rw[this];exact j
 refine⟨gp,cap,f,d,h.uX,g,λk c=>?_,λk c=>?_,λk c e=>?_,λk c e=>?_,λk c=>?_,λk c=>dC (a k c)⟩
 ·have l:k<bs.length:=by rw[h.len];exact c
  rw[own.cellAt k (by omega)];simp[mD,dP,List.getD,aB3 l]
 ·rw[aCR w _ _ _ _ _ (a k c)];rfl
 ·rw[aCR w _ _ _ _ _ (a k c)];simp[lV,e,dP]
 ·rw[aCR w _ _ _ _ _ (a k c)];simp[lT,e,dP]
 ·rw[aCR w _ _ _ _ _ (a k c)];rfl
theorem Rb.drewN{w:World}{g n:Nat}{f:Nat->Bool}(h:Rb w g n f)(m:Nat):Rb (w.drewN m) g n f:=⟨h.lt,h.cell⟩
def Ik(ns:List Nd)(p:Nd->Nat->Bool):Bool:=(List.range ns.length).all λk=>p (au ns k) k
theorem tY{ns:List Nd}{p:Nd->Nat->Bool}:Ik ns p=true↔∀ k,k<ns.length->p (au ns k) k=true:=by simp[Ik,List.all_eq_true]
theorem Oz{ns:List Nd}{p:Nd->Nat->Bool}{k:Nat}(hk:k<ns.length)(h:p (au ns k) k=false):Ik ns p=false:=by
 cases e:Ik ns p with
 | false=>rfl
 | true=>rw[tY]at e;rw[e k hk]at h;cases h
def Bo(ns:List Nd)(S:Nat->Bool):Bool:=Ik ns λnd k=>iP nd k S
def iR(ns:List Nd)(S:Nat->Bool)(x:Nat):Bool:=Ik ns λnd k=>qp nd k S x
def Eo(ns:List Nd)(S T:Nat->Bool):Bool:=Ik ns λnd k=>iO nd k S T
theorem ac5{ns:List Nd}{S:Nat->Bool}:Bo ns S=true↔Bn ns S:=tY
theorem oM{ns:List Nd}{S:Nat->Bool}{x:Nat}:iR ns S x=true↔tu ns S x:=tY
theorem En{ns:List Nd}{S T:Nat->Bool}:Eo ns S T=true↔Em ns S T:=tY
def rf:Code->Option Code
 | .loop c=>some c
 | .seq a b=>match rf a with
  | some c=>some c
  | none=>rf b
 | .block _ c=>rf c
 | .scope c=>rf c
 | .cond _ a b=>match rf a with
  | some c=>some c
  | none=>rf b
 | _=>none
def eX(f:Func):Code:=(f.body.bind rf).getD .skip
theorem QH{a:Array Value}{n:Nat}(h:a.size=n):a=((List.range n).map (λi=>a.getD i undef)).toArray:=by
 apply Array.ext
 ·simp[h]
 ·intro i b c;simp[b]
def GI(size:Nat)(fixed:List (Nat × Value))(c n:Nat)(P:Nat->Prop)(w:World)(a:Act)(w':World):Prop:=
 a.defers=[]/\a.tmps.size=size/\(∀ x∈fixed,a.tmps.getD x.1 undef=x.2)/\∃ j,j<=n/\a.tmps.getD c undef=.int .i64 (j:Nat)/\P j/\∃ m,w'=w.drewN m
def GM(c n:Nat)(a:Act)(_:World):Nat:=n - (intOf (a.tmps.getD c undef)).toNat
