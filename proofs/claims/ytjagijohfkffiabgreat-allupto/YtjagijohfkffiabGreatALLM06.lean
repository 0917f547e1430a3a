import Derived.Test.YtjagijohfkffiabGreatALLM05
set_option maxHeartbeats 16000000
set_option maxRecDepth 100000
set_option linter.unusedSimpArgs false
namespace Go.Proofs.YtjagijohfkffiabGreat
open Go.RowKit
set_option linter.unusedVariables false
theorem aex{w1:World}{F P L R b c k:Nat}{n1:List Nd}{bs:List Nat}(hf:Fm w1 F n1 bs)(hP:w1.heap[P]?=some (.cells #[.int .u8 c,.pointer none,.pointer none,.int .i64 0] 204 (0,0)))
  (CS:P ∉ bs) (GU:P≠F) (hL:bs[k]?=some L) (hR:bs[n1.length - 1]?=some R) (hb:bU b=true) :
  Fm ((((w1.setCell ⟨P,0,none⟩ (.int .u8 b)).setCell ⟨P,1,none⟩ (.pointer (some ⟨L,0,none⟩))).setCell ⟨P,2,none⟩ (.pointer (some ⟨R,0,none⟩))).setCell ⟨P,3,none⟩ (.int .i64 n1.length)) F n1 bs /\
  ((((w1.setCell ⟨P,0,none⟩ (.int .u8 b)).setCell ⟨P,1,none⟩ (.pointer (some ⟨L,0,none⟩))).setCell ⟨P,2,none⟩ (.pointer (some ⟨R,0,none⟩))).setCell ⟨P,3,none⟩ (.int .i64 n1.length)).heap[P]?=some (bR bs n1.length ⟨b,k,n1.length - 1⟩) /\
  ∀ v n xs,w1.ownsRow (F+1) 127 1 v n xs->((((w1.setCell ⟨P,0,none⟩ (.int .u8 b)).setCell ⟨P,1,none⟩ (.pointer (some ⟨L,0,none⟩))).setCell ⟨P,2,none⟩ (.pointer (some ⟨R,0,none⟩))).setCell ⟨P,3,none⟩ (.int .i64 n1.length)).ownsRow (F+1) 127 1 v n xs:=by
 have a:=heap_setCell_same w1 P 0 _ _ (.int .u8 b) hP;have d:=heap_setCell_same _ P 1 _ _ (.pointer (some ⟨L,0,none⟩)) a;have e:=heap_setCell_same _ P 2 _ _ (.pointer (some ⟨R,0,none⟩)) d;have f:=heap_setCell_same _ P 3 _ _ (.int .i64 n1.length) e;have g:=hf.set CS GU hP mX 0 (.int .u8 b);have h:=g.set CS GU a mX 1 (.pointer (some ⟨L,0,none⟩));have i:=h.set CS GU d mX 2 (.pointer (some ⟨R,0,none⟩));refine⟨i.set CS GU e mX 3 _,f.trans ?_,?_⟩
 ·simp[bR,lV,lT,nS hb,hb,List.getD,hL,hR]
 ·intro v n xs own;exact wL (wL (wL (wL own hP mX 0 _) a mX 1 _) d mX 2 _) e mX 3 _
theorem Lg(k F:Nat)(s:ByteArray)(hs:s.size<=24)(H:ry k F s)(a:Nat)(ns:List Nd)(bs:List Nat)(w:World)(hf:Fm w F ns bs)(hk:s.size<a+(k+1))(hn:ns.length<=a)(hb:bt s a=40)(e0:ps k s (a+1) ns=none):Calls Tryz.prog 72 #[.pointer (some ⟨F,0,none⟩),.string s,.int .i64 a] w (JF (ps (k+1) s a ns) F a bs w):=by
   have b:=kr (s:=s) (i:=a) (by omega);have c:=hid (qJ (k:=k) (ns:=ns) hb);have j:(s[a]'b).toNat=40:=(iB b).symm.trans hb;have hF:=hf.uX;have C:=λW (h:Fm W F ns bs)=>H (a+1) (a+1) ns bs W (by omega) h (by omega) (by omega) (by omega);have d:Hid (ps (k+1) s a ns=none):=hid (by rw[c.out];simp[ps2,e0]);have f:=hid e0;clear e0 hb;go_enter Tryz.func72,Tryz.ntmps72;go_wp2_with fail;refine(C _ (hf.alloc _)).mono ?_;rintro e l (⟨_,rfl,g⟩ | ⟨m,n,_,_,h,_⟩)
   ·go_wp2_with fail
    go_ret3
    exact aCa ⟨d.out,rfl,((aB4 F w).alloc (by omega) _).trans g⟩
   ·rw[f.out]at h;cases h
theorem Lf(k F:Nat)(s:ByteArray)(hs:s.size<=24)(H:ry k F s)(a:Nat)(ns:List Nd)(bs:List Nat)(w:World)(hf:Fm w F ns bs)(hk:s.size<a+(k+1))(hn:ns.length<=a)(hb:bt s a=40)(a1:Nat)(n1:List Nd)(e0:ps k s (a+1) ns=some (a1,n1))(b4:bU (bt s a1)=false):Calls Tryz.prog 72 #[.pointer (some ⟨F,0,none⟩),.string s,.int .i64 a] w (JF (ps (k+1) s a ns) F a bs w):=by
   have c:=kr (s:=s) (i:=a) (by omega);have g:=hid (qJ (k:=k) (ns:=ns) hb);have t:(s[a]'c).toNat=40:=(iB c).symm.trans hb;have hF:=hf.uX;have u:=eY k s _ ns a1 n1 e0;have C:=λW (h:Fm W F ns bs)=>H (a+1) (a+1) ns bs W (by omega) h (by omega) (by omega) (by omega);have j:Hid (ps (k+1) s a ns=none):=hid (by rw[g.out];simp[ps2,e0,b4]);have f:=hid e0;clear e0 hb;by_cases b:a1<s.size
   focus
    have d:=iB b;have l:(((s[a1]'b).toNat:Int) !=38)=true:=by rw[bne_iff_ne];intro h;rw[d,show (s[a1]'b).toNat=38 by omega]at b4;revert b4;decide
    have m:(((s[a1]'b).toNat:Int) !=124)=true:=by rw[bne_iff_ne];intro h;rw[d,show (s[a1]'b).toNat=124 by omega]at b4;revert b4;decide
    have n:(((s[a1]'b).toNat:Int) !=85)=true:=by rw[bne_iff_ne];intro h;rw[d,show (s[a1]'b).toNat=85 by omega]at b4;revert b4;decide
    have o:(((s[a1]'b).toNat:Int) !=82)=true:=by rw[bne_iff_ne];intro h;rw[d,show (s[a1]'b).toNat=82 by omega]at b4;revert b4;decide
    have p:decide ((s.size:Int)<=(a1:Int))=false:=by simp;omega
    clear d b4
   rotate_left
   focus
    have p:decide ((s.size:Int)<=(a1:Int))=true:=by simp;omega
    clear b4
   all_goals
    go_enter Tryz.func72,Tryz.ntmps72;go_wp2_with fail;refine(C _ (hf.alloc _)).mono ?_;rintro e v (⟨h,_⟩ | ⟨x,y,q,L,h,rfl,z,A,B,r,D⟩)
    ·rw[f.out]at h;cases h
    rw[f.out]at h;simp only[aCC,aCP]at h;obtain⟨rfl,rfl⟩:=h;go_wp2_with fail
    go_ret3
    exact aCa ⟨j.out,rfl,((aB4 F w).alloc (by omega) _).trans r⟩
theorem JZ(k F:Nat)(s:ByteArray)(hs:s.size<=24)(H:ry k F s)(a:Nat)(ns:List Nd)(bs:List Nat)(w:World)(hf:Fm w F ns bs)(hk:s.size<a+(k+1))(hn:ns.length<=a)(hb:bt s a=40)(a1:Nat)(n1:List Nd)(e0:ps k s (a+1) ns=some (a1,n1))(b4:bU (bt s a1)=true)(e3:ps k s (a1+1) n1=none):Calls Tryz.prog 72 #[.pointer (some ⟨F,0,none⟩),.string s,.int .i64 a] w (JF (ps (k+1) s a ns) F a bs w):=by
  have c:=kr (s:=s) (i:=a) (by omega);have j:=kr (Cq b4);have A:decide ((s.size:Int)<=(a1:Int))=false:=by simp;omega
  have n:=hid (qJ (k:=k) (ns:=ns) hb);have B:(s[a]'c).toNat=40:=(iB c).symm.trans hb;have D:(s[a1]'j).toNat=bt s a1:=(iB j).symm;have hF:=hf.uX;have E:=eY k s _ ns a1 n1 e0;have C:=λW (h:Fm W F ns bs)=>H (a+1) (a+1) ns bs W (by omega) h (by omega) (by omega) (by omega);have o:Hid (ps (k+1) s a ns=none):=hid (by rw[n.out];simp[ps2,e0,b4,e3]);have l:=hid e0;have p:=hid e3;have q:=lJ b4;clear e0 hb b4 e3;generalize bt s a1=b at *;rcases q with rfl | rfl | rfl | rfl
  all_goals
   go_enter Tryz.func72,Tryz.ntmps72;go_wp2_with fail;refine(C _ (hf.alloc _)).mono ?_;rintro e r (⟨h,_⟩ | ⟨t,u,d,L,h,rfl,m,v,G,x,I⟩)
   ·rw[l.out]at h;cases h
   rw[l.out]at h;simp only[aCC,aCP]at h;obtain⟨rfl,rfl⟩:=h;obtain⟨f,g⟩:∃ f,f=bs++d:=⟨_,rfl⟩;rw[<-g]at m v;have J:=hid g;clear g;have y:=H (a1+1) (a1+1) n1 f r (by omega) m (by omega) (by omega) (by omega);go_wp2_with fail;refine y.mono ?_;rintro e K (⟨_,rfl,z⟩ | ⟨t,u,_,_,h,_⟩)
   ·go_wp2_with fail
    go_ret3
    exact aCa ⟨o.out,rfl,(((aB4 F w).alloc (by omega) _).trans x).trans z⟩
   ·rw[p.out]at h;cases h
theorem Le(k F:Nat)(s:ByteArray)(hs:s.size<=24)(H:ry k F s)(a:Nat)(ns:List Nd)(bs:List Nat)(w:World)(hf:Fm w F ns bs)(hk:s.size<a+(k+1))(hn:ns.length<=a)(hb:bt s a=40)(a1 a2:Nat)(n1 n2:List Nd)(e0:ps k s (a+1) ns=some (a1,n1))(b4:bU (bt s a1)=true)(e3:ps k s (a1+1) n1=some (a2,n2))(b5:¬ bt s a2=41)(hl:a2<s.size):Calls Tryz.prog 72 #[.pointer (some ⟨F,0,none⟩),.string s,.int .i64 a] w (JF (ps (k+1) s a ns) F a bs w):=by
  have c:=kr (s:=s) (i:=a) (by omega);have j:=kr (Cq b4);have E:decide ((s.size:Int)<=(a1:Int))=false:=by simp;omega
  have p:=hid (qJ (k:=k) (ns:=ns) hb);have G:(s[a]'c).toNat=40:=(iB c).symm.trans hb;have I:(s[a1]'j).toNat=bt s a1:=(iB j).symm;have hF:=hf.uX;have J:=eY k s _ ns a1 n1 e0;have K:=eY k s _ n1 a2 n2 e3;have C:=λW (h:Fm W F ns bs)=>H (a+1) (a+1) ns bs W (by omega) h (by omega) (by omega) (by omega);have q:Hid (ps (k+1) s a ns=none):=hid (by rw[p.out];simp[ps2,e0,b4,e3,b5]);have l:=hid e0;have m:=hid e3;have r:=lJ b4;have n:a2<s.size->bt s a2≠41:=λ_=>b5;clear e0 hb b4 e3 b5;generalize bt s a1=b at *;have t:=iB hl;have u:(((s[a2]'hl).toNat:Int) !=41)=true:=by rw[bne_iff_ne];have:=n hl;omega
  have M:decide ((s.size:Int)<=(a2:Int))=false:=by simp;omega
  clear t n;rcases r with rfl | rfl | rfl | rfl
  all_goals
   go_enter Tryz.func72,Tryz.ntmps72;go_wp2_with fail;refine(C _ (hf.alloc _)).mono ?_;rintro e v (⟨h,_⟩ | ⟨x,y,d,L,h,rfl,o,z,N,A,O⟩)
   ·rw[l.out]at h;cases h
   rw[l.out]at h;simp only[aCC,aCP]at h;obtain⟨rfl,rfl⟩:=h;obtain⟨f,g⟩:∃ f,f=bs++d:=⟨_,rfl⟩;rw[<-g]at o z;have P:=hid g;clear g;have B:=H (a1+1) (a1+1) n1 f v (by omega) o (by omega) (by omega) (by omega);go_wp2_with fail;refine B.mono ?_;rintro e Q (⟨h,_⟩ | ⟨x,y,S,R,h,rfl,T,U,V,D,X⟩)
   ·rw[m.out]at h;cases h
   rw[m.out]at h;simp only[aCC,aCP]at h;obtain⟨rfl,rfl⟩:=h;go_wp2_with fail
   go_ret3
   exact aCa ⟨q.out,rfl,(((aB4 F w).alloc (by omega) _).trans A).trans D⟩
theorem NG(k F:Nat)(s:ByteArray)(hs:s.size<=24)(H:ry k F s)(a:Nat)(ns:List Nd)(bs:List Nat)(w:World)(hf:Fm w F ns bs)(hk:s.size<a+(k+1))(hn:ns.length<=a)(hb:bt s a=40)(a1 a2:Nat)(n1 n2:List Nd)(e0:ps k s (a+1) ns=some (a1,n1))(b4:bU (bt s a1)=true)(e3:ps k s (a1+1) n1=some (a2,n2))(b5:¬ bt s a2=41)(hl:¬ a2<s.size):Calls Tryz.prog 72 #[.pointer (some ⟨F,0,none⟩),.string s,.int .i64 a] w (JF (ps (k+1) s a ns) F a bs w):=by
  have c:=kr (s:=s) (i:=a) (by omega);have j:=kr (Cq b4);have B:decide ((s.size:Int)<=(a1:Int))=false:=by simp;omega
  have o:=hid (qJ (k:=k) (ns:=ns) hb);have D:(s[a]'c).toNat=40:=(iB c).symm.trans hb;have E:(s[a1]'j).toNat=bt s a1:=(iB j).symm;have hF:=hf.uX;have G:=eY k s _ ns a1 n1 e0;have I:=eY k s _ n1 a2 n2 e3;have C:=λW (h:Fm W F ns bs)=>H (a+1) (a+1) ns bs W (by omega) h (by omega) (by omega) (by omega);have p:Hid (ps (k+1) s a ns=none):=hid (by rw[o.out];simp[ps2,e0,b4,e3,b5]);have l:=hid e0;have m:=hid e3;have q:=lJ b4;have r:a2<s.size->bt s a2≠41:=λ_=>b5;clear e0 hb b4 e3 b5;generalize bt s a1=b at *;have J:decide ((s.size:Int)<=(a2:Int))=true:=by simp;omega
  clear r;rcases q with rfl | rfl | rfl | rfl
  all_goals
   go_enter Tryz.func72,Tryz.ntmps72;go_wp2_with fail;refine(C _ (hf.alloc _)).mono ?_;rintro e t (⟨h,_⟩ | ⟨u,v,d,L,h,rfl,n,x,K,y,M⟩)
   ·rw[l.out]at h;cases h
   rw[l.out]at h;simp only[aCC,aCP]at h;obtain⟨rfl,rfl⟩:=h;obtain⟨f,g⟩:∃ f,f=bs++d:=⟨_,rfl⟩;rw[<-g]at n x;have N:=hid g;clear g;have z:=H (a1+1) (a1+1) n1 f t (by omega) n (by omega) (by omega) (by omega);go_wp2_with fail;refine z.mono ?_;rintro e O (⟨h,_⟩ | ⟨u,v,P,R,h,rfl,Q,S,T,A,U⟩)
   ·rw[m.out]at h;cases h
   rw[m.out]at h;simp only[aCC,aCP]at h;obtain⟨rfl,rfl⟩:=h;go_wp2_with fail
   go_ret3
   exact aCa ⟨p.out,rfl,(((aB4 F w).alloc (by omega) _).trans y).trans A⟩
theorem NE(k F:Nat)(s:ByteArray)(hs:s.size<=24)(H:ry k F s)(a:Nat)(ns:List Nd)(bs:List Nat)(w:World)(hf:Fm w F ns bs)(hk:s.size<a+(k+1))(hn:ns.length<=a)(hb:bt s a=40)(a1 a2:Nat)(n1 n2:List Nd)(e0:ps k s (a+1) ns=some (a1,n1))(b4:bU (bt s a1)=true)(e3:ps k s (a1+1) n1=some (a2,n2))(b5:bt s a2=41):Calls Tryz.prog 72 #[.pointer (some ⟨F,0,none⟩),.string s,.int .i64 a] w (JF (ps (k+1) s a ns) F a bs w):=by
  have r:=kr (s:=s) (i:=a) (by omega);have Z:=kr (Cq b4);have iy:=kr (s:=s) (i:=a2) (by omega);have hd:decide ((s.size:Int)<=(a1:Int))=false:=by simp;omega
  have Jv:decide ((s.size:Int)<=(a2:Int))=false:=by simp;omega
  have e1:=hid (qJ (k:=k) (ns:=ns) hb);have ae:(s[a]'r).toNat=40:=(iB r).symm.trans hb;have dB:(s[a1]'Z).toNat=bt s a1:=(iB Z).symm;have bi:(s[a2]'iy).toNat=41:=(iB iy).symm.trans b5;have hF:=hf.uX;have g1:=eY k s _ ns a1 n1 e0;have g2:=eY k s _ n1 a2 n2 e3;have C:=λW (h:Fm W F ns bs)=>H (a+1) (a+1) ns bs W (by omega) h (by omega) (by omega) (by omega);have e2:Hid (ps (k+1) s a ns=some (a2+1,n2++[⟨bt s a1,n1.length - 1,n2.length - 1⟩])):=hid (by rw[e1.out];simp[ps2,e0,b4,e3,b5]);have E0:=hid e0;have E3:=hid e3;have hB:=lJ b4;have HB:=hid b4;obtain⟨i0,hi,aT,aP,aO⟩:=info_parts Tryz.BV;clear e0 hb b4 e3 b5;generalize bt s a1=b at *;rcases hB with rfl | rfl | rfl | rfl
  all_goals
   go_enter Tryz.func72,Tryz.ntmps72;go_wp2_with fail;refine(C _ (hf.alloc _)).mono ?_;rintro e O (⟨h,_⟩ | ⟨a',eQ,l,L,h,rfl,G,Q,xX,eD,Fe⟩)
   ·rw[E0.out]at h;cases h
   rw[E0.out]at h;simp only[aCC,aCP]at h;obtain⟨rfl,rfl⟩:=h;have t:=Fe w.heap.size _ _ (heap_alloc_new _ _) (by decide) (by omega);have hsz:w.heap.size+1<=O.heap.size:=by have:=eD.size;simp at this;omega
   have v:w.heap.size ∉ bs++l:=λS=>(aCG.1 S).elim (λh=>by have:=(hf.lt _ h).1;omega) (λh=>by have:=xX _ h;simp at this;omega);obtain⟨o,T⟩:∃ o,o=bs++l:=⟨_,rfl⟩;rw[<-T]at G Q v;have fQ:=hid T;clear T;have C2:=H (a1+1) (a1+1) n1 o O (by omega) G (by omega) (by omega) (by omega);go_wp2_with fail;refine C2.mono ?_;rintro e U (⟨h,_⟩ | ⟨a',eQ,I,R,h,rfl,d,V,Ry,Gy,Z9⟩)
   ·rw[E3.out]at h;cases h
   rw[E3.out]at h;simp only[aCC,aCP]at h;obtain⟨rfl,rfl⟩:=h;have J:=Z9 w.heap.size _ _ t (by decide) (by omega);have CS:w.heap.size ∉ o++I:=λS=>(aCG.1 S).elim v (λh=>by have:=Ry _ h;omega);have m:(o++I)[n1.length - 1]?=some L:=by rw[aCh (by rw[G.len];omega)];exact Q
   obtain⟨x,n⟩:∃ x,x=o++I:=⟨_,rfl⟩;rw[<-n]at d V CS m;have y:=hid n;clear n t;obtain⟨z,Mg,A⟩:=aex d J CS (by omega) m V HB.out;obtain⟨p0,p1,p2,p3⟩:=Lt J;have q:∀ j,U.frozen? ⟨w.heap.size,j,none⟩=false:=λj=>frozen_of_row _ _ _ _ _ J;obtain⟨ao,cap,X,_⟩:=d.c0;have f0:=d.f0;have qP:O.heap.size<=U.heap.size:=Gy.size;have hF2:=d.uX;have HW:=hid z;have own:=(d.own X).2;have SX:=hid (A _ _ _ own);have Y:=hid Mg;have B:=d.len;clear G d J z Mg own Q m V A;go_wp2_with (at_builtin;refine wpList_append_own _ rfl (.tmp 160) (.tmp 162) 124 rfl (F+1) 127 i0 (.pointer none) 1 8 Tryz.underlying124 hi aT aP aO rfl (by decide) _ _ _ rfl (SX.out.alloc _) ⟨U.heap.size,0,none⟩ 1 1 [mD w.heap.size] rfl rfl ?c1 ?c2 ?c3 ?c4 ?c5 ?_)
   case c1=>intro j u K;match j,K with | 0,K=>simp at K;subst K;simp[Addr.add,mD,World.cell?_alloc_here]
   case c2=>intro u hu;simp at hu;subst hu;rfl
   case c3=>unfold maxLen;omega
   case c4=>omega
   case c5=>simp;omega
   intro v' w3 f c _;obtain⟨ll,g,hv,D,E,M⟩:=Kt HW.out SX.out rfl rfl (P:=w.heap.size) (by omega) ⟨_,n1.length - 1,n2.length - 1⟩ (λ_=>by show n1.length - 1<n2.length;omega) (λ_=>by show n2.length - 1<n2.length;omega) Y.out f c;subst hv;have ne:∀ j,(⟨w.heap.size,j,none⟩:Addr)≠⟨F,0,none⟩:=λj e=>by have:=congrArg Addr.block e;simp at this;omega
   have k0:w3.cell? ⟨F,0,none⟩=some (.slice ao n2.length cap):=(M.cell (p:=⟨F,0,none⟩) (aCA _)).trans (by rw[aB8 _ _ _ _ (ne _),aB8 _ _ _ _ (ne _),aB8 _ _ _ _ (ne _),aB8 _ _ _ _ (ne _)];exact X);have g0:w3.frozen? ⟨F,0,none⟩=false:=(M.frozen (p:=⟨F,0,none⟩) (aCA _)).trans (by rw[aCm,aCm,aCm,aCm];exact f0);have HF:=hid D;have N:F<=w.heap.size:=by omega
   have B1:=hid (((((((((aB4 F w).alloc (by omega) _).trans eD).trans Gy).setCell (p:=⟨w.heap.size,0,none⟩) N _).setCell (p:=⟨w.heap.size,1,none⟩) N _).setCell (p:=⟨w.heap.size,2,none⟩) N _).setCell (p:=⟨w.heap.size,3,none⟩) N _).trans (M.mono (Nat.le_succ F)) |>.setCell (p:=⟨F,0,none⟩) (aB2 _) (.slice ll (n2.length+1) g));have K1:=hid ((((((((Kp.alloc F w _).trans Fe).trans Z9).set (P:=w.heap.size) (aCa (aB2 _)) 0 _).set (P:=w.heap.size) (aCa (aB2 _)) 1 _).set (P:=w.heap.size) (aCa (aB2 _)) 2 _).set (P:=w.heap.size) (aCa (aB2 _)) 3 _).trans E |>.set (P:=F) (aCb rfl) 0 (.slice ll (n2.length+1) g));clear D f c M E X f0 p0 p1 p2 p3 q ne;go_wp2
   go_ret3
   refine aCb ⟨_,_,l++(I++[w.heap.size]),w.heap.size,e2.out,rfl,?_,?_,?_,B1.out,K1.out⟩
   ·rw[<-List.append_assoc,<-List.append_assoc,<-fQ.out,<-y.out];exact HF.out
   ·rw[<-List.append_assoc,<-List.append_assoc,<-fQ.out,<-y.out];exact Gf B
   ·intro b hb;rcases aCG.1 hb with hb | hb
    ·have:=xX _ hb;simp at this;omega
    ·rcases aCG.1 hb with hb | hb
     ·have:=Ry _ hb;omega
     ·simp at hb;omega
theorem abn(k F:Nat)(s:ByteArray)(hs:s.size<=24)(a:Nat)(ns:List Nd)(bs:List Nat)(w:World)(hf:Fm w F ns bs)(ha:a<=s.size)(h1:bG (bt s a)=false)(h2:eF (bt s a)=false)(h3:¬ bt s a=40) :
  Calls Tryz.prog 72 #[.pointer (some ⟨F,0,none⟩),.string s,.int .i64 a] w (JF (ps (k+1) s a ns) F a bs w):=by
 have c:=hid (IU (k:=k) (ns:=ns) h1 h2 h3);have hF:=hf.uX;by_cases b:a<s.size
 ·have d:=iB b;rw[d]at h1 h2 h3;have e:(((s[a]'b).toNat:Int)==48)=false:=aCe.2 (λh=>by rw[show (s[a]'b).toNat=48 by omega]at h1;revert h1;decide);have f:(((s[a]'b).toNat:Int)==49)=false:=aCe.2 (λh=>by rw[show (s[a]'b).toNat=49 by omega]at h1;revert h1;decide);have g:(((s[a]'b).toNat:Int)==112)=false:=aCe.2 (λh=>by rw[show (s[a]'b).toNat=112 by omega]at h1;revert h1;decide);have i:(((s[a]'b).toNat:Int)==113)=false:=aCe.2 (λh=>by rw[show (s[a]'b).toNat=113 by omega]at h1;revert h1;decide);have j:(((s[a]'b).toNat:Int)==114)=false:=aCe.2 (λh=>by rw[show (s[a]'b).toNat=114 by omega]at h1;revert h1;decide);have l:(((s[a]'b).toNat:Int)==33)=false:=aCe.2 (λh=>by rw[show (s[a]'b).toNat=33 by omega]at h2;revert h2;decide);have m:(((s[a]'b).toNat:Int)==88)=false:=aCe.2 (λh=>by rw[show (s[a]'b).toNat=88 by omega]at h2;revert h2;decide);have n:(((s[a]'b).toNat:Int)==70)=false:=aCe.2 (λh=>by rw[show (s[a]'b).toNat=70 by omega]at h2;revert h2;decide);have o:(((s[a]'b).toNat:Int)==71)=false:=aCe.2 (λh=>by rw[show (s[a]'b).toNat=71 by omega]at h2;revert h2;decide);have p:(((s[a]'b).toNat:Int)==40)=false:=aCe.2 (by omega);clear h1 h2 h3 d;go_enter Tryz.func72,Tryz.ntmps72;go_wp2_with fail
  go_ret3
  exact aCa ⟨c.out,rfl,(aB4 F w).alloc (by omega) _⟩
 ·clear h1 h2 h3;go_enter Tryz.func72,Tryz.ntmps72;go_wp2_with fail
  go_ret3
  exact aCa ⟨c.out,rfl,aB4 F w⟩
theorem DF(F:Nat)(s:ByteArray)(hs:s.size<=24)(k:Nat):ry k F s:=by
 induction k with
 | zero=>intro x a ns b w o c e p d;omega
 | succ k ih=>
  intro x a ns b w o c e p d;subst o;by_cases j:bG (bt s a)=true
  ·exact WL k F s hs a ns b w c d j
  rw[Bool.not_eq_true]at j;by_cases l:eF (bt s a)=true
  ·exact Zl k F s hs ih a ns b w c e d l
  rw[Bool.not_eq_true]at l;by_cases f:bt s a=40
  ·cases e0:ps k s (a+1) ns with
   | none=>exact Lg k F s hs ih a ns b w c e d f e0
   | some y=>
    obtain⟨g,h⟩:=y;cases b4:bU (bt s g) with
    | false=>exact Lf k F s hs ih a ns b w c e d f g h e0 b4
    | true=>
     cases e3:ps k s (g+1) h with
     | none=>exact JZ k F s hs ih a ns b w c e d f g h e0 b4 e3
     | some y=>
      obtain⟨i,m⟩:=y;by_cases n:bt s i=41
      ·exact NE k F s hs ih a ns b w c e d f g i h m e0 b4 e3 n
      ·by_cases q:i<s.size
       ·exact Le k F s hs ih a ns b w c e d f g i h m e0 b4 e3 n q
       ·exact NG k F s hs ih a ns b w c e d f g i h m e0 b4 e3 n q
  ·exact abn k F s hs a ns b w c p j l f
def dF(s:ByteArray)(w:World)(e:Ending)(w':World):Prop:=
 Below w.heap.size w w' /\
 (((af s).1≠0/\e=.returned (.tuple #[.pointer none,.int .i64 (af s).1])) \/
 ((af s).1=0/\∃ bs,e=.returned (.tuple #[.pointer (some ⟨w.heap.size,0,none⟩),.int .i64 0])/\Fm w' w.heap.size (af s).2 bs))
theorem Vb(w:World):Fm (w.alloc (.cells #[.slice none 0 0] 126)) w.heap.size [] []:=
 ⟨⟨none,0,by simp,aCp _ _ _ _⟩,by simp,rfl,akt,by intro i n h;simp at h⟩
theorem Og(s:ByteArray)(w:World)(hm:s.size<=maxLen)(h:24<s.size):Calls Tryz.prog 35 #[.string s] w (dF s w):=by
 unfold maxLen at hm;have P:Hid (af s=(1,[])):=hid (by simp[af,h]);go_enter Tryz.func35,Tryz.ntmps35;go_wp2_with fail
 go_ret2
 unfold dF;rw[P.out];exact⟨aB4 _ _,aCa ⟨by decide,rfl⟩⟩
theorem Oe(s:ByteArray)(w:World)(h:¬ 24<s.size)(e0:ps 25 s 0 []=none):Calls Tryz.prog 35 #[.string s] w (dF s w):=by
 have C:=DF w.heap.size s (by omega) 25 0 0 [] [] _ (by omega) (Vb w) (by omega) (by omega) (by simp);have P:Hid (af s=(2,[])):=hid (by simp[af,h,e0]);have a:=hid e0;clear e0;go_enter Tryz.func35,Tryz.ntmps35;go_wp2_with fail;refine C.mono ?_;rintro e c (⟨_,rfl,b⟩ | ⟨d,f,_,_,h,_⟩)
 ·go_wp2_with fail
  go_ret2
  unfold dF;rw[P.out];exact⟨((aB4 _ _).alloc (aB2 _) _).trans b,aCa ⟨by decide,rfl⟩⟩
 ·rw[a.out]at h;cases h
theorem Od(s:ByteArray)(w:World)(h:¬ 24<s.size)(a:Nat)(ns:List Nd)(e0:ps 25 s 0 []=some (a,ns))(h1:¬ a=s.size):Calls Tryz.prog 35 #[.string s] w (dF s w):=by
 have C:=DF w.heap.size s (by omega) 25 0 0 [] [] _ (by omega) (Vb w) (by omega) (by omega) (by simp);have P:Hid (af s=(2,[])):=hid (by simp[af,h,e0,h1]);have g:=eY 25 s 0 [] a ns e0;have b:=hid e0;have f:((a:Int) !=(s.size:Int))=true:=by rw[bne_iff_ne];omega
 clear e0;go_enter Tryz.func35,Tryz.ntmps35;go_wp2_with fail;refine C.mono ?_;rintro e i (⟨h,_⟩ | ⟨j,k,c,L,h,rfl,l,m,n,d,o⟩)
 ·rw[b.out]at h;cases h
 rw[b.out]at h;simp only[aCC,aCP]at h;obtain⟨rfl,rfl⟩:=h;go_wp2_with fail
 go_ret2
 unfold dF;rw[P.out];exact⟨((aB4 _ _).alloc (aB2 _) _).trans d,aCa ⟨by decide,rfl⟩⟩
theorem Ml(s:ByteArray)(w:World)(h:¬ 24<s.size)(ns:List Nd)(e0:ps 25 s 0 []=some (s.size,ns)):Calls Tryz.prog 35 #[.string s] w (dF s w):=by
 have C:=DF w.heap.size s (by omega) 25 0 0 [] [] _ (by omega) (Vb w) (by omega) (by omega) (by simp);have g:=eY 25 s 0 [] s.size ns e0;have m:nP s s.size=ns.length:=by have:=Ls 25 s 0 [] s.size ns e0;simp[nP]at this;omega
 have v:Hid (8<ns.length->af s=(3,[])):=hid (λj=>by simp[af,h,e0,j]);have x:Hid (¬ 8<ns.length->af s=(0,ns)):=hid (λj=>by simp[af,h,e0,j]);have o:=hid e0;have p:=hid m;clear e0 m;go_enter Tryz.func35,Tryz.ntmps35;go_wp2_with fail;refine C.mono ?_;rintro e I (⟨h,_⟩ | ⟨J,K,y,L,h,rfl,q,z,A,r,B⟩)
 ·rw[o.out]at h;cases h
 rw[o.out]at h;simp only[aCC,aCP]at h;obtain⟨rfl,rfl⟩:=h;have t:=hid (((aB4 w.heap.size w).alloc (aB2 _) _).trans r);have D:=hid q;have E:ns.length<=24:=by simp at g;omega
 clear r q z A B C g;go_wp2_with fail
 go_loop [8,9] (λn i=>∃ k:Nat,k<=s.size/\i=.int .i64 k/\n=.int .i64 (nP s k)) (λ_ i=>s.size - (intOf i).toNat)
 case atStart=>exact⟨0,aCg _,rfl,rfl⟩
 case round=>
  obtain⟨k,M,rfl,rfl⟩:=hrel;have N:=agA s k;by_cases a:k<s.size
  ·have l:=iB a;by_cases c:bt s k=40
   ·have u:(((s[k]'a).toNat:Int) !=40)=false:=by rw[bne_eq_false_iff_eq];omega
    have d:=hid (I9 (s:=s) (k:=k) (aCa c));clear c l;go_wp2_with fail
    go_round
    case rel=>exact⟨k+1,by omega,by go_num,by rw[d.out]⟩
    case measure=>simp[intOf];omega
   by_cases b:bt s k=41
   ·have u:(((s[k]'a).toNat:Int) !=40)=true:=by rw[bne_iff_ne];omega
    have F:(((s[k]'a).toNat:Int) !=41)=false:=by rw[bne_eq_false_iff_eq];omega
    have d:=hid (I9 (s:=s) (k:=k) (aCb b));clear c b l;go_wp2_with fail
    go_round
    case rel=>exact⟨k+1,by omega,by go_num,by rw[d.out]⟩
    case measure=>simp[intOf];omega
   have u:(((s[k]'a).toNat:Int) !=40)=true:=by rw[bne_iff_ne];omega
   have F:(((s[k]'a).toNat:Int) !=41)=true:=by rw[bne_iff_ne];omega
   have d:=hid (Mx (s:=s) (k:=k) c b);clear c b l;go_wp2_with fail
   go_round
   case rel=>exact⟨k+1,by omega,by go_num,by rw[d.out];go_num⟩
   case measure=>simp[intOf];omega
  ·have G:k=s.size:=by omega
   subst G;by_cases f:8<ns.length
   ·have H:8<nP s s.size:=by rw[p.out];exact f
    go_wp2_with fail
    go_ret2
    unfold dF;rw[v.out f];exact⟨t.out,aCa ⟨by decide,rfl⟩⟩
   ·have H:¬ 8<nP s s.size:=by rw[p.out];exact f
    go_wp2_with fail
    go_ret2
    unfold dF;rw[x.out f];exact⟨t.out,aCb ⟨rfl,_,rfl,D.out⟩⟩
theorem fe(s:ByteArray)(w:World)(hm:s.size<=maxLen):Calls Tryz.prog 35 #[.string s] w (dF s w):=by
 by_cases h:24<s.size
 ·exact Og s w hm h
 cases e0:ps 25 s 0 [] with
 | none=>exact Oe s w h e0
 | some x=>
  obtain⟨a,ns⟩:=x;by_cases b:a=s.size
  ·subst b;exact Ml s w h ns e0
  ·exact Od s w h a ns e0 b
theorem abm(s:ByteArray)(w:World)(hm:s.size<=maxLen):Calls Tryz.prog 50 #[.string s] w λe w'=>e=.returned (.tuple #[.int .i64 (af s).2.length,.int .i64 (af s).1])/\Below w.heap.size w w':=by
 have c:(af s).1≠0->(af s).2=[]:=by
  unfold af
  split
  ·intro _;rfl
  ·split
   ·intro _;rfl
   ·split
    ·split
     ·intro _;rfl
     ·intro h;exact absurd rfl h
    ·intro _;rfl
 have i:=hid c;clear c;generalize d:af s=p at *;obtain⟨f,ns⟩:=p;have g:=hid d;clear d;by_cases a:f=0
 ·subst a;go_enter Tryz.func50,Tryz.ntmps50;go_wp2_with fail;refine(fe s _ hm).mono ?_;unfold dF;rw[g.out];rintro e j ⟨b,⟨h,_⟩ | ⟨_,l,rfl,k⟩⟩
  ·exact absurd rfl h
  obtain⟨m,cap,n,_⟩:=k.c0;go_wp2_with fail
  go_ret2
  exact⟨rfl,b⟩
 ·have o:((f:Int) !=0)=true:=by rw[bne_iff_ne];omega
  go_enter Tryz.func50,Tryz.ntmps50;go_wp2_with fail;refine(fe s _ hm).mono ?_;unfold dF;rw[g.out];rintro e j ⟨b,⟨_,rfl⟩ | ⟨h,_⟩⟩
  ·go_wp2_with fail
   go_ret2
   have this:ns=[]:=i.out a;subst this;exact⟨rfl,b⟩
  ·exact absurd h a
end Go.Proofs.YtjagijohfkffiabGreat
namespace Go.Proofs.YtjagijohfkffiabGreat.sizes
open Go.ChangeShapes Go.WideShapes Go.ChangeAt Go.RowKit
open Go.ChangeMaps (open_string shut_string)
set_option linter.unusedVariables false
theorem ab5(a0:ByteArray)(w0:a0.size<=maxLen)(w:World) :
  Calls Tryz.prog 23 #[.string a0] w λe w'=>e=.returned (.bool true)/\Below w.heap.size w w':=by
 go_enter Tryz.func23,Tryz.ntmps23;go_wp2_with fail;refine(aeN a0 _ w0).mono ?_;rintro e d ⟨rfl,a⟩;go_wp2_with fail;refine(abm a0 _ w0).mono ?_;rintro e f ⟨rfl,b⟩;have c:=a.size;go_wp2;go_ret;exact⟨rfl,a.trans (b.mono c)⟩
end Go.Proofs.YtjagijohfkffiabGreat.sizes
namespace Go.Proofs.YtjagijohfkffiabGreat
open Go.RowKit
set_option linter.unusedVariables false
def lh(x op:Nat):Bool:=if op=112 then x.testBit 0 else if op=113 then x.testBit 1 else x.testBit 2
theorem ae4:∀ x:Fin 8,((x.val:Int) % 2==1)=x.val.testBit 0/\((x.val:Int) / 2 % 2==1)=x.val.testBit 1/\((x.val:Int) / 4 % 2==1)=x.val.testBit 2:=by decide
theorem Dy(x op:Nat)(w:World)(hx:x<8)(ho:op=112\/op=113\/op=114):Calls Tryz.prog 127 #[.int .i64 x,.int .u8 op] w λe w'=>e=.returned (.bool (lh x op))/\w'=w:=by
 have F:=hid (ae4 ⟨x,hx⟩);rcases ho with rfl | rfl | rfl
 ·go_enter Tryz.func127,Tryz.ntmps127;go_wp2;go_ret;exact⟨tL F.out.1,rfl⟩
 ·go_enter Tryz.func127,Tryz.ntmps127;go_wp2;go_ret;exact⟨tL F.out.2.1,rfl⟩
 ·go_enter Tryz.func127,Tryz.ntmps127;go_wp2;go_ret;exact⟨tL F.out.2.2,rfl⟩
structure Rb (w:World) (g n:Nat) (f:Nat->Bool):Prop where
 lt:g<w.heap.size
 cell:∀ i,i<n->w.cell? ⟨g,i,none⟩=some (.bool (f i))
theorem Rb.below{w w':World}{g n:Nat}{f:Nat->Bool}(h:Rb w g n f)(hb:Below w.heap.size w w'):Rb w' g n f:=
 ⟨aCq h.lt hb.size,λi hi=>by rw[hb.cell (p:=⟨g,i,none⟩) h.lt];exact h.cell i hi⟩
def al(op:Nat)(L R:Nat->Bool)(nx:Nat->Nat):Nat->Nat->Bool
 | 0,_=>op==71||op==82
 | s+1,k=>
  if op=70 then (if L k then true else al op L R nx s (nx k))
  else if op=71 then (if L k then al op L R nx s (nx k) else false)
  else if op=85 then (if R k then true else if L k then al op L R nx s (nx k) else false)
  else (if R k then (if L k then true else al op L R nx s (nx k)) else false)
theorem akh(gl n i back:Nat)(ro:Value)(L R:Nat->Bool)(w:World)(hl:Rb w gl n L)(hi:i<n)(hb:back<n)(hn:n<=20000) :
  Calls Tryz.prog 145 #[.int .u8 70,.slice (some ⟨gl,0,none⟩) n n,ro,.int .i64 i,.int .i64 back] w λe w'=>e=.returned (.bool (al 70 L R (aU n back) (n+1) i))/\w'=w:=by
 obtain⟨V,f⟩:∃ V,V=al 70 L R (aU n back) (n+1) i:=⟨_,rfl⟩;rw[<-f];have l:=hid f;clear f;go_enter Tryz.func145,Tryz.ntmps145;go_wp2_with fail
 go_loop [11,12] (λk st=>∃ a b:Nat,a<n/\b<=n+1/\k=.int .i64 a/\st=.int .i64 b/\Hid (V=al 70 L R (aU n back) (n+1 - b) a)) (λ_ st=>n+1 - (intOf st).toNat)
 case atStart=>exact⟨i,0,hi,aCg _,rfl,rfl,l⟩
 case round=>
  obtain⟨a,b,m,r,rfl,rfl,g⟩:=hrel;by_cases o:b<=n
  ·have c:=hl.cell a m;cases hL:L a with
   | true=>
    have d:Hid (V=true):=hid (by rw[g.out,show n+1 - b=(n - b)+1 by omega];simp[al,hL]);rw[hL]at c;clear hL;go_wp2_with fail;go_ret;exact⟨by rw[d.out];rfl,rfl⟩
   | false=>
    have d:Hid (V=al 70 L R (aU n back) (n+1 - (b+1)) (aU n back a)):=hid (by rw[g.out,show n+1 - b=(n+1 - (b+1))+1 by omega];simp[al,hL]);rw[hL]at c;clear hL;by_cases j:a+1=n
    ·have h:Hid (aU n back a=back):=hid (by unfold aU;rw[aC1 (by omega)]);have p:((a:Int)+1==(n:Int))=true:=beq_iff_eq.2 (by omega);clear j;go_wp2_with fail
     go_round
     case rel=>exact⟨back,b+1,hb,by omega,by go_num,by go_num,hid (by rw[d.out,h.out])⟩
     case measure=>simp[intOf];omega
    ·have h:Hid (aU n back a=a+1):=hid (by unfold aU;rw[aC2 (by omega)]);have p:((a:Int)+1==(n:Int))=false:=aCe.2 (by omega);have q:a+1<n:=by omega
     clear j;go_wp2_with fail
     go_round
     case rel=>exact⟨a+1,b+1,q,by omega,by go_num,by go_num,hid (by rw[d.out,h.out])⟩
     case measure=>simp[intOf];omega
  ·have d:Hid (V=false):=hid (by rw[g.out,show n+1 - b=0 by omega];rfl);go_wp2_with fail;go_ret;exact⟨by rw[d.out];rfl,rfl⟩
theorem akg(gl n i back:Nat)(ro:Value)(L R:Nat->Bool)(w:World)(hl:Rb w gl n L)(hi:i<n)(hb:back<n)(hn:n<=20000) :
  Calls Tryz.prog 145 #[.int .u8 71,.slice (some ⟨gl,0,none⟩) n n,ro,.int .i64 i,.int .i64 back] w λe w'=>e=.returned (.bool (al 71 L R (aU n back) (n+1) i))/\w'=w:=by
 obtain⟨V,f⟩:∃ V,V=al 71 L R (aU n back) (n+1) i:=⟨_,rfl⟩;rw[<-f];have l:=hid f;clear f;go_enter Tryz.func145,Tryz.ntmps145;go_wp2_with fail
 go_loop [11,12] (λk st=>∃ a b:Nat,a<n/\b<=n+1/\k=.int .i64 a/\st=.int .i64 b/\Hid (V=al 71 L R (aU n back) (n+1 - b) a)) (λ_ st=>n+1 - (intOf st).toNat)
 case atStart=>exact⟨i,0,hi,aCg _,rfl,rfl,l⟩
 case round=>
  obtain⟨a,b,m,r,rfl,rfl,g⟩:=hrel;by_cases o:b<=n
  ·have c:=hl.cell a m;cases hL:L a with
   | true=>
    have d:Hid (V=al 71 L R (aU n back) (n+1 - (b+1)) (aU n back a)):=hid (by rw[g.out,show n+1 - b=(n+1 - (b+1))+1 by omega];simp[al,hL]);rw[hL]at c;clear hL;by_cases j:a+1=n
    ·have h:Hid (aU n back a=back):=hid (by unfold aU;rw[aC1 (by omega)]);have p:((a:Int)+1==(n:Int))=true:=beq_iff_eq.2 (by omega);clear j;go_wp2_with fail
     go_round
     case rel=>exact⟨back,b+1,hb,by omega,by go_num,by go_num,hid (by rw[d.out,h.out])⟩
     case measure=>simp[intOf];omega
    ·have h:Hid (aU n back a=a+1):=hid (by unfold aU;rw[aC2 (by omega)]);have p:((a:Int)+1==(n:Int))=false:=aCe.2 (by omega);have q:a+1<n:=by omega
     clear j;go_wp2_with fail
     go_round
     case rel=>exact⟨a+1,b+1,q,by omega,by go_num,by go_num,hid (by rw[d.out,h.out])⟩
     case measure=>simp[intOf];omega
   | false=>
    have d:Hid (V=false):=hid (by rw[g.out,show n+1 - b=(n - b)+1 by omega];simp[al,hL]);rw[hL]at c;clear hL;go_wp2_with fail;go_ret;exact⟨by rw[d.out];rfl,rfl⟩
  ·have d:Hid (V=true):=hid (by rw[g.out,show n+1 - b=0 by omega];rfl);go_wp2_with fail;go_ret;exact⟨by rw[d.out];rfl,rfl⟩
theorem ake(gl n i back:Nat)(gr:Nat)(L R:Nat->Bool)(w:World)(hl:Rb w gl n L)(hr:Rb w gr n R)(hi:i<n)(hb:back<n)(hn:n<=20000) :
  Calls Tryz.prog 145 #[.int .u8 85,.slice (some ⟨gl,0,none⟩) n n,.slice (some ⟨gr,0,none⟩) n n,.int .i64 i,.int .i64 back] w λe w'=>e=.returned (.bool (al 85 L R (aU n back) (n+1) i))/\w'=w:=by
 obtain⟨V,g⟩:∃ V,V=al 85 L R (aU n back) (n+1) i:=⟨_,rfl⟩;rw[<-g];have m:=hid g;clear g;go_enter Tryz.func145,Tryz.ntmps145;go_wp2_with fail
 go_loop [11,12] (λk st=>∃ a b:Nat,a<n/\b<=n+1/\k=.int .i64 a/\st=.int .i64 b/\Hid (V=al 85 L R (aU n back) (n+1 - b) a)) (λ_ st=>n+1 - (intOf st).toNat)
 case atStart=>exact⟨i,0,hi,aCg _,rfl,rfl,m⟩
 case round=>
  obtain⟨a,b,j,r,rfl,rfl,f⟩:=hrel;by_cases o:b<=n
  ·have c:=hl.cell a j;have c2:=hr.cell a j;cases hR:R a with
   | true=>
    have d:Hid (V=true):=hid (by rw[f.out,show n+1 - b=(n - b)+1 by omega];simp[al,hR]);rw[hR]at c2;clear hR;go_wp2_with fail;go_ret;exact⟨by rw[d.out];rfl,rfl⟩
   | false=>
    cases hL:L a with
    | true=>
     have d:Hid (V=al 85 L R (aU n back) (n+1 - (b+1)) (aU n back a)):=hid (by rw[f.out,show n+1 - b=(n+1 - (b+1))+1 by omega];simp[al,hR,hL]);rw[hR]at c2;rw[hL]at c;clear hR hL;by_cases l:a+1=n
     ·have h:Hid (aU n back a=back):=hid (by unfold aU;rw[aC1 (by omega)]);have p:((a:Int)+1==(n:Int))=true:=beq_iff_eq.2 (by omega);clear l;go_wp2_with fail
      go_round
      case rel=>exact⟨back,b+1,hb,by omega,by go_num,by go_num,hid (by rw[d.out,h.out])⟩
      case measure=>simp[intOf];omega
     ·have h:Hid (aU n back a=a+1):=hid (by unfold aU;rw[aC2 (by omega)]);have p:((a:Int)+1==(n:Int))=false:=aCe.2 (by omega);have q:a+1<n:=by omega
      clear l;go_wp2_with fail
      go_round
      case rel=>exact⟨a+1,b+1,q,by omega,by go_num,by go_num,hid (by rw[d.out,h.out])⟩
      case measure=>simp[intOf];omega
    | false=>
     have d:Hid (V=false):=hid (by rw[f.out,show n+1 - b=(n - b)+1 by omega];simp[al,hR,hL]);rw[hR]at c2;rw[hL]at c;clear hR hL;go_wp2_with fail;go_ret;exact⟨by rw[d.out];rfl,rfl⟩
  ·have d:Hid (V=false):=hid (by rw[f.out,show n+1 - b=0 by omega];rfl);go_wp2_with fail;go_ret;exact⟨by rw[d.out];rfl,rfl⟩
theorem akf(gl n i back:Nat)(gr:Nat)(L R:Nat->Bool)(w:World)(hl:Rb w gl n L)(hr:Rb w gr n R)(hi:i<n)(hb:back<n)(hn:n<=20000) :
  Calls Tryz.prog 145 #[.int .u8 82,.slice (some ⟨gl,0,none⟩) n n,.slice (some ⟨gr,0,none⟩) n n,.int .i64 i,.int .i64 back] w λe w'=>e=.returned (.bool (al 82 L R (aU n back) (n+1) i))/\w'=w:=by
 obtain⟨V,g⟩:∃ V,V=al 82 L R (aU n back) (n+1) i:=⟨_,rfl⟩;rw[<-g];have m:=hid g;clear g;go_enter Tryz.func145,Tryz.ntmps145;go_wp2_with fail
 go_loop [11,12] (λk st=>∃ a b:Nat,a<n/\b<=n+1/\k=.int .i64 a/\st=.int .i64 b/\Hid (V=al 82 L R (aU n back) (n+1 - b) a)) (λ_ st=>n+1 - (intOf st).toNat)
 case atStart=>exact⟨i,0,hi,aCg _,rfl,rfl,m⟩
 case round=>
  obtain⟨a,b,j,r,rfl,rfl,f⟩:=hrel;by_cases o:b<=n
  ·have c:=hl.cell a j;have c2:=hr.cell a j;cases hR:R a with
   | true=>
    cases hL:L a with
    | true=>
     have d:Hid (V=true):=hid (by rw[f.out,show n+1 - b=(n - b)+1 by omega];simp[al,hR,hL]);rw[hR]at c2;rw[hL]at c;clear hR hL;go_wp2_with fail;go_ret;exact⟨by rw[d.out];rfl,rfl⟩
    | false=>
     have d:Hid (V=al 82 L R (aU n back) (n+1 - (b+1)) (aU n back a)):=hid (by rw[f.out,show n+1 - b=(n+1 - (b+1))+1 by omega];simp[al,hR,hL]);rw[hR]at c2;rw[hL]at c;clear hR hL;by_cases l:a+1=n
     ·have h:Hid (aU n back a=back):=hid (by unfold aU;rw[aC1 (by omega)]);have p:((a:Int)+1==(n:Int))=true:=beq_iff_eq.2 (by omega);clear l;go_wp2_with fail
      go_round
      case rel=>exact⟨back,b+1,hb,by omega,by go_num,by go_num,hid (by rw[d.out,h.out])⟩
      case measure=>simp[intOf];omega
     ·have h:Hid (aU n back a=a+1):=hid (by unfold aU;rw[aC2 (by omega)]);have p:((a:Int)+1==(n:Int))=false:=aCe.2 (by omega);have q:a+1<n:=by omega
      clear l;go_wp2_with fail
      go_round
      case rel=>exact⟨a+1,b+1,q,by omega,by go_num,by go_num,hid (by rw[d.out,h.out])⟩
      case measure=>simp[intOf];omega
   | false=>
    have d:Hid (V=false):=hid (by rw[f.out,show n+1 - b=(n - b)+1 by omega];simp[al,hR]);rw[hR]at c2;clear hR;go_wp2_with fail;go_ret;exact⟨by rw[d.out];rfl,rfl⟩
  ·have d:Hid (V=true):=hid (by rw[f.out,show n+1 - b=0 by omega];rfl);go_wp2_with fail;go_ret;exact⟨by rw[d.out];rfl,rfl⟩
theorem atW{n back:Nat}(hb:back<n)(L R:Nat->Bool)(i:Nat)(hi:i<n):al 70 L R (aU n back) (n+1) i=true↔∃ s,L (it (aU n back) s i)=true:=by
 have a:∀ s k,al 70 L R (aU n back) s k=true↔∃ m,m<s/\L (it (aU n back) m k)=true:=by
  intro s
  induction s with
  | zero=>intro k;simp[al]
  | succ s ih=>
   intro k;simp only[al,if_true];cases hL:L k with
   | true=>simp;exact⟨0,by omega,hL⟩
   | false=>
    simp only[Bool.false_eq_true,if_false];rw[ih];constructor
    ·rintro ⟨m,b,h⟩;exact⟨m+1,by omega,h⟩
    ·rintro ⟨m,b,h⟩;cases m with
     | zero=>simp[it,hL]at h
     | succ m=>exact⟨m,by omega,h⟩
 rw[a];constructor
 ·rintro ⟨m,_,h⟩;exact⟨m,h⟩
 ·rintro ⟨m,h⟩;obtain⟨s,d,c,_⟩:=OC hb (A:=λ_=>True) (B:=λi=>L i=true) hi ⟨m,h,λ_ _=>trivial⟩;exact⟨s,by omega,c⟩
theorem atV{n back:Nat}(hb:back<n)(L R:Nat->Bool)(i:Nat)(hi:i<n):al 71 L R (aU n back) (n+1) i=true↔∀ s,L (it (aU n back) s i)=true:=by
 have a:∀ s k,al 71 L R (aU n back) s k=true↔∀ m,m<s->L (it (aU n back) m k)=true:=by
  intro s
  induction s with
  | zero=>intro k;simp[al]
  | succ s ih=>
   intro k;simp only[al,Nat.reduceEqDiff,if_false,if_true];cases hL:L k with
   | false=>simp;exact⟨0,by omega,hL⟩
   | true=>
    simp only[if_true];rw[ih];constructor
    ·intro h m b;cases m with
     | zero=>exact hL
     | succ m=>exact h m (by omega)
    ·intro h m b;exact h (m+1) (by omega)
 rw[a];constructor
 ·intro h s;refine aCx λc=>?_;obtain⟨s,e,d,_⟩:=OC hb (A:=λ_=>True) (B:=λi=>¬ L i=true) hi ⟨s,c,λ_ _=>trivial⟩;exact d (h s (by omega))
 ·intro h m _;exact h m
theorem amZ{n back:Nat}(hb:back<n)(L R:Nat->Bool)(i:Nat)(hi:i<n):al 85 L R (aU n back) (n+1) i=true↔∃ s,R (it (aU n back) s i)=true/\∀ m,m<s->L (it (aU n back) m i)=true:=by
 have c:∀ s k,al 85 L R (aU n back) s k=true↔∃ t,t<s/\R (it (aU n back) t k)=true/\∀ m,m<t->L (it (aU n back) m k)=true:=by
  intro s
  induction s with
  | zero=>intro k;simp[al]
  | succ s ih=>
   intro k;simp only[al,Nat.reduceEqDiff,if_false,if_true];cases hR:R k with
   | true=>simp only[if_true,true_iff];exact⟨0,by omega,hR,λm d=>by omega⟩
   | false=>
    simp only[Bool.false_eq_true,if_false];cases hL:L k with
    | false=>
     simp only[Bool.false_eq_true,if_false,false_iff];rintro ⟨t,_,a,b⟩;cases t with
     | zero=>simp[it,hR]at a
     | succ t=>have:=b 0 (by omega);simp[it,hL]at this
    | true=>
     simp only[if_true];rw[ih];constructor
     ·rintro ⟨t,e,a,b⟩;refine⟨t+1,by omega,a,λm d=>?_⟩;cases m with
      | zero=>exact hL
      | succ m=>exact b m (by omega)
     ·rintro ⟨t,e,a,b⟩;cases t with
      | zero=>simp[it,hR]at a
      | succ t=>exact⟨t,by omega,a,λm d=>b (m+1) (by omega)⟩
 rw[c];constructor
 ·rintro ⟨t,_,h⟩;exact⟨t,h⟩
 ·intro h;obtain⟨s,f,a,b⟩:=OC hb (A:=λi=>L i=true) (B:=λi=>R i=true) hi h;exact⟨s,by omega,a,b⟩
theorem atU{n back:Nat}(hb:back<n)(L R:Nat->Bool)(i:Nat)(hi:i<n):al 82 L R (aU n back) (n+1) i=true↔∀ s,R (it (aU n back) s i)=true\/∃ m,m<s/\L (it (aU n back) m i)=true:=by
 have b:∀ s k,al 82 L R (aU n back) s k=!al 85 (λi=>!L i) (λi=>!R i) (aU n back) s k:=by
  intro s
  induction s with
  | zero=>intro k;rfl
  | succ s ih=>
   intro k;simp only[al,Nat.reduceEqDiff,if_false,if_true];rw[ih (aU n back k)];generalize al 85 (λi=>!L i) (λi=>!R i) (aU n back) s (aU n back k)=v;by_cases c:R k=true <;> by_cases d:L k=true <;> simp[c,d]
 have f:=amZ hb (λi=>!L i) (λi=>!R i) i hi;rw[b];constructor
 ·intro h s;have a:¬ al 85 (λi=>!L i) (λi=>!R i) (aU n back) (n+1) i=true:=by simpa using h
  rw[f]at a;cases c:R (it (aU n back) s i) with
  | true=>exact aCa rfl
  | false=>
   refine aCb (aCx λg=>a ⟨s,by simp[c],λm e=>?_⟩);cases d:L (it (aU n back) m i) with
   | false=>rfl
   | true=>exact absurd ⟨m,e,d⟩ g
 ·intro h;cases hv:al 85 (λi=>!L i) (λi=>!R i) (aU n back) (n+1) i with
  | false=>rfl
  | true=>
   obtain⟨s,a,j⟩:=f.1 hv;rcases h s with h5 | ⟨m,e,h5⟩
   ·simp[h5]at a
   ·have:=j m e;simp[h5]at this
theorem Tryz.dY:(Tryz.prog.info? 4).map (λi=>(i.zero,i.size,i.bytes))=some (some (.bool false),1,1):=by kernel_rfl
def Parts(w:World)(ns:List Nd)(bs:List Nat):Prop:=∀ (i:Nat) (nd:Nd),ns[i]?=some nd->∃ b,bs[i]?=some b/\w.heap[b]?=some (bR bs i nd)
theorem Parts.below{w w':World}{ns:List Nd}{bs:List Nat}(h:Parts w ns bs)(hb:Below w.heap.size w w'):Parts w' ns bs:=λi nd hn=>by
 obtain⟨b,e,hh⟩:=h i nd hn;exact⟨b,e,by rw[hb.block b (dC hh)];exact hh⟩
structure Wd (w:World) (g n cap:Nat) (xs:List Nat):Prop where
 lt:g<w.heap.size
 cap:n<=cap
 cell:∀ i,i<n->w.cell? ⟨g,i,none⟩=some (.int .i64 (ltOf xs i:Nat))
theorem Wd.below{w w':World}{g n cap:Nat}{xs:List Nat}(h:Wd w g n cap xs)(hb:Below w.heap.size w w'):Wd w' g n cap xs:=
 ⟨aCq h.lt hb.size,h.cap,λi hi=>by rw[hb.cell (p:=⟨g,i,none⟩) h.lt];exact h.cell i hi⟩
def ax(f:Nat->Bool)(n j:Nat):List Value:=(List.range n).map λi=>.bool (if i<j then f i else false)
theorem dm(f:Nat->Bool)(n:Nat):ax f n 0=List.replicate n (.bool false):=by
 unfold ax;apply List.ext_getElem
 ·simp
 ·intro i a b;simp
theorem fJ(f:Nat->Bool)(n j:Nat):(ax f n j).set j (.bool (f j))=ax f n (j+1):=by
 unfold ax;apply List.ext_getElem
 ·simp
 ·intro i a b;simp at a;rw[List.getElem_set];by_cases e:j=i
  ·subst e;simp
  ·simp only[aC1 e,List.getElem_map,List.getElem_range];by_cases h:i<j
   ·rw[aC2 h,aC2 (by omega)]
   ·rw[aC1 h,aC1 (by omega)]
theorem kV(f:Nat->Bool)(n i:Nat)(hi:i<n):(ax f n n)[i]?=some (.bool (f i)):=by
 unfold ax;simp[hi]
theorem ib{a b c:World}{row:Option Nat}(h:a.grownBy b row)(k:b.grownBy c row):a.grownBy c row:=
 ⟨k.os.trans h.os,k.tape.trans h.tape,k.output.trans h.output,aCW h.size k.size,λq hq hr=>(k.block q (aCq hq h.size) hr).trans (h.block q hq hr)⟩
theorem Ej{a b:World}{row:Option Nat}(h:a.grownBy b row):a.grownBy b.drew row:=⟨h.os,h.tape,h.output,h.size,h.block⟩
theorem jL{a b:World}{g q o:Nat}(h:a.grownBy b (some g))(hq:q<a.heap.size)(hne:q≠g):b.cell? ⟨q,o,none⟩=a.cell? ⟨q,o,none⟩:=
 aCn (h.block q hq (by simpa using hne))
theorem Rb.grown{a b:World}{g q n:Nat}{f:Nat->Bool}(h:Rb a q n f)(hg:a.grownBy b (some g))(hne:q≠g):Rb b q n f:=
 ⟨aCq h.lt hg.size,λi hi=>by rw[jL hg h.lt hne];exact h.cell i hi⟩
theorem agz{nx lt:Nat->Nat}{nd:Nd}{r1 r2:List (Nat->Prop)}(hl:bG nd.op=false->r1.getD nd.l (λ_=>False)=r2.getD nd.l (λ_=>False))(hr:bU nd.op=true->r1.getD nd.r (λ_=>False)=r2.getD nd.r (λ_=>False))
  (hop:bG nd.op=true\/eF nd.op=true\/bU nd.op=true) (i:Nat):mH nx lt nd r1 i↔mH nx lt nd r2 i:=by
 unfold mH;rcases hop with hop | hop | hop
 ·rcases mZ hop with e | e | e | e | e <;> simp[e]
 ·have a:=hl (kW hop);rcases pQ hop with e | e | e | e <;> simp only[e,a,Nat.reduceEqDiff,if_false,if_true]
 ·have a:=hl (nS hop);have b:=hr hop;rcases lJ hop with e | e | e | e <;> simp only[e,a,b,Nat.reduceEqDiff,if_false,if_true]
theorem dZ{ns:List Nd}(h:iH ns){k:Nat}{nd:Nd}(hn:ns[k]?=some nd):(bG nd.op=true\/eF nd.op=true\/bU nd.op=true)/\(bG nd.op=false->nd.l<k)/\(bU nd.op=true->nd.r<k):=by
 rcases h k nd hn with⟨h1,_,_⟩ | ⟨h1,h2,_⟩ | ⟨h1,h2,h3⟩
 ·exact⟨aCa h1,λh=>by rw[h1]at h;simp at h,λh=>by rw[uZ h1]at h;simp at h⟩
 ·exact⟨aCb (aCa h1),λ_=>h2,λh=>by rw[l8 h1]at h;simp at h⟩
 ·exact⟨aCb (aCb h1),λ_=>h2,λ_=>h3⟩
theorem jy{nx lt:Nat->Nat}{ns:List Nd}{k:Nat}{nd:Nd}(hn:ns[k]?=some nd)(hw:iH ns)(i:Nat):d9 nx lt ns k i↔mH nx lt nd (rows nx lt ns) i:=by
 obtain⟨p,e⟩:=aB9.1 hn;obtain⟨f,g,m⟩:=dZ hw hn;have n:ns=(ns.take k++[nd])++ns.drop (k+1):=by
  rw[List.append_assoc,<-e];simp
 have a:(ns.take k).length=k:=by simp;omega
 have o:d9 nx lt ns k i=mH nx lt nd (rows nx lt (ns.take k)) i:=by
  have b:=Xw nx lt (ns.take k) nd i;rw[a]at b;rw[<-b]
  conv=>lhs;rw[n]
  exact Xv (by simp;omega) i
 have c:∀ l,l<k->(rows nx lt (ns.take k)).getD l (λ_=>False)=(rows nx lt ns).getD l (λ_=>False):=by
  intro l q;funext j;have d:d9 nx lt (ns.take k++ns.drop k) l j=d9 nx lt (ns.take k) l j:=Xv (by omega) j;rw[List.take_append_drop]at d;exact d.symm
 rw[o];exact agz (λh=>c _ (g h)) (λh=>c _ (m h)) f i
theorem aR{w:World}{P:Nat}{c0 c1 c2 c3:Value}(h:w.heap[P]?=some (.cells #[c0,c1,c2,c3] 204 (0,0))) :
  w.cell? ⟨P,0,none⟩=some c0/\w.cell? ⟨P,1,none⟩=some c1/\w.cell? ⟨P,2,none⟩=some c2/\w.cell? ⟨P,3,none⟩=some c3:=by
 refine⟨?_,?_,?_,?_⟩ <;> (rw[aCR w P _ _ _ _ h];rfl)
section
variable (ns:List Nd) (bs:List Nat) (gw n dG back:Nat) (xs:List Nat)
def kI(k:Nat)(w:World)(e:Ending)(w':World):Prop:=
 ∃ (g:Nat) (f:Nat->Bool),e=.returned (.slice (some ⟨g,0,none⟩) n n)/\(∀ i,i<n->(f i=true↔d9 (aU n back) (ltOf xs) ns k i))/\w.heap.size<=g/\Rb w' g n f/\Below w.heap.size w w'
def rO(k:Nat):Prop:=∀ (w:World) (b:Nat),Parts w ns bs->Wd w gw n dG xs->bs[k]?=some b ->
 Calls Tryz.prog 128 #[.pointer (some ⟨b,0,none⟩),.slice (some ⟨gw,0,none⟩) n dG,.int .i64 back] w (kI ns n back xs k w)
theorem kF{k:Nat}{w wS wr:World}{f:Nat->Bool}(hbS:Below w.heap.size w wS)(hg:wS.grownBy wr (some w.heap.size))(hsz:w.heap.size<wS.heap.size)
  (own:wr.ownsRow w.heap.size 4 1 (.slice (some ⟨w.heap.size,0,none⟩) n n) n (ax f n n)) (hf:∀ i,i<n->(f i=true↔d9 (aU n back) (ltOf xs) ns k i)) :
  kI ns n back xs k w (.returned (.slice (some ⟨w.heap.size,0,none⟩) n n)) wr:=by
 refine⟨w.heap.size,f,rfl,hf,aB2 _,⟨aCq hsz hg.size,λi a=>?_⟩,hbS.grown hg hbS.size (λk h=>by cases h;exact aB2 _)⟩;rw[own.cellAt i (by omega)];exact kV f n i a
end
