import Derived.Test.YtjagijohfkffiabGreatALLM06
set_option maxHeartbeats 16000000
set_option maxRecDepth 100000
set_option linter.unusedSimpArgs false
namespace Go.Proofs.YtjagijohfkffiabGreat
open Go.RowKit
set_option linter.unusedVariables false
section
variable (ns:List Nd) (bs:List Nat) (gw n dG back:Nat) (xs:List Nat)
theorem ao7(hw:iH ns)(gD:xs.length=n)(hb:back<n)(jH:n<=20000)(h8:∀ x∈xs,x<8)(k b:Nat)(nd:Nd)(hn:ns[k]?=some nd)(hop:nd.op=48)(w:World)(hp:Parts w ns bs)(dz:Wd w gw n dG xs)(hbk:bs[k]?=some b) :
  Calls Tryz.prog 128 #[.pointer (some ⟨b,0,none⟩),.slice (some ⟨gw,0,none⟩) n dG,.int .i64 back] w (kI ns n back xs k w):=by
 have s:w.heap[b]?=some (.cells #[.int .u8 (48:Nat),.pointer (none),.pointer (none),.int .i64 k] 204):=by
  obtain⟨X,e,K⟩:=hp k nd hn;rw[hbk]at e;cases e;rw[K];simp[bR,lV,lT,hop,bG,bU]
 have L:=dC s;have t:=dz.cap;have Y:=dz.lt;obtain⟨i0,u,M,N,O⟩:=info_parts Tryz.dY;go_enter Tryz.func128,Tryz.ntmps128;go_wp2_with (at_make;go_must (refine aCI _ rfl (.tmp 15) (.tmp 15) 132 rfl w.heap.size 4 i0 (.bool false) 1 Tryz.underlying132 u M N .i64 .i64 n n n rfl rfl rfl rfl ?m2 ?m3 (aB2 _) ?_))
 case m2=>rw[O];omega
 case m3=>unfold maxLen;omega
 intro c d v;have y:(madeCells #[Value.bool false] n).toList=List.replicate n (.bool false):=aCy _ _;rw[y]at d;have m:Below w.heap.size w c:=(aB4 _ _).grown v (aB2 _) (λk h=>by cases h);have p:w.heap.size<c.heap.size:=(d.lt _ rfl).2;have z:c.heap[b]?=some (.cells #[.int .u8 (48:Nat),.pointer (none),.pointer (none),.int .i64 k] 204):=by rw[m.block b L];exact s
 obtain⟨A,B,C,_⟩:=aR z;have P:=hid m;have Q:=hid d;clear d v y m;go_wp2_with fail;clear A B C;have D:=P;have E:=hid p;have R:=hid z;have S:=Q;have F:=hid (by intro i u;rw[jy hn hw];simp[mH,hop]:∀ i,i<n->((λ_=>false) i=true↔d9 (aU n back) (ltOf xs) ns k i));have Z:=hid (dz.below D.out);obtain⟨f,q⟩:∃ f:Nat->Bool,f=(λ_=>false):=⟨_,rfl⟩;rw[<-q]at F;have T:=hid q;clear q
 go_loopw [11] (λi wr=>∃ j:Nat,j<=n/\i=.int .i64 j/\wr.ownsRow w.heap.size 4 1 (.slice (some ⟨w.heap.size,0,none⟩) n n) n (ax f n j)/\c.grownBy wr (some w.heap.size)) (λi _=>n - (intOf i).toNat)
 case atStart=>exact⟨0,aCg _,rfl,by rw[dm];exact S.out,World.grownBy.refl _ _⟩
 case round=>
  obtain⟨j,hj,rfl,own,a⟩:=hrel;by_cases r:j<n
  ·have G:wr.heap[b]?=_:=(a.block b (by have:=E.out;omega) (by simp;omega)).trans R.out;obtain⟨A,B,C,_⟩:=aR G;have q0:=own.frozenAt j;have H:(wr.cell? ⟨w.heap.size,j,none⟩).isSome=true:=by
    rw[own.cellAt j (by omega)];simp[ax,r]
   obtain⟨qv,q2⟩:=aCL.1 H;have l:=own.stored j (.bool (f j));rw[fJ]at l;have U:=hid l.1;have V:=hid (ib a l.2);clear l H own;have I:Hid (f j=false):=hid (by rw[T.out]);clear a G;go_wp2_with fail;go_roundw
   case rel=>
    have o:=U.out;have g:=V.out;rw[I.out]at g;exact⟨j+1,by omega,by go_num,by rw[I.out]at o;exact o,g⟩
   case measure=>simp[intOf];omega
  ·have J:j=n:=by omega
   rw[J]at own;have W:=hid (kF ns n back xs (k:=k) D.out a E.out own F.out);clear own a J;go_wp2_with fail;go_ret;exact W.out
theorem ao5(hw:iH ns)(gD:xs.length=n)(hb:back<n)(jH:n<=20000)(h8:∀ x∈xs,x<8)(k b:Nat)(nd:Nd)(hn:ns[k]?=some nd)(hop:nd.op=49)(w:World)(hp:Parts w ns bs)(dz:Wd w gw n dG xs)(hbk:bs[k]?=some b) :
  Calls Tryz.prog 128 #[.pointer (some ⟨b,0,none⟩),.slice (some ⟨gw,0,none⟩) n dG,.int .i64 back] w (kI ns n back xs k w):=by
 have s:w.heap[b]?=some (.cells #[.int .u8 (49:Nat),.pointer (none),.pointer (none),.int .i64 k] 204):=by
  obtain⟨X,e,K⟩:=hp k nd hn;rw[hbk]at e;cases e;rw[K];simp[bR,lV,lT,hop,bG,bU]
 have L:=dC s;have t:=dz.cap;have Y:=dz.lt;obtain⟨i0,u,M,N,O⟩:=info_parts Tryz.dY;go_enter Tryz.func128,Tryz.ntmps128;go_wp2_with (at_make;go_must (refine aCI _ rfl (.tmp 15) (.tmp 15) 132 rfl w.heap.size 4 i0 (.bool false) 1 Tryz.underlying132 u M N .i64 .i64 n n n rfl rfl rfl rfl ?m2 ?m3 (aB2 _) ?_))
 case m2=>rw[O];omega
 case m3=>unfold maxLen;omega
 intro c d v;have y:(madeCells #[Value.bool false] n).toList=List.replicate n (.bool false):=aCy _ _;rw[y]at d;have m:Below w.heap.size w c:=(aB4 _ _).grown v (aB2 _) (λk h=>by cases h);have p:w.heap.size<c.heap.size:=(d.lt _ rfl).2;have z:c.heap[b]?=some (.cells #[.int .u8 (49:Nat),.pointer (none),.pointer (none),.int .i64 k] 204):=by rw[m.block b L];exact s
 obtain⟨A,B,C,_⟩:=aR z;have P:=hid m;have Q:=hid d;clear d v y m;go_wp2_with fail;clear A B C;have D:=P;have E:=hid p;have R:=hid z;have S:=Q;have F:=hid (by intro i u;rw[jy hn hw];simp[mH,hop]:∀ i,i<n->((λ_=>true) i=true↔d9 (aU n back) (ltOf xs) ns k i));have Z:=hid (dz.below D.out);obtain⟨f,q⟩:∃ f:Nat->Bool,f=(λ_=>true):=⟨_,rfl⟩;rw[<-q]at F;have T:=hid q;clear q
 go_loopw [11] (λi wr=>∃ j:Nat,j<=n/\i=.int .i64 j/\wr.ownsRow w.heap.size 4 1 (.slice (some ⟨w.heap.size,0,none⟩) n n) n (ax f n j)/\c.grownBy wr (some w.heap.size)) (λi _=>n - (intOf i).toNat)
 case atStart=>exact⟨0,aCg _,rfl,by rw[dm];exact S.out,World.grownBy.refl _ _⟩
 case round=>
  obtain⟨j,hj,rfl,own,a⟩:=hrel;by_cases r:j<n
  ·have G:wr.heap[b]?=_:=(a.block b (by have:=E.out;omega) (by simp;omega)).trans R.out;obtain⟨A,B,C,_⟩:=aR G;have q0:=own.frozenAt j;have H:(wr.cell? ⟨w.heap.size,j,none⟩).isSome=true:=by
    rw[own.cellAt j (by omega)];simp[ax,r]
   obtain⟨qv,q2⟩:=aCL.1 H;have l:=own.stored j (.bool (f j));rw[fJ]at l;have U:=hid l.1;have V:=hid (ib a l.2);clear l H own;have I:Hid (f j=true):=hid (by rw[T.out]);clear a G;go_wp2_with fail;go_roundw
   case rel=>
    have o:=U.out;have g:=V.out;rw[I.out]at g;exact⟨j+1,by omega,by go_num,by rw[I.out]at o;exact o,g⟩
   case measure=>simp[intOf];omega
  ·have J:j=n:=by omega
   rw[J]at own;have W:=hid (kF ns n back xs (k:=k) D.out a E.out own F.out);clear own a J;go_wp2_with fail;go_ret;exact W.out
theorem aoW(hw:iH ns)(gD:xs.length=n)(hb:back<n)(jH:n<=20000)(h8:∀ x∈xs,x<8)(k b:Nat)(nd:Nd)(hn:ns[k]?=some nd)(hop:nd.op=112)(w:World)(hp:Parts w ns bs)(dz:Wd w gw n dG xs)(hbk:bs[k]?=some b) :
  Calls Tryz.prog 128 #[.pointer (some ⟨b,0,none⟩),.slice (some ⟨gw,0,none⟩) n dG,.int .i64 back] w (kI ns n back xs k w):=by
 have t:w.heap[b]?=some (.cells #[.int .u8 (112:Nat),.pointer (none),.pointer (none),.int .i64 k] 204):=by
  obtain⟨b',e,M⟩:=hp k nd hn;rw[hbk]at e;cases e;rw[M];simp[bR,lV,lT,hop,bG,bU]
 have N:=dC t;have u:=dz.cap;have CK:=dz.lt;obtain⟨i0,v,O,P,Q⟩:=info_parts Tryz.dY;go_enter Tryz.func128,Tryz.ntmps128;go_wp2_with (at_make;go_must (refine aCI _ rfl (.tmp 15) (.tmp 15) 132 rfl w.heap.size 4 i0 (.bool false) 1 Tryz.underlying132 v O P .i64 .i64 n n n rfl rfl rfl rfl ?m2 ?m3 (aB2 _) ?_))
 case m2=>rw[Q];omega
 case m3=>unfold maxLen;omega
 intro l m y;have z:(madeCells #[Value.bool false] n).toList=List.replicate n (.bool false):=aCy _ _;rw[z]at m;have q:Below w.heap.size w l:=(aB4 _ _).grown y (aB2 _) (λk h=>by cases h);have r:w.heap.size<l.heap.size:=(m.lt _ rfl).2;have A:l.heap[b]?=some (.cells #[.int .u8 (112:Nat),.pointer (none),.pointer (none),.int .i64 k] 204):=by rw[q.block b N];exact t
 obtain⟨B,C,D,_⟩:=aR A;have R:=hid q;have S:=hid m;clear m y z q;go_wp2_with fail;clear B C D;have E:=R;have F:=hid r;have T:=hid A;have U:=S;have G:=hid (by intro i v;rw[jy hn hw];simp[mH,hop,lh]:∀ i,i<n->((λi=>lh (ltOf xs i) 112) i=true↔d9 (aU n back) (ltOf xs) ns k i));have H:=hid (dz.below E.out);obtain⟨f,s⟩:∃ f:Nat->Bool,f=(λi=>lh (ltOf xs i) 112):=⟨_,rfl⟩;rw[<-s]at G;have V:=hid s;clear s
 go_loopw [11] (λi wr=>∃ j:Nat,j<=n/\i=.int .i64 j/\wr.ownsRow w.heap.size 4 1 (.slice (some ⟨w.heap.size,0,none⟩) n n) n (ax f n j)/\l.grownBy wr (some w.heap.size)) (λi _=>n - (intOf i).toNat)
 case atStart=>exact⟨0,aCg _,rfl,by rw[dm];exact U.out,World.grownBy.refl _ _⟩
 case round=>
  obtain⟨j,hj,rfl,own,a⟩:=hrel;by_cases d:j<n
  ·have I:wr.heap[b]?=_:=(a.block b (by have:=F.out;omega) (by simp;omega)).trans T.out;obtain⟨B,C,D,_⟩:=aR I;have q0:=own.frozenAt j;have J:(wr.cell? ⟨w.heap.size,j,none⟩).isSome=true:=by
    rw[own.cellAt j (by omega)];simp[ax,d]
   obtain⟨qv,q2⟩:=aCL.1 J;have p:=own.stored j (.bool (f j));rw[fJ]at p;have W:=hid p.1;have X:=hid (ib a p.2);clear p J own;have K:Hid (f j=lh (ltOf xs j) 112):=hid (by rw[V.out]);have c:=(jL (o:=j) a H.out.lt (by omega)).trans (H.out.cell j d);have Y:ltOf xs j<8:=h8 _ (by simp[ltOf,List.getD,aB3 (show j<xs.length by omega)]);generalize ltOf xs j=x at *;clear a I;go_wp2_with fail
   go_region_with (go_at_call 127;refine(Dy x 112 _ Y (by omega)).mono ?_;rintro e w' ⟨rfl,rfl⟩)
   all_goals
    go_wp2_with fail;go_roundw
    case rel=>
     have o:=W.out;have g:=X.out;rw[K.out]at g;exact⟨j+1,by omega,by go_num,by rw[K.out]at o;exact o,Ej g⟩
    case measure=>simp[intOf];omega
  ·have L:j=n:=by omega
   rw[L]at own;have Z:=hid (kF ns n back xs (k:=k) E.out a F.out own G.out);clear own a L;go_wp2_with fail;go_ret;exact Z.out
theorem aoU(hw:iH ns)(gD:xs.length=n)(hb:back<n)(jH:n<=20000)(h8:∀ x∈xs,x<8)(k b:Nat)(nd:Nd)(hn:ns[k]?=some nd)(hop:nd.op=113)(w:World)(hp:Parts w ns bs)(dz:Wd w gw n dG xs)(hbk:bs[k]?=some b) :
  Calls Tryz.prog 128 #[.pointer (some ⟨b,0,none⟩),.slice (some ⟨gw,0,none⟩) n dG,.int .i64 back] w (kI ns n back xs k w):=by
 have t:w.heap[b]?=some (.cells #[.int .u8 (113:Nat),.pointer (none),.pointer (none),.int .i64 k] 204):=by
  obtain⟨b',e,M⟩:=hp k nd hn;rw[hbk]at e;cases e;rw[M];simp[bR,lV,lT,hop,bG,bU]
 have N:=dC t;have u:=dz.cap;have CK:=dz.lt;obtain⟨i0,v,O,P,Q⟩:=info_parts Tryz.dY;go_enter Tryz.func128,Tryz.ntmps128;go_wp2_with (at_make;go_must (refine aCI _ rfl (.tmp 15) (.tmp 15) 132 rfl w.heap.size 4 i0 (.bool false) 1 Tryz.underlying132 v O P .i64 .i64 n n n rfl rfl rfl rfl ?m2 ?m3 (aB2 _) ?_))
 case m2=>rw[Q];omega
 case m3=>unfold maxLen;omega
 intro l m y;have z:(madeCells #[Value.bool false] n).toList=List.replicate n (.bool false):=aCy _ _;rw[z]at m;have q:Below w.heap.size w l:=(aB4 _ _).grown y (aB2 _) (λk h=>by cases h);have r:w.heap.size<l.heap.size:=(m.lt _ rfl).2;have A:l.heap[b]?=some (.cells #[.int .u8 (113:Nat),.pointer (none),.pointer (none),.int .i64 k] 204):=by rw[q.block b N];exact t
 obtain⟨B,C,D,_⟩:=aR A;have R:=hid q;have S:=hid m;clear m y z q;go_wp2_with fail;clear B C D;have E:=R;have F:=hid r;have T:=hid A;have U:=S;have G:=hid (by intro i v;rw[jy hn hw];simp[mH,hop,lh]:∀ i,i<n->((λi=>lh (ltOf xs i) 113) i=true↔d9 (aU n back) (ltOf xs) ns k i));have H:=hid (dz.below E.out);obtain⟨f,s⟩:∃ f:Nat->Bool,f=(λi=>lh (ltOf xs i) 113):=⟨_,rfl⟩;rw[<-s]at G;have V:=hid s;clear s
 go_loopw [11] (λi wr=>∃ j:Nat,j<=n/\i=.int .i64 j/\wr.ownsRow w.heap.size 4 1 (.slice (some ⟨w.heap.size,0,none⟩) n n) n (ax f n j)/\l.grownBy wr (some w.heap.size)) (λi _=>n - (intOf i).toNat)
 case atStart=>exact⟨0,aCg _,rfl,by rw[dm];exact U.out,World.grownBy.refl _ _⟩
 case round=>
  obtain⟨j,hj,rfl,own,a⟩:=hrel;by_cases d:j<n
  ·have I:wr.heap[b]?=_:=(a.block b (by have:=F.out;omega) (by simp;omega)).trans T.out;obtain⟨B,C,D,_⟩:=aR I;have q0:=own.frozenAt j;have J:(wr.cell? ⟨w.heap.size,j,none⟩).isSome=true:=by
    rw[own.cellAt j (by omega)];simp[ax,d]
   obtain⟨qv,q2⟩:=aCL.1 J;have p:=own.stored j (.bool (f j));rw[fJ]at p;have W:=hid p.1;have X:=hid (ib a p.2);clear p J own;have K:Hid (f j=lh (ltOf xs j) 113):=hid (by rw[V.out]);have c:=(jL (o:=j) a H.out.lt (by omega)).trans (H.out.cell j d);have Y:ltOf xs j<8:=h8 _ (by simp[ltOf,List.getD,aB3 (show j<xs.length by omega)]);generalize ltOf xs j=x at *;clear a I;go_wp2_with fail
   go_region_with (go_at_call 127;refine(Dy x 113 _ Y (by omega)).mono ?_;rintro e w' ⟨rfl,rfl⟩)
   all_goals
    go_wp2_with fail;go_roundw
    case rel=>
     have o:=W.out;have g:=X.out;rw[K.out]at g;exact⟨j+1,by omega,by go_num,by rw[K.out]at o;exact o,Ej g⟩
    case measure=>simp[intOf];omega
  ·have L:j=n:=by omega
   rw[L]at own;have Z:=hid (kF ns n back xs (k:=k) E.out a F.out own G.out);clear own a L;go_wp2_with fail;go_ret;exact Z.out
theorem aoQ(hw:iH ns)(gD:xs.length=n)(hb:back<n)(jH:n<=20000)(h8:∀ x∈xs,x<8)(k b:Nat)(nd:Nd)(hn:ns[k]?=some nd)(hop:nd.op=114)(w:World)(hp:Parts w ns bs)(dz:Wd w gw n dG xs)(hbk:bs[k]?=some b) :
  Calls Tryz.prog 128 #[.pointer (some ⟨b,0,none⟩),.slice (some ⟨gw,0,none⟩) n dG,.int .i64 back] w (kI ns n back xs k w):=by
 have t:w.heap[b]?=some (.cells #[.int .u8 (114:Nat),.pointer (none),.pointer (none),.int .i64 k] 204):=by
  obtain⟨b',e,M⟩:=hp k nd hn;rw[hbk]at e;cases e;rw[M];simp[bR,lV,lT,hop,bG,bU]
 have N:=dC t;have u:=dz.cap;have CK:=dz.lt;obtain⟨i0,v,O,P,Q⟩:=info_parts Tryz.dY;go_enter Tryz.func128,Tryz.ntmps128;go_wp2_with (at_make;go_must (refine aCI _ rfl (.tmp 15) (.tmp 15) 132 rfl w.heap.size 4 i0 (.bool false) 1 Tryz.underlying132 v O P .i64 .i64 n n n rfl rfl rfl rfl ?m2 ?m3 (aB2 _) ?_))
 case m2=>rw[Q];omega
 case m3=>unfold maxLen;omega
 intro l m y;have z:(madeCells #[Value.bool false] n).toList=List.replicate n (.bool false):=aCy _ _;rw[z]at m;have q:Below w.heap.size w l:=(aB4 _ _).grown y (aB2 _) (λk h=>by cases h);have r:w.heap.size<l.heap.size:=(m.lt _ rfl).2;have A:l.heap[b]?=some (.cells #[.int .u8 (114:Nat),.pointer (none),.pointer (none),.int .i64 k] 204):=by rw[q.block b N];exact t
 obtain⟨B,C,D,_⟩:=aR A;have R:=hid q;have S:=hid m;clear m y z q;go_wp2_with fail;clear B C D;have E:=R;have F:=hid r;have T:=hid A;have U:=S;have G:=hid (by intro i v;rw[jy hn hw];simp[mH,hop,lh]:∀ i,i<n->((λi=>lh (ltOf xs i) 114) i=true↔d9 (aU n back) (ltOf xs) ns k i));have H:=hid (dz.below E.out);obtain⟨f,s⟩:∃ f:Nat->Bool,f=(λi=>lh (ltOf xs i) 114):=⟨_,rfl⟩;rw[<-s]at G;have V:=hid s;clear s
 go_loopw [11] (λi wr=>∃ j:Nat,j<=n/\i=.int .i64 j/\wr.ownsRow w.heap.size 4 1 (.slice (some ⟨w.heap.size,0,none⟩) n n) n (ax f n j)/\l.grownBy wr (some w.heap.size)) (λi _=>n - (intOf i).toNat)
 case atStart=>exact⟨0,aCg _,rfl,by rw[dm];exact U.out,World.grownBy.refl _ _⟩
 case round=>
  obtain⟨j,hj,rfl,own,a⟩:=hrel;by_cases d:j<n
  ·have I:wr.heap[b]?=_:=(a.block b (by have:=F.out;omega) (by simp;omega)).trans T.out;obtain⟨B,C,D,_⟩:=aR I;have q0:=own.frozenAt j;have J:(wr.cell? ⟨w.heap.size,j,none⟩).isSome=true:=by
    rw[own.cellAt j (by omega)];simp[ax,d]
   obtain⟨qv,q2⟩:=aCL.1 J;have p:=own.stored j (.bool (f j));rw[fJ]at p;have W:=hid p.1;have X:=hid (ib a p.2);clear p J own;have K:Hid (f j=lh (ltOf xs j) 114):=hid (by rw[V.out]);have c:=(jL (o:=j) a H.out.lt (by omega)).trans (H.out.cell j d);have Y:ltOf xs j<8:=h8 _ (by simp[ltOf,List.getD,aB3 (show j<xs.length by omega)]);generalize ltOf xs j=x at *;clear a I;go_wp2_with fail
   go_region_with (go_at_call 127;refine(Dy x 114 _ Y (by omega)).mono ?_;rintro e w' ⟨rfl,rfl⟩)
   all_goals
    go_wp2_with fail;go_roundw
    case rel=>
     have o:=W.out;have g:=X.out;rw[K.out]at g;exact⟨j+1,by omega,by go_num,by rw[K.out]at o;exact o,Ej g⟩
    case measure=>simp[intOf];omega
  ·have L:j=n:=by omega
   rw[L]at own;have Z:=hid (kF ns n back xs (k:=k) E.out a F.out own G.out);clear own a L;go_wp2_with fail;go_ret;exact Z.out
end
section
variable (ns:List Nd) (bs:List Nat) (gw n dG back:Nat) (xs:List Nat)
theorem ajk(hw:iH ns)(gD:xs.length=n)(hb:back<n)(jH:n<=20000)(h8:∀ x∈xs,x<8)(k b:Nat)(nd:Nd)(hn:ns[k]?=some nd)(hop:nd.op=33)(zS:rO ns bs gw n dG back xs nd.l)(w:World)(hp:Parts w ns bs)(dz:Wd w gw n dG xs)(hbk:bs[k]?=some b) :
  Calls Tryz.prog 128 #[.pointer (some ⟨b,0,none⟩),.slice (some ⟨gw,0,none⟩) n dG,.int .i64 back] w (kI ns n back xs k w):=by
 have z:w.heap[b]?=some (.cells #[.int .u8 (33:Nat),.pointer (some ⟨bs.getD nd.l 0,0,none⟩),.pointer (none),.int .i64 k] 204):=by
  obtain⟨b',e,V⟩:=hp k nd hn;rw[hbk]at e;cases e;rw[V];simp[bR,lV,lT,hop,bG,bU]
 have W:=dC z;have F:=dz.cap;have CK:=dz.lt;have X:nd.l<k:=(dZ hw hn).2.1 (by rw[hop];decide);have sJ:=(aB9.1 hn).1;obtain⟨d,G,Ur⟩:∃ d,bs[nd.l]?=some d/\w.heap[d]?=some (bR bs nd.l ns[nd.l]):=hp nd.l _ (aB3 (by omega));rw[show bs.getD nd.l 0=d by simp[List.getD,G]]at z;obtain⟨i0,A,Y,Z,aO⟩:=info_parts Tryz.dY;go_enter Tryz.func128,Tryz.ntmps128;go_wp2_with (at_make;go_must (refine aCI _ rfl (.tmp 15) (.tmp 15) 132 rfl w.heap.size 4 i0 (.bool false) 1 Tryz.underlying132 A Y Z .i64 .i64 n n n rfl rfl rfl rfl ?m2 ?m3 (aB2 _) ?_))
 case m2=>rw[aO];omega
 case m3=>unfold maxLen;omega
 intro B r H;have I:(madeCells #[Value.bool false] n).toList=List.replicate n (.bool false):=aCy _ _;rw[I]at r;have C:Below w.heap.size w B:=(aB4 _ _).grown H (aB2 _) (λk h=>by cases h);have hs1:w.heap.size<B.heap.size:=(r.lt _ rfl).2;have J:B.heap[b]?=some (.cells #[.int .u8 (33:Nat),.pointer (some ⟨d,0,none⟩),.pointer (none),.int .i64 k] 204):=by rw[C.block b W];exact z
 obtain⟨s,t,u,_⟩:=aR J;have v:=hid C;have K:=hid r;clear r H I C;go_wp2_with fail;refine(zS _ d (hp.below v.out) (dz.below v.out) G).mono ?_;rintro e D ⟨gl,fl,rfl,p,lL,L,a⟩;have kX:=a.size;have M:D.heap[b]?=_:=(a.block b (by omega)).trans J;clear s t u;obtain⟨s,t,u,_⟩:=aR M;have aM:=hid (v.out.trans (a.mono (by omega)));have O2:=hid (K.out.kept (row:=none) ⟨a.os,a.tape,a.output,a.size,λk hk _=>a.block k hk⟩ (aCb (by simp[Value.ownBlock])));have N:=hid L;have wD:=hid p;clear a K v L p;go_wp2_with fail;clear s t u;have O:=aM;have P:Hid (w.heap.size<D.heap.size):=hid (by omega);have oG:=hid M;have OS:=O2;have p:=wD.out;have Q:=hid (by intro i A;rw[jy hn hw];simp only[mH,hop,Nat.reduceEqDiff,if_false,if_true];have:=p i A;unfold d9 at this;rw[<-this];simp:∀ i,i<n->((λi=>!fl i) i=true↔d9 (aU n back) (ltOf xs) ns k i));clear p;have wC:=hid (dz.below O.out);obtain⟨f,E⟩:∃ f:Nat->Bool,f=(λi=>!fl i):=⟨_,rfl⟩;rw[<-E]at Q;have lg:=hid E;clear E
 go_loopw [11] (λi wr=>∃ j:Nat,j<=n/\i=.int .i64 j/\wr.ownsRow w.heap.size 4 1 (.slice (some ⟨w.heap.size,0,none⟩) n n) n (ax f n j)/\D.grownBy wr (some w.heap.size)) (λi _=>n - (intOf i).toNat)
 case atStart=>exact⟨0,aCg _,rfl,by rw[dm];exact OS.out,World.grownBy.refl _ _⟩
 case round=>
  obtain⟨j,hj,rfl,own,m⟩:=hrel;by_cases q:j<n
  ·have R:wr.heap[b]?=_:=(m.block b (by have:=P.out;omega) (by simp;omega)).trans oG.out;obtain⟨s,t,u,_⟩:=aR R;have q0:=own.frozenAt j;have S:(wr.cell? ⟨w.heap.size,j,none⟩).isSome=true:=by
    rw[own.cellAt j (by omega)];simp[ax,q]
   obtain⟨qv,q2⟩:=aCL.1 S;have y:=own.stored j (.bool (f j));rw[fJ]at y;have HO:=hid y.1;have HG:=hid (ib m y.2);clear y S own;have T:Hid (f j=!fl j):=hid (by rw[lg.out]);have c:=(jL (o:=j) m N.out.lt (by omega)).trans (N.out.cell j q);generalize fl j=x at *;clear m R;go_wp2_with fail;go_roundw
   case rel=>
    have o:=HO.out;have g:=HG.out;rw[T.out]at g;exact⟨j+1,by omega,by go_num,by rw[T.out]at o;exact o,g⟩
   case measure=>simp[intOf];omega
  ·have U:j=n:=by omega
   rw[U]at own;have RD:=hid (kF ns n back xs (k:=k) O.out m P.out own Q.out);clear own m U;go_wp2_with fail;go_ret;exact RD.out
theorem aoY(hw:iH ns)(gD:xs.length=n)(hb:back<n)(jH:n<=20000)(h8:∀ x∈xs,x<8)(k b:Nat)(nd:Nd)(hn:ns[k]?=some nd)(hop:nd.op=88)(zS:rO ns bs gw n dG back xs nd.l)(w:World)(hp:Parts w ns bs)(dz:Wd w gw n dG xs)(hbk:bs[k]?=some b) :
  Calls Tryz.prog 128 #[.pointer (some ⟨b,0,none⟩),.slice (some ⟨gw,0,none⟩) n dG,.int .i64 back] w (kI ns n back xs k w):=by
 have A:w.heap[b]?=some (.cells #[.int .u8 (88:Nat),.pointer (some ⟨bs.getD nd.l 0,0,none⟩),.pointer (none),.int .i64 k] 204):=by
  obtain⟨b',e,X⟩:=hp k nd hn;rw[hbk]at e;cases e;rw[X];simp[bR,lV,lT,hop,bG,bU]
 have Y:=dC A;have H:=dz.cap;have CK:=dz.lt;have Z:nd.l<k:=(dZ hw hn).2.1 (by rw[hop];decide);have sJ:=(aB9.1 hn).1;obtain⟨p,I,Ur⟩:∃ p,bs[nd.l]?=some p/\w.heap[p]?=some (bR bs nd.l ns[nd.l]):=hp nd.l _ (aB3 (by omega));rw[show bs.getD nd.l 0=p by simp[List.getD,I]]at A;obtain⟨i0,J,aT,aP,aO⟩:=info_parts Tryz.dY;go_enter Tryz.func128,Tryz.ntmps128;go_wp2_with (at_make;go_must (refine aCI _ rfl (.tmp 15) (.tmp 15) 132 rfl w.heap.size 4 i0 (.bool false) 1 Tryz.underlying132 J aT aP .i64 .i64 n n n rfl rfl rfl rfl ?m2 ?m3 (aB2 _) ?_))
 case m2=>rw[aO];omega
 case m3=>unfold maxLen;omega
 intro B r K;have L:(madeCells #[Value.bool false] n).toList=List.replicate n (.bool false):=aCy _ _;rw[L]at r;have C:Below w.heap.size w B:=(aB4 _ _).grown K (aB2 _) (λk h=>by cases h);have hs1:w.heap.size<B.heap.size:=(r.lt _ rfl).2;have M:B.heap[b]?=some (.cells #[.int .u8 (88:Nat),.pointer (some ⟨p,0,none⟩),.pointer (none),.int .i64 k] 204):=by rw[C.block b Y];exact A
 obtain⟨s,t,u,_⟩:=aR M;have v:=hid C;have N:=hid r;clear r K L C;go_wp2_with fail;refine(zS _ p (hp.below v.out) (dz.below v.out) I).mono ?_;rintro e D ⟨gl,d,rfl,q,lL,O,a⟩;have kX:=a.size;have P:D.heap[b]?=_:=(a.block b (by omega)).trans M;clear s t u;obtain⟨s,t,u,_⟩:=aR P;have aM:=hid (v.out.trans (a.mono (by omega)));have O2:=hid (N.out.kept (row:=none) ⟨a.os,a.tape,a.output,a.size,λk hk _=>a.block k hk⟩ (aCb (by simp[Value.ownBlock])));have y:=hid O;have wD:=hid q;clear a N v O q;go_wp2_with fail;clear s t u;have Q:=aM;have R:Hid (w.heap.size<D.heap.size):=hid (by omega);have oG:=hid P;have OS:=O2;have q:=wD.out;have S:=hid (by intro i J;rw[jy hn hw];simp only[mH,hop,Nat.reduceEqDiff,if_false,if_true];exact q _ (Tw hb):∀ i,i<n->((λi=>d (aU n back i)) i=true↔d9 (aU n back) (ltOf xs) ns k i));clear q;have wC:=hid (dz.below Q.out);obtain⟨f,E⟩:∃ f:Nat->Bool,f=(λi=>d (aU n back i)):=⟨_,rfl⟩;rw[<-E]at S;have T:=hid E;clear E
 go_loopw [11] (λi wr=>∃ j:Nat,j<=n/\i=.int .i64 j/\wr.ownsRow w.heap.size 4 1 (.slice (some ⟨w.heap.size,0,none⟩) n n) n (ax f n j)/\D.grownBy wr (some w.heap.size)) (λi _=>n - (intOf i).toNat)
 case atStart=>exact⟨0,aCg _,rfl,by rw[dm];exact OS.out,World.grownBy.refl _ _⟩
 case round=>
  obtain⟨j,hj,rfl,own,m⟩:=hrel;by_cases F:j<n
  ·have U:wr.heap[b]?=_:=(m.block b (by have:=R.out;omega) (by simp;omega)).trans oG.out;obtain⟨s,t,u,_⟩:=aR U;have q0:=own.frozenAt j;have V:(wr.cell? ⟨w.heap.size,j,none⟩).isSome=true:=by
    rw[own.cellAt j (by omega)];simp[ax,F]
   obtain⟨qv,q2⟩:=aCL.1 V;have z:=own.stored j (.bool (f j));rw[fJ]at z;have HO:=hid z.1;have HG:=hid (ib m z.2);clear z V own;clear U;by_cases he:j+1=n
   focus
    have G:Hid (f j=d back):=hid (by rw[T.out];show d (aU n back j)=_;unfold aU;rw[aC1 (by omega)]);have c:=(jL (o:=back) m y.out.lt (by omega)).trans (y.out.cell back hb);have ke:((j:Int)+1==(n:Int))=true:=beq_iff_eq.2 (by omega);generalize d back=x at *
   rotate_left
   focus
    have G:Hid (f j=d (j+1)):=hid (by rw[T.out];show d (aU n back j)=_;unfold aU;rw[aC2 (by omega)]);have c:=(jL (o:=j+1) m y.out.lt (by omega)).trans (y.out.cell (j+1) (by omega));have ke:((j:Int)+1==(n:Int))=false:=aCe.2 (by omega);generalize d (j+1)=x at *;have Qb:j+1<n:=by omega
   all_goals
    clear m he;go_wp2_with fail;go_roundw
    case rel=>
     have o:=HO.out;have g:=HG.out;rw[G.out]at g;exact⟨j+1,by omega,by go_num,by rw[G.out]at o;exact o,g⟩
    case measure=>simp[intOf];omega
  ·have W:j=n:=by omega
   rw[W]at own;have RD:=hid (kF ns n back xs (k:=k) Q.out m R.out own S.out);clear own m W;go_wp2_with fail;go_ret;exact RD.out
theorem ao4(hw:iH ns)(gD:xs.length=n)(hb:back<n)(jH:n<=20000)(h8:∀ x∈xs,x<8)(k b:Nat)(nd:Nd)(hn:ns[k]?=some nd)(hop:nd.op=70)(zS:rO ns bs gw n dG back xs nd.l)(w:World)(hp:Parts w ns bs)(dz:Wd w gw n dG xs)(hbk:bs[k]?=some b) :
  Calls Tryz.prog 128 #[.pointer (some ⟨b,0,none⟩),.slice (some ⟨gw,0,none⟩) n dG,.int .i64 back] w (kI ns n back xs k w):=by
 have B:w.heap[b]?=some (.cells #[.int .u8 (70:Nat),.pointer (some ⟨bs.getD nd.l 0,0,none⟩),.pointer (none),.int .i64 k] 204):=by
  obtain⟨b',e,W⟩:=hp k nd hn;rw[hbk]at e;cases e;rw[W];simp[bR,lV,lT,hop,bG,bU]
 have X:=dC B;have G:=dz.cap;have CK:=dz.lt;have Y:nd.l<k:=(dZ hw hn).2.1 (by rw[hop];decide);have sJ:=(aB9.1 hn).1;obtain⟨d,H,Ur⟩:∃ d,bs[nd.l]?=some d/\w.heap[d]?=some (bR bs nd.l ns[nd.l]):=hp nd.l _ (aB3 (by omega));rw[show bs.getD nd.l 0=d by simp[List.getD,H]]at B;obtain⟨i0,r,Z,aP,aO⟩:=info_parts Tryz.dY;go_enter Tryz.func128,Tryz.ntmps128;go_wp2_with (at_make;go_must (refine aCI _ rfl (.tmp 15) (.tmp 15) 132 rfl w.heap.size 4 i0 (.bool false) 1 Tryz.underlying132 r Z aP .i64 .i64 n n n rfl rfl rfl rfl ?m2 ?m3 (aB2 _) ?_))
 case m2=>rw[aO];omega
 case m3=>unfold maxLen;omega
 intro C t I;have J:(madeCells #[Value.bool false] n).toList=List.replicate n (.bool false):=aCy _ _;rw[J]at t;have D:Below w.heap.size w C:=(aB4 _ _).grown I (aB2 _) (λk h=>by cases h);have hs1:w.heap.size<C.heap.size:=(t.lt _ rfl).2;have K:C.heap[b]?=some (.cells #[.int .u8 (70:Nat),.pointer (some ⟨d,0,none⟩),.pointer (none),.int .i64 k] 204):=by rw[D.block b X];exact B
 obtain⟨u,v,y,_⟩:=aR K;have z:=hid D;have L:=hid t;clear t I J D;go_wp2_with fail;refine(zS _ d (hp.below z.out) (dz.below z.out) H).mono ?_;rintro e E ⟨gl,a,rfl,p,lL,M,c⟩;have kX:=c.size;have N:E.heap[b]?=_:=(c.block b (by omega)).trans K;clear u v y;obtain⟨u,v,y,_⟩:=aR N;have aM:=hid (z.out.trans (c.mono (by omega)));have O2:=hid (L.out.kept (row:=none) ⟨c.os,c.tape,c.output,c.size,λk hk _=>c.block k hk⟩ (aCb (by simp[Value.ownBlock])));have oF:=hid M;have wD:=hid p;clear c L z M p;go_wp2_with fail;clear u v y;have O:=aM;have P:Hid (w.heap.size<E.heap.size):=hid (by omega);have oG:=hid N;have OS:=O2;have p:=wD.out;have Q:=hid (by intro i r;rw[jy hn hw,atW hb _ _ i r];simp only[mH,hop,Nat.reduceEqDiff,if_false,if_true];exact exists_congr λs=>p _ (lW hb s i r):∀ i,i<n->((λi=>al 70 a a (aU n back) (n+1) i) i=true↔d9 (aU n back) (ltOf xs) ns k i));clear p;have wC:=hid (dz.below O.out);obtain⟨f,F⟩:∃ f:Nat->Bool,f=(λi=>al 70 a a (aU n back) (n+1) i):=⟨_,rfl⟩;rw[<-F]at Q;have lg:=hid F;clear F
 go_loopw [11] (λi wr=>∃ j:Nat,j<=n/\i=.int .i64 j/\wr.ownsRow w.heap.size 4 1 (.slice (some ⟨w.heap.size,0,none⟩) n n) n (ax f n j)/\E.grownBy wr (some w.heap.size)) (λi _=>n - (intOf i).toNat)
 case atStart=>exact⟨0,aCg _,rfl,by rw[dm];exact OS.out,World.grownBy.refl _ _⟩
 case round=>
  obtain⟨j,hj,rfl,own,m⟩:=hrel;by_cases q:j<n
  ·have R:wr.heap[b]?=_:=(m.block b (by have:=P.out;omega) (by simp;omega)).trans oG.out;obtain⟨u,v,y,_⟩:=aR R;have q0:=own.frozenAt j;have S:(wr.cell? ⟨w.heap.size,j,none⟩).isSome=true:=by
    rw[own.cellAt j (by omega)];simp[ax,q]
   obtain⟨qv,q2⟩:=aCL.1 S;have A:=own.stored j (.bool (f j));rw[fJ]at A;have HO:=hid A.1;have HG:=hid (ib m A.2);clear A S own;have T:Hid (f j=al 70 a a (aU n back) (n+1) j):=hid (by rw[lg.out]);have RL:=oF.out.grown m (by omega);have U:=akh gl n j back (.slice none 0 0) a a _ RL q hb jH;generalize al 70 a a (aU n back) (n+1) j=x at *;clear m R;go_wp2_with fail;refine U.mono ?_;rintro e w' ⟨rfl,rfl⟩;clear U;go_wp2_with fail;go_roundw
   case rel=>
    have o:=HO.out;have g:=HG.out;rw[T.out]at g;exact⟨j+1,by omega,by go_num,by rw[T.out]at o;exact o,g⟩
   case measure=>simp[intOf];omega
  ·have V:j=n:=by omega
   rw[V]at own;have RD:=hid (kF ns n back xs (k:=k) O.out m P.out own Q.out);clear own m V;go_wp2_with fail;go_ret;exact RD.out
theorem ao3(hw:iH ns)(gD:xs.length=n)(hb:back<n)(jH:n<=20000)(h8:∀ x∈xs,x<8)(k b:Nat)(nd:Nd)(hn:ns[k]?=some nd)(hop:nd.op=71)(zS:rO ns bs gw n dG back xs nd.l)(w:World)(hp:Parts w ns bs)(dz:Wd w gw n dG xs)(hbk:bs[k]?=some b) :
  Calls Tryz.prog 128 #[.pointer (some ⟨b,0,none⟩),.slice (some ⟨gw,0,none⟩) n dG,.int .i64 back] w (kI ns n back xs k w):=by
 have B:w.heap[b]?=some (.cells #[.int .u8 (71:Nat),.pointer (some ⟨bs.getD nd.l 0,0,none⟩),.pointer (none),.int .i64 k] 204):=by
  obtain⟨b',e,W⟩:=hp k nd hn;rw[hbk]at e;cases e;rw[W];simp[bR,lV,lT,hop,bG,bU]
 have X:=dC B;have G:=dz.cap;have CK:=dz.lt;have Y:nd.l<k:=(dZ hw hn).2.1 (by rw[hop];decide);have sJ:=(aB9.1 hn).1;obtain⟨d,H,Ur⟩:∃ d,bs[nd.l]?=some d/\w.heap[d]?=some (bR bs nd.l ns[nd.l]):=hp nd.l _ (aB3 (by omega));rw[show bs.getD nd.l 0=d by simp[List.getD,H]]at B;obtain⟨i0,r,Z,aP,aO⟩:=info_parts Tryz.dY;go_enter Tryz.func128,Tryz.ntmps128;go_wp2_with (at_make;go_must (refine aCI _ rfl (.tmp 15) (.tmp 15) 132 rfl w.heap.size 4 i0 (.bool false) 1 Tryz.underlying132 r Z aP .i64 .i64 n n n rfl rfl rfl rfl ?m2 ?m3 (aB2 _) ?_))
 case m2=>rw[aO];omega
 case m3=>unfold maxLen;omega
 intro C t I;have J:(madeCells #[Value.bool false] n).toList=List.replicate n (.bool false):=aCy _ _;rw[J]at t;have D:Below w.heap.size w C:=(aB4 _ _).grown I (aB2 _) (λk h=>by cases h);have hs1:w.heap.size<C.heap.size:=(t.lt _ rfl).2;have K:C.heap[b]?=some (.cells #[.int .u8 (71:Nat),.pointer (some ⟨d,0,none⟩),.pointer (none),.int .i64 k] 204):=by rw[D.block b X];exact B
 obtain⟨u,v,y,_⟩:=aR K;have z:=hid D;have L:=hid t;clear t I J D;go_wp2_with fail;refine(zS _ d (hp.below z.out) (dz.below z.out) H).mono ?_;rintro e E ⟨gl,a,rfl,p,lL,M,c⟩;have kX:=c.size;have N:E.heap[b]?=_:=(c.block b (by omega)).trans K;clear u v y;obtain⟨u,v,y,_⟩:=aR N;have aM:=hid (z.out.trans (c.mono (by omega)));have O2:=hid (L.out.kept (row:=none) ⟨c.os,c.tape,c.output,c.size,λk hk _=>c.block k hk⟩ (aCb (by simp[Value.ownBlock])));have oF:=hid M;have wD:=hid p;clear c L z M p;go_wp2_with fail;clear u v y;have O:=aM;have P:Hid (w.heap.size<E.heap.size):=hid (by omega);have oG:=hid N;have OS:=O2;have p:=wD.out;have Q:=hid (by intro i r;rw[jy hn hw,atV hb _ _ i r];simp only[mH,hop,Nat.reduceEqDiff,if_false,if_true];exact forall_congr' λs=>p _ (lW hb s i r):∀ i,i<n->((λi=>al 71 a a (aU n back) (n+1) i) i=true↔d9 (aU n back) (ltOf xs) ns k i));clear p;have wC:=hid (dz.below O.out);obtain⟨f,F⟩:∃ f:Nat->Bool,f=(λi=>al 71 a a (aU n back) (n+1) i):=⟨_,rfl⟩;rw[<-F]at Q;have lg:=hid F;clear F
 go_loopw [11] (λi wr=>∃ j:Nat,j<=n/\i=.int .i64 j/\wr.ownsRow w.heap.size 4 1 (.slice (some ⟨w.heap.size,0,none⟩) n n) n (ax f n j)/\E.grownBy wr (some w.heap.size)) (λi _=>n - (intOf i).toNat)
 case atStart=>exact⟨0,aCg _,rfl,by rw[dm];exact OS.out,World.grownBy.refl _ _⟩
 case round=>
  obtain⟨j,hj,rfl,own,m⟩:=hrel;by_cases q:j<n
  ·have R:wr.heap[b]?=_:=(m.block b (by have:=P.out;omega) (by simp;omega)).trans oG.out;obtain⟨u,v,y,_⟩:=aR R;have q0:=own.frozenAt j;have S:(wr.cell? ⟨w.heap.size,j,none⟩).isSome=true:=by
    rw[own.cellAt j (by omega)];simp[ax,q]
   obtain⟨qv,q2⟩:=aCL.1 S;have A:=own.stored j (.bool (f j));rw[fJ]at A;have HO:=hid A.1;have HG:=hid (ib m A.2);clear A S own;have T:Hid (f j=al 71 a a (aU n back) (n+1) j):=hid (by rw[lg.out]);have RL:=oF.out.grown m (by omega);have U:=akg gl n j back (.slice none 0 0) a a _ RL q hb jH;generalize al 71 a a (aU n back) (n+1) j=x at *;clear m R;go_wp2_with fail;refine U.mono ?_;rintro e w' ⟨rfl,rfl⟩;clear U;go_wp2_with fail;go_roundw
   case rel=>
    have o:=HO.out;have g:=HG.out;rw[T.out]at g;exact⟨j+1,by omega,by go_num,by rw[T.out]at o;exact o,g⟩
   case measure=>simp[intOf];omega
  ·have V:j=n:=by omega
   rw[V]at own;have RD:=hid (kF ns n back xs (k:=k) O.out m P.out own Q.out);clear own m V;go_wp2_with fail;go_ret;exact RD.out
end
section
variable (ns:List Nd) (bs:List Nat) (gw n dG back:Nat) (xs:List Nat)
theorem ajl(hw:iH ns)(gD:xs.length=n)(hb:back<n)(jH:n<=20000)(h8:∀ x∈xs,x<8)(k b:Nat)(nd:Nd)(hn:ns[k]?=some nd)(hop:nd.op=38)(zS:rO ns bs gw n dG back xs nd.l)(TP:rO ns bs gw n dG back xs nd.r)(w:World)(hp:Parts w ns bs)(dz:Wd w gw n dG xs)(hbk:bs[k]?=some b) :
  Calls Tryz.prog 128 #[.pointer (some ⟨b,0,none⟩),.slice (some ⟨gw,0,none⟩) n dG,.int .i64 back] w (kI ns n back xs k w):=by
 have A:w.heap[b]?=some (.cells #[.int .u8 (38:Nat),.pointer (some ⟨bs.getD nd.l 0,0,none⟩),.pointer (some ⟨bs.getD nd.r 0,0,none⟩),.int .i64 k] 204):=by
  obtain⟨b',e,hh⟩:=hp k nd hn;rw[hbk]at e;cases e;rw[hh];simp[bR,lV,lT,hop,bG,bU]
 have fI:=dC A;have N:=dz.cap;have CK:=dz.lt;have hlk:nd.l<k:=(dZ hw hn).2.1 (by rw[hop];decide);have sJ:=(aB9.1 hn).1;obtain⟨q,O,Ur⟩:∃ q,bs[nd.l]?=some q/\w.heap[q]?=some (bR bs nd.l ns[nd.l]):=hp nd.l _ (aB3 (by omega));rw[show bs.getD nd.l 0=q by simp[List.getD,O]]at A;have hrk:nd.r<k:=(dZ hw hn).2.2 (by rw[hop];decide);obtain⟨s,P,hhr⟩:∃ s,bs[nd.r]?=some s/\w.heap[s]?=some (bR bs nd.r ns[nd.r]):=hp nd.r _ (aB3 (by omega));rw[show bs.getD nd.r 0=s by simp[List.getD,P]]at A;obtain⟨i0,B,aT,aP,aO⟩:=info_parts Tryz.dY;go_enter Tryz.func128,Tryz.ntmps128;go_wp2_with (at_make;go_must (refine aCI _ rfl (.tmp 15) (.tmp 15) 132 rfl w.heap.size 4 i0 (.bool false) 1 Tryz.underlying132 B aT aP .i64 .i64 n n n rfl rfl rfl rfl ?m2 ?m3 (aB2 _) ?_))
 case m2=>rw[aO];omega
 case m3=>unfold maxLen;omega
 intro G C Q;have R:(madeCells #[Value.bool false] n).toList=List.replicate n (.bool false):=aCy _ _;rw[R]at C;have H:Below w.heap.size w G:=(aB4 _ _).grown Q (aB2 _) (λk h=>by cases h);have hs1:w.heap.size<G.heap.size:=(C.lt _ rfl).2;have S:G.heap[b]?=some (.cells #[.int .u8 (38:Nat),.pointer (some ⟨q,0,none⟩),.pointer (some ⟨s,0,none⟩),.int .i64 k] 204):=by rw[H.block b fI];exact A
 obtain⟨t,u,v,_⟩:=aR S;have D:=hid H;have T:=hid C;clear C Q R H;go_wp2_with fail;refine(zS _ q (hp.below D.out) (dz.below D.out) O).mono ?_;rintro e w2 ⟨gl,I,rfl,z,lL,U,d⟩;have kX:=d.size;have V:w2.heap[b]?=_:=(d.block b (by omega)).trans S;clear t u v;obtain⟨t,u,v,_⟩:=aR V;have E:=hid (D.out.trans (d.mono (by omega)));have W:=hid (T.out.kept (row:=none) ⟨d.os,d.tape,d.output,d.size,λk J _=>d.block k J⟩ (aCb (by simp[Value.ownBlock])));have K:=hid U;have wD:=hid z;clear d T D U z;go_wp2_with fail;refine(TP _ s (hp.below E.out) (dz.below E.out) P).mono ?_;rintro e L ⟨gr,fr,rfl,X,hgr,Y,a⟩;have qQ:=a.size;have Z:L.heap[b]?=_:=(a.block b (by omega)).trans V;clear t u v;obtain⟨t,u,v,_⟩:=aR Z;have fQ:=hid (E.out.trans (a.mono (by omega)));have OS:=hid (W.out.kept (row:=none) ⟨a.os,a.tape,a.output,a.size,λk J _=>a.block k J⟩ (aCb (by simp[Value.ownBlock])));have EI:=hid (K.out.below a);have Nc:=hid Y;have z:=wD.out;obtain⟨f,M⟩:∃ f:Nat->Bool,f=(λi=>I i&&fr i):=⟨_,rfl⟩;have lu:Hid (∀ i,i<n->(f i=true↔d9 (aU n back) (ltOf xs) ns k i)):=hid (by rw[M];exact(by intro i B;rw[jy hn hw];simp only[mH,hop,Nat.reduceEqDiff,if_false,if_true];have h1:=z i B;have h2:=X i B;unfold d9 at h1 h2;rw[<-h1,<-h2];simp));have lg:=hid M;clear M;have af6:=K.out.lt;clear a W E K z Y X;have iZ:Hid (w.heap.size<L.heap.size):=hid (by omega);go_wp2_with fail;clear t u v;have oG:=hid Z;have wC:=hid (dz.below fQ.out)
 go_loopw [11] (λi wr=>∃ j:Nat,j<=n/\i=.int .i64 j/\wr.ownsRow w.heap.size 4 1 (.slice (some ⟨w.heap.size,0,none⟩) n n) n (ax f n j)/\L.grownBy wr (some w.heap.size)) (λi _=>n - (intOf i).toNat)
 case atStart=>exact⟨0,aCg _,rfl,by rw[dm];exact OS.out,World.grownBy.refl _ _⟩
 case round=>
  obtain⟨j,hj,rfl,own,m⟩:=hrel;by_cases p:j<n
  ·have jd:wr.heap[b]?=_:=(m.block b (by have:=iZ.out;omega) (by simp;omega)).trans oG.out;obtain⟨t,u,v,_⟩:=aR jd;have q0:=own.frozenAt j;have q1:(wr.cell? ⟨w.heap.size,j,none⟩).isSome=true:=by
    rw[own.cellAt j (by omega)];simp[ax,p]
   obtain⟨qv,q2⟩:=aCL.1 q1;have F:=own.stored j (.bool (f j));rw[fJ]at F;have HO:=hid F.1;have HG:=hid (ib m F.2);clear F q1 own;have FV:Hid (f j=(I j&&fr j)):=hid (by rw[lg.out]);have c:=(jL (o:=j) m EI.out.lt (by omega)).trans (EI.out.cell j p);have c2:=(jL (o:=j) m Nc.out.lt (by omega)).trans (Nc.out.cell j p);generalize I j=x at *;generalize fr j=y at *;clear m jd;cases x <;> cases y
   all_goals
    go_wp2_with fail;go_roundw
    case rel=>
     have o:=HO.out;have g:=HG.out;rw[FV.out]at g;exact⟨j+1,by omega,by go_num,by rw[FV.out]at o;exact o,g⟩
    case measure=>simp[intOf];omega
  ·have iw:j=n:=by omega
   rw[iw]at own;have RD:=hid (kF ns n back xs (k:=k) fQ.out m iZ.out own lu.out);clear own m iw;go_wp2_with fail;go_ret;exact RD.out
theorem akK(hw:iH ns)(gD:xs.length=n)(hb:back<n)(jH:n<=20000)(h8:∀ x∈xs,x<8)(k b:Nat)(nd:Nd)(hn:ns[k]?=some nd)(hop:nd.op=124)(zS:rO ns bs gw n dG back xs nd.l)(TP:rO ns bs gw n dG back xs nd.r)(w:World)(hp:Parts w ns bs)(dz:Wd w gw n dG xs)(hbk:bs[k]?=some b) :
  Calls Tryz.prog 128 #[.pointer (some ⟨b,0,none⟩),.slice (some ⟨gw,0,none⟩) n dG,.int .i64 back] w (kI ns n back xs k w):=by
 have A:w.heap[b]?=some (.cells #[.int .u8 (124:Nat),.pointer (some ⟨bs.getD nd.l 0,0,none⟩),.pointer (some ⟨bs.getD nd.r 0,0,none⟩),.int .i64 k] 204):=by
  obtain⟨b',e,hh⟩:=hp k nd hn;rw[hbk]at e;cases e;rw[hh];simp[bR,lV,lT,hop,bG,bU]
 have fI:=dC A;have N:=dz.cap;have CK:=dz.lt;have hlk:nd.l<k:=(dZ hw hn).2.1 (by rw[hop];decide);have sJ:=(aB9.1 hn).1;obtain⟨q,O,Ur⟩:∃ q,bs[nd.l]?=some q/\w.heap[q]?=some (bR bs nd.l ns[nd.l]):=hp nd.l _ (aB3 (by omega));rw[show bs.getD nd.l 0=q by simp[List.getD,O]]at A;have hrk:nd.r<k:=(dZ hw hn).2.2 (by rw[hop];decide);obtain⟨s,P,hhr⟩:∃ s,bs[nd.r]?=some s/\w.heap[s]?=some (bR bs nd.r ns[nd.r]):=hp nd.r _ (aB3 (by omega));rw[show bs.getD nd.r 0=s by simp[List.getD,P]]at A;obtain⟨i0,B,aT,aP,aO⟩:=info_parts Tryz.dY;go_enter Tryz.func128,Tryz.ntmps128;go_wp2_with (at_make;go_must (refine aCI _ rfl (.tmp 15) (.tmp 15) 132 rfl w.heap.size 4 i0 (.bool false) 1 Tryz.underlying132 B aT aP .i64 .i64 n n n rfl rfl rfl rfl ?m2 ?m3 (aB2 _) ?_))
 case m2=>rw[aO];omega
 case m3=>unfold maxLen;omega
 intro G C Q;have R:(madeCells #[Value.bool false] n).toList=List.replicate n (.bool false):=aCy _ _;rw[R]at C;have H:Below w.heap.size w G:=(aB4 _ _).grown Q (aB2 _) (λk h=>by cases h);have hs1:w.heap.size<G.heap.size:=(C.lt _ rfl).2;have S:G.heap[b]?=some (.cells #[.int .u8 (124:Nat),.pointer (some ⟨q,0,none⟩),.pointer (some ⟨s,0,none⟩),.int .i64 k] 204):=by rw[H.block b fI];exact A
 obtain⟨t,u,v,_⟩:=aR S;have D:=hid H;have T:=hid C;clear C Q R H;go_wp2_with fail;refine(zS _ q (hp.below D.out) (dz.below D.out) O).mono ?_;rintro e w2 ⟨gl,I,rfl,z,lL,U,d⟩;have kX:=d.size;have V:w2.heap[b]?=_:=(d.block b (by omega)).trans S;clear t u v;obtain⟨t,u,v,_⟩:=aR V;have E:=hid (D.out.trans (d.mono (by omega)));have W:=hid (T.out.kept (row:=none) ⟨d.os,d.tape,d.output,d.size,λk J _=>d.block k J⟩ (aCb (by simp[Value.ownBlock])));have K:=hid U;have wD:=hid z;clear d T D U z;go_wp2_with fail;refine(TP _ s (hp.below E.out) (dz.below E.out) P).mono ?_;rintro e L ⟨gr,fr,rfl,X,hgr,Y,a⟩;have qQ:=a.size;have Z:L.heap[b]?=_:=(a.block b (by omega)).trans V;clear t u v;obtain⟨t,u,v,_⟩:=aR Z;have fQ:=hid (E.out.trans (a.mono (by omega)));have OS:=hid (W.out.kept (row:=none) ⟨a.os,a.tape,a.output,a.size,λk J _=>a.block k J⟩ (aCb (by simp[Value.ownBlock])));have EI:=hid (K.out.below a);have Nc:=hid Y;have z:=wD.out;obtain⟨f,M⟩:∃ f:Nat->Bool,f=(λi=>I i||fr i):=⟨_,rfl⟩;have lu:Hid (∀ i,i<n->(f i=true↔d9 (aU n back) (ltOf xs) ns k i)):=hid (by rw[M];exact(by intro i B;rw[jy hn hw];simp only[mH,hop,Nat.reduceEqDiff,if_false,if_true];have h1:=z i B;have h2:=X i B;unfold d9 at h1 h2;rw[<-h1,<-h2];simp));have lg:=hid M;clear M;have af6:=K.out.lt;clear a W E K z Y X;have iZ:Hid (w.heap.size<L.heap.size):=hid (by omega);go_wp2_with fail;clear t u v;have oG:=hid Z;have wC:=hid (dz.below fQ.out)
 go_loopw [11] (λi wr=>∃ j:Nat,j<=n/\i=.int .i64 j/\wr.ownsRow w.heap.size 4 1 (.slice (some ⟨w.heap.size,0,none⟩) n n) n (ax f n j)/\L.grownBy wr (some w.heap.size)) (λi _=>n - (intOf i).toNat)
 case atStart=>exact⟨0,aCg _,rfl,by rw[dm];exact OS.out,World.grownBy.refl _ _⟩
 case round=>
  obtain⟨j,hj,rfl,own,m⟩:=hrel;by_cases p:j<n
  ·have jd:wr.heap[b]?=_:=(m.block b (by have:=iZ.out;omega) (by simp;omega)).trans oG.out;obtain⟨t,u,v,_⟩:=aR jd;have q0:=own.frozenAt j;have q1:(wr.cell? ⟨w.heap.size,j,none⟩).isSome=true:=by
    rw[own.cellAt j (by omega)];simp[ax,p]
   obtain⟨qv,q2⟩:=aCL.1 q1;have F:=own.stored j (.bool (f j));rw[fJ]at F;have HO:=hid F.1;have HG:=hid (ib m F.2);clear F q1 own;have FV:Hid (f j=(I j||fr j)):=hid (by rw[lg.out]);have c:=(jL (o:=j) m EI.out.lt (by omega)).trans (EI.out.cell j p);have c2:=(jL (o:=j) m Nc.out.lt (by omega)).trans (Nc.out.cell j p);generalize I j=x at *;generalize fr j=y at *;clear m jd;cases x <;> cases y
   all_goals
    go_wp2_with fail;go_roundw
    case rel=>
     have o:=HO.out;have g:=HG.out;rw[FV.out]at g;exact⟨j+1,by omega,by go_num,by rw[FV.out]at o;exact o,g⟩
    case measure=>simp[intOf];omega
  ·have iw:j=n:=by omega
   rw[iw]at own;have RD:=hid (kF ns n back xs (k:=k) fQ.out m iZ.out own lu.out);clear own m iw;go_wp2_with fail;go_ret;exact RD.out
theorem aoZ(hw:iH ns)(gD:xs.length=n)(hb:back<n)(jH:n<=20000)(h8:∀ x∈xs,x<8)(k b:Nat)(nd:Nd)(hn:ns[k]?=some nd)(hop:nd.op=85)(zS:rO ns bs gw n dG back xs nd.l)(TP:rO ns bs gw n dG back xs nd.r)(w:World)(hp:Parts w ns bs)(dz:Wd w gw n dG xs)(hbk:bs[k]?=some b) :
  Calls Tryz.prog 128 #[.pointer (some ⟨b,0,none⟩),.slice (some ⟨gw,0,none⟩) n dG,.int .i64 back] w (kI ns n back xs k w):=by
 have B:w.heap[b]?=some (.cells #[.int .u8 (85:Nat),.pointer (some ⟨bs.getD nd.l 0,0,none⟩),.pointer (some ⟨bs.getD nd.r 0,0,none⟩),.int .i64 k] 204):=by
  obtain⟨b',e,hh⟩:=hp k nd hn;rw[hbk]at e;cases e;rw[hh];simp[bR,lV,lT,hop,bG,bU]
 have fI:=dC B;have N:=dz.cap;have CK:=dz.lt;have hlk:nd.l<k:=(dZ hw hn).2.1 (by rw[hop];decide);have sJ:=(aB9.1 hn).1;obtain⟨p,O,Ur⟩:∃ p,bs[nd.l]?=some p/\w.heap[p]?=some (bR bs nd.l ns[nd.l]):=hp nd.l _ (aB3 (by omega));rw[show bs.getD nd.l 0=p by simp[List.getD,O]]at B;have hrk:nd.r<k:=(dZ hw hn).2.2 (by rw[hop];decide);obtain⟨q,P,hhr⟩:∃ q,bs[nd.r]?=some q/\w.heap[q]?=some (bR bs nd.r ns[nd.r]):=hp nd.r _ (aB3 (by omega));rw[show bs.getD nd.r 0=q by simp[List.getD,P]]at B;obtain⟨i0,y,aT,aP,aO⟩:=info_parts Tryz.dY;go_enter Tryz.func128,Tryz.ntmps128;go_wp2_with (at_make;go_must (refine aCI _ rfl (.tmp 15) (.tmp 15) 132 rfl w.heap.size 4 i0 (.bool false) 1 Tryz.underlying132 y aT aP .i64 .i64 n n n rfl rfl rfl rfl ?m2 ?m3 (aB2 _) ?_))
 case m2=>rw[aO];omega
 case m3=>unfold maxLen;omega
 intro H C Q;have R:(madeCells #[Value.bool false] n).toList=List.replicate n (.bool false):=aCy _ _;rw[R]at C;have I:Below w.heap.size w H:=(aB4 _ _).grown Q (aB2 _) (λk h=>by cases h);have hs1:w.heap.size<H.heap.size:=(C.lt _ rfl).2;have S:H.heap[b]?=some (.cells #[.int .u8 (85:Nat),.pointer (some ⟨p,0,none⟩),.pointer (some ⟨q,0,none⟩),.int .i64 k] 204):=by rw[I.block b fI];exact B
 obtain⟨t,u,v,_⟩:=aR S;have D:=hid I;have T:=hid C;clear C Q R I;go_wp2_with fail;refine(zS _ p (hp.below D.out) (dz.below D.out) O).mono ?_;rintro e w2 ⟨gl,E,rfl,z,lL,U,c⟩;have kX:=c.size;have V:w2.heap[b]?=_:=(c.block b (by omega)).trans S;clear t u v;obtain⟨t,u,v,_⟩:=aR V;have F:=hid (D.out.trans (c.mono (by omega)));have W:=hid (T.out.kept (row:=none) ⟨c.os,c.tape,c.output,c.size,λk J _=>c.block k J⟩ (aCb (by simp[Value.ownBlock])));have K:=hid U;have wD:=hid z;clear c T D U z;go_wp2_with fail;refine(TP _ q (hp.below F.out) (dz.below F.out) P).mono ?_;rintro e L ⟨gr,fr,rfl,X,hgr,Y,a⟩;have qQ:=a.size;have Z:L.heap[b]?=_:=(a.block b (by omega)).trans V;clear t u v;obtain⟨t,u,v,_⟩:=aR Z;have fQ:=hid (F.out.trans (a.mono (by omega)));have OS:=hid (W.out.kept (row:=none) ⟨a.os,a.tape,a.output,a.size,λk J _=>a.block k J⟩ (aCb (by simp[Value.ownBlock])));have EI:=hid (K.out.below a);have Nc:=hid Y;have z:=wD.out;obtain⟨f,M⟩:∃ f:Nat->Bool,f=(λi=>al 85 E fr (aU n back) (n+1) i):=⟨_,rfl⟩;have lu:Hid (∀ i,i<n->(f i=true↔d9 (aU n back) (ltOf xs) ns k i)):=hid (by rw[M];exact(by intro i y;rw[jy hn hw,amZ hb _ _ i y];simp only[mH,hop,Nat.reduceEqDiff,if_false,if_true];exact exists_congr λs=>and_congr (X _ (lW hb s i y)) (forall_congr' λm=>forall_congr' λ_=>z _ (lW hb m i y))));have lg:=hid M;clear M;have af6:=K.out.lt;clear a W F K z Y X;have iZ:Hid (w.heap.size<L.heap.size):=hid (by omega);go_wp2_with fail;clear t u v;have oG:=hid Z;have wC:=hid (dz.below fQ.out)
 go_loopw [11] (λi wr=>∃ j:Nat,j<=n/\i=.int .i64 j/\wr.ownsRow w.heap.size 4 1 (.slice (some ⟨w.heap.size,0,none⟩) n n) n (ax f n j)/\L.grownBy wr (some w.heap.size)) (λi _=>n - (intOf i).toNat)
 case atStart=>exact⟨0,aCg _,rfl,by rw[dm];exact OS.out,World.grownBy.refl _ _⟩
 case round=>
  obtain⟨j,hj,rfl,own,d⟩:=hrel;by_cases A:j<n
  ·have jd:wr.heap[b]?=_:=(d.block b (by have:=iZ.out;omega) (by simp;omega)).trans oG.out;obtain⟨t,u,v,_⟩:=aR jd;have q0:=own.frozenAt j;have q1:(wr.cell? ⟨w.heap.size,j,none⟩).isSome=true:=by
    rw[own.cellAt j (by omega)];simp[ax,A]
   obtain⟨qv,q2⟩:=aCL.1 q1;have G:=own.stored j (.bool (f j));rw[fJ]at G;have HO:=hid G.1;have HG:=hid (ib d G.2);clear G q1 own;have FV:Hid (f j=al 85 E fr (aU n back) (n+1) j):=hid (by rw[lg.out]);have RL:=EI.out.grown d (by omega);have RR:=Nc.out.grown d (by omega);have AL:=ake gl n j back gr E fr _ RL RR A hb jH;generalize al 85 E fr (aU n back) (n+1) j=x at *;clear d jd;go_wp2_with fail;refine AL.mono ?_;rintro e w' ⟨rfl,rfl⟩;clear AL;go_wp2_with fail;go_roundw
   case rel=>
    have o:=HO.out;have g:=HG.out;rw[FV.out]at g;exact⟨j+1,by omega,by go_num,by rw[FV.out]at o;exact o,g⟩
   case measure=>simp[intOf];omega
  ·have iw:j=n:=by omega
   rw[iw]at own;have RD:=hid (kF ns n back xs (k:=k) fQ.out d iZ.out own lu.out);clear own d iw;go_wp2_with fail;go_ret;exact RD.out
theorem ao0(hw:iH ns)(gD:xs.length=n)(hb:back<n)(jH:n<=20000)(h8:∀ x∈xs,x<8)(k b:Nat)(nd:Nd)(hn:ns[k]?=some nd)(hop:nd.op=82)(zS:rO ns bs gw n dG back xs nd.l)(TP:rO ns bs gw n dG back xs nd.r)(w:World)(hp:Parts w ns bs)(dz:Wd w gw n dG xs)(hbk:bs[k]?=some b) :
  Calls Tryz.prog 128 #[.pointer (some ⟨b,0,none⟩),.slice (some ⟨gw,0,none⟩) n dG,.int .i64 back] w (kI ns n back xs k w):=by
 have B:w.heap[b]?=some (.cells #[.int .u8 (82:Nat),.pointer (some ⟨bs.getD nd.l 0,0,none⟩),.pointer (some ⟨bs.getD nd.r 0,0,none⟩),.int .i64 k] 204):=by
  obtain⟨b',e,hh⟩:=hp k nd hn;rw[hbk]at e;cases e;rw[hh];simp[bR,lV,lT,hop,bG,bU]
 have fI:=dC B;have N:=dz.cap;have CK:=dz.lt;have hlk:nd.l<k:=(dZ hw hn).2.1 (by rw[hop];decide);have sJ:=(aB9.1 hn).1;obtain⟨p,O,Ur⟩:∃ p,bs[nd.l]?=some p/\w.heap[p]?=some (bR bs nd.l ns[nd.l]):=hp nd.l _ (aB3 (by omega));rw[show bs.getD nd.l 0=p by simp[List.getD,O]]at B;have hrk:nd.r<k:=(dZ hw hn).2.2 (by rw[hop];decide);obtain⟨q,P,hhr⟩:∃ q,bs[nd.r]?=some q/\w.heap[q]?=some (bR bs nd.r ns[nd.r]):=hp nd.r _ (aB3 (by omega));rw[show bs.getD nd.r 0=q by simp[List.getD,P]]at B;obtain⟨i0,y,aT,aP,aO⟩:=info_parts Tryz.dY;go_enter Tryz.func128,Tryz.ntmps128;go_wp2_with (at_make;go_must (refine aCI _ rfl (.tmp 15) (.tmp 15) 132 rfl w.heap.size 4 i0 (.bool false) 1 Tryz.underlying132 y aT aP .i64 .i64 n n n rfl rfl rfl rfl ?m2 ?m3 (aB2 _) ?_))
 case m2=>rw[aO];omega
 case m3=>unfold maxLen;omega
 intro H C Q;have R:(madeCells #[Value.bool false] n).toList=List.replicate n (.bool false):=aCy _ _;rw[R]at C;have I:Below w.heap.size w H:=(aB4 _ _).grown Q (aB2 _) (λk h=>by cases h);have hs1:w.heap.size<H.heap.size:=(C.lt _ rfl).2;have S:H.heap[b]?=some (.cells #[.int .u8 (82:Nat),.pointer (some ⟨p,0,none⟩),.pointer (some ⟨q,0,none⟩),.int .i64 k] 204):=by rw[I.block b fI];exact B
 obtain⟨t,u,v,_⟩:=aR S;have D:=hid I;have T:=hid C;clear C Q R I;go_wp2_with fail;refine(zS _ p (hp.below D.out) (dz.below D.out) O).mono ?_;rintro e w2 ⟨gl,E,rfl,z,lL,U,c⟩;have kX:=c.size;have V:w2.heap[b]?=_:=(c.block b (by omega)).trans S;clear t u v;obtain⟨t,u,v,_⟩:=aR V;have F:=hid (D.out.trans (c.mono (by omega)));have W:=hid (T.out.kept (row:=none) ⟨c.os,c.tape,c.output,c.size,λk J _=>c.block k J⟩ (aCb (by simp[Value.ownBlock])));have K:=hid U;have wD:=hid z;clear c T D U z;go_wp2_with fail;refine(TP _ q (hp.below F.out) (dz.below F.out) P).mono ?_;rintro e L ⟨gr,fr,rfl,X,hgr,Y,a⟩;have qQ:=a.size;have Z:L.heap[b]?=_:=(a.block b (by omega)).trans V;clear t u v;obtain⟨t,u,v,_⟩:=aR Z;have fQ:=hid (F.out.trans (a.mono (by omega)));have OS:=hid (W.out.kept (row:=none) ⟨a.os,a.tape,a.output,a.size,λk J _=>a.block k J⟩ (aCb (by simp[Value.ownBlock])));have EI:=hid (K.out.below a);have Nc:=hid Y;have z:=wD.out;obtain⟨f,M⟩:∃ f:Nat->Bool,f=(λi=>al 82 E fr (aU n back) (n+1) i):=⟨_,rfl⟩;have lu:Hid (∀ i,i<n->(f i=true↔d9 (aU n back) (ltOf xs) ns k i)):=hid (by rw[M];exact(by intro i y;rw[jy hn hw,atU hb _ _ i y];simp only[mH,hop,Nat.reduceEqDiff,if_false,if_true];exact forall_congr' λs=>or_congr (X _ (lW hb s i y)) (exists_congr λm=>and_congr Iff.rfl (z _ (lW hb m i y)))));have lg:=hid M;clear M;have af6:=K.out.lt;clear a W F K z Y X;have iZ:Hid (w.heap.size<L.heap.size):=hid (by omega);go_wp2_with fail;clear t u v;have oG:=hid Z;have wC:=hid (dz.below fQ.out)
 go_loopw [11] (λi wr=>∃ j:Nat,j<=n/\i=.int .i64 j/\wr.ownsRow w.heap.size 4 1 (.slice (some ⟨w.heap.size,0,none⟩) n n) n (ax f n j)/\L.grownBy wr (some w.heap.size)) (λi _=>n - (intOf i).toNat)
 case atStart=>exact⟨0,aCg _,rfl,by rw[dm];exact OS.out,World.grownBy.refl _ _⟩
 case round=>
  obtain⟨j,hj,rfl,own,d⟩:=hrel;by_cases A:j<n
  ·have jd:wr.heap[b]?=_:=(d.block b (by have:=iZ.out;omega) (by simp;omega)).trans oG.out;obtain⟨t,u,v,_⟩:=aR jd;have q0:=own.frozenAt j;have q1:(wr.cell? ⟨w.heap.size,j,none⟩).isSome=true:=by
    rw[own.cellAt j (by omega)];simp[ax,A]
   obtain⟨qv,q2⟩:=aCL.1 q1;have G:=own.stored j (.bool (f j));rw[fJ]at G;have HO:=hid G.1;have HG:=hid (ib d G.2);clear G q1 own;have FV:Hid (f j=al 82 E fr (aU n back) (n+1) j):=hid (by rw[lg.out]);have RL:=EI.out.grown d (by omega);have RR:=Nc.out.grown d (by omega);have AL:=akf gl n j back gr E fr _ RL RR A hb jH;generalize al 82 E fr (aU n back) (n+1) j=x at *;clear d jd;go_wp2_with fail;refine AL.mono ?_;rintro e w' ⟨rfl,rfl⟩;clear AL;go_wp2_with fail;go_roundw
   case rel=>
    have o:=HO.out;have g:=HG.out;rw[FV.out]at g;exact⟨j+1,by omega,by go_num,by rw[FV.out]at o;exact o,g⟩
   case measure=>simp[intOf];omega
  ·have iw:j=n:=by omega
   rw[iw]at own;have RD:=hid (kF ns n back xs (k:=k) fQ.out d iZ.out own lu.out);clear own d iw;go_wp2_with fail;go_ret;exact RD.out
end
