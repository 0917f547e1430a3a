import Derived.Test.YtjagijohfkffiabGreatALLM26
set_option maxHeartbeats 16000000
set_option maxRecDepth 100000
set_option linter.unusedSimpArgs false
namespace Go.Proofs.YtjagijohfkffiabGreat
open Go.RowKit
set_option linter.unusedVariables false
def EO(x:Nat):Value:=.agg #[.int .i64 (x / 256:Nat),.int .u8 (x % 256:Nat)]
structure yZ (w:World) (ao:Option Addr) (cap:Nat) (ls:List (Nat × Nat)):Prop where
 le:ls.length<=cap
 max:cap<=9223372036854775807
 row:0<ls.length->∃ g,ao=some ⟨g,0,none⟩/\g<w.heap.size/\∀ (i:Nat) p,ls[i]?=some p->w.cell? ⟨g,i*3,none⟩=some (.int .i64 (p.1 / 256:Nat))/\w.cell? ⟨g,i*3+1,none⟩=some (.int .u8 (p.1 % 256:Nat))/\w.cell? ⟨g,i*3+2,none⟩=some (.int .i64 (p.2:Nat))
theorem yZ.below{w w':World}{ao:Option Addr}{cap:Nat}{ls:List (Nat × Nat)}(h:yZ w ao cap ls)(hb:Below w.heap.size w w'):yZ w' ao cap ls:=by
 refine⟨h.le,h.max,λb=>?_⟩;obtain⟨g,e,a,c⟩:=h.row b;refine⟨g,e,aCq a hb.size,λi p d=>?_⟩;obtain⟨f,j,k⟩:=c i p d;exact⟨(hb.cell (p:=⟨g,i*3,none⟩) a).trans f,(hb.cell (p:=⟨g,i*3+1,none⟩) a).trans j,(hb.cell (p:=⟨g,i*3+2,none⟩) a).trans k⟩
theorem DZ{w:World}{B:Nat}{v:Value}{ls:List (Nat × Nat)}(h:w.ownsRow B 221 3 v ls.length (jO ls)):∃ ao cap,v=.slice ao ls.length cap/\yZ w ao cap ls:=by
 rcases h.2 with⟨rfl,h0⟩ | ⟨g,cap,cur,rfl,hb,hh,hc,hm,_⟩
 ·exact⟨none,0,by rw[h0],by omega,by omega,λh=>by omega⟩
 ·refine⟨_,cap,rfl,hc,by unfold maxLen at hm;omega,λ_=>⟨g,rfl,(aCu.1 hh).1,λi p a=>?_⟩⟩;have e:=(aB9.1 a).1;obtain⟨b,c,d⟩:=Ep a;exact⟨(h.cellAt (i*3) (by omega)).trans b,(h.cellAt (i*3+1) (by omega)).trans c,(h.cellAt (i*3+2) (by omega)).trans d⟩
structure VJ (w:World) (ao:Option Addr) (cap:Nat) (xs:List Nat):Prop where
 le:xs.length<=cap
 max:cap<=9223372036854775807
 row:0<xs.length->∃ g,ao=some ⟨g,0,none⟩/\g<w.heap.size/\∀ (i x:Nat),xs[i]?=some x->w.cell? ⟨g,i*2,none⟩=some (.int .i64 (x / 256:Nat))/\w.cell? ⟨g,i*2+1,none⟩=some (.int .u8 (x % 256:Nat))
theorem VJ.below{w w':World}{ao:Option Addr}{cap:Nat}{xs:List Nat}(h:VJ w ao cap xs)(hb:Below w.heap.size w w'):VJ w' ao cap xs:=by
 refine⟨h.le,h.max,λb=>?_⟩;obtain⟨g,e,a,c⟩:=h.row b;refine⟨g,e,aCq a hb.size,λi x d=>?_⟩;obtain⟨f,j⟩:=c i x d;exact⟨(hb.cell (p:=⟨g,i*2,none⟩) a).trans f,(hb.cell (p:=⟨g,i*2+1,none⟩) a).trans j⟩
theorem Sq{w:World}{B:Nat}{v:Value}{xs:List Nat}(h:w.ownsRow B 166 2 v xs.length (dE xs)):∃ ao cap,v=.slice ao xs.length cap/\VJ w ao cap xs:=by
 rcases h.2 with⟨rfl,h0⟩ | ⟨g,cap,cur,rfl,hb,hh,hc,hm,_⟩
 ·exact⟨none,0,by rw[h0],by omega,by omega,λh=>by omega⟩
 ·refine⟨_,cap,rfl,hc,by unfold maxLen at hm;omega,λ_=>⟨g,rfl,(aCu.1 hh).1,λi x a=>?_⟩⟩;have d:=(aB9.1 a).1;obtain⟨b,c⟩:=yQ a;exact⟨(h.cellAt (i*2) (by omega)).trans b,(h.cellAt (i*2+1) (by omega)).trans c⟩
theorem acn(x g n cap:Nat)(f:Nat->Bool)(w:World)(hn:n<=17179869184)(hf:bV w g (n*256) f)(hg:g<w.heap.size)(hx:x<n*256) :
  Calls Tryz.prog 135 #[EO x,.slice (some ⟨g,0,none⟩) n cap] w λe w'=>e=.returned (.bool (f x))/\Below w.heap.size w w':=by
 unfold EO;have d:x / 256<n:=by omega
 have h:x % 256<256:=Nat.mod_lt _ (by omega);have a:=(aB4 w.heap.size w).alloc (aB2 _) (.cells #[.int .i64 (x / 256:Nat),.int .u8 (x % 256:Nat)] 166);have j:(w.alloc (.cells #[.int .i64 (x / 256:Nat),.int .u8 (x % 256:Nat)] 166)).cell? ⟨g,x / 256*256+x % 256,none⟩=some (.bool (f x)):=by
  have:=(hf.below a hg).c x hx;rw[show x / 256*256+x % 256=x by omega];exact this
 have b:=bY w (.int .i64 (x / 256:Nat)) (.int .u8 (x % 256:Nat)) 166;have k:=b.c0;have c1:=b.c1;have i:=hid a;clear a hf b;generalize f x=fv at *;generalize x / 256=sp at *;generalize x % 256=vw at *;have l:(0:Int)<=(sp:Int):=by omega
 have m:(sp:Int)<(n:Int):=by omega
 have o:(0:Int)<=(vw:Int):=by omega
 have p:(vw:Int)<256:=by omega
 go_enter Tryz.func135,Tryz.ntmps135;go_wp2_with fail
 go_quiet (fail)
 go_wp2_with fail;go_ret;exact⟨rfl,aCl i.out nq⟩
theorem BN(S x:Nat)(vf:Value)(ao:Option Addr)(cap gl:Nat)(ls:List (Nat × Nat))(w:World)(hS:Three w S vf (.slice ao ls.length cap) (.int .i64 (gl:Nat)))(hl:yZ w ao cap ls)(di:ls.length<=1099511627776)(lL:gl<=1099511627776)(hx:∃ i t:Nat,gl<=i/\ls[i]?=some (x,t)) :
  Calls Tryz.prog 134 #[.pointer (some ⟨S,0,none⟩),EO x] w λe w'=>∃ i t:Nat,e=.returned (.int .i64 (i:Nat))/\gl<=i/\ls[i]?=some (x,t)/\Below w.heap.size w w':=by
 unfold EO;obtain⟨i0,t0,Bg,q⟩:=hx;have X:=(aB9.1 q).1;obtain⟨g,rfl,r,I⟩:=hl.row (by omega);have Y:=hid I;have Z:=hid hS;have J:=hS.lt;have Nk:=hid q;have s:Hid (x / 256=x / 256/\x % 256=x % 256):=hid ⟨rfl,rfl⟩;generalize K:x / 256=xa at *;generalize L:x % 256=xb at *;have c:=hid (And.intro K L);have ay9:xb<256:=by omega
 clear K L s;have u:=hid ((aB4 w.heap.size w).alloc (aB2 _) (.cells #[.int .i64 (xa:Nat),.int .u8 (xb:Nat)] 166));have M:=hid (bY w (.int .i64 (xa:Nat)) (.int .u8 (xb:Nat)) 166);have v:=hS.below u.out J;have N:=v.c1;have O:=v.c2;have P:=hl.le;have Q:=hl.max;clear I hS hl q v;go_enter Tryz.func134,Tryz.ntmps134;go_wp2_with fail;generalize R:(w.alloc (.cells #[.int .i64 (xa:Nat),.int .u8 (xb:Nat)] 166))=W at *;have Me:W.heap.size=w.heap.size+1:=by rw[<-R];simp
 clear R N O
 go_loopw [12] (λk z=>∃ i:Nat,i<=i0/\k=.int .i64 i/\Hid (Two z w.heap.size (.int .i64 (xa:Nat)) (.int .u8 (xb:Nat)))/\Hid (Below w.heap.size w z)/\w.heap.size<z.heap.size) (λk _=>ls.length - (intOf k).toNat)
 case atStart=>exact⟨0,aCg _,rfl,M,u,by omega⟩
 case round=>
  obtain⟨i,hi,rfl,HT,j,A⟩:=hrel;rename World=>W0;clear M u;obtain⟨⟨y,t⟩,B⟩:∃ p,ls[i]?=some p:=⟨ls[i]'(by omega),aB3 (by omega)⟩;obtain⟨C,D,E⟩:=Y.out i _ B;dsimp only at C D E;have a:Hid (y / 256=xa->y % 256=xb->y=x):=hid (λh1 h2=>by have:=c.out.1;have:=c.out.2;omega);have b:Hid (y=x->y / 256=xa/\y % 256=xb):=hid (λh=>by rw[h];exact c.out);generalize y / 256=ya at *;have CB:y % 256<256:=Nat.mod_lt _ (by omega);generalize y % 256=yb at *;have l0:=(j.out.cell (p:=⟨g,i*3,none⟩) r).trans C;have l1:=(j.out.cell (p:=⟨g,i*3+1,none⟩) r).trans D;have l2:=(j.out.cell (p:=⟨g,i*3+2,none⟩) r).trans E;have bb:=(aB4 W0.heap.size W0).alloc (aB2 _) (.cells #[.int .i64 (ya:Nat),.int .u8 (yb:Nat),.int .i64 (t:Nat)] 221);have T:=(Z.out.below j.out J);have l:=hid (HT.out.below bb A);have m:=hid (j.out.trans (bb.mono (by omega)));have d:=T.below bb (by omega);have N:=d.c1;have O:=d.c2;have t0':=l.out.c0;have t1':=l.out.c1;have U:=hid B;have i1:(i:Int)<(ls.length:Int):=by omega
  have i2:(0:Int)<=(i:Int):=by omega
  have f:Hid (¬ (ya=xa/\yb=xb)->i≠i0):=hid (λhn e=>by
   subst e;have n:=Nk.out;rw[U.out]at n;cases n;exact hn (b.out rfl))
  clear C D E B bb T d;by_cases F:gl<=i
  ·have j1:(gl:Int)<=(i:Int):=by omega
   by_cases o:ya=xa
   ·by_cases G:yb=xb
    ·have H:=a.out o G;subst H;subst o;subst G;have V:((ya:Int)==(ya:Int))=true:=by simp
     have b2:((yb:Int)==(yb:Int))=true:=by simp
     clear a b f;go_wp2_with fail;go_ret;exact⟨i,t,rfl,F,U.out,m.out⟩
    ·have n:=f.out (λh=>G h.2);subst o;have V:((ya:Int)==(ya:Int))=true:=by simp
     have b2:((yb:Int)==(xb:Int))=false:=aCe.2 (by omega);clear a b f;go_wp2_with fail;go_roundw
     case rel=>exact⟨i+1,by omega,by go_num,l,m,by simp;omega⟩
     case measure=>simp[intOf] <;> omega
   ·have n:=f.out (λh=>o h.1);have V:((ya:Int)==(xa:Int))=false:=aCe.2 (by omega);clear a b f;go_wp2_with fail;go_roundw
    case rel=>exact⟨i+1,by omega,by go_num,l,m,by simp;omega⟩
    case measure=>simp[intOf] <;> omega
  ·have j1:decide ((gl:Int)<=(i:Int))=false:=by simp;omega
   have j1n:decide (gl<=i)=false:=by simp;omega
   clear a b f;go_wp2_with fail;go_roundw
   case rel=>exact⟨i+1,by omega,by go_num,l,m,by simp;omega⟩
   case measure=>simp[intOf] <;> omega
theorem WU(S g2 n aag:Nat)(f:Nat->Bool)(vf vg:Value)(ao:Option Addr)(cap:Nat)(ls:List (Nat × Nat))(w:World)(hS:Three w S vf (.slice ao ls.length cap) vg)(hl:yZ w ao cap ls)(di:ls.length<=1099511627776)(hn:n<=17179869184)(hf:bV w g2 (n*256) f)(oO:g2<w.heap.size)(hN:∀ p∈ls,p.1<n*256)(hx:∃ (i:Nat) (p:Nat × Nat),ls[i]?=some p/\f p.1=true) :
  Calls Tryz.prog 96 #[.pointer (some ⟨S,0,none⟩),.slice (some ⟨g2,0,none⟩) n aag] w λe w'=>∃ (i:Nat) (p:Nat × Nat),e=.returned (.int .i64 (i:Nat))/\ls[i]?=some p/\f p.1=true/\Below w.heap.size w w':=by
 obtain⟨i0,R,l,z⟩:=hx;have G:=(aB9.1 l).1;obtain⟨g,rfl,m,A⟩:=hl.row (by omega);have H:=hid A;have T:=hS.lt;have I:=hid l;have o:=hid z;have J:=hid hN;have K:=hid hf;have U:=hS.c1;have B:=hl.le;have C:=hl.max;clear A hS hl l z hN hf;go_enter Tryz.func96,Tryz.ntmps96;go_wp2_with fail
 go_loopw [12] (λk L=>∃ i:Nat,i<=i0/\k=.int .i64 i/\Hid (Below w.heap.size w L)) (λk _=>ls.length - (intOf k).toNat)
 case atStart=>exact⟨0,aCg _,rfl,hid (aB4 _ _)⟩
 case round=>
  obtain⟨i,V,rfl,b⟩:=hrel;rename World=>W0;obtain⟨⟨y,t⟩,h⟩:∃ p,ls[i]?=some p:=⟨ls[i]'(by omega),aB3 (by omega)⟩;obtain⟨q,r,s⟩:=H.out i _ h;dsimp only at q r s;have c:=λW M N=>acn y g2 n aag f W hn M N (J.out _ (aCJ h));unfold EO at c;generalize y / 256=ya at *;generalize y % 256=yb at *;have X:=(b.out.cell (p:=⟨g,i*3,none⟩) m).trans q;have Y:=(b.out.cell (p:=⟨g,i*3+1,none⟩) m).trans r;have Z:=(b.out.cell (p:=⟨g,i*3+2,none⟩) m).trans s;have bb:=(aB4 W0.heap.size W0).alloc (aB2 _) (.cells #[.int .i64 (ya:Nat),.int .u8 (yb:Nat),.int .i64 (t:Nat)] 221);have O:=b.out.size;have D:=hid (b.out.trans (bb.mono O));have c:=c _ (K.out.below D.out oO) (by simp;omega);have u:=hid c;have E:=hid h;have i1:(i:Int)<(ls.length:Int):=by omega
  have i2:(0:Int)<=(i:Int):=by omega
  have d:f y=false->i≠i0:=λa e=>by
   subst e;have v:=I.out;rw[E.out]at v;cases v;rw[o.out]at a;cases a
  have P:=hid d;have Q:=hid (show f y=f y from rfl);clear q r s h bb c d;go_wp2_with fail;refine u.out.mono ?_;rintro e w3 ⟨rfl,j⟩;simp only[aB7]at j;have F:=hid (D.out.trans (j.mono (by omega)));cases a:f y with
  | true=>
   have x:=hid a;clear a j;go_wp2_with fail;go_ret;exact⟨i,(y,t),rfl,E.out,x.out,F.out⟩
  | false=>
   have v:=P.out a;clear a j;go_wp2_with fail;go_roundw
   case rel=>exact⟨i+1,by omega,by go_num,F⟩
   case measure=>simp[intOf] <;> omega
def uq(c:Nat->Bool)(xs:List Nat):Bool:=xs.any λx=>c (x % 256)
theorem abR(ao:Option Addr)(cap:Nat)(xs:List Nat)(c:Nat->Bool)(w:World)(hl:VJ w ao cap xs)(di:xs.length<=1099511627776) :
  Calls Tryz.prog 136 #[.slice ao xs.length cap,.agg (gv c).toArray] w λe w'=>e=.returned (.bool (uq c xs))/\Below w.heap.size w w':=by
 have H:=hid hl;have r:=hl.le;have s:=hl.max;clear hl;have t:=hid (wQ w c 61);have u:=hid ((aB4 w.heap.size w).alloc (aB2 _) (.cells (gv c).toArray 61));go_enter Tryz.func136,Tryz.ntmps136;go_wp2_with fail;generalize v:(w.alloc (.cells (gv c).toArray 61))=W at *;have M:W.heap.size=w.heap.size+1:=by rw[<-v];simp
 clear v
 go_loopw [9] (λk h=>∃ i:Nat,i<=xs.length/\k=.int .i64 i/\Hid (∀ j x,j<i->xs[j]?=some x->c (x % 256)=false)/\Hid (bE h w.heap.size 0 c)/\Hid (Below w.heap.size w h)/\w.heap.size<h.heap.size) (λk _=>xs.length - (intOf k).toNat)
 case atStart=>exact⟨0,aCg _,rfl,hid (λj x d=>by omega),t,u,by omega⟩
 case round=>
  obtain⟨i,N,rfl,z,I,f,l⟩:=hrel;rename World=>W0;clear t u;by_cases J:i<xs.length
  ·obtain⟨x,b⟩:∃ x,xs[i]?=some x:=⟨xs[i],aB3 J⟩;obtain⟨g,e,A,B⟩:=H.out.row (by omega);subst e;obtain⟨C,D⟩:=B i x b;have K:x % 256<256:=Nat.mod_lt _ (by omega);have m:Hid (c (x % 256)=true->uq c xs=true):=hid (λa=>by
    unfold uq;rw[List.any_eq_true];exact⟨x,aCJ b,a⟩)
   have n:Hid (c (x % 256)=false->∀ j y,j<i+1->xs[j]?=some y->c (y % 256)=false):=hid (λa j y d o=>by
    by_cases e:j=i
    ·subst e;rw[b]at o;cases o;exact a
    ·exact z.out j y (by omega) o)
   generalize x / 256=xa at *;generalize x % 256=xb at *;have O:=(f.out.cell (p:=⟨g,i*2,none⟩) A).trans C;have P:=(f.out.cell (p:=⟨g,i*2+1,none⟩) A).trans D;have bb:=(aB4 W0.heap.size W0).alloc (aB2 _) (.cells #[.int .i64 (xa:Nat),.int .u8 (xb:Nat)] 166);have E:=hid (I.out.below bb l);have F:=hid (f.out.trans (bb.mono (by omega)));have G:(W0.alloc (.cells #[.int .i64 (xa:Nat),.int .u8 (xb:Nat)] 166)).cell? ⟨w.heap.size,xb,none⟩=some (.bool (c xb)):=by
    have:=E.out.c xb K;rwa [aCw]at this
   have Q:(i:Int)<(xs.length:Int):=by omega
   have R:(0:Int)<=(i:Int):=by omega
   have S:(xb:Int)<256:=by omega
   have T:(0:Int)<=(xb:Int):=by omega
   clear C D B b bb;cases a:c xb with
   | true=>
    have q:=hid (m.out a);rw[a]at G;clear a;go_wp2_with fail;go_ret;exact⟨by rw[q.out];rfl,F.out⟩
   | false=>
    have L:=hid (n.out a);rw[a]at G;clear a;go_wp2_with fail;go_roundw
    case rel=>exact⟨i+1,by omega,by go_num,L,E,F,by simp;omega⟩
    case measure=>simp[intOf] <;> omega
  ·obtain rfl:i=xs.length:=by omega
   have q:Hid (uq c xs=false):=hid (by
    unfold uq;rw[List.any_eq_false];intro x b;obtain⟨j,d,e⟩:=aCK b;rw[z.out j x d (by rw[aB3 d,e])];simp)
   go_wp2_with fail;go_ret;exact⟨by rw[q.out];rfl,f.out⟩
theorem Pk(ao:Option Addr)(cap:Nat)(xs:List Nat)(w:World)(hl:VJ w ao cap xs)(di:xs.length<=1099511627776) :
  Calls Tryz.prog 98 #[.slice ao xs.length cap] w λe w'=>∃ v,e=.returned v/\w'.ownsRow w.heap.size 3 1 v xs.length (cZ (xs.map (· / 256)))/\Below w.heap.size w w':=by
 have z:=hid hl;have l:=hl.le;have m:=hl.max;obtain⟨A,B,C,D,E⟩:=info_parts Tryz.uw;clear hl;go_enter Tryz.func98,Tryz.ntmps98;go_wp2_with fail
 go_loopw [3,8] (λv k n=>∃ i:Nat,i<=xs.length/\k=.int .i64 i/\Hid (n.ownsRow w.heap.size 3 1 v i (cZ ((xs.take i).map (· / 256))))/\Hid (Below w.heap.size w n)) (λ_ k _=>xs.length - (intOf k).toNat)
 case atStart=>exact⟨0,aCg _,rfl,hid (aCp _ _ _ _),hid (aB4 _ _)⟩
 case round=>
  obtain⟨i,Q,rfl,d,c⟩:=hrel;rename World=>W0;obtain⟨F,G,rfl⟩:=ak d.out;by_cases H:i<xs.length
  ·obtain⟨x,f⟩:∃ x,xs[i]?=some x:=⟨xs[i],aB3 H⟩;obtain⟨g,e,o,r⟩:=z.out.row (by omega);subst e;obtain⟨s,t⟩:=r i x f;have R:=c.out.size;have I:Hid (cZ ((xs.take (i+1)).map (· / 256))=cZ ((xs.take i).map (· / 256))++[.int .i64 (x / 256:Nat)]):=hid (by
    rw[List.take_add_one,f];simp[cZ])
   have J:=hid (λq h=>(d.out.lt q h).1);generalize x / 256=xa at *;generalize x % 256=xb at *;have S:=(c.out.cell (p:=⟨g,i*2,none⟩) o).trans s;have T:=(c.out.cell (p:=⟨g,i*2+1,none⟩) o).trans t;clear s t r f;go_wp2_with (at_builtin;go_must (refine aCE _ rfl (.tmp 12) (.tmp 15) 22 rfl w.heap.size 3 A (.int .i64 0) 1 8 Tryz.underlying22 B C D E rfl (by decide) _ i _ rfl ((d.out.alloc _).alloc _) ⟨W0.heap.size+1,0,none⟩ 1 1 [.int .i64 (xa:Nat)] rfl rfl (by simpa using xN (W0.alloc (.cells #[.int .i64 (xa:Nat),.int .u8 (xb:Nat)] 166)) [.int .i64 (xa:Nat)] 3) (by intro y u;simp at u;rcases u with rfl;rfl) (by decide) (by unfold maxLen;omega) (by omega) (by simp;omega) (W0.heap.size+2) (by simp) ?_));intro K L M b a j U;have N:Hid (M.ownsRow w.heap.size 3 1 (.slice (some ⟨K,0,none⟩) (i+1) L) (i+1) (cZ ((xs.take (i+1)).map (· / 256)))):=hid (by rw[I.out,List.map_take];exact b);have O:=hid ((((c.out.alloc c.out.size (.cells #[.int .i64 (xa:Nat),.int .u8 (xb:Nat)] 166)).alloc (by simp;omega) (.cells #[.int .i64 (xa:Nat)] 3))).grown a (by simp;omega) (λq h=>J.out q h));clear b a j;go_wp2_with fail;go_roundw
   case rel=>exact⟨i+1,by omega,by go_num,N,O⟩
   case measure=>simp[intOf] <;> omega
  ·obtain rfl:i=xs.length:=by omega
   have P:Hid (W0.ownsRow w.heap.size 3 1 (.slice F xs.length G) xs.length (cZ (xs.map (· / 256)))):=hid (by have:=d.out;rwa [List.take_length]at this);go_wp2_with fail;go_ret;exact⟨_,rfl,P.out,c.out⟩
def zt(E:Nat->Nat->Prop)(N gl:Nat)(goal:Nat->Bool)(i x:Nat)(w:World)(e:Ending)(w':World):Prop:=
 ∃ (ps:List Nat) (en:Nat) (v:Value),e=.returned (.agg #[v,.int .i64 (en / 256:Nat),.int .u8 (en % 256:Nat)])/\w'.ownsRow w.heap.size 166 2 v ps.length (dE ps)/\Goes E ps en/\(gl<=i->ps≠[])/\(i<gl->ps=[])/\ps.headD en=x/\goal en=true/\en<N/\(∀ p∈ps,p<N)/\ps.length<=N/\Below w.heap.size w w'
theorem Tryz.aez:(Tryz.prog.info? 175).map (·.size)=some 3:=by kernel_rfl
structure EB (E:Nat->Nat->Prop) (N gl:Nat) (ls:List (Nat × Nat)) (i x:Nat) (ps:List Nat) (j y t:Nat):Prop where
 at_:ls[j]?=some (y,t)
 go:Goes E ps y
 head:ps.headD y=x
 none:ps=[]->j=i
 some_:ps≠[]->gl<=i
 lt:∀ p∈ps,p<N
 len:ps.length+(j+1 - gl)<=i+1 - gl
theorem YU{E:Nat->Nat->Prop}{N:Nat}{goal found:Nat->Bool}{ls:List (Nat × Nat)}(hI:rM E N goal ls found){i x j y t:Nat}{ps:List Nat}(h:EB E N (aG goal N).length ls i x ps j y t)(hj:(aG goal N).length<=j):∃ y' t',t<j/\EB E N (aG goal N).length ls i x (ps++[y]) t y' t':=by
 obtain⟨c,d,b,t',f,g⟩:=hI.link j y t hj h.at_;refine⟨b,t',c,f,acS h.go g,?_,λe=>by simp at e,λ_=>?_,λp a=>?_,?_⟩
 ·rw[uA];exact h.head
 ·by_cases e:ps=[]
  ·rw[<-h.none e];exact hj
  ·exact h.some_ e
 ·rcases aCG.1 a with a | a
  ·exact h.lt p a
  ·simp at a;subst a;exact(hI.lead.ok p d).1
 ·have:=h.len;rw[aCd];simp;omega
theorem aaP{E:Nat->Nat->Prop}{N:Nat}{goal found:Nat->Bool}{ls:List (Nat × Nat)}(hI:rM E N goal ls found){i x j y t:Nat}{ps:List Nat}(h:EB E N (aG goal N).length ls i x ps j y t)(hj:j<(aG goal N).length)(hi:i<ls.length):goal y=true/\y<N/\((aG goal N).length<=i->ps≠[])/\(i<(aG goal N).length->ps=[])/\ps.length<=N:=by
 have a:=hI.pre j _ (aB3 hj);rw[h.at_]at a;cases a;have d:(aG goal N)[j]∈aG goal N:=List.getElem_mem hj;have b:(aG goal N)[j]<N/\goal (aG goal N)[j]=true:=by
  have c:(aG goal N)[j]∈(List.range N).filter goal:=d;rw[List.mem_filter,aCQ]at c;exact c
 refine⟨b.2,b.1,λf e=>?_,λf=>aCx λe=>?_,?_⟩
 ·have:=h.none e;omega
 ·have:=h.some_ e;omega
 ·have g:=oW hI;have k:=h.len;omega
theorem afs(x g n cap:Nat)(f:Nat->Bool)(w:World)(hn:n<=17179869184)(hf:bV w g (n*256) f)(hg:g<w.heap.size)(hx:x<n*256)(Uz:f x=true) :
  Calls Tryz.prog 94 #[.slice (some ⟨g,0,none⟩) n cap,EO x] w λe w'=>∃ g',e=.returned (.slice (some ⟨g',0,none⟩) n n)/\w.heap.size<=g'/\g'<w'.heap.size/\bV w' g' (n*256) (λy=>decide (y=x))/\Below w.heap.size w w':=by
 have z:=hid hf;have b:=hid (λW A B=>acn x g n cap f W hn A B hx);rw[Uz]at b;unfold EO at b ⊢;have C:Hid (x / 256*256+x % 256=x):=hid (by omega);have I:x / 256<n:=by omega
 have J:x % 256<256:=Nat.mod_lt _ (by omega);clear hf;generalize x / 256=xa at *;generalize x % 256=xb at *;have m:=hid ((aB4 w.heap.size w).alloc (aB2 _) (.cells #[.int .i64 (xa:Nat),.int .u8 (xb:Nat)] 166));have q:=hid (bY w (.int .i64 (xa:Nat)) (.int .u8 (xb:Nat)) 166);go_enter Tryz.func94,Tryz.ntmps94;go_wp2_with (at_make;go_must (refine jv _ rfl (.tmp 7) rfl n rfl (by omega) ?_));intro K r D i;have d:=hid (q.out.below i (by omega));have j:=hid (m.out.trans (i.mono (by omega)));have s:=hid r;have t:=d.out.c0;have c1:=d.out.c1;clear r i q m;go_wp2_with fail;refine(b.out _ (z.out.below j.out hg) (by omega)).mono ?_;rintro e L ⟨rfl,a⟩;have h:=hid (d.out.below a (by omega));have l:=hid (s.out.below a D);have E:=hid (j.out.trans (a.mono (by omega)));have M:=a.size;clear t c1 a d s j b;have t:=h.out.c0;have c1:=h.out.c1;have u:xa*256+xb<n*256:=by omega
 have N:=l.out.c (xa*256+xb) u;have O:=l.out.f (xa*256+xb) u;have v:=hid (l.out.set (xa*256+xb) true);have F:=hid (E.out.setCell (p:=⟨w.heap.size+1,xa*256+xb,none⟩) (by show w.heap.size<=w.heap.size+1;omega) (.bool true));have P:(0:Int)<=(xa:Int):=by omega
 have Q:(xa:Int)<(n:Int):=by omega
 have R:(0:Int)<=(xb:Int):=by omega
 have S:(xb:Int)<256:=by omega
 have G:=(h.out.other (k:=w.heap.size+1) (o:=xa*256+xb) (by omega) (.bool true)).c0;have H:=(h.out.other (k:=w.heap.size+1) (o:=xa*256+xb) (by omega) (.bool true)).c1;go_wp2_with fail
 go_region_held3 (λw'=>w'.cell? ⟨w.heap.size,0,none⟩=some (.int .i64 (xa:Nat))/\w'.cell? ⟨w.heap.size,1,none⟩=some (.int .u8 (xb:Nat)))
  (first
   | go_keep
   | exact⟨G,H⟩)
  (fail)
 go_wp2_with fail;go_ret;refine⟨w.heap.size+1,rfl,by omega,by simp;omega,?_,aCl F.out 1⟩;refine bV.congr (f:=upd (λ_=>false) (xa*256+xb) true) ⟨v.out.c,v.out.f⟩ (λy T=>?_);rw[C.out];unfold upd;by_cases e:y=x <;> simp[e]
theorem Dq(S i x t:Nat)(E:Nat->Nat->Prop)(N:Nat)(goal found:Nat->Bool)(vf:Value)(ao:Option Addr)(cap:Nat)(ls:List (Nat × Nat))(w:World)(hI:rM E N goal ls found)(hS:Three w S vf (.slice ao ls.length cap) (.int .i64 ((aG goal N).length:Nat)))(hl:yZ w ao cap ls)(hN:N<=1099511627776)(di:ls.length<=2199023255552)(hi:ls[i]?=some (x,t)) :
  Calls Tryz.prog 97 #[.pointer (some ⟨S,0,none⟩),.int .i64 (i:Nat)] w (zt E N (aG goal N).length goal i x w):=by
 have M:=(aB9.1 hi).1;obtain⟨g,rfl,O,hc⟩:=hl.row (by omega);have HC:=hid hc;have HS:=hid hS;have UF:=hS.lt;have HII:=hid hI;have hcap:=hl.le;have hmax:=hl.max;have C:Hid (EB E N (aG goal N).length ls i x [] i x t):=hid ⟨hi,trivial,rfl,λ_=>rfl,λh=>absurd rfl h,λp hp=>by simp at hp,by simp⟩;have lL:(aG goal N).length<=ls.length:=hI.gl;have P:=hid (oW hI);obtain⟨i0,xE,aT,aP,aO⟩:=info_parts Tryz.Gl;have Q:=hid (λps j y t (h:EB E N (aG goal N).length ls i x ps j y t) hj=>aaP hI h hj M);have Je:=hid (λps j y t (h:EB E N (aG goal N).length ls i x ps j y t) hj=>YU hI h hj);generalize (aG goal N).length=gl at *;have ba:=(aB4 w.heap.size w).alloc (aB2 _) (.cells #[.slice none 0 0,.int .i64 0,.int .u8 0] 175);have bb:=(aB4 (w.heap.size+1) (w.alloc (.cells #[.slice none 0 0,.int .i64 0,.int .u8 0] 175))).alloc (by simp) (.cells #[.slice none 0 0,.int .i64 0,.int .u8 0] 175);have R0:=hid ((dx w (.slice none 0 0) (.int .i64 0) (.int .u8 0) 175).below bb (by omega));have R:=dx (w.alloc (.cells #[.slice none 0 0,.int .i64 0,.int .u8 0] 175)) (.slice none 0 0) (.int .i64 0) (.int .u8 0) 175;rw[show (w.alloc (.cells #[.slice none 0 0,.int .i64 0,.int .u8 0] 175)).heap.size=w.heap.size+1 by simp]at R;have D:=hid R;have iJ:=hid (ba.trans (bb.mono (by omega)));clear hc hS hl hi hI ba bb R;go_enter Tryz.func97,Tryz.ntmps97;go_wp2_with fail;generalize hW:((w.alloc (.cells #[.slice none 0 0,.int .i64 0,.int .u8 0] 175)).alloc (.cells #[.slice none 0 0,.int .i64 0,.int .u8 0] 175))=W at *;have Me:W.heap.size=w.heap.size+2:=by rw[<-hW];simp
 clear hW
 go_loopw [6] (λk F=>∃ (j y t:Nat) (ps:List Nat) (v:Value),k=.int .i64 j/\Hid (EB E N gl ls i x ps j y t)/\Hid (Three F (w.heap.size+1) v (.int .i64 0) (.int .u8 0))/\Hid (F.ownsRow (w.heap.size+2) 166 2 v ps.length (dE ps))/\Hid (Three F w.heap.size (.slice none 0 0) (.int .i64 0) (.int .u8 0))/\Hid (Below w.heap.size w F)/\w.heap.size+2<=F.heap.size) (λk _=>(intOf k).toNat)
 case atStart=>exact⟨i,x,t,[],_,rfl,C,D,hid (aCp _ _ _ _),R0,iJ,by omega⟩
 case round=>
  obtain⟨j,y,t',ps,v,rfl,n,q,L,r,z,hsz⟩:=hrel;rename World=>W0;clear C D R0 iJ;have T:=(aB9.1 n.out.at_).1;obtain⟨U,V,X⟩:=HC.out j _ n.out.at_;dsimp only at U V X;have Y:=HS.out.below z.out UF;have Z:=Y.c1;have s2:=Y.c2;have YK:Hid (dE (ps++[y])=dE ps++[.int .i64 (y / 256:Nat),.int .u8 (y % 256:Nat)]):=hid (Jw ps y);have Nn:Hid (∀ vv,(Value.agg #[vv,.int .i64 (y / 256:Nat),.int .u8 (y % 256:Nat)])=.agg #[vv,.int .i64 (y / 256:Nat),.int .u8 (y % 256:Nat)]):=hid (λ_=>rfl);have HY:Hid (∃ ya yb,y / 256=ya/\y % 256=yb):=hid ⟨_,_,rfl,rfl⟩;generalize TY:y / 256=ya at *;generalize CB:y % 256=yb at *;have G:=hid (And.intro TY CB);clear TY CB HY Nn;have l0:=(z.out.cell (p:=⟨g,j*3,none⟩) O).trans U;have l1:=(z.out.cell (p:=⟨g,j*3+1,none⟩) O).trans V;have l2:=(z.out.cell (p:=⟨g,j*3+2,none⟩) O).trans X;obtain⟨av,cv,rfl⟩:=ak L.out;have i1:(j:Int)<(ls.length:Int):=by omega
  have i2:(0:Int)<=(j:Int):=by omega
  clear U V X Y;by_cases Gv:gl<=j
  ·have j1:(gl:Int)<=(j:Int):=by omega
   obtain⟨y2,t2,htj,H⟩:=Je.out _ _ _ _ n.out Gv;have Fw:=hid H;have LU:ps.length<=N:=by
    have h1:=n.out.len;have h3:=P.out;have h4:=T;omega
   have p1:=q.out.c0;have own:=L.out;have ySl:S<W0.heap.size:=by omega
   have ygl:g<W0.heap.size:=by omega
   have yTl:w.heap.size+1<W0.heap.size:=by omega
   clear H L;go_wp2_with fail;refine wp_region_held_drew (S:=λw'=>w'.cell? ⟨S,1,none⟩=some (.slice (some ⟨g,0,none⟩) ls.length cap)/\w'.cell? ⟨g,j*3,none⟩=some (.int .i64 (ya:Nat))/\w'.cell? ⟨g,j*3+1,none⟩=some (.int .u8 (yb:Nat))) (by kernel_rfl) ⟨Z,l0,l1⟩ (λu=>?_);refine aCc (i:=0) (oi:={ dst:=some 24,op:=Op.fieldAddr _ (.tmp 5) 0,type:=_,pos:=_,after:=_,guard:=none }) (v:=(Value.pointer (some ⟨w.heap.size+1,0,none⟩))) rfl (by kernel_rfl) (by kernel_rfl) (by kernel_rfl) (λ_ _ _ h=>h) (aCa ⟨by rfl,by intro w' a;(try dsimp only at a);go_simp⟩) (by assumption) ?_
   simp only[Act.put,aB1,aB5,aB6];refine aCc (i:=2) (oi:={ dst:=some 26,op:=Op.move (.tmp 0),type:=_,pos:=_,after:=_,guard:=none }) (v:=(Value.pointer (some ⟨S,0,none⟩))) rfl (by kernel_rfl) (by kernel_rfl) (by kernel_rfl) (λ_ _ _ h=>h) (aCa ⟨by rfl,by intro w' a;(try dsimp only at a);go_simp⟩) (by assumption) ?_
   simp only[Act.put,aB1,aB5,aB6];refine aCc (i:=3) (oi:={ dst:=some 27,op:=Op.nilCheck (.tmp 26),type:=_,pos:=_,after:=_,guard:=none }) (v:=(Value.pointer (some ⟨S,0,none⟩))) rfl (by kernel_rfl) (by kernel_rfl) (by kernel_rfl) (λ_ _ _ h=>h) (aCa ⟨by rfl,by intro w' a;(try dsimp only at a);go_simp⟩) (by assumption) ?_
   simp only[Act.put,aB1,aB5,aB6];refine aCc (i:=4) (oi:={ dst:=some 28,op:=Op.fieldAddr _ (.tmp 27) 1,type:=_,pos:=_,after:=_,guard:=none }) (v:=(Value.pointer (some ⟨S,1,none⟩))) rfl (by kernel_rfl) (by kernel_rfl) (by kernel_rfl) (λ_ _ _ h=>h) (aCa ⟨by rfl,by intro w' a;(try dsimp only at a);go_simp⟩) (by assumption) ?_
   simp only[Act.put,aB1,aB5,aB6];refine aCc (i:=5) (oi:={ dst:=some 29,op:=Op.load _ (.tmp 28),type:=_,pos:=_,after:=_,guard:=none }) (v:=(Value.slice (some ⟨g,0,none⟩) ls.length cap)) rfl (by kernel_rfl) (by kernel_rfl) (by kernel_rfl) (λ_ _ _ h=>h) (aCa ⟨by rfl,by intro w' a;(try dsimp only at a);go_simp⟩) (by assumption) ?_
   simp only[Act.put,aB1,aB5,aB6];refine aCc (i:=6) (oi:={ dst:=some 30,op:=Op.move (.tmp 6),type:=_,pos:=_,after:=_,guard:=none }) (v:=(Value.int .i64 (j:Nat))) rfl (by kernel_rfl) (by kernel_rfl) (by kernel_rfl) (λ_ _ _ h=>h) (aCa ⟨by rfl,by intro w' a;(try dsimp only at a);go_simp⟩) (by assumption) ?_
   simp only[Act.put,aB1,aB5,aB6];refine aCc (i:=7) (oi:={ dst:=some 31,op:=Op.indexAddr _ (.tmp 29) (.tmp 30),type:=_,pos:=_,after:=_,guard:=none }) (v:=(Value.pointer (some ⟨g,j*3,none⟩))) rfl (by kernel_rfl) (by kernel_rfl) (by kernel_rfl) (λ_ _ _ h=>h) (aCa ⟨by rfl,by intro w' a;(try dsimp only at a);go_simp⟩) (by assumption) ?_
   simp only[Act.put,aB1,aB5,aB6];refine aCc (i:=8) (oi:={ dst:=some 32,op:=Op.fieldAddr _ (.tmp 31) 0,type:=_,pos:=_,after:=_,guard:=none }) (v:=(Value.pointer (some ⟨g,j*3,none⟩))) rfl (by kernel_rfl) (by kernel_rfl) (by kernel_rfl) (λ_ _ _ h=>h) (aCa ⟨by rfl,by intro w' a;(try dsimp only at a);go_simp⟩) (by assumption) ?_
   simp only[Act.put,aB1,aB5,aB6];refine aCc (i:=9) (oi:={ dst:=some 33,op:=Op.load _ (.tmp 32),type:=_,pos:=_,after:=_,guard:=none }) (v:=(Value.agg #[.int .i64 (ya:Nat),.int .u8 (yb:Nat)])) rfl (by kernel_rfl) (by kernel_rfl) (by kernel_rfl) (λ_ _ _ h=>h) (aCa ⟨by rfl,by intro w' a;(try dsimp only at a);go_simp⟩) (by assumption) ?_
   simp only[Act.put,aB1,aB5,aB6];refine aCk (rs:=[1,10]) (by kernel_rfl) (by simp) ?_;refine aCf rfl (λK c=>?_) (aCf rfl (λK c=>?_) aCj)
   focus
    go_simp
    refine c.out _ _ (by assumption) (λu=>?_);clear c K;refine aCk (rs:=[10]) (by kernel_rfl) (by simp) ?_;refine aCf rfl (λK c=>?_) aCj
    go_simp
    refine c.out _ _ ?hs (λu=>?_)
    case hs=>first | go_keep | simp[*] | (refine⟨?_,?_,?_⟩ <;> simp[*])
   rotate_left
   focus
    go_simp
    refine c.out _ _ ?hs (λu=>?_)
    case hs=>first | go_keep | simp[*] | (refine⟨?_,?_,?_⟩ <;> simp[*])
    clear c K;refine aCk (rs:=[1]) (by kernel_rfl) (by simp) ?_;refine aCf rfl (λK c=>?_) aCj
    go_simp
    refine c.out _ _ (by assumption) (λu=>?_)
   all_goals
    clear c K;refine aCk (rs:=[11]) (by kernel_rfl) (by simp) ?_;refine aCf rfl (λK c=>?_) aCj;refine aCV _ (by rfl) (.tmp 25) (.tmp 34) 163 (by rfl) (w.heap.size+2) 166 i0 (.agg #[.int .i64 0,.int .u8 0]) 2 16 Tryz.underlying163 xE aT aP aO rfl (by decide) _ ps.length (dE ps) (by rfl) ((own.alloc _).drew) ⟨W0.heap.size,0,none⟩ 1 1 [.int .i64 (ya:Nat),.int .u8 (yb:Nat)] (by rfl) (by rfl) (World.news_of_block (cs:=#[.int .i64 (ya:Nat),.int .u8 (yb:Nat)]) (t:=166) (fr:=(0,0)) (heap_alloc_new W0 _)) (by simp[Value.oneCell']) (by decide) (by unfold maxLen;omega) (by omega) (by simp;omega) (W0.heap.size+1) (by simp) ?_;intro f l A s d hat iy;have m:Below (w.heap.size+2) W0 A:=(aCl ((aB4 (w.heap.size+2) W0).alloc (by omega) (.cells #[.int .i64 (ya:Nat),.int .u8 (yb:Nat)] 166)) 1).grown d (by show w.heap.size+2<=(W0.alloc (.cells #[.int .i64 (ya:Nat),.int .u8 (yb:Nat)] 166)).heap.size;rw[aB7];omega) (λx h=>(own.lt x h).1);have I:=q.out.below m (by omega);have r1:=r.out.below m (by omega);have T5:=hid (I.set0 (.slice (some ⟨f,0,none⟩) (ps.length+1) l));have R5:=hid (r1.other (k:=w.heap.size+1) (o:=0) (by omega) (.slice (some ⟨f,0,none⟩) (ps.length+1) l));have O5:Hid ((A.setCell ⟨w.heap.size+1,0,none⟩ (.slice (some ⟨f,0,none⟩) (ps.length+1) l)).ownsRow (w.heap.size+2) 166 2 (.slice (some ⟨f,0,none⟩) (ps.length+1) l) (ps++[y]).length (dE (ps++[y]))):=hid (by rw[YK.out,aCd];exact aB s (k:=w.heap.size+1) (by omega) 0 (.slice (some ⟨f,0,none⟩) (ps.length+1) l));have BB:=hid ((z.out.trans (m.mono (by omega))).setCell (p:=⟨w.heap.size+1,0,none⟩) (by show w.heap.size<=w.heap.size+1;omega) (.slice (some ⟨f,0,none⟩) (ps.length+1) l));have e1:=(m.cell (p:=⟨S,1,none⟩) (by show S<w.heap.size+2;omega)).trans Z;have e2:=(m.cell (p:=⟨g,j*3,none⟩) (by show g<w.heap.size+2;omega)).trans l0;have e3:=(m.cell (p:=⟨g,j*3+1,none⟩) (by show g<w.heap.size+2;omega)).trans l1;have e4:=(m.cell (p:=⟨g,j*3+2,none⟩) (by show g<w.heap.size+2;omega)).trans l2;have J:∀ (b o:Nat) {v:Value},b≠w.heap.size+1->A.cell? ⟨b,o,none⟩=some v->(A.setCell ⟨w.heap.size+1,0,none⟩ (.slice (some ⟨f,0,none⟩) (ps.length+1) l)).cell? ⟨b,o,none⟩=some v:=λb o v hb hv=>by
     rw[aB8 _ _ _ _ (λe=>hb (by have:=congrArg Addr.block e;simpa using this.symm))];exact hv
    have f1:=J S 1 (by omega) e1;have f2:=J g (j*3) (by omega) e2;have f3:=J g (j*3+1) (by omega) e3;have f4:=J g (j*3+2) (by omega) e4;have d0:=I.c0;have d1:=I.fz 0 (by omega);have auc:Hid (w.heap.size+2<=(A.setCell ⟨w.heap.size+1,0,none⟩ (.slice (some ⟨f,0,none⟩) (ps.length+1) l)).heap.size):=hid (by have h9:=m.size;simp;omega);refine c.out _ _ ⟨e1,e2,e3⟩ (λu=>?_);clear c K m s d hat I r1 own J;simp only[Act.put,aB1];refine aCc (i:=12) (oi:={ dst:=some 36,op:=Op.fieldAddr _ (.tmp 5) 0,type:=_,pos:=_,after:=_,guard:=none }) (v:=(Value.pointer (some ⟨w.heap.size+1,0,none⟩))) rfl (by kernel_rfl) (by kernel_rfl) (by kernel_rfl) (λ_ _ _ h=>h) (aCa ⟨by rfl,by intro w' a;(try dsimp only at a);go_simp⟩) (by assumption) ?_
    simp only[Act.put];refine aCk (rs:=[13]) (by kernel_rfl) (by simp) ?_;refine aCf rfl (λK c=>?_) aCj
    go_simp
    refine c.out _ _ ⟨f1,f2,f3⟩ (λu=>?_);clear c K;refine aC0 (by kernel_rfl) ?_ _;clear u e1 e2 e3 e4 d0 d1 Z s2 l0 l1 l2 p1;generalize (A.setCell ⟨w.heap.size+1,0,none⟩ (.slice (some ⟨f,0,none⟩) (ps.length+1) l))=W5 at *;go_wp2_with fail;go_roundw
    case rel=>exact⟨t',y2,t2,ps++[y],_,rfl,Fw,T5,O5,R5,BB,by have h9:=auc.out;omega⟩
    case measure=>simp[intOf] <;> omega
  ·have j1:decide ((gl:Int)<=(j:Int))=false:=by simp;omega
   have j1n:decide (gl<=j)=false:=by simp;omega
   obtain⟨q1,q2,q3,q4,q5⟩:=Q.out _ _ _ _ n.out (by omega);have t0:=q.out.c0;have I:=q.out.c1;have t2:=q.out.c2;have tf1:=q.out.fz 1 (by omega);have tf2:=q.out.fz 2 (by omega);have r0:=r.out.c0;have r1:=r.out.c1;have r2:=r.out.c2;have rf0:=r.out.fz 0 (by omega);have rf1:=r.out.fz 1 (by omega);have rf2:=r.out.fz 2 (by omega);have uM:=(q.out.set1 (.int .i64 (ya:Nat))).set2 (.int .u8 (yb:Nat));have B:=(r.out.other (k:=w.heap.size+1) (o:=1) (by omega) (.int .i64 (ya:Nat))).other (k:=w.heap.size+1) (o:=2) (by omega) (.int .u8 (yb:Nat));have OF:=hid (aB (aB L.out (k:=w.heap.size+1) (by omega) 1 (.int .i64 (ya:Nat))) (k:=w.heap.size+1) (by omega) 2 (.int .u8 (yb:Nat)));have BF:=hid ((z.out.setCell (p:=⟨w.heap.size+1,1,none⟩) (by show w.heap.size<=w.heap.size+1;omega) (.int .i64 (ya:Nat))).setCell (p:=⟨w.heap.size+1,2,none⟩) (by show w.heap.size<=w.heap.size+1;omega) (.int .u8 (yb:Nat)));have u0:=uM.c0;have u1:=uM.c1;have u2:=uM.c2;have v0:=B.c0;have v1:=B.c1;have v2:=B.c2;have vf0:=B.fz 0 (by omega);have vf1:=B.fz 1 (by omega);have vf2:=B.fz 2 (by omega);clear r0 r1 r2 rf0 rf1 rf2;have HWF:=hid (show ((W0.setCell ⟨w.heap.size+1,1,none⟩ (.int .i64 (ya:Nat))).setCell ⟨w.heap.size+1,2,none⟩ (.int .u8 (yb:Nat)))=((W0.setCell ⟨w.heap.size+1,1,none⟩ (.int .i64 (ya:Nat))).setCell ⟨w.heap.size+1,2,none⟩ (.int .u8 (yb:Nat))) from rfl);go_wp2_with fail;refine xx (cs:=[.slice av ps.length cv,.int .i64 (ya:Nat),.int .u8 (yb:Nat)]) (b:=w.heap.size) Tryz.results97 ?_ ?_ ?_ Tryz.underlying175 rfl Tryz.aez ?_
   ·rfl
   ·rfl
   ·exact qE v0 v1 v2 _ _ _
   ·unfold zt;refine⟨ps,y,_,by rw[G.out.1,G.out.2],?_,n.out.go,q3,q4,n.out.head,q1,q2,n.out.lt,q5,?_⟩
    ·exact bQ (aB (aB (aB OF.out (k:=w.heap.size) (by omega) 0 _) (k:=w.heap.size) (by omega) 1 _) (k:=w.heap.size) (by omega) 2 _) (by omega)
    ·exact((BF.out.setCell (p:=⟨w.heap.size,0,none⟩) (aB2 _) _).setCell (p:=⟨w.heap.size,1,none⟩) (aB2 _) _).setCell (p:=⟨w.heap.size,2,none⟩) (aB2 _) _
structure yw where
 gf:Nat
 ao:Option Addr
 cap:Nat
 ls:List (Nat × Nat)
 goal:Nat->Bool
 found:Nat->Bool
def Pj(n:Nat)(r:yw):List Value:=[.slice (some ⟨r.gf,0,none⟩) n n,.slice r.ao r.ls.length r.cap,.int .i64 ((aG r.goal (n*256)).length:Nat)]
def jN(n:Nat)(rs:List yw):List Value:=rs.flatMap (Pj n)
theorem Xh(n:Nat)(rs:List yw)(r:yw):jN n (rs++[r])=jN n rs++Pj n r:=by simp[jN]
theorem aaj{n:Nat}{rs:List yw}{i:Nat}{r:yw}(h:rs[i]?=some r):(jN n rs)[i*3]?=some (.slice (some ⟨r.gf,0,none⟩) n n)/\(jN n rs)[i*3+1]?=some (.slice r.ao r.ls.length r.cap)/\(jN n rs)[i*3+2]?=some (.int .i64 ((aG r.goal (n*256)).length:Nat)):=by
 induction rs generalizing i with
 | nil=>simp at h
 | cons q qs ih=>
  cases i with
  | zero=>simp at h;subst h;simp[jN,Pj]
  | succ i=>
   have:=ih (by simpa using h);rw[show jN n (q::qs)=Pj n q++jN n qs by simp[jN]];have a:(Pj n q).length=3:=rfl;rw[aCi (by omega),aCi (by omega),aCi (by omega),a];simpa [show (i+1)*3 - 3=i*3 by omega,show (i+1)*3+1 - 3=i*3+1 by omega,show (i+1)*3+2 - 3=i*3+2 by omega] using this
structure mR (w:World) (B:Nat) (E:Nat->Nat->Prop) (N:Nat) (last:Nat->Bool) (r:yw):Prop where
 ow:w.ownsRow B 221 3 (.slice r.ao r.ls.length r.cap) r.ls.length (jO r.ls)
 sk:rM E N r.goal r.ls r.found
 gl:∀ x,r.goal x=true->last x=true
 fd:∀ x,last x=true->r.found x=true
theorem mR.below{w w':World}{B:Nat}{E:Nat->Nat->Prop}{N:Nat}{last:Nat->Bool}{r:yw}(h:mR w B E N last r)(hb:Below w.heap.size w w'):mR w' B E N last r:=⟨ai h.ow hb,h.sk,h.gl,h.fd⟩
theorem mR.grown{w w':World}{B B':Nat}{E:Nat->Nat->Prop}{N:Nat}{last:Nat->Bool}{r:yw}{v:Value}{k:Nat}{xs:List Value}(h:mR w B E N last r)(ho:w.ownsRow B' 171 3 v k xs)(hg:w.grownBy w' v.ownBlock):mR w' B E N last r:=⟨h.ow.kept hg (aY h.ow ho (by decide)),h.sk,h.gl,h.fd⟩
theorem mR.lk{w:World}{B:Nat}{E:Nat->Nat->Prop}{N:Nat}{last:Nat->Bool}{r:yw}(h:mR w B E N last r):yZ w r.ao r.cap r.ls:=by
 obtain⟨ao,cap,e,a⟩:=DZ h.ow;cases e;exact a
structure agR (n:Nat) (cs:List (Nat->Bool)) (f:Nat->Bool) (rs:List yw):Prop where
 pos:0<rs.length
 len:cs.length<=rs.length
 le:rs.length<=8
 mark:∀ (k:Nat) c,cs[k]?=some c->∃ r,rs[k]?=some r/\∀ x,r.goal x=true->c (x % 256)=true
theorem Tryz.ZX:(Tryz.prog.info? 171).map (λi=>(i.zero,i.size,i.bytes))=some (some (.agg #[.slice none 0 0,.slice none 0 0,.int .i64 0]),3,56):=by kernel_rfl
def EE(n:Nat)(ns:List Nd)(into:Nat->List (Nat × Nat))(cs:List (Nat->Bool))(f:Nat->Bool)(w:World)(e:Ending)(w':World):Prop:=
 ∃ rs v,e=.returned v/\w'.ownsRow w.heap.size 171 3 v rs.length (jN n rs)/\(∀ r∈rs,mR w' w.heap.size (Ew n ns into) (n*256) f r)/\agR n cs f rs/\Below w.heap.size w w'
theorem ES{cs:List (Nat->Bool)}{k:Nat}{c:Nat->Bool}(h:cs[k]?=some c):spread c∈spreads cs:=aCU.2 ⟨c,aCJ h,rfl⟩
theorem rH(f:Nat->Bool)(n:Nat):(aG f n).length<=n:=by rw[sM];exact CW f n
theorem Sn(P gi n cK g cap:Nat)(ns:List Nd)(into:Nat->List (Nat × Nat))(cs:List (Nat->Bool))(f:Nat->Bool)(w:World)(h8:ns.length<=8)(hp:vW n into)(oQ:wZ w P ns)(hP:P<w.heap.size)(hcm:pK w P cs)(hcl:cs.length<=8)(hw:pF w gi n into)(hf:bV w g (n*256) f)(hg:g<w.heap.size)(yN:∀ x,f x=true↔iQ (Ew n ns into) (spreads cs) x) :
  Calls Tryz.prog 133 #[.pointer (some ⟨P,0,none⟩),.agg #[.slice (some ⟨gi,0,none⟩) n cK],.slice (some ⟨g,0,none⟩) n cap] w (EE n ns into cs f w):=by
 have hn:=hp.le;have HP:=hid hp;have HM:=hid oQ;have HW:=hid hw;have HF:=hid hf;have QZ:=hid yN;have Bg:=hw.lt;obtain⟨ca,amS,Hu,Gx⟩:=hcm;have BH:=hid Gx;obtain⟨i0,xE,aT,aP,aO⟩:=info_parts Tryz.ZX;clear hp oQ hw hf Gx yN;generalize hm:cs.length=m at *;have qC:=hid hm;clear hm;have ba:=hid ((aB4 w.heap.size w).alloc (aB2 _) (.cells #[.slice (some ⟨gi,0,none⟩) n cK] 159));have C0:Hid ((w.alloc (.cells #[.slice (some ⟨gi,0,none⟩) n cK] 159)).cell? ⟨w.heap.size,0,none⟩=some (.slice (some ⟨gi,0,none⟩) n cK)):=hid (by simp);have lM:=(ba.out.cell (p:=⟨P,2048,none⟩) hP).trans Hu;go_enter Tryz.func133,Tryz.ntmps133;go_wp2_with fail;generalize hW:(w.alloc (.cells #[.slice (some ⟨gi,0,none⟩) n cK] 159))=W at *;have Me:W.heap.size=w.heap.size+1:=by rw[<-hW];simp
 clear hW lM Hu
 go_loopw [7,18] (λv i O=>∃ (k:Nat) (rs:List yw),k<=m/\i=.int .i64 k/\Hid (rs.length=k)/\Hid (O.ownsRow (w.heap.size+1) 171 3 v rs.length (jN n rs))/\Hid (∀ r∈rs,mR O w.heap.size (Ew n ns into) (n*256) f r)/\Hid (∀ (j:Nat) c,j<k->cs[j]?=some c->∃ r,rs[j]?=some r/\∀ x,r.goal x=true->c (x % 256)=true)/\Hid (O.cell? ⟨w.heap.size,0,none⟩=some (.slice (some ⟨gi,0,none⟩) n cK))/\Hid (Below w.heap.size w O)/\w.heap.size<O.heap.size) (λ_ i _=>m - (intOf i).toNat)
 case atStart=>exact⟨0,[],aCg _,rfl,hid rfl,hid (aCp _ _ _ _),hid (λr t=>by simp at t),hid (λj c hj=>by omega),C0,ba,by omega⟩
 case round=>
  obtain⟨k,rs,hk,rfl,u,M,BD,Q,HC,G,R⟩:=hrel;rename World=>W0;rename Value=>v0;clear C0 ba;obtain⟨ML,Mw,rfl⟩:=ak M.out;by_cases S:k<m
  ·obtain⟨gc,e,CO,A⟩:=BH.out (by omega);subst e;obtain⟨c,C⟩:∃ c,cs[k]?=some c:=⟨cs[k]'(by rw[qC.out];exact S),aB3 (by rw[qC.out];exact S)⟩;have GC:=hid ((A k c C).below G.out CO);have YP:=hid C;clear A C;go_wp2_with (first | (refine aN rfl (.tmp 20) rfl gc (k*256) c rfl GC.out ?_) | (refine bM rfl (.tmp 9) (.tmp 21) rfl W0.heap.size 0 c rfl rfl (ig W0).there ?_))
   intro w2 S2;have dO:Below W0.heap.size W0 w2:=S2.bD _ _ (aB2 _) ((aB4 _ _).alloc (aB2 _) _);have A9:=hid S2.at_;have aM:=hid (G.out.trans (dO.mono (by omega)));have Iq:=hid dO;have kX:=dO.size;clear S2 dO GC;go_wp2_with (refine aN rfl (.tmp 9) rfl W0.heap.size 0 c rfl A9.out ?_);refine(Kz g n cap f c w2 (by omega) (HF.out.below aM.out hg) (by omega)).mono ?_;rintro e w3 ⟨g3,rfl,Uw,Uv,F3,aA⟩;have F3:=hid F3;have bF:=hid (aM.out.trans (aA.mono (by omega)));have VO:=hid (Iq.out.trans (aA.mono kX));have Vq:=(VO.out.cell (p:=⟨w.heap.size,0,none⟩) R).trans HC.out;have qQ:=aA.size;clear aA Iq aM A9;go_wp2_with fail;refine(zF P gi n cK g3 n ns into (eU f c) w3 h8 HP.out (HM.out.below bF.out hP) (by omega) (HW.out.below bF.out) F3.out Uv).mono ?_;rintro e o ⟨d,a,ls,vl,rfl,hg4,Uu,F4,T,U,H,D⟩;obtain⟨al,l,rfl,LM⟩:=DZ H;have VN:=hid (VO.out.trans (D.mono (by omega)));have dW:=hid (bF.out.trans (D.mono (by omega)));have Bd:=D.size;have I:=hid (bQ H (show w.heap.size<=w3.heap.size by omega));clear LM;have qb:=hid U;have lL:=rH (eU f c) (n*256);have V6:Hid (∀ x,eU f c x=true->f x=true/\c (x % 256)=true):=hid (λx z=>by unfold eU at z;simpa using z);have J:Hid (∀ x,f x=true->a x=true):=hid (λx z=>by
    rw[T x];have h9:=ZV (c:=spread c) (ES YP.out) ((QZ.out x).1 z);refine fO.mono (λy B=>?_) h9;unfold eU;rw[(QZ.out y).2 B.1];exact B.2)
   clear D T U H F3 F4 Vq;have V:=(aB4 o.heap.size o).alloc (aB2 _) (.cells #[.slice (some ⟨d,0,none⟩) n n,.slice al ls.length l,.int .i64 ((aG (eU f c) (n*256)).length:Nat)] 171);have lq:=hid (λq h=>(M.out.lt q h).1);have X:=hid ((ai M.out VN.out).alloc (.cells #[.slice (some ⟨d,0,none⟩) n n,.slice al ls.length l,.int .i64 ((aG (eU f c) (n*256)).length:Nat)] 171));have Jr:=u.out;have QQ:Hid (Pj n ⟨d,al,l,ls,eU f c,a⟩=[.slice (some ⟨d,0,none⟩) n n,.slice al ls.length l,.int .i64 ((aG (eU f c) (n*256)).length:Nat)]):=hid rfl;have kK:=hid (show (⟨d,al,l,ls,eU f c,a⟩:yw)=⟨d,al,l,ls,eU f c,a⟩ from rfl);generalize af7:(aG (eU f c) (n*256)).length=qy at *;clear Jr;go_wp2_with (at_builtin;go_must (refine aCE _ rfl (.tmp 29) (.tmp 31) 216 rfl (w.heap.size+1) 171 i0 (.agg #[.slice none 0 0,.slice none 0 0,.int .i64 0]) 3 56 Tryz.underlying216 xE aT aP aO rfl (by decide) _ rs.length _ rfl (X.out.alloc _) ⟨o.heap.size+1,0,none⟩ 1 1 [.slice (some ⟨d,0,none⟩) n n,.slice al ls.length l,.int .i64 (qy:Nat)] rfl rfl ?c1 ?c2 (by decide) ?c3 ?c4 ?c5 (o.heap.size+2) ?c6 ?_))
   case c1=>exact(by simpa using xN (o.alloc (.cells #[.slice (some ⟨d,0,none⟩) n n,.slice al ls.length l,.int .i64 (qy:Nat)] 171)) [.slice (some ⟨d,0,none⟩) n n,.slice al ls.length l,.int .i64 (qy:Nat)] 171)
   case c2=>intro y B;simp at B;rcases B with rfl | rfl | rfl <;> rfl
   case c3=>unfold maxLen;have:=u.out;omega
   case c4=>have:=u.out;omega
   case c5=>simp;omega
   case c6=>simp
   intro gg cc E s b K qj;have F:Below o.heap.size o ((o.alloc (.cells #[.slice (some ⟨d,0,none⟩) n n,.slice al ls.length l,.int .i64 (qy:Nat)] 171)).alloc (.cells #[.slice (some ⟨d,0,none⟩) n n,.slice al ls.length l,.int .i64 (qy:Nat)] 171)):=V.alloc (by simp) _;have jE:=hid ((dW.out.trans (F.mono (by omega))).grown b (by simp;omega) (λq h=>by have:=lq.out q h;omega));have N:=(X.out.alloc (.cells #[.slice (some ⟨d,0,none⟩) n n,.slice al ls.length l,.int .i64 (qy:Nat)] 171));have C7:Hid (E.cell? ⟨w.heap.size,0,none⟩=some (.slice (some ⟨gi,0,none⟩) n cK)):=hid (b.cell ((F.cell (p:=⟨w.heap.size,0,none⟩) (by show w.heap.size<o.heap.size;omega)).trans ((VN.out.cell (p:=⟨w.heap.size,0,none⟩) R).trans HC.out)) (λh=>by have:=lq.out w.heap.size h.symm;omega));have L:Hid (mR E w.heap.size (Ew n ns into) (n*256) f ⟨d,al,l,ls,eU f c,a⟩):=hid ((mR.below ⟨I.out,qb.out,λx z=>(V6.out x z).1,J.out⟩ F).grown N b);have OLD:Hid (∀ r∈rs,mR E w.heap.size (Ew n ns into) (n*256) f r):=hid (λr t=>(((BD.out r t).below VN.out).below F).grown N b);have ALL:Hid (∀ r∈rs++[⟨d,al,l,ls,eU f c,a⟩],mR E w.heap.size (Ew n ns into) (n*256) f r):=hid (λr t=>by
    rcases aCG.1 t with t | t
    ·exact OLD.out r t
    ·simp at t;rw[t];exact L.out)
   have MK:Hid (∀ (j:Nat) c',j<k+1->cs[j]?=some c'->∃ r,(rs++[⟨d,al,l,ls,eU f c,a⟩])[j]?=some r/\∀ x,r.goal x=true->c' (x % 256)=true):=hid (λj c' hj uB=>by
    by_cases e:j=k
    ·subst e;rw[YP.out]at uB;cases uB;exact⟨_,by rw[aCi (by rw[u.out];exact aB2 _),u.out];simp;rfl,λx z=>(V6.out x z).2⟩
    ·obtain⟨r,h1,h2⟩:=Q.out j c' (by omega) uB;exact⟨r,by rw[aCh (by rw[u.out];omega)];exact h1,h2⟩)
   have Y:Hid (E.ownsRow (w.heap.size+1) 171 3 (.slice (some ⟨gg,0,none⟩) (rs.length+1) cc) (rs++[(⟨d,al,l,ls,eU f c,a⟩:yw)]).length (jN n (rs++[(⟨d,al,l,ls,eU f c,a⟩:yw)]))):=hid (by
    rw[Xh,QQ.out,aCd];exact s)
   have RL:Hid ((rs++[(⟨d,al,l,ls,eU f c,a⟩:yw)]).length=k+1):=hid (by rw[aCd,u.out];rfl);have as4:w.heap.size<E.heap.size:=by have:=b.size;simp at this;omega
   clear s b K F V N;go_wp2_with fail;go_roundw
   case rel=>exact⟨k+1,_,by omega,by go_num,RL,Y,ALL,MK,C7,jE,as4⟩
   case measure=>simp[intOf] <;> omega
  ·obtain rfl:k=m:=by omega
   have Z:cs.length=k:=qC.out;by_cases hk0:k=0
   ·subst hk0;obtain rfl:rs=[]:=List.length_eq_zero_iff.1 u.out;have Vq:=HC.out;have YH:Hid (cs=[]):=hid (List.length_eq_zero_iff.1 Z);go_wp2_with fail;refine(zF P gi n cK g cap ns into f _ h8 HP.out (HM.out.below G.out hP) (by omega) (HW.out.below G.out) (HF.out.below G.out hg) (by omega)).mono ?_;rintro e o ⟨d,a,ls,vl,rfl,hg4,Uu,F4,T,U,H,D⟩;obtain⟨al,l,rfl⟩:=ak H;have dW:=hid (G.out.trans (D.mono (by omega)));have Bd:=D.size;have I:=hid (bQ H (show w.heap.size<=W0.heap.size by omega));have qb:=hid U;have J:Hid (∀ x,f x=true->a x=true):=hid (λx z=>by
     rw[T x];have h9:=NT ((QZ.out x).1 z);exact fO.mono (λy B=>(QZ.out y).2 B) h9)
    have V:=(aB4 o.heap.size o).alloc (aB2 _) (.cells #[.slice (some ⟨d,0,none⟩) n n,.slice al ls.length l,.int .i64 ((aG f (n*256)).length:Nat)] 171);have QQ:Hid (Pj n ⟨d,al,l,ls,f,a⟩=[.slice (some ⟨d,0,none⟩) n n,.slice al ls.length l,.int .i64 ((aG f (n*256)).length:Nat)]):=hid rfl;have lq:=hid (λq h=>(M.out.lt q h).1);have X:Hid ((o.alloc (.cells #[.slice (some ⟨d,0,none⟩) n n,.slice al ls.length l,.int .i64 ((aG f (n*256)).length:Nat)] 171)).ownsRow (w.heap.size+1) 171 3 (.slice ML 0 Mw) 0 []):=hid ((ai M.out D).alloc _);clear D T U H F4 Vq;generalize (aG f (n*256)).length=qy at *;go_wp2_with (at_builtin;go_must (refine aCE _ rfl (.tmp 41) (.tmp 43) 216 rfl (w.heap.size+1) 171 i0 (.agg #[.slice none 0 0,.slice none 0 0,.int .i64 0]) 3 56 Tryz.underlying216 xE aT aP aO rfl (by decide) _ 0 [] rfl (X.out.alloc _) ⟨o.heap.size+1,0,none⟩ 1 1 [.slice (some ⟨d,0,none⟩) n n,.slice al ls.length l,.int .i64 (qy:Nat)] rfl rfl ?c1 ?c2 (by decide) ?c3 ?c4 ?c5 (o.heap.size+2) ?c6 ?_))
    case c1=>exact(by simpa using xN (o.alloc (.cells #[.slice (some ⟨d,0,none⟩) n n,.slice al ls.length l,.int .i64 (qy:Nat)] 171)) [.slice (some ⟨d,0,none⟩) n n,.slice al ls.length l,.int .i64 (qy:Nat)] 171)
    case c2=>intro y B;simp at B;rcases B with rfl | rfl | rfl <;> rfl
    case c3=>unfold maxLen;omega
    case c4=>omega
    case c5=>simp;omega
    case c6=>simp
    intro gg cc E s b K qj;have F:Below o.heap.size o ((o.alloc (.cells #[.slice (some ⟨d,0,none⟩) n n,.slice al ls.length l,.int .i64 (qy:Nat)] 171)).alloc (.cells #[.slice (some ⟨d,0,none⟩) n n,.slice al ls.length l,.int .i64 (qy:Nat)] 171)):=V.alloc (by simp) _;have jE:=hid ((dW.out.trans (F.mono (by omega))).grown b (by simp;omega) (λq h=>by have:=lq.out q h;omega));have N:=(X.out.alloc (.cells #[.slice (some ⟨d,0,none⟩) n n,.slice al ls.length l,.int .i64 (qy:Nat)] 171));have N0:mR o w.heap.size (Ew n ns into) (n*256) f ⟨d,al,l,ls,f,a⟩:=⟨I.out,qb.out,λx z=>z,J.out⟩;have L:Hid (mR E w.heap.size (Ew n ns into) (n*256) f ⟨d,al,l,ls,f,a⟩):=hid ((N0.below F).grown N b);have JI:Hid (agR n cs f [⟨d,al,l,ls,f,a⟩]):=hid ⟨by simp,by rw[YH.out];simp,by simp,λj c C=>by rw[YH.out]at C;simp at C⟩;have Y:Hid (E.ownsRow w.heap.size 171 3 (.slice (some ⟨gg,0,none⟩) 1 cc) 1 (jN n [⟨d,al,l,ls,f,a⟩])):=hid (by
     rw[show jN n [⟨d,al,l,ls,f,a⟩]=Pj n ⟨d,al,l,ls,f,a⟩ by simp[jN],QQ.out];exact bQ s (by omega))
    clear s b K F V N;go_wp2_with fail;go_ret;unfold EE;exact⟨[⟨d,al,l,ls,f,a⟩],_,rfl,Y.out,λr t=>by simp at t;rw[t];exact L.out,JI.out,jE.out⟩
   ·have JI:Hid (agR n cs f rs):=hid ⟨by rw[u.out];omega,by rw[u.out,Z];exact aB2 _,by rw[u.out];omega,λj c C=>Q.out j c (by have:=(aB9.1 C).1;omega) C⟩;have hz:((rs.length:Int)==0)=false:=aCe.2 (by have:=u.out;omega);have Y:=hid (bQ M.out (show w.heap.size<=w.heap.size+1 by omega));go_wp2_with fail;go_ret;unfold EE;exact⟨rs,_,rfl,Y.out,BD.out,JI.out,G.out⟩
structure aaC (g:Nat) (w w':World):Prop where
 size:w.heap.size<=w'.heap.size
 block:∀ i,i<w.heap.size->i≠g->w'.heap[i]?=w.heap[i]?
theorem IV{g:Nat}{B:Nat}{e:TypeId}{s:Nat}{v:Value}{n:Nat}{xs:List Value}{w w':World}(h:w.ownsRow B e s v n xs)(hs:aaC g w w')(hne:v.ownBlock≠some g):w'.ownsRow B e s v n xs:=by
 refine⟨h.1,?_⟩;rcases h.2 with h0 | ⟨g',cap,cur,ev,hb,hg,r⟩
 ·exact aCa h0
 ·refine aCb ⟨g',cap,cur,ev,hb,(hs.block g' (aCu.1 hg).1 (λe=>hne ?_)).trans hg,r⟩;rw[ev,e];rfl
