import Derived.Test.YtjagijohfkffiabGreatALLM12
import Derived.Test.YtjagijohfkffiabGreatALLM13
set_option maxHeartbeats 16000000
set_option maxRecDepth 100000
set_option linter.unusedSimpArgs false
namespace Go.Proofs.YtjagijohfkffiabGreat
open Go.RowKit
set_option linter.unusedVariables false
def wZ(w:World)(P:Nat)(ns:List Nd):Prop:=∀ x N,x<8->N<256->w.cell? ⟨P,x*256+N,none⟩=some (.int .u8 (gF ns x N:Nat))
theorem wZ.below{B:Nat}{w w':World}{P:Nat}{ns:List Nd}(h:wZ w P ns)(hb:Below B w w')(hlt:P<B):wZ w' P ns:=λx N hx hN=>(hb.cell (p:=⟨P,x*256+N,none⟩) hlt).trans (h x N hx hN)
structure pF (w:World) (gi n:Nat) (into:Nat->List (Nat × Nat)):Prop where
 lt:gi<w.heap.size
 row:∀ t,t<n->∃ ao cap,w.cell? ⟨gi,t,none⟩=some (.slice ao (into t).length cap)/\(0<(into t).length->∃ gr,ao=some ⟨gr,0,none⟩/\gr<w.heap.size /\
  ∀ j st,(into t)[j]?=some st->w.cell? ⟨gr,j*2,none⟩=some (.int .i64 (st.1:Nat))/\w.cell? ⟨gr,j*2+1,none⟩=some (.int .i64 (st.2:Nat)))
theorem pF.below{w w':World}{gi n:Nat}{into:Nat->List (Nat × Nat)}(h:pF w gi n into)(hb:Below w.heap.size w w'):pF w' gi n into:=by
 refine⟨aCq h.lt hb.size,λt c=>?_⟩;obtain⟨d,cap,e,f⟩:=h.row t c;refine⟨d,cap,(hb.cell (p:=⟨gi,t,none⟩) h.lt).trans e,λg=>?_⟩;obtain⟨a,i,b,k⟩:=f g;refine⟨a,i,aCq b hb.size,λj st l=>?_⟩;obtain⟨m,o⟩:=k j st l;exact⟨(hb.cell (p:=⟨a,j*2,none⟩) b).trans m,(hb.cell (p:=⟨a,j*2+1,none⟩) b).trans o⟩
structure vW (n:Nat) (into:Nat->List (Nat × Nat)):Prop where
 le:n<=8589934592
 st:∀ t,t<n->∀ st∈into t,st.1<n/\st.2<8
 len:∀ t,t<n->(into t).length<=1099511627776
def Ew(n:Nat)(ns:List Nd)(into:Nat->List (Nat × Nat))(y a:Nat):Prop:=a<n*256/\∃ st∈into (a / 256),y=st.1*256+gF ns st.2 (a % 256)
theorem ahW{n:Nat}{ns:List Nd}{into:Nat->List (Nat × Nat)}(a b:Nat)(h:Ew n ns into a b):b<n*256:=h.1
theorem Oq{n:Nat}{ns:List Nd}{into:Nat->List (Nat × Nat)}(h8:ns.length<=8)(hp:vW n into){y a:Nat}(h:Ew n ns into y a):y<n*256:=by
 obtain⟨c,st,b,rfl⟩:=h;have d:=(hp.st (a / 256) (by omega) st b).1;have e:=vR h8 st.2 (a % 256);omega
theorem ahh{f:Nat->Bool}{b y:Nat}(h:f y=true):upd f b true y=true:=by unfold upd;split <;> first | rfl | exact h
theorem upd_same(f:Nat->Bool)(b:Nat)(v:Bool):upd f b v b=v:=by simp[upd]
def xS(n:Nat)(ns:List Nd)(into:Nat->List (Nat × Nat))(rl:List Nat)(found:Nat->Bool)(i:Nat):Prop:=∀ j a,j<i->rl[j]?=some a->∀ y,Ew n ns into y a->found y=true
theorem xS.add{n:Nat}{ns:List Nd}{into:Nat->List (Nat × Nat)}{rl:List Nat}{found:Nat->Bool}{i:Nat}(h:xS n ns into rl found i)(hi:i<rl.length)(y:Nat):xS n ns into (rl++[y]) (upd found y true) i:=λj a hj ha z hz=>by
 rw[aCh (by omega)]at ha;exact ahh (h j a hj ha z hz)
def wu(ns:List Nd)(ws:List (Nat × Nat))(u:Nat)(found:Nat->Bool)(j:Nat):Prop:=∀ x st,x<j->ws[x]?=some st->found (st.1*256+gF ns st.2 u)=true
theorem wu.step{ns:List Nd}{ws:List (Nat × Nat)}{u j:Nat}{found:Nat->Bool}(h:wu ns ws u found j){st:Nat × Nat}(hj:ws[j]?=some st)(hf:found (st.1*256+gF ns st.2 u)=true):wu ns ws u found (j+1):=λx s2 hx hs=>by
 by_cases e:x=j
 ·subst e;rw[hj]at hs;cases hs;exact hf
 ·exact h x s2 (by omega) hs
theorem wu.add{ns:List Nd}{ws:List (Nat × Nat)}{u j:Nat}{found:Nat->Bool}(h:wu ns ws u found j)(y:Nat):wu ns ws u (upd found y true) j:=λx s2 hx hs=>ahh (h x s2 hx hs)
theorem adg{n:Nat}{ns:List Nd}{into:Nat->List (Nat × Nat)}{rl:List Nat}{found:Nat->Bool}{k s u:Nat}(h:xS n ns into rl found k)(hk:rl[k]?=some (s*256+u))(hu:u<256)(hi:wu ns (into s) u found (into s).length):xS n ns into rl found (k+1):=λj a hj ha y hy=>by
 by_cases e:j=k
 ·subst e;rw[hk]at ha;cases ha;obtain⟨_,st,hs,rfl⟩:=hy;rw[show (s*256+u) / 256=s by omega]at hs;rw[show (s*256+u) % 256=u by omega];obtain⟨x,hx,ex⟩:=aCK hs;exact hi x st hx (by rw[aB3 hx,ex])
 ·exact h j a (by omega) ha y hy
/-! ### What seek has found -/
structure rM (E:Nat->Nat->Prop) (N:Nat) (goal:Nat->Bool) (ls:List (Nat × Nat)) (found:Nat->Bool):Prop where
 lead:MX E N goal (ls.map Prod.fst) found
 gl:(aG goal N).length<=ls.length
 pre:∀ (i x:Nat),(aG goal N)[i]?=some x->ls[i]?=some (x,i)
 link:∀ (i a t:Nat),(aG goal N).length<=i->ls[i]?=some (a,t)->t<i/\found a=true/\∃ b t':Nat,ls[t]?=some (b,t')/\E a b
 in_:∀ x,found x=true->∃ i t:Nat,(aG goal N).length<=i/\ls[i]?=some (x,t)
def uY(gs:List Nat)(k:Nat):List (Nat × Nat):=(List.range k).map λi=>(gs.getD i 0,i)
theorem abX(gs:List Nat)(k:Nat):uY gs (k+1)=uY gs k++[(gs.getD k 0,k)]:=by simp[uY,aCT]
theorem Kc(gs:List Nat)(k:Nat):(uY gs k).length=k:=by simp[uY]
theorem afD(gs:List Nat):(uY gs gs.length).map Prod.fst=gs:=by
 apply List.ext_getElem
 ·simp[uY]
 ·intro i b a;simp[uY,List.getD,aB3 a]
theorem Zc(E:Nat->Nat->Prop)(N:Nat)(goal:Nat->Bool):rM E N goal (uY (aG goal N) (aG goal N).length) (λ_=>false):=by
 refine⟨by rw[afD];exact ZQ E N goal,by rw[Kc];exact aB2 _,λi x h=>?_,λi a t d c=>?_,λx h=>(by cases h)⟩
 ·have b:=(aB9.1 h).1;have e:(aG goal N)[i]=x:=by rw[aB3 b]at h;exact Option.some.inj h
  simp[uY,List.getD,b,e]
 ·have:=(aB9.1 c).1;rw[Kc]at this;omega
theorem ae3{E:Nat->Nat->Prop}{N:Nat}{goal found:Nat->Bool}{ls:List (Nat × Nat)}(h:rM E N goal ls found){k a t y:Nat}(ha:ls[k]?=some (a,t))(he:E y a)(hy:y<N)(hf:found y=false):rM E N goal (ls++[(y,k)]) (upd found y true):=by
 have m:=(aB9.1 ha).1;have n:∀ x,found x=true->upd found y true x=true:=λx g=>by unfold upd;split <;> first | rfl | exact g
 have d:∀ {i:Nat} {p:Nat × Nat},ls[i]?=some p->(ls++[(y,k)])[i]?=some p:=λ{i p} l=>by
  rw[aCh (aB9.1 l).1];exact l
 refine⟨?_,by rw[aCd];have:=h.gl;omega,λi x o=>d (h.pre i x o),λi b s j f=>?_,λx g=>?_⟩
 ·rw[aCM];exact afH h.lead (aCU.2 ⟨(a,t),aCJ ha,rfl⟩) he hy hf
 ·by_cases c:i<ls.length
  ·rw[aCh c]at f;obtain⟨q,r,u,v,w,z⟩:=h.link i b s j f;exact⟨q,n _ r,u,v,d w,z⟩
  ·have c2:=(aB9.1 f).1;simp at c2;have e:i=ls.length:=by omega
   subst e;simp at f;obtain⟨rfl,rfl⟩:=f;exact⟨m,by simp[upd],a,t,d ha,he⟩
 ·by_cases e:x=y
  ·subst e;exact⟨ls.length,k,h.gl,by simp⟩
  ·obtain⟨i,s,j,f⟩:=h.in_ x (by unfold upd at g;rw[aC1 e]at g;exact g);exact⟨i,s,j,d f⟩
theorem oW{E:Nat->Nat->Prop}{N:Nat}{goal found:Nat->Bool}{ls:List (Nat × Nat)}(h:rM E N goal ls found):ls.length<=(aG goal N).length+N:=by
 have a:=h.lead.len;have b:=CW found N;rw[aCO]at a;rw[sM];omega
def jO(ls:List (Nat × Nat)):List Value:=ls.flatMap λp=>[.int .i64 (p.1 / 256:Nat),.int .u8 (p.1 % 256:Nat),.int .i64 (p.2:Nat)]
theorem Jy(ls:List (Nat × Nat))(p:Nat × Nat):jO (ls++[p])=jO ls++[.int .i64 (p.1 / 256:Nat),.int .u8 (p.1 % 256:Nat),.int .i64 (p.2:Nat)]:=by simp[jO]
theorem Ep{ls:List (Nat × Nat)}{i:Nat}{p:Nat × Nat}(h:ls[i]?=some p):(jO ls)[i*3]?=some (.int .i64 (p.1 / 256:Nat))/\(jO ls)[i*3+1]?=some (.int .u8 (p.1 % 256:Nat))/\(jO ls)[i*3+2]?=some (.int .i64 (p.2:Nat)):=by
 induction ls generalizing i with
 | nil=>simp at h
 | cons q qs ih=>
  cases i with
  | zero=>simp at h;subst h;simp[jO]
  | succ i=>
   have:=ih (by simpa using h);rw[show jO (q::qs)=[.int .i64 (q.1 / 256:Nat),.int .u8 (q.1 % 256:Nat),.int .i64 (q.2:Nat)]++jO qs by simp[jO]];rw[aCi (by simp;omega),aCi (by simp;omega),aCi (by simp;omega)];simpa [show (i+1)*3 - 3=i*3 by omega,show (i+1)*3+1 - 3=i*3+1 by omega,show (i+1)*3+2 - 3=i*3+2 by omega] using this
theorem Tryz.afP:(Tryz.prog.info? 221).map (λi=>(i.zero,i.size,i.bytes))=some (some (.agg #[.int .i64 0,.int .u8 0,.int .i64 0]),3,24):=by kernel_rfl
theorem xN(w:World)(cs:List Value)(t:TypeId):∀ j u,cs[j]?=some u->(w.alloc (.cells cs.toArray t)).cell? ((⟨w.heap.size,0,none⟩:Addr).add j)=some u:=λj u hj=>by
 rw[Addr.add_mid,aCR (w.alloc (.cells cs.toArray t)) w.heap.size (0+j) cs.toArray t (0,0) (heap_alloc_last w _)];simpa using hj
theorem xx{fn:Func}{p b:Nat}{ty:TypeId}{d:TypeDesc}{cs:List Value}{a:Act}{w:World}{R:Ending->World->Prop}(h:fn.results=#[.cell p ty])(hd:a.defers=[])(hp:a.tmps.getD p undef=.pointer (some ⟨b,0,none⟩))
  (hg:w.rangeAt b 0 cs) (hu:Tryz.prog.underlying ty=some d) (hr:d.isRow=true) (hs:(Tryz.prog.info? ty).map (·.size)=some cs.length) (hR:R (.returned (.agg cs.toArray)) w):bodyPost Tryz.prog fn R .ret a w:=by
 refine bodyPost_ret (v:=.agg cs.toArray) ?_ hd hR;rw[o6 h,hp];simp only[asAddr,Sem.run_pure,Result.andThen_ok];exact run_loadVar_mid w b 0 _ cs d hg hu hr hs
theorem qE{w:World}{b:Nat}{x0 x1 x2:Value}(d0:w.cell? ⟨b,0,none⟩=some x0)(d1:w.cell? ⟨b,1,none⟩=some x1)(d2:w.cell? ⟨b,2,none⟩=some x2)(y0 y1 y2:Value) :
  (((w.setCell ⟨b,0,none⟩ y0).setCell ⟨b,1,none⟩ y1).setCell ⟨b,2,none⟩ y2).rangeAt b 0 [y0,y1,y2]:=by
 have o:∀ (w:World) (i j:Nat) (u:Value),i≠j->(w.setCell ⟨b,i,none⟩ u).cell? ⟨b,j,none⟩=w.cell? ⟨b,j,none⟩:=λw i j u h=>aB8 _ _ _ _ (λq=>h (by have:=congrArg Addr.off q;simpa using this));intro j v a;rw[aCw];cases j with
 | zero=>
  simp at a;subst a;rw[o _ 2 0 _ (by omega),o _ 1 0 _ (by omega)];exact aCz _ _ _ d0
 | succ j=>cases j with
  | zero=>
   simp at a;subst a;rw[o _ 2 1 _ (by omega)];exact aCz _ _ _ (by rw[o _ 0 1 _ (by omega)];exact d1)
  | succ j=>cases j with
   | zero=>
    simp at a;subst a;exact aCz _ _ _ (by rw[o _ 1 2 _ (by omega),o _ 0 2 _ (by omega)];exact d2)
   | succ j=>simp at a
theorem Tryz.Zd:(Tryz.prog.info? 171).map (·.size)=some 3:=by kernel_rfl
def am5(n:Nat)(ns:List Nd)(into:Nat->List (Nat × Nat))(goal:Nat->Bool)(w:World)(e:Ending)(w':World):Prop:=
 ∃ g' found ls v,e=.returned (.agg #[.slice (some ⟨g',0,none⟩) n n,v,.int .i64 ((aG goal (n*256)).length:Nat)])/\w.heap.size<=g'/\g'<w'.heap.size/\bV w' g' (n*256) found/\(∀ x,found x=true↔fO (Ew n ns into) (λy=>goal y=true) x) /\
  rM (Ew n ns into) (n*256) goal ls found/\w'.ownsRow w.heap.size 221 3 v ls.length (jO ls)/\Below w.heap.size w w'
theorem zF(P gi n cK g cap:Nat)(ns:List Nd)(into:Nat->List (Nat × Nat))(goal:Nat->Bool)(w:World)(h8:ns.length<=8)(hp:vW n into)(oQ:wZ w P ns)(hP:P<w.heap.size)(hw:pF w gi n into)(lL:bV w g (n*256) goal)(hg:g<w.heap.size) :
  Calls Tryz.prog 95 #[.pointer (some ⟨P,0,none⟩),.agg #[.slice (some ⟨gi,0,none⟩) n cK],.slice (some ⟨g,0,none⟩) n cap] w (am5 n ns into goal w):=by
 have hn:=hp.le;have HP:=hid hp;have HM:=hid oQ;have HW:=hid hw;have HG:=hid lL;have Bg:=hw.lt;obtain⟨i0,hi,aT,aP,aO⟩:=info_parts Tryz.afP;clear hp oQ hw lL;go_enter Tryz.func95,Tryz.ntmps95;go_wp2_with (at_make;go_must (refine jv _ rfl (.tmp 17) rfl n rfl (by omega) ?_));intro T F1 gN Z;have c4:Hid (T.cell? ⟨w.heap.size,0,none⟩=some (.slice (some ⟨gi,0,none⟩) n cK)):=hid ((Z.cell (p:=⟨w.heap.size,0,none⟩) (by show w.heap.size<w.heap.size+1+1;omega)).trans (by simp));have F7:=hid F1;have hs1:=Z.size;have T61:=hid ((dx (w.alloc (.cells #[.slice (some ⟨gi,0,none⟩) n cK] 159)) (.slice none 0 0) (.slice none 0 0) (.int .i64 0) 171).below Z (by first | omega | (simp only[aB7];omega)))
 have aK:=hid ((((aB4 w.heap.size w).alloc (aB2 _) (.cells #[.slice (some ⟨gi,0,none⟩) n cK] 159)).alloc (by first | omega | (simp only[aB7];omega)) (.cells #[.slice none 0 0,.slice none 0 0,.int .i64 0] 171)).trans (Z.mono (by first | omega | (simp only[aB7];omega))))
 clear F1 Z;go_wp2_with fail;have ba:=(aB4 T.heap.size T).alloc (aB2 _) (.cells #[.slice (some ⟨w.heap.size+1+1,0,none⟩) n n,.slice none 0 0,.int .i64 0] 171);refine(TB g n cap goal _ (by omega) ((HG.out.below aK.out hg).below ba (by omega)) (by simp;omega)).mono ?_;rintro e w2 ⟨v0,rfl,fU,ae⟩;simp only[aB7]at fU ae hs1 gN;have TS2:=hid ((dx T (.slice (some ⟨w.heap.size+1+1,0,none⟩) n n) (.slice none 0 0) (.int .i64 0) 171).below ae (by omega));have bb:=ba.trans (ae.mono (show T.heap.size<=T.heap.size+1 by omega));have F2:=hid (F7.out.below bb (by omega));have c42:Hid (w2.cell? ⟨w.heap.size,0,none⟩=some (.slice (some ⟨gi,0,none⟩) n cK)):=hid ((bb.cell (p:=⟨w.heap.size,0,none⟩) (by show w.heap.size<T.heap.size;omega)).trans c4.out);have T62:=hid (T61.out.below bb (by simp;omega));have aM:=hid (aK.out.trans (bb.mono (by omega)));have O2:=hid fU;have kX:=ae.size;simp only[aB7]at kX;clear fU ae ba bb aK F7 c4 T61;have nD:=UO goal (n*256);generalize N:aG goal (n*256)=gs at *;generalize hSE:T.heap.size=S at *;obtain⟨aog,aag,rfl⟩:=ak O2.out;simp only[aB7]at T62;go_wp2_with fail
 go_loopw [23] (λi r=>∃ (k:Nat) (v:Value),k<=gs.length/\i=.int .i64 k/\Hid (Three r S (.slice (some ⟨w.heap.size+1+1,0,none⟩) n n) v (.int .i64 0))/\Hid (r.ownsRow (S+1) 221 3 v k (jO (uY gs k)))/\Hid (r.ownsRow (S+1) 166 2 (.slice aog gs.length aag) gs.length (dE gs))/\Hid (bV r (w.heap.size+1+1) (n*256) (λ_=>false))/\Hid (r.cell? ⟨w.heap.size,0,none⟩=some (.slice (some ⟨gi,0,none⟩) n cK))/\Hid (Three r (w.heap.size+1) (.slice none 0 0) (.slice none 0 0) (.int .i64 0))/\Hid (Below w.heap.size w r)/\S+1<=r.heap.size) (λi _=>gs.length - (intOf i).toNat)
 case atStart=>exact⟨0,_,aCg _,rfl,TS2,hid (aCp _ _ _ _),O2,F2,c42,T62,aM,kX⟩
 case round=>
  obtain⟨k,v,hk,rfl,A,t,U,I,K,B,G,hsz⟩:=hrel;rename World=>W0;have ts1:=A.out.c1;have ts2:=A.out.c2;have tf1:=A.out.fz 1 (by omega);by_cases C:k<gs.length
  ·obtain⟨g1,rfl,hg1,aga,hcp⟩:=eZ U.out (by omega);obtain⟨x,hx⟩:∃ x,gs[k]?=some x:=⟨gs[k],aB3 C⟩;have y0:W0.cell? ⟨g1,k*2,none⟩=some (.int .i64 (x / 256:Nat)):=by rw[U.out.cellAt (k*2) (by omega),(yQ hx).1]
   have y1:W0.cell? ⟨g1,k*2+1,none⟩=some (.int .u8 (x % 256:Nat)):=by rw[U.out.cellAt (k*2+1) (by omega),(yQ hx).2]
   have HX:=hid hx;clear hx;generalize X:x / 256=s at *;generalize hu:x % 256=u at *;have Na:=hid (show s=x / 256/\u=x % 256 from ⟨X.symm,hu.symm⟩);clear X hu;obtain⟨aov,cpv,rfl⟩:=ak t.out;have nN:S<W0.heap.size:=by omega
   have Wn:=hid (λq h=>(t.out.lt q h).1);go_wp2_with (at_builtin;go_must (refine aCE _ rfl (.tmp 29) (.tmp 33) 169 rfl (S+1) 221 i0 (.agg #[.int .i64 0,.int .u8 0,.int .i64 0]) 3 24 Tryz.underlying169 hi aT aP aO rfl (by decide) _ k (jO (uY gs k)) rfl ((t.out.alloc _).alloc _) ⟨W0.heap.size+1,0,none⟩ 1 1 [.int .i64 (s:Nat),.int .u8 (u:Nat),.int .i64 (k:Nat)] rfl rfl ?c1 ?c2 (by decide) ?c3 ?c4 ?c5 (W0.heap.size+2) ?c6 ?_))
   case c1=>exact(by simpa using xN (W0.alloc (.cells #[.int .i64 (s:Nat),.int .u8 (u:Nat)] 166)) [.int .i64 (s:Nat),.int .u8 (u:Nat),.int .i64 (k:Nat)] 221)
   case c2=>intro y V;simp at V;rcases V with rfl | rfl | rfl <;> rfl
   case c3=>unfold maxLen;omega
   case c4=>omega
   case c5=>simp;omega
   case c6=>simp
   intro E F L H m Q ato;have D:=((aB4 W0.heap.size W0).alloc (aB2 _) (.cells #[.int .i64 (s:Nat),.int .u8 (u:Nat)] 166)).alloc (by simp) (.cells #[.int .i64 (s:Nat),.int .u8 (u:Nat),.int .i64 (k:Nat)] 221);have J:Below (S+1) W0 L:=(D.mono (by omega)).grown m (by simp;omega) (λq h=>Wn.out q h);have R:=hid (A.out.below J (by omega));have t51:=R.out.c1;have tf5:=R.out.fz 1 (by omega);have D1:=hid (R.out.set1 (.slice (some ⟨E,0,none⟩) (k+1) F));have D2:Hid ((L.setCell ⟨S,1,none⟩ (.slice (some ⟨E,0,none⟩) (k+1) F)).ownsRow (S+1) 221 3 (.slice (some ⟨E,0,none⟩) (k+1) F) (k+1) (jO (uY gs (k+1)))):=hid (aB (by
    rw[abX,Jy,show gs.getD k 0=x by simp[List.getD,HX.out],<-Na.out.1,<-Na.out.2];exact H) (by omega) _ _)
   have HL5:=((U.out.alloc (.cells #[.int .i64 (s:Nat),.int .u8 (u:Nat)] 166)).alloc (.cells #[.int .i64 (s:Nat),.int .u8 (u:Nat),.int .i64 (k:Nat)] 221)).kept m (aY ((U.out.alloc (.cells #[.int .i64 (s:Nat),.int .u8 (u:Nat)] 166)).alloc (.cells #[.int .i64 (s:Nat),.int .u8 (u:Nat),.int .i64 (k:Nat)] 221)) ((t.out.alloc _).alloc _) (by decide));have D3:=hid (aB HL5 (show S<S+1 by omega) 1 (.slice (some ⟨E,0,none⟩) (k+1) F));have D4:=hid ((I.out.below J (by omega)).other ⟨S,1,none⟩ (.slice (some ⟨E,0,none⟩) (k+1) F) (by show S≠w.heap.size+1+1;omega));have D5:Hid ((L.setCell ⟨S,1,none⟩ (.slice (some ⟨E,0,none⟩) (k+1) F)).cell? ⟨w.heap.size,0,none⟩=some (.slice (some ⟨gi,0,none⟩) n cK)):=hid (by
    rw[aB8 _ _ _ _ (λe=>by have:=congrArg Addr.block e;simp at this;omega)];exact(J.cell (p:=⟨w.heap.size,0,none⟩) (by show w.heap.size<S+1;omega)).trans K.out)
   have D6:=hid ((B.out.below J (by omega)).other (k:=S) (o:=1) (by omega) (.slice (some ⟨E,0,none⟩) (k+1) F));have D7:=hid ((G.out.trans (J.mono (by omega))).setCell (p:=⟨S,1,none⟩) (by show w.heap.size<=S;omega) (.slice (some ⟨E,0,none⟩) (k+1) F));have hz5:S+1<=L.heap.size:=aCW hsz J.size;clear H m Q J D HL5 R A t U I K B G y0 y1 ts1 ts2 tf1;go_wp2_with fail;go_roundw
   case rel=>exact⟨k+1,_,by omega,by go_num,D1,D2,D3,D4,D5,D6,D7,by simp;omega⟩
   case measure=>simp[intOf];omega
  ·obtain rfl:k=gs.length:=by omega
   have tf2:=A.out.fz 2 (by omega);obtain⟨aov,cpv,rfl⟩:=ak t.out;have E1:=hid (A.out.set2 (.int .i64 (gs.length:Nat)));have E2:=hid (aB t.out (show S<S+1 by omega) 2 (.int .i64 (gs.length:Nat)));have E4:=hid (I.out.other ⟨S,2,none⟩ (.int .i64 (gs.length:Nat)) (by show S≠w.heap.size+1+1;omega));have E5:Hid ((W0.setCell ⟨S,2,none⟩ (.int .i64 (gs.length:Nat))).cell? ⟨w.heap.size,0,none⟩=some (.slice (some ⟨gi,0,none⟩) n cK)):=hid (by
    rw[aB8 _ _ _ _ (λe=>by have:=congrArg Addr.block e;simp at this;omega)];exact K.out)
   have E6:=hid (B.out.other (k:=S) (o:=2) (by omega) (.int .i64 (gs.length:Nat)));have E7:=hid (G.out.setCell (p:=⟨S,2,none⟩) (by show w.heap.size<=S;omega) (.int .i64 (gs.length:Nat)));have Nk:Hid (rM (Ew n ns into) (n*256) goal (uY gs gs.length) (λ_=>false)):=hid (by rw[<-N];exact Zc _ _ _);clear A t U I K B G;go_wp2_with fail
   go_loopw [10] (λi r=>∃ (k:Nat) (ls:List (Nat × Nat)) (d:Nat->Bool) (v:Value),k<=ls.length/\i=.int .i64 k/\Hid (rM (Ew n ns into) (n*256) goal ls d)/\Hid (xS n ns into (ls.map Prod.fst) d k)/\Hid (Three r S (.slice (some ⟨w.heap.size+1+1,0,none⟩) n n) v (.int .i64 (gs.length:Nat)))/\Hid (r.ownsRow (S+1) 221 3 v ls.length (jO ls))/\Hid (bV r (w.heap.size+1+1) (n*256) d)/\Hid (r.cell? ⟨w.heap.size,0,none⟩=some (.slice (some ⟨gi,0,none⟩) n cK))/\Hid (Three r (w.heap.size+1) (.slice none 0 0) (.slice none 0 0) (.int .i64 0))/\Hid (Below w.heap.size w r)/\S+1<=r.heap.size) (λi _=>2*(n*256) - (intOf i).toNat)
   case atStart=>exact⟨0,_,_,_,aCg _,rfl,Nk,hid (λj a hj=>by omega),E1,by rw[Kc];exact E2,E4,E5,E6,E7,by simp;omega⟩
   case round=>
    obtain⟨k,ls,d,v,hk,rfl,M,W,A,t,I,K,B,G,hsz⟩:=hrel;rename World=>W0;clear E1 E2 E4 E5 E6 E7 Nk ts1 ts2 tf1 tf2;have Jr:=oW M.out;rw[N]at Jr;have t0:=A.out.c0;have t1:=A.out.c1;have t2:=A.out.c2;obtain⟨ao,cp,rfl⟩:=ak t.out;by_cases C:k<ls.length
    ·obtain⟨g1,rfl,hg1,aga,hcp⟩:=eZ t.out (by omega);obtain⟨s,u,tw,X,hu,Z6⟩:∃ s u tw,s<n/\u<256/\ls[k]?=some (s*256+u,tw):=by
      have h1:=(M.out.lead.sound ls[k].1 (aCU.2 ⟨ls[k],List.getElem_mem C,rfl⟩)).1;refine⟨ls[k].1 / 256,ls[k].1 % 256,ls[k].2,by omega,by omega,?_⟩;rw[aB3 C,show ls[k].1 / 256*256+ls[k].1 % 256=ls[k].1 by omega]
     have y0:W0.cell? ⟨g1,k*3,none⟩=some (.int .i64 (s:Nat)):=by
      rw[t.out.cellAt (k*3) (by omega),(Ep Z6).1];simp only;rw[show (s*256+u) / 256=s by omega]
     have y1:W0.cell? ⟨g1,k*3+1,none⟩=some (.int .u8 (u:Nat)):=by
      rw[t.out.cellAt (k*3+1) (by omega),(Ep Z6).2.1];simp only;rw[show (s*256+u) % 256=u by omega]
     have hc:=K.out;obtain⟨aor,qI,r1,r2⟩:=HW.out.row s X;have r1':=(G.out.cell (p:=⟨gi,s,none⟩) Bg).trans r1;have jD:=hid r2;have LY:=HP.out.len s X;have qa:=hid (HP.out.st s X);have Y:=hid Z6;clear r1 r2 Z6;generalize nY:(into s).length=ln at *;have bW:=hid nY;clear nY;have x1:w.heap.size<W0.heap.size:=by omega
     have x2:gi<W0.heap.size:=by omega
     have x3:P<W0.heap.size:=by omega
     have x4:w.heap.size+1+1<W0.heap.size:=by omega
     have x5:S<W0.heap.size:=by omega
     have dk:decide (n<=s)=false:=by simp;omega
     have b0:=(aB4 W0.heap.size W0).alloc (aB2 _) (.cells #[.int .i64 (s:Nat),.int .u8 (u:Nat)] 166);have A1:=hid (A.out.below b0 x5);have A2:=hid (I.out.below b0 x4);have A3:Hid ((W0.alloc (.cells #[.int .i64 (s:Nat),.int .u8 (u:Nat)] 166)).cell? ⟨w.heap.size,0,none⟩=some (.slice (some ⟨gi,0,none⟩) n cK)):=hid ((b0.cell (p:=⟨w.heap.size,0,none⟩) x1).trans K.out);have A4:=hid (B.out.below b0 (by omega));have A5:=hid (G.out.alloc (by omega) (.cells #[.int .i64 (s:Nat),.int .u8 (u:Nat)] 166));have A6:=hid (t.out.alloc (.cells #[.int .i64 (s:Nat),.int .u8 (u:Nat)] 166));clear b0 A I K B G t;go_wp2_with fail
     go_loopw [67] (λi r=>∃ (j:Nat) (ls:List (Nat × Nat)) (d:Nat->Bool) (v:Value),j<=ln/\i=.int .i64 j/\k<ls.length/\Hid (ls[k]?=some (s*256+u,tw))/\Hid (rM (Ew n ns into) (n*256) goal ls d)/\Hid (xS n ns into (ls.map Prod.fst) d k)/\Hid (wu ns (into s) u d j)/\Hid (Three r S (.slice (some ⟨w.heap.size+1+1,0,none⟩) n n) v (.int .i64 (gs.length:Nat)))/\Hid (r.ownsRow (S+1) 221 3 v ls.length (jO ls))/\Hid (v.ownBlock≠some W0.heap.size)/\Hid (bV r (w.heap.size+1+1) (n*256) d)/\Hid (r.cell? ⟨w.heap.size,0,none⟩=some (.slice (some ⟨gi,0,none⟩) n cK))/\Hid (Three r (w.heap.size+1) (.slice none 0 0) (.slice none 0 0) (.int .i64 0))/\Hid (r.cell? ⟨W0.heap.size,1,none⟩=some (.int .u8 (u:Nat)))/\Hid (Below w.heap.size w r)/\W0.heap.size<r.heap.size) (λi _=>ln - (intOf i).toNat)
     case atStart=>
      exact⟨0,ls,d,_,aCg _,rfl,C,Y,M,W,hid (λx st hx=>by omega),A1,A6,hid (by simp[Value.ownBlock];omega),A2,A3,A4,hid (by simp),A5,by simp⟩
     case round=>
      obtain⟨j,ls,d,v,hj,rfl,C,Y,M,W,HN,A,t,HV,I,K,B,HU,G,jT⟩:=hrel;rename World=>W3;clear A1 A2 A3 A4 A5 A6;by_cases iT:j<ln
      ·obtain⟨gr,e,hgr,Gx⟩:=jD.out (by omega);subst e;obtain⟨⟨fr,l⟩,O⟩:∃ st,(into s)[j]?=some st:=⟨(into s)[j]'(by rw[bW.out];exact iT),aB3 (by rw[bW.out];exact iT)⟩;obtain⟨zX,hl⟩:=qa.out _ (aCJ O);have z:=Gx j _ O;have z0:=(G.out.cell (p:=⟨gr,j*2,none⟩) hgr).trans z.1;have z1:=(G.out.cell (p:=⟨gr,j*2+1,none⟩) hgr).trans z.2;dsimp only at zX hl z0 z1;have bm:=(HM.out.below G.out hP) l u hl hu;have hbv:=vR h8 l u;have fc:=I.out.c (fr*256+gF ns l u) (by omega);have ff:=I.out.f (fr*256+gF ns l u) (by omega);have hcu:=HU.out;have t0:=A.out.c0;have t1:=A.out.c1;have HEW:Hid (Ew n ns into (fr*256+gF ns l u) (s*256+u)):=hid ⟨by omega,(fr,l),by rw[show (s*256+u) / 256=s by omega];exact aCJ O,by rw[show (s*256+u) % 256=u by omega]⟩;have Je:=hid (λ(f2:Nat->Bool) (k:wu ns (into s) u f2 j) (hf:f2 (fr*256+gF ns l u)=true)=>k.step O hf);have hN:=Oq h8 HP.out HEW.out;have x5:P<W3.heap.size:=by omega
       have x6:w.heap.size+1+1<W3.heap.size:=by omega
       have x7:gr<W3.heap.size:=by omega
       have x8:S<W3.heap.size:=by omega
       have alI:=oW M.out;rw[N]at alI;have bw:=hid (((aB4 W3.heap.size W3).alloc (aB2 _) (.cells #[.int .i64 (fr:Nat),.int .i64 (l:Nat)] 224)));obtain⟨ao,cp,rfl⟩:=ak t.out;clear z O Gx;generalize gF ns l u=bv at *;cases P9:d (fr*256+bv) with
       | true=>
        have yA:=hid (Je.out d HN.out P9);rw[P9]at fc;clear P9 Je;go_wp2_with fail
        go_quiet (fail)
        go_wp2_with fail;go_roundw
        case rel=>
         have D:=aCl bw.out nq;exact⟨j+1,ls,d,_,by omega,by go_num,C,Y,M,W,yA,hid (A.out.below D x8),hid (ai t.out D),HV,hid (I.out.below D x6),hid ((D.cell (p:=⟨w.heap.size,0,none⟩) (by show w.heap.size<_;omega)).trans K.out),hid (B.out.below D (by omega)),hid ((D.cell (p:=⟨W0.heap.size,1,none⟩) jT).trans HU.out),hid (G.out.trans (D.mono (by omega))),aCq jT D.size⟩
        case measure=>simp[intOf];omega
       | false=>
        rw[P9]at fc;go_wp2_with fail
        go_quiet (fail)
        go_wp2_with (at_builtin;go_must (refine aCE _ rfl (.tmp 98) (.tmp 105) 169 rfl (S+1) 221 i0 (.agg #[.int .i64 0,.int .u8 0,.int .i64 0]) 3 24 Tryz.underlying169 hi aT aP aO rfl (by decide) _ _ _ rfl ((aB (ai t.out (aCl bw.out nq)) (k:=w.heap.size+1+1) (by omega) (fr*256+bv) (.bool true)).alloc _) ⟨W3.heap.size+1,0,none⟩ 1 1 [.int .i64 (fr:Nat),.int .u8 (bv:Nat),.int .i64 (k:Nat)] rfl rfl ?c1 ?c2 (by decide) ?c3 ?c4 ?c5 (W3.heap.size+2) ?c6 ?_))
        case c1=>exact(by simpa using xN (((W3.alloc (.cells #[.int .i64 (fr:Nat),.int .i64 (l:Nat)] 224)).drewN nq).setCell ⟨w.heap.size+1+1,fr*256+bv,none⟩ (.bool true)) [.int .i64 (fr:Nat),.int .u8 (bv:Nat),.int .i64 (k:Nat)] 221)
        case c2=>intro y V;simp at V;rcases V with rfl | rfl | rfl <;> rfl
        case c3=>unfold maxLen;omega
        case c4=>omega
        case c5=>simp;omega
        case c6=>simp
        intro E F L H m Q ato;have D:=aCl bw.out nq;generalize hWd:(W3.alloc (.cells #[.int .i64 (fr:Nat),.int .i64 (l:Nat)] 224)).drewN nq=Wd at *;have hsd:Wd.heap.size=W3.heap.size+1:=by rw[<-hWd];simp
        clear hWd;have FSt:=(I.out.below D x6).set (fr*256+bv) true;have J:Below (S+1) (Wd.setCell ⟨w.heap.size+1+1,fr*256+bv,none⟩ (.bool true)) L:=((aB4 (S+1) _).alloc (by simp;omega) _).grown m (by simp;omega) (λk h=>(t.out.lt k h).1);have F5:=(FSt.below J (by omega));have C5:L.cell? ⟨w.heap.size,0,none⟩=some (.slice (some ⟨gi,0,none⟩) n cK):=by
         rw[J.cell (p:=⟨w.heap.size,0,none⟩) (by show w.heap.size<S+1;omega),aB8 _ _ _ _ (λe=>by have:=congrArg Addr.block e;simp at this;omega)];exact(D.cell (p:=⟨w.heap.size,0,none⟩) (by show w.heap.size<_;omega)).trans K.out
        have U5:L.cell? ⟨W0.heap.size,1,none⟩=some (.int .u8 (u:Nat)):=by
         refine m.cell ?_ (λe=>HV.out e.symm);rw[aCB _ _ _ (by simp;omega),aB8 _ _ _ _ (λe=>by have:=congrArg Addr.block e;simp at this;omega)];exact(D.cell (p:=⟨W0.heap.size,1,none⟩) jT).trans HU.out
        have R:=((A.out.below D x8).other (k:=w.heap.size+1+1) (o:=fr*256+bv) (by omega) (.bool true)).below J (by omega);have S5:=((B.out.below D (by omega)).other (k:=w.heap.size+1+1) (o:=fr*256+bv) (by omega) (.bool true)).below J (by omega);have B5:=(((G.out.trans (D.mono (by omega))).setCell (p:=⟨w.heap.size+1+1,fr*256+bv,none⟩) (by show w.heap.size<=w.heap.size+1+1;omega) (.bool true)).trans (J.mono (by omega)));have V5:Hid ((Value.slice (some ⟨E,0,none⟩) (ls.length+1) F).ownBlock≠some W0.heap.size):=hid (by
         rcases Q with h | h
         ·have h2:=HV.out;rw[h]at h2;exact h2
         ·subst h;simp[Value.ownBlock];omega)
        have hz5:W0.heap.size<L.heap.size:=by
         have:=m.size;simp at this;omega
        have q1:=R.c1;have q2:=R.fz 1 (by omega);have D1:=hid (R.set1 (.slice (some ⟨E,0,none⟩) (ls.length+1) F));have D2:Hid ((L.setCell ⟨S,1,none⟩ (.slice (some ⟨E,0,none⟩) (ls.length+1) F)).ownsRow (S+1) 221 3 (.slice (some ⟨E,0,none⟩) (ls.length+1) F) (ls++[(fr*256+bv,k)]).length (jO (ls++[(fr*256+bv,k)]))):=hid (aB (by
         rw[aCd,Jy];simp only;rw[show (fr*256+bv) / 256=fr by omega,show (fr*256+bv) % 256=bv by omega];exact H) (by omega) _ _)
        have D4:=hid (F5.other ⟨S,1,none⟩ (.slice (some ⟨E,0,none⟩) (ls.length+1) F) (by show S≠w.heap.size+1+1;omega));have D5:Hid ((L.setCell ⟨S,1,none⟩ (.slice (some ⟨E,0,none⟩) (ls.length+1) F)).cell? ⟨w.heap.size,0,none⟩=some (.slice (some ⟨gi,0,none⟩) n cK)):=hid (by
         rw[aB8 _ _ _ _ (λe=>by have:=congrArg Addr.block e;simp at this;omega)];exact C5)
        have D6:=hid (S5.other (k:=S) (o:=1) (by omega) (.slice (some ⟨E,0,none⟩) (ls.length+1) F));have D7:=hid (B5.setCell (p:=⟨S,1,none⟩) (by show w.heap.size<=S;omega) (.slice (some ⟨E,0,none⟩) (ls.length+1) F));have D8:Hid ((L.setCell ⟨S,1,none⟩ (.slice (some ⟨E,0,none⟩) (ls.length+1) F)).cell? ⟨W0.heap.size,1,none⟩=some (.int .u8 (u:Nat))):=hid (by
         rw[aB8 _ _ _ _ (λe=>by have:=congrArg Addr.block e;simp at this;omega)];exact U5)
        have HI5:=hid (ae3 M.out Y.out HEW.out hN P9);have HD5:Hid (xS n ns into ((ls++[(fr*256+bv,k)]).map Prod.fst) (upd d (fr*256+bv) true) k):=hid (by
         rw[aCM];exact W.out.add (by rw[aCO];exact C) (fr*256+bv))
        have HN5:=hid (Je.out _ (HN.out.add (fr*256+bv)) (upd_same _ _ _));have HR5:Hid ((ls++[(fr*256+bv,k)])[k]?=some (s*256+u,tw)):=hid (by rw[aCh C];exact Y.out);clear H m Q J D FSt P9 Je fc ff hcu z0 z1 bm R S5 F5 C5 U5 B5 A t I K B G M W HN t0 t1;go_wp2_with fail;go_roundw
        case rel=>exact⟨j+1,ls++[(fr*256+bv,k)],upd d (fr*256+bv) true,_,by omega,by go_num,by simp;omega,HR5,HI5,HD5,HN5,D1,D2,V5,D4,D5,D6,D8,D7,by simp;omega⟩
        case measure=>simp[intOf];omega
      ·obtain rfl:j=ln:=by omega
       have YN:=hid (adg W.out (by rw[aCs,Y.out];rfl) hu (by rw[bW.out];exact HN.out));go_wp2_with fail;go_roundw
       case rel=>exact⟨k+1,ls,d,_,by omega,by go_num,M,YN,A,t,I,K,B,G,by omega⟩
       case measure=>have h9:=oW M.out;rw[N]at h9;simp[intOf];omega
    ·obtain rfl:k=ls.length:=by omega
     have HR:=hid (ab4 (λa b h=>ahW a b h) M.out.lead (λa ha y V=>by
      obtain⟨j,hj,e⟩:=aCK ha;exact W.out j a (by rw[aCO]at hj;exact hj) (by rw[aB3 hj,e]) y V))
     have q0:=B.out.c0;have q1:=B.out.c1;have q2:=B.out.c2;have f0:=B.out.fz 0 (by omega);have f1:=B.out.fz 1 (by omega);have f2:=B.out.fz 2 (by omega);go_wp2_with fail;have y1:=hid (B.out.set0 (.slice (some ⟨w.heap.size+1+1,0,none⟩) n n) |>.set1 (.slice ao ls.length cp) |>.set2 (.int .i64 (gs.length:Nat)));refine xx rfl rfl rfl (qE q0 q1 q2 _ _ _) Tryz.underlying171 rfl Tryz.Zd ?_;refine⟨w.heap.size+1+1,d,ls,.slice ao ls.length cp,by rw[N],by omega,by simp;omega,?_,HR.out,M.out,?_,?_⟩
     ·exact((I.out.other ⟨w.heap.size+1,0,none⟩ _ (by simp)).other ⟨w.heap.size+1,1,none⟩ _ (by simp)).other ⟨w.heap.size+1,2,none⟩ _ (by simp)
     ·have h1:=aB (aB (aB t.out (show w.heap.size+1<S+1 by omega) 0 (.slice (some ⟨w.heap.size+1+1,0,none⟩) n n)) (show w.heap.size+1<S+1 by omega) 1 (.slice ao ls.length cp)) (show w.heap.size+1<S+1 by omega) 2 (.int .i64 (gs.length:Nat));exact bQ h1 (by omega)
     ·exact((G.out.setCell (p:=⟨w.heap.size+1,0,none⟩) (by show w.heap.size<=w.heap.size+1;omega) _).setCell (p:=⟨w.heap.size+1,1,none⟩) (by show w.heap.size<=w.heap.size+1;omega) _).setCell (p:=⟨w.heap.size+1,2,none⟩) (by show w.heap.size<=w.heap.size+1;omega) _
theorem PS(P gi n cK g cap:Nat)(ns:List Nd)(into:Nat->List (Nat × Nat))(goal:Nat->Bool)(w:World)(h8:ns.length<=8)(hp:vW n into)(oQ:wZ w P ns)(hP:P<w.heap.size)(hw:pF w gi n into)(lL:bV w g (n*256) goal)(hg:g<w.heap.size) :
  Calls Tryz.prog 146 #[.pointer (some ⟨P,0,none⟩),.agg #[.slice (some ⟨gi,0,none⟩) n cK],.slice (some ⟨g,0,none⟩) n cap] w λe w'=>∃ g' found,e=.returned (.slice (some ⟨g',0,none⟩) n n)/\w.heap.size<=g'/\g'<w'.heap.size/\bV w' g' (n*256) found/\(∀ x,found x=true↔fO (Ew n ns into) (λy=>goal y=true) x)/\Below w.heap.size w w':=by
 have h:=hid hp;have i:=hid oQ;have j:=hid hw;have k:=hid lL;clear hp oQ hw lL;go_enter Tryz.func146,Tryz.ntmps146;go_wp2_with fail;have a:=(aB4 w.heap.size w).alloc (aB2 _) (.cells #[.slice (some ⟨gi,0,none⟩) n cK] 159);refine(zF P gi n cK g cap ns into goal _ h8 h.out (i.out.below a hP) (by simp;omega) (j.out.below a) (k.out.below a hg) (by simp;omega)).mono ?_;rintro e c ⟨g',found,ls,v,rfl,l,m,hF,d,_,f,b⟩;simp only[aB7]at l b;obtain⟨o,p,rfl⟩:=ak f;have q:=hid hF;have r:=hid d;have s:=hid (a.trans (b.mono (by omega)));have t:=b.size;clear hF d f b a;go_wp2_with fail;go_ret;have bb:=(aB4 c.heap.size c).alloc (aB2 _) (.cells #[.slice (some ⟨g',0,none⟩) n n,.slice o ls.length p,.int .i64 ((aG goal (n*256)).length:Nat)] 171);exact⟨g',found,rfl,by omega,by simp;omega,q.out.below bb m,r.out,s.out.trans (bb.mono (by omega))⟩
def pK(w:World)(P:Nat)(cs:List (Nat->Bool)):Prop:=∃ ao cap,w.cell? ⟨P,2048,none⟩=some (.slice ao cs.length cap)/\(0<cs.length->∃ gc,ao=some ⟨gc,0,none⟩/\gc<w.heap.size/\∀ k c,cs[k]?=some c->bE w gc (k*256) c)
theorem pK.below{w w':World}{P:Nat}{cs:List (Nat->Bool)}(h:pK w P cs)(hb:Below w.heap.size w w')(hP:P<w.heap.size):pK w' P cs:=by
 obtain⟨b,cap,d,e⟩:=h;refine⟨b,cap,(hb.cell (p:=⟨P,2048,none⟩) hP).trans d,λf=>?_⟩;obtain⟨g,i,a,j⟩:=e f;exact⟨g,i,aCq a hb.size,λk c l=>(j k c l).below hb a⟩
def spread(c:Nat->Bool):Nat->Bool:=λx=>c (x % 256)
def spreads(cs:List (Nat->Bool)):List (Nat->Bool):=cs.map spread
theorem Sd{cs:List (Nat->Bool)}{k:Nat}{c:Nat->Bool}(h:cs[k]?=some c):(spreads cs).take (k+1)=(spreads cs).take k++[spread c]:=by
 have a:=(aB9.1 h).1;rw[List.take_succ_eq_append_getElem (by simpa [spreads] using a)];have:cs[k]=c:=by rw[aB3 a]at h;exact Option.some.inj h
 simp[spreads,this]
theorem agy(P gi n cK g cap:Nat)(ns:List Nd)(into:Nat->List (Nat × Nat))(cs:List (Nat->Bool))(goal:Nat->Bool)(w:World)(h8:ns.length<=8)(hp:vW n into)(oQ:wZ w P ns)(hP:P<w.heap.size)(hcm:pK w P cs)(hcl:cs.length<=8)(hw:pF w gi n into)(lL:bV w g (n*256) goal)(hg:g<w.heap.size) :
  Calls Tryz.prog 131 #[.pointer (some ⟨P,0,none⟩),.agg #[.slice (some ⟨gi,0,none⟩) n cK],.slice (some ⟨g,0,none⟩) n cap] w λe w'=>∃ g' found,e=.returned (.slice (some ⟨g',0,none⟩) n n)/\w.heap.size<=g'/\g'<w'.heap.size/\bV w' g' (n*256) found/\(∀ x,found x=true↔nG (Ew n ns into) (spreads cs) (λy=>goal y=true) x)/\Below w.heap.size w w':=by
 have hn:=hp.le;have O:=hid hp;have Q:=hid oQ;have R:=hid hw;have HG:=hid lL;have Bg:=hw.lt;obtain⟨ca,amS,S,T⟩:=hcm;have BH:=hid T;clear hp oQ hw lL T;generalize U:cs.length=m at *;have t:=hid U;clear U;go_enter Tryz.func131,Tryz.ntmps131;go_wp2_with fail;have d:=hid ((aB4 w.heap.size w).alloc (aB2 _) (.cells #[.slice (some ⟨gi,0,none⟩) n cK] 159));refine(PS P gi n cK g cap ns into goal _ h8 O.out (Q.out.below d.out hP) (by simp;omega) (R.out.below d.out) (HG.out.below d.out hg) (by simp;omega)).mono ?_;rintro e V ⟨g1,f1,rfl,u,z,A,B,h⟩;simp only[aB7]at u h;have W:V.cell? ⟨w.heap.size,0,none⟩=some (.slice (some ⟨gi,0,none⟩) n cK):=(h.cell (p:=⟨w.heap.size,0,none⟩) (by show w.heap.size<w.heap.size+1;omega)).trans (by simp);have lM:=(h.cell (p:=⟨P,2048,none⟩) (by show P<w.heap.size+1;omega)).trans ((d.out.cell (p:=⟨P,2048,none⟩) hP).trans S);have aK:=hid (d.out.trans (h.mono (by omega)));have A:=hid A;have B:=hid B;have C:w.heap.size<V.heap.size:=by omega
 clear h d S;have C4:=hid W;go_wp2_with fail;clear lM W
 go_loopw [7,20] (λv i j=>∃ (k b:Nat) (f:Nat->Bool),k<=m/\i=.int .i64 k/\v=.slice (some ⟨b,0,none⟩) n n/\w.heap.size<=b/\b<j.heap.size/\Hid (bV j b (n*256) f)/\Hid (∀ x,f x=true↔nG (Ew n ns into) ((spreads cs).take k) (λy=>goal y=true) x)/\Hid (j.cell? ⟨w.heap.size,0,none⟩=some (.slice (some ⟨gi,0,none⟩) n cK))/\Hid (Below w.heap.size w j)/\w.heap.size<j.heap.size) (λ_ i _=>m - (intOf i).toNat)
 case atStart=>exact⟨0,g1,f1,aCg _,rfl,rfl,by omega,z,A,by simpa [nG] using B,C4,aK,C⟩
 case round=>
  obtain⟨k,b,f,hk,rfl,rfl,oO,X,Y,D,HC,E,F⟩:=hrel;rename World=>W0;by_cases l:k<m
  ·obtain⟨gc,e,CO,a⟩:=BH.out (by omega);subst e;obtain⟨c,G⟩:∃ c,cs[k]?=some c:=⟨cs[k]'(by rw[t.out];exact l),aB3 (by rw[t.out];exact l)⟩;have Z:=hid ((a k c G).below E.out CO);have JH:=hid (Sd G);clear a G;go_wp2_with (first | (refine aN rfl (.tmp 22) rfl gc (k*256) c rfl Z.out ?_) | (refine bM rfl (.tmp 9) (.tmp 23) rfl W0.heap.size 0 c rfl rfl (ig W0).there ?_))
   intro H I;have o:Below W0.heap.size W0 H:=I.bD _ _ (aB2 _) ((aB4 _ _).alloc (aB2 _) _);have A9:=hid I.at_;have IJ:=hid (Y.out.below o X);have Wi:=hid ((o.cell (p:=⟨w.heap.size,0,none⟩) F).trans HC.out);have aM:=hid (E.out.trans (o.mono (by omega)));have kX:=o.size;clear I o Z;go_wp2_with (refine aN rfl (.tmp 9) rfl W0.heap.size 0 c rfl A9.out ?_);refine(Kz b n n f c H (by omega) IJ.out (by omega)).mono ?_;rintro e w3 ⟨g3,rfl,Uw,Uv,q,r⟩;have q:=hid q;have J:=hid (aM.out.trans (r.mono (by omega)));have K:=(r.cell (p:=⟨w.heap.size,0,none⟩) (by show w.heap.size<H.heap.size;omega)).trans Wi.out;have C43:=hid K;have qQ:=r.size;clear r IJ Wi;go_wp2_with fail;refine(PS P gi n cK g3 n ns into (eU f c) w3 h8 O.out (Q.out.below J.out hP) (by omega) (R.out.below J.out) q.out Uv).mono ?_;rintro e w4 ⟨g4,f4,rfl,hg4,Uu,L,L4,s⟩;have L:=hid L;have dW:=hid (J.out.trans (s.mono (by omega)));have M:=hid ((s.cell (p:=⟨w.heap.size,0,none⟩) (by show w.heap.size<w3.heap.size;omega)).trans K);have N:Hid (∀ x,f4 x=true↔nG (Ew n ns into) ((spreads cs).take (k+1)) (λy=>goal y=true) x):=hid (λx=>by
    rw[L4 x,JH.out,aap];refine fO.congr (λy=>?_) x;rw[<-D.out y];unfold eU spread;simp)
   have Bd:=s.size;clear s L4 K q;go_wp2_with fail;go_roundw
   case rel=>exact⟨k+1,g4,f4,by omega,by go_num,rfl,by omega,Uu,L,N,M,dW,by omega⟩
   case measure=>simp[intOf];omega
  ·obtain rfl:k=m:=by omega
   have HE:Hid ((spreads cs).take k=spreads cs):=hid (List.take_of_length_le (by simp[spreads,t.out]));go_wp2_with fail;go_ret;exact⟨b,f,rfl,oO,X,Y.out,by rw[HE.out]at D;exact D.out,E.out⟩
def FI(w:World)(g:Nat):Nat->Nat
 | 0=>0
 | n+1=>FI w g n+(match w.cell? ⟨g,n,none⟩ with | some (.bool true)=>1 | _=>0)
theorem xu{w:World}{g N:Nat}{f:Nat->Bool}(h:bV w g N f):∀ n,n<=N->FI w g n=iW f n
 | 0,_=>rfl
 | n+1,hn=>by
  rw[FI,iW,xu h n (by omega),h.c n (by omega)];cases f n <;> simp
def Yu(v:Value):Nat:=match v with
 | .slice (some a) _ _=>a.block
 | _=>0
structure Jd (E:Nat->Nat->Prop) (N:Nat) (cs:List (Nat->Bool)) (f:Nat->Bool):Prop where
 lt:∀ x,f x=true->x<N
 all:∀ x,iQ E cs x->f x=true
 sub:∀ x,nG E cs (λy=>f y=true) x->f x=true
theorem Qz{E:Nat->Nat->Prop}{N:Nat}(hE:∀ a b,E a b->a<N):∀ (cs:List (Nat->Bool)) {G:Nat->Prop} {x:Nat},nG E cs G x->x<N:=by
 intro cs G x h;obtain⟨y,_,⟨L,c,d,_⟩,_⟩:=Qy h;exact hE _ _ d
theorem ZU{E:Nat->Nat->Prop}{N:Nat}(hE:∀ a b,E a b->a<N)(cs:List (Nat->Bool)):Jd E N cs (λx=>decide (x<N)):=
 ⟨λx h=>by simpa using h,λx ⟨q,h0,hq,_⟩=>by rw[<-h0];simpa using hE _ _ (hq 0),λx h=>by simpa using Qz hE cs h⟩
theorem ab8{E:Nat->Nat->Prop}{N:Nat}(hE:∀ a b,E a b->a<N){cs:List (Nat->Bool)}{f f':Nat->Bool}(h:Jd E N cs f)(hd:∀ x,f' x=true↔nG E cs (λy=>f y=true) x):Jd E N cs f':=
 ⟨λx hx=>Qz hE cs ((hd x).1 hx),λx hx=>(hd x).2 (UV h.all x hx),λx hx=>(hd x).2 (ade (λy hy=>h.sub y ((hd y).1 hy)) x hx)⟩
theorem aca{E:Nat->Nat->Prop}{N:Nat}(hE:∀ a b,E a b->b<N){cs:List (Nat->Bool)}{f f':Nat->Bool}(h:Jd E N cs f)(hd:∀ x,f' x=true↔nG E cs (λy=>f y=true) x)(he:∀ i,i<N->f' i=f i)(x:Nat):f x=true↔iQ E cs x:=
 ⟨λhx=>Vi hE (λy hy=>(hd y).1 (by rw[he y (h.lt y hy)];exact hy)) (h.lt x hx) hx,h.all x⟩
theorem ab9{E:Nat->Nat->Prop}{N:Nat}{cs:List (Nat->Bool)}{f f':Nat->Bool}(h:Jd E N cs f)(hd:∀ x,f' x=true↔nG E cs (λy=>f y=true) x)(hne:¬ ∀ i,i<N->f' i=f i):iW f' N<iW f N:=by
 obtain⟨i,b,a⟩:∃ i,i<N/\f' i≠f i:=aCx λj=>hne λi b=>aCx λc=>j ⟨i,b,c⟩;have d:∀ x,f' x=true->f x=true:=λx c=>h.sub x ((hd x).1 c);have g:f' i=false:=by
  cases e:f' i with
  | false=>rfl
  | true=>rw[e,d i e]at a;exact absurd rfl a
 have k:f i=true:=by
  cases e:f i with
  | true=>rfl
  | false=>rw[e,g]at a;exact absurd rfl a
 exact Yn g k N b (λx _=>d x)
theorem abH(j:Nat):upd (upTo (λ_=>true) j) j true=upTo (λ_=>true) (j+1):=uh (λ_=>true) j
theorem BS(P gi n cK:Nat)(ns:List Nd)(into:Nat->List (Nat × Nat))(cs:List (Nat->Bool))(w:World)(h8:ns.length<=8)(hp:vW n into)(oQ:wZ w P ns)(hP:P<w.heap.size)(hcm:pK w P cs)(hcl:cs.length<=8)(hw:pF w gi n into) :
  Calls Tryz.prog 90 #[.pointer (some ⟨P,0,none⟩),.agg #[.slice (some ⟨gi,0,none⟩) n cK]] w λe w'=>∃ g' f,e=.returned (.slice (some ⟨g',0,none⟩) n n)/\w.heap.size<=g'/\g'<w'.heap.size/\bV w' g' (n*256) f/\(∀ x,f x=true↔iQ (Ew n ns into) (spreads cs) x)/\Below w.heap.size w w':=by
 have hn:=hp.le;have T:=hid hp;have U:=hid oQ;have V:=hid hw;have W:=hid hcm;have Bg:=hw.lt;have r:Hid (∀ a b,Ew n ns into a b->a<n*256):=hid (λa b h=>Oq h8 hp h);clear hp oQ hw hcm;go_enter Tryz.func90,Tryz.ntmps90;go_wp2_with (at_make;go_must (refine jv _ rfl (.tmp 11) rfl n rfl (by omega) ?_));intro X B Y C;have Z:Hid (X.cell? ⟨w.heap.size,0,none⟩=some (.slice (some ⟨gi,0,none⟩) n cK)):=hid ((C.cell (p:=⟨w.heap.size,0,none⟩) (by show w.heap.size<w.heap.size+1;omega)).trans (by simp));have aK:=hid (((aB4 w.heap.size w).alloc (aB2 _) (.cells #[.slice (some ⟨gi,0,none⟩) n cK] 159)).trans (C.mono (by omega)));have B:=hid B;clear C;go_wp2_with fail
 go_loopw [15] (λi d=>∃ t:Nat,t<=n/\i=.int .i64 t/\Hid (bV d (w.heap.size+1) (n*256) (upTo (λ_=>true) (t*256)))/\Hid (d.cell? ⟨w.heap.size,0,none⟩=some (.slice (some ⟨gi,0,none⟩) n cK))/\w.heap.size+1<d.heap.size/\Hid (Below w.heap.size w d)) (λi _=>n - (intOf i).toNat)
 case atStart=>exact⟨0,aCg _,rfl,by rw[Nat.zero_mul,ug];exact B,Z,Y,aK⟩
 case round=>
  obtain⟨t,ht,rfl,l,m,I,g⟩:=hrel;rename World=>W0;by_cases hlt:t<n
  ·go_wp2_with fail
   go_loopw [18] (λi d=>∃ j:Nat,j<=256/\i=.int .i64 j/\Hid (bV d (w.heap.size+1) (n*256) (upTo (λ_=>true) (t*256+j)))/\Hid (d.cell? ⟨w.heap.size,0,none⟩=some (.slice (some ⟨gi,0,none⟩) n cK))/\w.heap.size+1<d.heap.size/\Hid (Below w.heap.size w d)) (λi _=>256 - (intOf i).toNat)
   case atStart=>exact⟨0,by omega,rfl,l,m,I,g⟩
   case round=>
    obtain⟨j,J,rfl,l,m,LK,g⟩:=hrel;rename World=>W3;by_cases iT:j<256
    ·have q0:=l.out.f (t*256+j) (by omega);have q1:=l.out.c (t*256+j) (by omega);have K:=hid (l.out.set (t*256+j) true);rw[abH]at K;have DC:Hid ((W3.setCell ⟨w.heap.size+1,t*256+j,none⟩ (.bool true)).cell? ⟨w.heap.size,0,none⟩=some (.slice (some ⟨gi,0,none⟩) n cK)):=hid (by
      rw[aB8 _ _ _ _ (λe=>by have:=congrArg Addr.block e;simp at this)];exact m.out)
     have DB:=hid (g.out.setCell (p:=⟨w.heap.size+1,t*256+j,none⟩) (by show w.heap.size<=w.heap.size+1;omega) (.bool true));generalize upTo (λ_=>true) (t*256+j) (t*256+j)=ov at *;go_wp2_with fail;go_roundw
     case rel=>exact⟨j+1,by omega,by go_num,K,DC,by simp;omega,DB⟩
     case measure=>simp[intOf];omega
    ·obtain rfl:j=256:=by omega
     go_wp2_with fail;go_roundw
     case rel=>exact⟨t+1,by omega,by go_num,by rw[show (t+1)*256=t*256+256 by omega];exact l,m,LK,g⟩
     case measure=>simp[intOf];omega
  ·obtain rfl:t=n:=by omega
   have l:=hid (l.out.congr (f':=λx=>decide (x<t*256)) (λj J=>by simp[upTo,J]));go_wp2_with fail
   go_loopw [5] (λv d=>∃ (o:Nat) (f:Nat->Bool),v=.slice (some ⟨o,0,none⟩) t t/\w.heap.size<=o/\o<d.heap.size/\Hid (bV d o (t*256) f)/\Hid (Jd (Ew t ns into) (t*256) (spreads cs) f)/\Hid (d.cell? ⟨w.heap.size,0,none⟩=some (.slice (some ⟨gi,0,none⟩) t cK))/\w.heap.size<d.heap.size/\Hid (Below w.heap.size w d)) (λv d=>FI d (Yu v) (t*256))
   case atStart=>exact⟨_,_,rfl,by omega,I,l,hid (ZU r.out _),m,by omega,g⟩
   case round=>
    obtain⟨o,f,rfl,oO,L,D,E,m,F,g⟩:=hrel;rename World=>W4;have hc:=m.out;have De:=hid (xu D.out _ (aB2 _));go_wp2_with fail;refine(agy P gi t cK o t ns into cs f W4 h8 T.out (U.out.below g.out hP) (by omega) (W.out.below g.out hP) hcl (V.out.below g.out) D.out L).mono ?_;rintro e M ⟨N,O,rfl,hg5,s,z,u,y⟩;have Q:=hid (D.out.below y L);have C5:=hid ((y.cell (p:=⟨w.heap.size,0,none⟩) F).trans m.out);have R:=hid (g.out.trans (y.mono (by omega)));have z:=hid z;have u:=hid u;have vB:=y.size;clear y hc;go_wp2_with fail;refine(ae5 N o t t t O f M (by omega) z.out Q.out s (by omega)).mono ?_;rintro e w6 ⟨b,rfl,G,q⟩;have S:=hid G;have vz:=q.size;cases b with
    | true=>
     have HE:=hid (λx=>aca (λa b h=>ahW a b h) E.out u.out (S.out.1 rfl) x);have A:=hid (Q.out.below q (by omega));have H:=hid (R.out.trans (q.mono (by omega)));clear q G;go_wp2_with fail;go_ret;exact⟨o,f,rfl,oO,by omega,A.out,HE.out,H.out⟩
    | false=>
     have HL:=hid (ab9 E.out u.out (λk=>by simpa using S.out.2 k));have HN:=hid (ab8 r.out E.out u.out);have A:=hid (z.out.below q s);have H:=hid (R.out.trans (q.mono (by omega)));have C6:=hid ((q.cell (p:=⟨w.heap.size,0,none⟩) (by show w.heap.size<M.heap.size;omega)).trans C5.out);clear q G;go_wp2_with fail;go_roundw
     case rel=>exact⟨N,O,rfl,by omega,by omega,A,HN,C6,by omega,H⟩
     case measure=>
      have h1:=xu A.out _ (aB2 _);have h2:=HL.out;have h3:=De.out;simp only[Yu]at *;simp;omega
def rJ(ws:List (Nat × Nat)):List Value:=ws.flatMap λs=>[.int .i64 (s.1:Nat),.int .i64 (s.2:Nat)]
theorem aai(ws:List (Nat × Nat))(s:Nat × Nat):rJ (ws++[s])=rJ ws++[.int .i64 (s.1:Nat),.int .i64 (s.2:Nat)]:=by simp[rJ]
theorem Qs{ws:List (Nat × Nat)}{i:Nat}{s:Nat × Nat}(h:ws[i]?=some s):(rJ ws)[i*2]?=some (.int .i64 (s.1:Nat))/\(rJ ws)[i*2+1]?=some (.int .i64 (s.2:Nat)):=by
 induction ws generalizing i with
 | nil=>simp at h
 | cons p ps ih=>
  cases i with
  | zero=>simp at h;subst h;simp[rJ]
  | succ i=>
   have:=ih (by simpa using h);rw[show rJ (p::ps)=[.int .i64 (p.1:Nat),.int .i64 (p.2:Nat)]++rJ ps by simp[rJ]];rw[aCi (by simp;omega),aCi (by simp;omega)];simpa [show (i+1)*2 - 2=i*2 by omega,show (i+1)*2+1 - 2=i*2+1 by omega] using this
def xU(f:Nat->List (Nat × Nat))(b:Nat)(l:List (Nat × Nat)):Nat->List (Nat × Nat):=λi=>if i=b then l else f i
theorem Zy(V:Nat->Value)(N b:Nat)(x:Value):((List.range N).map V).set b x=(List.range N).map (λi=>if i=b then x else V i):=by
 apply List.ext_getElem
 ·simp
 ·intro i a c;simp at a;rw[List.getElem_set];simp only[List.getElem_map,List.getElem_range];by_cases e:b=i
  ·rw[aC2 e,aC2 e.symm]
  ·rw[aC1 e,aC1 (λh=>e h.symm)]
structure oU (w:World) (T g2 n:Nat) (V:Nat->Value) (tl:Nat->List (Nat × Nat)):Prop where
 lt:g2<T
 cell:w.cell? ⟨T,0,none⟩=some (.slice (some ⟨g2,0,none⟩) n n)
 out:w.ownsRow g2 222 1 (.slice (some ⟨g2,0,none⟩) n n) n ((List.range n).map V)
 row:∀ j,j<n->w.ownsRow (T+1) 224 2 (V j) (tl j).length (rJ (tl j))
 sep:∀ i j,i<n->j<n->i≠j->(V i).ownBlock=none\/(V i).ownBlock≠(V j).ownBlock
theorem oU.Yx{w:World}{T g2 n:Nat}{V:Nat->Value}{tl:Nat->List (Nat × Nat)}(h:oU w T g2 n V tl):T<w.heap.size:=World.block_lt_of_cell? w ⟨T,0,none⟩ h.cell
theorem oU.keeps{w w':World}{T g2 n:Nat}{V:Nat->Value}{tl:Nat->List (Nat × Nat)}(h:oU w T g2 n V tl)(hb:Below w.heap.size w w'):oU w' T g2 n V tl:=
 ⟨h.lt,(hb.cell (p:=⟨T,0,none⟩) h.Yx).trans h.cell,ai h.out hb,λj hj=>ai (h.row j hj) hb,h.sep⟩
theorem RI{w w1:World}{T g2 n:Nat}{V:Nat->Value}{tl:Nat->List (Nat × Nat)}(h:oU w T g2 n V tl){b gg cc:Nat}{s:Nat × Nat}(hb:b<n)(hgrow:w.grownBy w1 (V b).ownBlock)
  (hown:w1.ownsRow (T+1) 224 2 (.slice (some ⟨gg,0,none⟩) ((tl b).length+1) cc) ((tl b).length+1) (rJ (tl b)++[.int .i64 (s.1:Nat),.int .i64 (s.2:Nat)])) (hat:(V b).ownBlock=some gg\/gg=w.heap.size) :
  oU (w1.setCell ⟨g2,b,none⟩ (.slice (some ⟨gg,0,none⟩) ((tl b).length+1) cc)) T g2 n (λi=>if i=b then .slice (some ⟨gg,0,none⟩) ((tl b).length+1) cc else V i) (xU tl b (tl b++[s])):=by
 have x:=h.Yx;have t:=h.lt;have f:∀ j,j<n->j≠b->(V j).ownBlock=none\/(V j).ownBlock≠some gg:=by
  intro j c a;rcases hat with e | e
  ·rw[<-e];exact h.sep j b c hb a
  ·cases ho:(V j).ownBlock with
   | none=>exact aCa rfl
   | some q=>
    have:=((h.row j c).lt q ho).2;exact aCb (λd=>by cases d;omega)
 have o:=h.out.kept hgrow (aY h.out (h.row b hb) (by decide));have m:=o.stored b (.slice (some ⟨gg,0,none⟩) ((tl b).length+1) cc);rw[Zy]at m;have a:∀ (v:Value) (n:Nat) (xs:List Value),w1.ownsRow (T+1) 224 2 v n xs->(w1.setCell ⟨g2,b,none⟩ (.slice (some ⟨gg,0,none⟩) ((tl b).length+1) cc)).ownsRow (T+1) 224 2 v n xs:=by
  intro v n xs p;exact p.kept m.2 (aY p o (by decide))
 have u:w1.cell? ⟨T,0,none⟩=some (.slice (some ⟨g2,0,none⟩) n n):=hgrow.cell h.cell (λe=>by
  have:=((h.row b hb).lt T e.symm).1;omega)
 refine⟨h.lt,?_,m.1,λj c=>?_,λi j r c g=>?_⟩
 ·rw[aB8 _ _ _ _ (λe=>by have:=congrArg Addr.block e;simp at this;omega)];exact u
 ·unfold xU;by_cases e:j=b
  ·subst e;simp only[if_true];have:=a _ _ _ hown;rw[<-aai]at this;rw[aCd,aCv];exact this
  ·simp only[aC1 e];exact a _ _ _ ((h.row j c).kept hgrow (h.sep j b c hb e))
 ·by_cases l:i=b
  ·have d:j≠b:=λe=>g (l.trans e.symm);simp only[aC2 l,aC1 d]
   right
   intro e;rcases f j c d with k | k
   ·rw[k]at e;simp[Value.ownBlock]at e
   ·exact k e.symm
  ·by_cases d:j=b
   ·simp only[aC1 l,aC2 d];exact f i r l
   ·simp only[aC1 l,aC1 d];exact h.sep i j r c g
theorem oU.ways{w:World}{T g2 n:Nat}{V:Nat->Value}{tl:Nat->List (Nat × Nat)}(h:oU w T g2 n V tl):pF w g2 n tl:=by
 refine⟨(h.out.lt _ rfl).2,λt b=>?_⟩;obtain⟨d,cap,e⟩:=ak (h.row t b);refine⟨d,cap,?_,λf=>?_⟩
 ·rw[h.out.cellAt t (by omega)];simp[aCs,aCF b,e]
 ·have a:=h.row t b;rw[e]at a;obtain⟨g,i,l,k,m⟩:=eZ a f;subst i;refine⟨g,rfl,k,λj st c=>?_⟩;have o:=(aB9.1 c).1;exact⟨(a.cellAt (j*2) (by omega)).trans (Qs c).1,(a.cellAt (j*2+1) (by omega)).trans (Qs c).2⟩
theorem Tryz.TN:(Tryz.prog.info? 224).map (λi=>(i.zero,i.size,i.bytes))=some (some (.agg #[.int .i64 0,.int .i64 0]),2,16):=by kernel_rfl
theorem RO(T g2 n fr l to:Nat)(V:Nat->Value)(tl:Nat->List (Nat × Nat))(w:World)(hm:oU w T g2 n V tl)(hn:n<=1099511627776)(zX:fr<n)(hl:l<8)(hto:to<n)(hlen:(tl to).length<=1099511627776) :
  Calls Tryz.prog 130 #[.pointer (some ⟨T,0,none⟩),.int .i64 fr,.int .i64 l,.int .i64 to] w λe w'=>e=.returned (.tuple #[])/\(∃ V',oU w' T g2 n V' (xU tl to (tl to++[(fr,l)])))/\Below g2 w w':=by
 obtain⟨i0,E,F,G,H⟩:=info_parts Tryz.TN;have y:=hm.cell;have U:=hm.Yx;have I:=hm.lt;have own:=hm.row to hto;have J:w.cell? ⟨g2,to,none⟩=some (V to):=(hm.out.cellAt to (by omega)).trans (by simp[aCs,aCF hto]);have L:=hid hm;have W:g2<w.heap.size:=by omega
 obtain⟨X,Y,m⟩:=ak own;have z:=hid m;rw[m]at J own;generalize A:(tl to).length=ln at *;have B:=hid A;have C:=hid own;clear hm m A own;go_enter Tryz.func130,Tryz.ntmps130;go_wp2_with fail;refine wp_region_held_drew (S:=λw'=>w'.cell? ⟨T,0,none⟩=some (.slice (some ⟨g2,0,none⟩) n n)) (by kernel_rfl) y (λf=>?_);refine aCc (i:=0) (oi:={ dst:=some 36,op:=Op.move (.tmp 0),type:=_,pos:=_,after:=_,guard:=none }) (v:=(Value.pointer (some ⟨T,0,none⟩))) rfl (by kernel_rfl) (by kernel_rfl) (by kernel_rfl) (λ_ _ _ h=>h) (aCa ⟨by rfl,by intro w' a;(try dsimp only at a);go_simp⟩) (by assumption) ?_
 simp only[Act.put,aB1,aB5,aB6];refine aCc (i:=1) (oi:={ dst:=some 37,op:=Op.nilCheck (.tmp 36),type:=_,pos:=_,after:=_,guard:=none }) (v:=(Value.pointer (some ⟨T,0,none⟩))) rfl (by kernel_rfl) (by kernel_rfl) (by kernel_rfl) (λ_ _ _ h=>h) (aCa ⟨by rfl,by intro w' a;(try dsimp only at a);go_simp⟩) (by assumption) ?_
 simp only[Act.put,aB1,aB5,aB6];refine aCc (i:=2) (oi:={ dst:=some 38,op:=Op.fieldAddr _ (.tmp 37) 0,type:=_,pos:=_,after:=_,guard:=none }) (v:=(Value.pointer (some ⟨T,0,none⟩))) rfl (by kernel_rfl) (by kernel_rfl) (by kernel_rfl) (λ_ _ _ h=>h) (aCa ⟨by rfl,by intro w' a;(try dsimp only at a);go_simp⟩) (by assumption) ?_
 simp only[Act.put,aB1,aB5,aB6];refine aCc (i:=3) (oi:={ dst:=some 39,op:=Op.load _ (.tmp 38),type:=_,pos:=_,after:=_,guard:=none }) (v:=(Value.slice (some ⟨g2,0,none⟩) n n)) rfl (by kernel_rfl) (by kernel_rfl) (by kernel_rfl) (λ_ _ _ h=>h) (aCa ⟨by rfl,by intro w' a;(try dsimp only at a);go_simp⟩) (by assumption) ?_
 simp only[Act.put,aB1,aB5,aB6];refine aCc (i:=4) (oi:={ dst:=some 40,op:=Op.move (.tmp 3),type:=_,pos:=_,after:=_,guard:=none }) (v:=(Value.int .i64 (to:Nat))) rfl (by kernel_rfl) (by kernel_rfl) (by kernel_rfl) (λ_ _ _ h=>h) (aCa ⟨by rfl,by intro w' a;(try dsimp only at a);go_simp⟩) (by assumption) ?_
 simp only[Act.put,aB1,aB5,aB6];refine aCc (i:=5) (oi:={ dst:=some 41,op:=Op.move (.tmp 0),type:=_,pos:=_,after:=_,guard:=none }) (v:=(Value.pointer (some ⟨T,0,none⟩))) rfl (by kernel_rfl) (by kernel_rfl) (by kernel_rfl) (λ_ _ _ h=>h) (aCa ⟨by rfl,by intro w' a;(try dsimp only at a);go_simp⟩) (by assumption) ?_
 simp only[Act.put,aB1,aB5,aB6];refine aCc (i:=6) (oi:={ dst:=some 42,op:=Op.nilCheck (.tmp 41),type:=_,pos:=_,after:=_,guard:=none }) (v:=(Value.pointer (some ⟨T,0,none⟩))) rfl (by kernel_rfl) (by kernel_rfl) (by kernel_rfl) (λ_ _ _ h=>h) (aCa ⟨by rfl,by intro w' a;(try dsimp only at a);go_simp⟩) (by assumption) ?_
 simp only[Act.put,aB1,aB5,aB6];refine aCc (i:=7) (oi:={ dst:=some 43,op:=Op.fieldAddr _ (.tmp 42) 0,type:=_,pos:=_,after:=_,guard:=none }) (v:=(Value.pointer (some ⟨T,0,none⟩))) rfl (by kernel_rfl) (by kernel_rfl) (by kernel_rfl) (λ_ _ _ h=>h) (aCa ⟨by rfl,by intro w' a;(try dsimp only at a);go_simp⟩) (by assumption) ?_
 simp only[Act.put,aB1,aB5,aB6];refine aCc (i:=8) (oi:={ dst:=some 44,op:=Op.load _ (.tmp 43),type:=_,pos:=_,after:=_,guard:=none }) (v:=(Value.slice (some ⟨g2,0,none⟩) n n)) rfl (by kernel_rfl) (by kernel_rfl) (by kernel_rfl) (λ_ _ _ h=>h) (aCa ⟨by rfl,by intro w' a;(try dsimp only at a);go_simp⟩) (by assumption) ?_
 simp only[Act.put,aB1,aB5,aB6];refine aCc (i:=9) (oi:={ dst:=some 45,op:=Op.move (.tmp 3),type:=_,pos:=_,after:=_,guard:=none }) (v:=(Value.int .i64 (to:Nat))) rfl (by kernel_rfl) (by kernel_rfl) (by kernel_rfl) (λ_ _ _ h=>h) (aCa ⟨by rfl,by intro w' a;(try dsimp only at a);go_simp⟩) (by assumption) ?_
 simp only[Act.put,aB1,aB5,aB6];refine aCc (i:=10) (oi:={ dst:=some 46,op:=Op.indexAddr _ (.tmp 44) (.tmp 45),type:=_,pos:=_,after:=_,guard:=none }) (v:=(Value.pointer (some ⟨g2,to,none⟩))) rfl (by kernel_rfl) (by kernel_rfl) (by kernel_rfl) (λ_ _ _ h=>h) (aCa ⟨by rfl,by intro w' a;(try dsimp only at a);go_simp⟩) (by assumption) ?_
 simp only[Act.put,aB1,aB5,aB6];refine aCc (i:=12) (oi:={ dst:=some 48,op:=Op.move (.tmp 1),type:=_,pos:=_,after:=_,guard:=none }) (v:=(Value.int .i64 (fr:Nat))) rfl (by kernel_rfl) (by kernel_rfl) (by kernel_rfl) (λ_ _ _ h=>h) (aCa ⟨by rfl,by intro w' a;(try dsimp only at a);go_simp⟩) (by assumption) ?_
 simp only[Act.put,aB1,aB5,aB6];refine aCc (i:=13) (oi:={ dst:=some 49,op:=Op.move (.tmp 2),type:=_,pos:=_,after:=_,guard:=none }) (v:=(Value.int .i64 (l:Nat))) rfl (by kernel_rfl) (by kernel_rfl) (by kernel_rfl) (λ_ _ _ h=>h) (aCa ⟨by rfl,by intro w' a;(try dsimp only at a);go_simp⟩) (by assumption) ?_
 simp only[Act.put,aB1,aB5,aB6];refine aCc (i:=14) (oi:={ dst:=some 50,op:=Op.build _ #[(0,.tmp 48),(1,.tmp 49)],type:=_,pos:=_,after:=_,guard:=none }) (v:=(Value.agg #[Value.int .i64 (fr:Nat),Value.int .i64 (l:Nat)])) rfl (by kernel_rfl) (by kernel_rfl) (by kernel_rfl) (λ_ _ _ h=>h) (aCa ⟨by rfl,by intro w' a;(try dsimp only at a);go_simp⟩) (by assumption) ?_
 simp only[Act.put,aB1,aB5,aB6];refine aCk (rs:=[11,15]) (by kernel_rfl) (by simp) ?_;refine aCf rfl (λK b=>?_) (aCf rfl (λK b=>?_) aCj)
 focus
  go_simp
  refine b.out _ _ (by assumption) (λf=>?_);clear b K;refine aCk (rs:=[15]) (by kernel_rfl) (by simp) ?_;refine aCf rfl (λK b=>?_) aCj
  go_simp
  refine b.out _ _ ?hs (λf=>?_)
  case hs=>first | go_keep | simp[*]
 rotate_left
 focus
  go_simp
  refine b.out _ _ ?hs (λf=>?_)
  case hs=>first | go_keep | simp[*]
  clear b K;refine aCk (rs:=[11]) (by kernel_rfl) (by simp) ?_;refine aCf rfl (λK b=>?_) aCj
  go_simp
  refine b.out _ _ (by assumption) (λf=>?_)
 all_goals
  clear b K;refine aCk (rs:=[16]) (by kernel_rfl) (by simp) ?_;refine aCf rfl (λK b=>?_) aCj;refine aCV _ (by rfl) (.tmp 47) (.tmp 51) 222 (by rfl) (T+1) 224 i0 (.agg #[.int .i64 0,.int .i64 0]) 2 16 Tryz.underlying222 E F G H rfl (by decide) _ ln (rJ (tl to)) (by rfl) ((C.out.alloc _).drew) ⟨w.heap.size,0,none⟩ 1 1 [.int .i64 (fr:Nat),.int .i64 (l:Nat)] (by rfl) (by rfl) (World.news_of_block (cs:=#[.int .i64 (fr:Nat),.int .i64 (l:Nat)]) (t:=224) (fr:=(0,0)) (heap_alloc_new w _)) (by simp[Value.oneCell']) (by decide) (by unfold maxLen;omega) (by omega) (by simp;omega) (w.heap.size+1) (by simp) ?_;intro M N k d c g Z;have j:oU (w.alloc (.cells #[.int .i64 (fr:Nat),.int .i64 (l:Nat)] 224)).drew T g2 n V tl:=L.out.keeps (aCl ((aB4 w.heap.size w).alloc (aB2 _) (.cells #[.int .i64 (fr:Nat),.int .i64 (l:Nat)] 224)) 1);have o:(w.alloc (.cells #[.int .i64 (fr:Nat),.int .i64 (l:Nat)] 224)).drew.grownBy k (V to).ownBlock:=by rw[z.out];exact c
  have q:=j.out.kept o (aY j.out (j.row to hto) (by decide));have O:=q.frozenAt to;have P:k.cell? ⟨g2,to,none⟩=some (V to):=(q.cellAt to (by omega)).trans (by simp[aCs,aCF hto]);have r:Below (T+1) w k:=(aCl ((aB4 (T+1) w).alloc (by omega) (.cells #[.int .i64 (fr:Nat),.int .i64 (l:Nat)] 224)) 1).grown c (by show T+1<=(w.alloc (.cells #[.int .i64 (fr:Nat),.int .i64 (l:Nat)] 224)).heap.size;rw[aB7];omega) (λx h=>(C.out.lt x h).1);have u:=hid (RI j hto (s:=(fr,l)) o (by rw[B.out];exact d) (by rw[z.out];rcases g with h | h;exact aCa h;exact aCb (by rw[h];exact(aB7 ..).symm)));rw[B.out]at u;have Q:=hid ((r.mono (by omega:g2<=T+1)).setCell (p:=⟨g2,to,none⟩) (aB2 _) (.slice (some ⟨M,0,none⟩) (ln+1) N));have D:k.cell? ⟨T,0,none⟩=some (.slice (some ⟨g2,0,none⟩) n n):=(r.cell (p:=⟨T,0,none⟩) (aCA _)).trans y;have R:=hid (u.out.cell);refine b.out _ _ D (λf=>?_);clear b K q j r d c o g;simp only[Act.put,aB1];refine aCc (i:=17) (oi:={ dst:=some 53,op:=Op.indexAddr _ (.tmp 39) (.tmp 40),type:=_,pos:=_,after:=_,guard:=none }) (v:=(Value.pointer (some ⟨g2,to,none⟩))) rfl (by kernel_rfl) (by kernel_rfl) (by kernel_rfl) (λ_ _ _ h=>h) (aCa ⟨by rfl,by intro w' a;(try dsimp only at a);go_simp⟩) (by assumption) ?_
  simp only[Act.put];refine aCk (rs:=[18]) (by kernel_rfl) (by simp) ?_;refine aCf rfl (λK b=>?_) aCj
  go_simp
  refine b.out _ _ R.out (λf=>?_);clear b K;refine aC0 (by kernel_rfl) ?_ _;clear f D P O;go_wp2_with fail
  go_end0
  exact⟨rfl,⟨_,u.out⟩,Q.out⟩
