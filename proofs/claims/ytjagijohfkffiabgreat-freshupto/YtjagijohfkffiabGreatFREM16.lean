import Derived.Test.YtjagijohfkffiabGreatFREM15
set_option maxHeartbeats 16000000
set_option maxRecDepth 100000
set_option linter.unusedSimpArgs false
namespace Go.Proofs.YtjagijohfkffiabGreat
open Go.RowKit
set_option linter.unusedVariables false
def uN(w:World)(P:Nat)(ns:List Nd):Prop:=∀ x N,x<8->N<256->w.cell? ⟨P,x*256+N,none⟩=some (.int .u8 (gY ns x N:Nat))
theorem uN.below{B:Nat}{w w':World}{P:Nat}{ns:List Nd}(h:uN w P ns)(hb:Below B w w')(hlt:P<B):uN w' P ns:=λx N hx hN=>(hb.cell (p:=⟨P,x*256+N,none⟩) hlt).trans (h x N hx hN)
structure nY (w:World) (gi n:Nat) (into:Nat->List (Nat × Nat)):Prop where
 lt:gi<w.heap.size
 row:∀ t,t<n->∃ ao cap,w.cell? ⟨gi,t,none⟩=some (.slice ao (into t).length cap)/\(0<(into t).length->∃ gr,ao=some ⟨gr,0,none⟩/\gr<w.heap.size /\
  ∀ j st,(into t)[j]?=some st->w.cell? ⟨gr,j*2,none⟩=some (.int .i64 (st.1:Nat))/\w.cell? ⟨gr,j*2+1,none⟩=some (.int .i64 (st.2:Nat)))
theorem nY.below{w w':World}{gi n:Nat}{into:Nat->List (Nat × Nat)}(h:nY w gi n into)(hb:Below w.heap.size w w'):nY w' gi n into:=by
 refine⟨aBi h.lt hb.size,λt ht=>?_⟩;obtain⟨ao,cap,h1,h2⟩:=h.row t ht;refine⟨ao,cap,(hb.cell (p:=⟨gi,t,none⟩) h.lt).trans h1,λh0=>?_⟩;obtain⟨gr,h3,h4,h5⟩:=h2 h0;refine⟨gr,h3,aBi h4 hb.size,λj st hj=>?_⟩;obtain⟨h6,h7⟩:=h5 j st hj;exact⟨(hb.cell (p:=⟨gr,j*2,none⟩) h4).trans h6,(hb.cell (p:=⟨gr,j*2+1,none⟩) h4).trans h7⟩
structure uV (n:Nat) (into:Nat->List (Nat × Nat)):Prop where
 le:n<=8589934592
 st:∀ t,t<n->∀ st∈into t,st.1<n/\st.2<8
 len:∀ t,t<n->(into t).length<=1099511627776
def Ew(n:Nat)(ns:List Nd)(into:Nat->List (Nat × Nat))(y a:Nat):Prop:=a<n*256/\∃ st∈into (a / 256),y=st.1*256+gY ns st.2 (a % 256)
theorem age{n:Nat}{ns:List Nd}{into:Nat->List (Nat × Nat)}(a b:Nat)(h:Ew n ns into a b):b<n*256:=h.1
theorem MI{n:Nat}{ns:List Nd}{into:Nat->List (Nat × Nat)}(h8:ns.length<=8)(hp:uV n into){y a:Nat}(h:Ew n ns into y a):y<n*256:=by
 obtain⟨ha,st,hs,rfl⟩:=h;have h1:=(hp.st (a / 256) (by omega) st hs).1;have h2:=vU h8 st.2 (a % 256);omega
theorem afp{f:Nat->Bool}{b y:Nat}(h:f y=true):upd f b true y=true:=by unfold upd;split <;> first | rfl | exact h
theorem upd_same(f:Nat->Bool)(b:Nat)(v:Bool):upd f b v b=v:=by simp[upd]
def wo(n:Nat)(ns:List Nd)(into:Nat->List (Nat × Nat))(rl:List Nat)(found:Nat->Bool)(i:Nat):Prop:=∀ j a,j<i->rl[j]?=some a->∀ y,Ew n ns into y a->found y=true
theorem wo.add{n:Nat}{ns:List Nd}{into:Nat->List (Nat × Nat)}{rl:List Nat}{found:Nat->Bool}{i:Nat}(h:wo n ns into rl found i)(hi:i<rl.length)(y:Nat):wo n ns into (rl++[y]) (upd found y true) i:=λj a hj ha z hz=>by
 rw[aA9 (by omega)]at ha;exact afp (h j a hj ha z hz)
def tF(ns:List Nd)(ws:List (Nat × Nat))(u:Nat)(found:Nat->Bool)(j:Nat):Prop:=∀ x st,x<j->ws[x]?=some st->found (st.1*256+gY ns st.2 u)=true
theorem tF.step{ns:List Nd}{ws:List (Nat × Nat)}{u j:Nat}{found:Nat->Bool}(h:tF ns ws u found j){st:Nat × Nat}(hj:ws[j]?=some st)(hf:found (st.1*256+gY ns st.2 u)=true):tF ns ws u found (j+1):=λx s2 hx hs=>by
 by_cases e:x=j
 ·subst e;rw[hj]at hs;cases hs;exact hf
 ·exact h x s2 (by omega) hs
theorem tF.add{ns:List Nd}{ws:List (Nat × Nat)}{u j:Nat}{found:Nat->Bool}(h:tF ns ws u found j)(y:Nat):tF ns ws u (upd found y true) j:=λx s2 hx hs=>afp (h x s2 hx hs)
theorem abE{n:Nat}{ns:List Nd}{into:Nat->List (Nat × Nat)}{rl:List Nat}{found:Nat->Bool}{k s u:Nat}(h:wo n ns into rl found k)(hk:rl[k]?=some (s*256+u))(hu:u<256)(hi:tF ns (into s) u found (into s).length):wo n ns into rl found (k+1):=λj a hj ha y hy=>by
 by_cases e:j=k
 ·subst e;rw[hk]at ha;cases ha;obtain⟨_,st,hs,rfl⟩:=hy;rw[show (s*256+u) / 256=s by omega]at hs;rw[show (s*256+u) % 256=u by omega];obtain⟨x,hx,ex⟩:=aBC hs;exact hi x st hx (by rw[aAV hx,ex])
 ·exact h j a (by omega) ha y hy
/-! ### What seek has found -/
structure pR (E:Nat->Nat->Prop) (N:Nat) (goal:Nat->Bool) (ls:List (Nat × Nat)) (found:Nat->Bool):Prop where
 lead:Lc E N goal (ls.map Prod.fst) found
 gl:(aG goal N).length<=ls.length
 pre:∀ (i x:Nat),(aG goal N)[i]?=some x->ls[i]?=some (x,i)
 link:∀ (i a t:Nat),(aG goal N).length<=i->ls[i]?=some (a,t)->t<i/\found a=true/\∃ b t':Nat,ls[t]?=some (b,t')/\E a b
 in_:∀ x,found x=true->∃ i t:Nat,(aG goal N).length<=i/\ls[i]?=some (x,t)
def su(gs:List Nat)(k:Nat):List (Nat × Nat):=(List.range k).map λi=>(gs.getD i 0,i)
theorem aal(gs:List Nat)(k:Nat):su gs (k+1)=su gs k++[(gs.getD k 0,k)]:=by simp[su,aBL]
theorem I9(gs:List Nat)(k:Nat):(su gs k).length=k:=by simp[su]
theorem adO(gs:List Nat):(su gs gs.length).map Prod.fst=gs:=by
 apply List.ext_getElem
 ·simp[su]
 ·intro i h1 h2;simp[su,List.getD,aAV h2]
theorem XI(E:Nat->Nat->Prop)(N:Nat)(goal:Nat->Bool):pR E N goal (su (aG goal N) (aG goal N).length) (λ_=>false):=by
 refine⟨by rw[adO];exact Yi E N goal,by rw[I9];exact aAU _,λi x h=>?_,λi a t h1 h2=>?_,λx h=>(by cases h)⟩
 ·have hi:=(aA1.1 h).1;have e:(aG goal N)[i]=x:=by rw[aAV hi]at h;exact Option.some.inj h
  simp[su,List.getD,hi,e]
 ·have:=(aA1.1 h2).1;rw[I9]at this;omega
theorem adj{E:Nat->Nat->Prop}{N:Nat}{goal found:Nat->Bool}{ls:List (Nat × Nat)}(h:pR E N goal ls found){k a t y:Nat}(ha:ls[k]?=some (a,t))(he:E y a)(hy:y<N)(hf:found y=false):pR E N goal (ls++[(y,k)]) (upd found y true):=by
 have hk:=(aA1.1 ha).1;have hu:∀ x,found x=true->upd found y true x=true:=λx hx=>by unfold upd;split <;> first | rfl | exact hx
 have old:∀ {i:Nat} {p:Nat × Nat},ls[i]?=some p->(ls++[(y,k)])[i]?=some p:=λ{i p} hp=>by
  rw[aA9 (aA1.1 hp).1];exact hp
 refine⟨?_,by rw[aA5];have:=h.gl;omega,λi x hi=>old (h.pre i x hi),λi b s h1 h2=>?_,λx hx=>?_⟩
 ·rw[aBE];exact adU h.lead (aBM.2 ⟨(a,t),aBB ha,rfl⟩) he hy hf
 ·by_cases c:i<ls.length
  ·rw[aA9 c]at h2;obtain⟨h3,h4,b2,t2,h5,h6⟩:=h.link i b s h1 h2;exact⟨h3,hu _ h4,b2,t2,old h5,h6⟩
  ·have c2:=(aA1.1 h2).1;simp at c2;have e:i=ls.length:=by omega
   subst e;simp at h2;obtain⟨rfl,rfl⟩:=h2;exact⟨hk,by simp[upd],a,t,old ha,he⟩
 ·by_cases e:x=y
  ·subst e;exact⟨ls.length,k,h.gl,by simp⟩
  ·obtain⟨i,s,h1,h2⟩:=h.in_ x (by unfold upd at hx;rw[aBT e]at hx;exact hx);exact⟨i,s,h1,old h2⟩
theorem mJ{E:Nat->Nat->Prop}{N:Nat}{goal found:Nat->Bool}{ls:List (Nat × Nat)}(h:pR E N goal ls found):ls.length<=(aG goal N).length+N:=by
 have h1:=h.lead.len;have h2:=Bt found N;rw[aBG]at h1;rw[qm];omega
def jg(ls:List (Nat × Nat)):List Value:=ls.flatMap λp=>[.int .i64 (p.1 / 256:Nat),.int .u8 (p.1 % 256:Nat),.int .i64 (p.2:Nat)]
theorem Ic(ls:List (Nat × Nat))(p:Nat × Nat):jg (ls++[p])=jg ls++[.int .i64 (p.1 / 256:Nat),.int .u8 (p.1 % 256:Nat),.int .i64 (p.2:Nat)]:=by simp[jg]
theorem C9{ls:List (Nat × Nat)}{i:Nat}{p:Nat × Nat}(h:ls[i]?=some p):(jg ls)[i*3]?=some (.int .i64 (p.1 / 256:Nat))/\(jg ls)[i*3+1]?=some (.int .u8 (p.1 % 256:Nat))/\(jg ls)[i*3+2]?=some (.int .i64 (p.2:Nat)):=by
 induction ls generalizing i with
 | nil=>simp at h
 | cons q qs ih=>
  cases i with
  | zero=>simp at h;subst h;simp[jg]
  | succ i=>
   have:=ih (by simpa using h);rw[show jg (q::qs)=[.int .i64 (q.1 / 256:Nat),.int .u8 (q.1 % 256:Nat),.int .i64 (q.2:Nat)]++jg qs by simp[jg]];rw[aBa (by simp;omega),aBa (by simp;omega),aBa (by simp;omega)];simpa [show (i+1)*3 - 3=i*3 by omega,show (i+1)*3+1 - 3=i*3+1 by omega,show (i+1)*3+2 - 3=i*3+2 by omega] using this
theorem Tryz.ad1:(Tryz.prog.info? 221).map (λi=>(i.zero,i.size,i.bytes))=some (some (.agg #[.int .i64 0,.int .u8 0,.int .i64 0]),3,24):=by kernel_rfl
theorem vQ(w:World)(cs:List Value)(t:TypeId):∀ j u,cs[j]?=some u->(w.alloc (.cells cs.toArray t)).cell? ((⟨w.heap.size,0,none⟩:Addr).add j)=some u:=λj u hj=>by
 rw[Addr.add_mid,aBJ (w.alloc (.cells cs.toArray t)) w.heap.size (0+j) cs.toArray t (0,0) (heap_alloc_last w _)];simpa using hj
theorem zf{fn:Func}{p b:Nat}{ty:TypeId}{d:TypeDesc}{cs:List Value}{a:Act}{w:World}{R:Ending->World->Prop}(h:fn.results=#[.cell p ty])(hd:a.defers=[])(hp:a.tmps.getD p undef=.pointer (some ⟨b,0,none⟩))
  (hg:w.rangeAt b 0 cs) (hu:Tryz.prog.underlying ty=some d) (hr:d.isRow=true) (hs:(Tryz.prog.info? ty).map (·.size)=some cs.length) (hR:R (.returned (.agg cs.toArray)) w):bodyPost Tryz.prog fn R .ret a w:=by
 refine bodyPost_ret (v:=.agg cs.toArray) ?_ hd hR;rw[mM h,hp];simp only[asAddr,Sem.run_pure,Result.andThen_ok];exact run_loadVar_mid w b 0 _ cs d hg hu hr hs
theorem Ng{w:World}{b:Nat}{x0 x1 x2:Value}(d0:w.cell? ⟨b,0,none⟩=some x0)(d1:w.cell? ⟨b,1,none⟩=some x1)(d2:w.cell? ⟨b,2,none⟩=some x2)(y0 y1 y2:Value) :
  (((w.setCell ⟨b,0,none⟩ y0).setCell ⟨b,1,none⟩ y1).setCell ⟨b,2,none⟩ y2).rangeAt b 0 [y0,y1,y2]:=by
 have o:∀ (w:World) (i j:Nat) (u:Value),i≠j->(w.setCell ⟨b,i,none⟩ u).cell? ⟨b,j,none⟩=w.cell? ⟨b,j,none⟩:=λw i j u h=>aA0 _ _ _ _ (λq=>h (by have:=congrArg Addr.off q;simpa using this));intro j v hj;rw[aBo];cases j with
 | zero=>
  simp at hj;subst hj;rw[o _ 2 0 _ (by omega),o _ 1 0 _ (by omega)];exact aBr _ _ _ d0
 | succ j=>cases j with
  | zero=>
   simp at hj;subst hj;rw[o _ 2 1 _ (by omega)];exact aBr _ _ _ (by rw[o _ 0 1 _ (by omega)];exact d1)
  | succ j=>cases j with
   | zero=>
    simp at hj;subst hj;exact aBr _ _ _ (by rw[o _ 1 2 _ (by omega),o _ 0 2 _ (by omega)];exact d2)
   | succ j=>simp at hj
theorem Tryz.XJ:(Tryz.prog.info? 171).map (·.size)=some 3:=by kernel_rfl
def alp(n:Nat)(ns:List Nd)(into:Nat->List (Nat × Nat))(goal:Nat->Bool)(w:World)(e:Ending)(w':World):Prop:=
 ∃ g' found ls v,e=.returned (.agg #[.slice (some ⟨g',0,none⟩) n n,v,.int .i64 ((aG goal (n*256)).length:Nat)])/\w.heap.size<=g'/\g'<w'.heap.size/\bU w' g' (n*256) found/\(∀ x,found x=true↔fE (Ew n ns into) (λy=>goal y=true) x) /\
  pR (Ew n ns into) (n*256) goal ls found/\w'.ownsRow w.heap.size 221 3 v ls.length (jg ls)/\Below w.heap.size w w'
theorem xU(P gi n bY g cap:Nat)(ns:List Nd)(into:Nat->List (Nat × Nat))(goal:Nat->Bool)(w:World)(h8:ns.length<=8)(hp:uV n into)(mF:uN w P ns)(hP:P<w.heap.size)(hw:nY w gi n into)(kz:bU w g (n*256) goal)(hg:g<w.heap.size) :
  Calls Tryz.prog 95 #[.pointer (some ⟨P,0,none⟩),.agg #[.slice (some ⟨gi,0,none⟩) n bY],.slice (some ⟨g,0,none⟩) n cap] w (alp n ns into goal w):=by
 have hn:=hp.le;have HP:=hid hp;have HM:=hid mF;have HW:=hid hw;have HG:=hid kz;have zD:=hw.lt;obtain⟨i0,hi,aR,aP,aN⟩:=info_parts Tryz.ad1;clear hp mF hw kz;go_enter Tryz.func95,Tryz.ntmps95;go_wp2_with (at_make;go_must (refine iV _ rfl (.tmp 17) rfl n rfl (by omega) ?_));intro w1 F1 iw aM;have c4:Hid (w1.cell? ⟨w.heap.size,0,none⟩=some (.slice (some ⟨gi,0,none⟩) n bY)):=hid ((aM.cell (p:=⟨w.heap.size,0,none⟩) (by show w.heap.size<w.heap.size+1+1;omega)).trans (by simp));have F7:=hid F1;have hs1:=aM.size;have T61:=hid ((dH (w.alloc (.cells #[.slice (some ⟨gi,0,none⟩) n bY] 159)) (.slice none 0 0) (.slice none 0 0) (.int .i64 0) 171).below aM (by first | omega | (simp only[aAZ];omega)))
 have aK:=hid ((((aAW w.heap.size w).alloc (aAU _) (.cells #[.slice (some ⟨gi,0,none⟩) n bY] 159)).alloc (by first | omega | (simp only[aAZ];omega)) (.cells #[.slice none 0 0,.slice none 0 0,.int .i64 0] 171)).trans (aM.mono (by first | omega | (simp only[aAZ];omega))))
 clear F1 aM;go_wp2_with fail;have ba:=(aAW w1.heap.size w1).alloc (aAU _) (.cells #[.slice (some ⟨w.heap.size+1+1,0,none⟩) n n,.slice none 0 0,.int .i64 0] 171);refine(Ro g n cap goal _ (by omega) ((HG.out.below aK.out hg).below ba (by omega)) (by simp;omega)).mono ?_;rintro e w2 ⟨v0,rfl,dR,ak⟩;simp only[aAZ]at dR ak hs1 iw;have TS2:=hid ((dH w1 (.slice (some ⟨w.heap.size+1+1,0,none⟩) n n) (.slice none 0 0) (.int .i64 0) 171).below ak (by omega));have bb:=ba.trans (ak.mono (show w1.heap.size<=w1.heap.size+1 by omega));have F2:=hid (F7.out.below bb (by omega));have c42:Hid (w2.cell? ⟨w.heap.size,0,none⟩=some (.slice (some ⟨gi,0,none⟩) n bY)):=hid ((bb.cell (p:=⟨w.heap.size,0,none⟩) (by show w.heap.size<w1.heap.size;omega)).trans c4.out);have T62:=hid (T61.out.below bb (by simp;omega));have aW:=hid (aK.out.trans (bb.mono (by omega)));have O2:=hid dR;have lm:=ak.size;simp only[aAZ]at lm;clear dR ak ba bb aK F7 c4 T61;have nV:=Sv goal (n*256);generalize hgE:aG goal (n*256)=gs at *;generalize hSE:w1.heap.size=S at *;obtain⟨aog,YI,rfl⟩:=ai O2.out;simp only[aAZ]at T62;go_wp2_with fail
 go_loopw [23] (λi wq=>∃ (k:Nat) (v:Value),k<=gs.length/\i=.int .i64 k/\Hid (Three wq S (.slice (some ⟨w.heap.size+1+1,0,none⟩) n n) v (.int .i64 0))/\Hid (wq.ownsRow (S+1) 221 3 v k (jg (su gs k)))/\Hid (wq.ownsRow (S+1) 166 2 (.slice aog gs.length YI) gs.length (dn gs))/\Hid (bU wq (w.heap.size+1+1) (n*256) (λ_=>false))/\Hid (wq.cell? ⟨w.heap.size,0,none⟩=some (.slice (some ⟨gi,0,none⟩) n bY))/\Hid (Three wq (w.heap.size+1) (.slice none 0 0) (.slice none 0 0) (.int .i64 0))/\Hid (Below w.heap.size w wq)/\S+1<=wq.heap.size) (λi _=>gs.length - (intOf i).toNat)
 case atStart=>exact⟨0,_,aA8 _,rfl,TS2,hid (aBh _ _ _ _),O2,F2,c42,T62,aW,lm⟩
 case round=>
  obtain⟨k,v,hk,rfl,HT,HO,HL,HF,HC,H6,HB,hsz⟩:=hrel;rename World=>W0;have ts1:=HT.out.c1;have ts2:=HT.out.c2;have tf1:=HT.out.fz 1 (by omega);by_cases hlk:k<gs.length
  ·obtain⟨g1,rfl,hg1,ael,hcp⟩:=dX HL.out (by omega);obtain⟨x,hx⟩:∃ x,gs[k]?=some x:=⟨gs[k],aAV hlk⟩;have y0:W0.cell? ⟨g1,k*2,none⟩=some (.int .i64 (x / 256:Nat)):=by rw[HL.out.cellAt (k*2) (by omega),(xe hx).1]
   have y1:W0.cell? ⟨g1,k*2+1,none⟩=some (.int .u8 (x % 256:Nat)):=by rw[HL.out.cellAt (k*2+1) (by omega),(xe hx).2]
   have HX:=hid hx;clear hx;generalize hs:x / 256=s at *;generalize hu:x % 256=u at *;have HSU:=hid (show s=x / 256/\u=x % 256 from ⟨hs.symm,hu.symm⟩);clear hs hu;obtain⟨aov,cpv,rfl⟩:=ai HO.out;have mG:S<W0.heap.size:=by omega
   have UI:=hid (λq h=>(HO.out.lt q h).1);go_wp2_with (at_builtin;go_must (refine aBw _ rfl (.tmp 29) (.tmp 33) 169 rfl (S+1) 221 i0 (.agg #[.int .i64 0,.int .u8 0,.int .i64 0]) 3 24 Tryz.underlying169 hi aR aP aN rfl (by decide) _ k (jg (su gs k)) rfl ((HO.out.alloc _).alloc _) ⟨W0.heap.size+1,0,none⟩ 1 1 [.int .i64 (s:Nat),.int .u8 (u:Nat),.int .i64 (k:Nat)] rfl rfl ?c1 ?c2 (by decide) ?c3 ?c4 ?c5 (W0.heap.size+2) ?c6 ?_))
   case c1=>exact(by simpa using vQ (W0.alloc (.cells #[.int .i64 (s:Nat),.int .u8 (u:Nat)] 166)) [.int .i64 (s:Nat),.int .u8 (u:Nat),.int .i64 (k:Nat)] 221)
   case c2=>intro y hy;simp at hy;rcases hy with rfl | rfl | rfl <;> rfl
   case c3=>unfold maxLen;omega
   case c4=>omega
   case c5=>simp;omega
   case c6=>simp
   intro gg cc w5 hown hgrow hat ar1;have bd:=((aAW W0.heap.size W0).alloc (aAU _) (.cells #[.int .i64 (s:Nat),.int .u8 (u:Nat)] 166)).alloc (by simp) (.cells #[.int .i64 (s:Nat),.int .u8 (u:Nat),.int .i64 (k:Nat)] 221);have bs:Below (S+1) W0 w5:=(bd.mono (by omega)).grown hgrow (by simp;omega) (λq h=>UI.out q h);have T5:=hid (HT.out.below bs (by omega));have t51:=T5.out.c1;have tf5:=T5.out.fz 1 (by omega);have D1:=hid (T5.out.set1 (.slice (some ⟨gg,0,none⟩) (k+1) cc));have D2:Hid ((w5.setCell ⟨S,1,none⟩ (.slice (some ⟨gg,0,none⟩) (k+1) cc)).ownsRow (S+1) 221 3 (.slice (some ⟨gg,0,none⟩) (k+1) cc) (k+1) (jg (su gs (k+1)))):=hid (ax (by
    rw[aal,Ic,show gs.getD k 0=x by simp[List.getD,HX.out],<-HSU.out.1,<-HSU.out.2];exact hown) (by omega) _ _)
   have HL5:=((HL.out.alloc (.cells #[.int .i64 (s:Nat),.int .u8 (u:Nat)] 166)).alloc (.cells #[.int .i64 (s:Nat),.int .u8 (u:Nat),.int .i64 (k:Nat)] 221)).kept hgrow (aC ((HL.out.alloc (.cells #[.int .i64 (s:Nat),.int .u8 (u:Nat)] 166)).alloc (.cells #[.int .i64 (s:Nat),.int .u8 (u:Nat),.int .i64 (k:Nat)] 221)) ((HO.out.alloc _).alloc _) (by decide));have D3:=hid (ax HL5 (show S<S+1 by omega) 1 (.slice (some ⟨gg,0,none⟩) (k+1) cc));have D4:=hid ((HF.out.below bs (by omega)).other ⟨S,1,none⟩ (.slice (some ⟨gg,0,none⟩) (k+1) cc) (by show S≠w.heap.size+1+1;omega));have D5:Hid ((w5.setCell ⟨S,1,none⟩ (.slice (some ⟨gg,0,none⟩) (k+1) cc)).cell? ⟨w.heap.size,0,none⟩=some (.slice (some ⟨gi,0,none⟩) n bY)):=hid (by
    rw[aA0 _ _ _ _ (λe=>by have:=congrArg Addr.block e;simp at this;omega)];exact(bs.cell (p:=⟨w.heap.size,0,none⟩) (by show w.heap.size<S+1;omega)).trans HC.out)
   have D6:=hid ((H6.out.below bs (by omega)).other (k:=S) (o:=1) (by omega) (.slice (some ⟨gg,0,none⟩) (k+1) cc));have D7:=hid ((HB.out.trans (bs.mono (by omega))).setCell (p:=⟨S,1,none⟩) (by show w.heap.size<=S;omega) (.slice (some ⟨gg,0,none⟩) (k+1) cc));have hz5:S+1<=w5.heap.size:=aBO hsz bs.size;clear hown hgrow hat bs bd HL5 T5 HT HO HL HF HC H6 HB y0 y1 ts1 ts2 tf1;go_wp2_with fail;go_roundw
   case rel=>exact⟨k+1,_,by omega,by go_num,D1,D2,D3,D4,D5,D6,D7,by simp;omega⟩
   case measure=>simp[intOf];omega
  ·obtain rfl:k=gs.length:=by omega
   have tf2:=HT.out.fz 2 (by omega);obtain⟨aov,cpv,rfl⟩:=ai HO.out;have E1:=hid (HT.out.set2 (.int .i64 (gs.length:Nat)));have E2:=hid (ax HO.out (show S<S+1 by omega) 2 (.int .i64 (gs.length:Nat)));have E4:=hid (HF.out.other ⟨S,2,none⟩ (.int .i64 (gs.length:Nat)) (by show S≠w.heap.size+1+1;omega));have E5:Hid ((W0.setCell ⟨S,2,none⟩ (.int .i64 (gs.length:Nat))).cell? ⟨w.heap.size,0,none⟩=some (.slice (some ⟨gi,0,none⟩) n bY)):=hid (by
    rw[aA0 _ _ _ _ (λe=>by have:=congrArg Addr.block e;simp at this;omega)];exact HC.out)
   have E6:=hid (H6.out.other (k:=S) (o:=2) (by omega) (.int .i64 (gs.length:Nat)));have E7:=hid (HB.out.setCell (p:=⟨S,2,none⟩) (by show w.heap.size<=S;omega) (.int .i64 (gs.length:Nat)));have Lv:Hid (pR (Ew n ns into) (n*256) goal (su gs gs.length) (λ_=>false)):=hid (by rw[<-hgE];exact XI _ _ _);clear HT HO HL HF HC H6 HB;go_wp2_with fail
   go_loopw [10] (λi wq=>∃ (k:Nat) (ls:List (Nat × Nat)) (found:Nat->Bool) (v:Value),k<=ls.length/\i=.int .i64 k/\Hid (pR (Ew n ns into) (n*256) goal ls found)/\Hid (wo n ns into (ls.map Prod.fst) found k)/\Hid (Three wq S (.slice (some ⟨w.heap.size+1+1,0,none⟩) n n) v (.int .i64 (gs.length:Nat)))/\Hid (wq.ownsRow (S+1) 221 3 v ls.length (jg ls))/\Hid (bU wq (w.heap.size+1+1) (n*256) found)/\Hid (wq.cell? ⟨w.heap.size,0,none⟩=some (.slice (some ⟨gi,0,none⟩) n bY))/\Hid (Three wq (w.heap.size+1) (.slice none 0 0) (.slice none 0 0) (.int .i64 0))/\Hid (Below w.heap.size w wq)/\S+1<=wq.heap.size) (λi _=>2*(n*256) - (intOf i).toNat)
   case atStart=>exact⟨0,_,_,_,aA8 _,rfl,Lv,hid (λj a hj=>by omega),E1,by rw[I9];exact E2,E4,E5,E6,E7,by simp;omega⟩
   case round=>
    obtain⟨k,ls,found,v,hk,rfl,HI,HD,HT,HO,HF,HC,H6,HB,hsz⟩:=hrel;rename World=>W0;clear E1 E2 E4 E5 E6 E7 Lv ts1 ts2 tf1 tf2;have vG:=mJ HI.out;rw[hgE]at vG;have t0:=HT.out.c0;have t1:=HT.out.c1;have t2:=HT.out.c2;obtain⟨ao,cp,rfl⟩:=ai HO.out;by_cases hlk:k<ls.length
    ·obtain⟨g1,rfl,hg1,ael,hcp⟩:=dX HO.out (by omega);obtain⟨s,u,tw,hs,hu,Yv⟩:∃ s u tw,s<n/\u<256/\ls[k]?=some (s*256+u,tw):=by
      have h1:=(HI.out.lead.sound ls[k].1 (aBM.2 ⟨ls[k],List.getElem_mem hlk,rfl⟩)).1;refine⟨ls[k].1 / 256,ls[k].1 % 256,ls[k].2,by omega,by omega,?_⟩;rw[aAV hlk,show ls[k].1 / 256*256+ls[k].1 % 256=ls[k].1 by omega]
     have y0:W0.cell? ⟨g1,k*3,none⟩=some (.int .i64 (s:Nat)):=by
      rw[HO.out.cellAt (k*3) (by omega),(C9 Yv).1];simp only;rw[show (s*256+u) / 256=s by omega]
     have y1:W0.cell? ⟨g1,k*3+1,none⟩=some (.int .u8 (u:Nat)):=by
      rw[HO.out.cellAt (k*3+1) (by omega),(C9 Yv).2.1];simp only;rw[show (s*256+u) % 256=u by omega]
     have hc:=HC.out;obtain⟨aor,qF,r1,r2⟩:=HW.out.row s hs;have r1':=(HB.out.cell (p:=⟨gi,s,none⟩) zD).trans r1;have jR:=hid r2;have Ko:=HP.out.len s hs;have mI:=hid (HP.out.st s hs);have Lr:=hid Yv;clear r1 r2 Yv;generalize oU:(into s).length=ln at *;have bZ:=hid oU;clear oU;have x1:w.heap.size<W0.heap.size:=by omega
     have x2:gi<W0.heap.size:=by omega
     have x3:P<W0.heap.size:=by omega
     have x4:w.heap.size+1+1<W0.heap.size:=by omega
     have x5:S<W0.heap.size:=by omega
     have dk:decide (n<=s)=false:=by simp;omega
     have b0:=(aAW W0.heap.size W0).alloc (aAU _) (.cells #[.int .i64 (s:Nat),.int .u8 (u:Nat)] 166);have A1:=hid (HT.out.below b0 x5);have A2:=hid (HF.out.below b0 x4);have A3:Hid ((W0.alloc (.cells #[.int .i64 (s:Nat),.int .u8 (u:Nat)] 166)).cell? ⟨w.heap.size,0,none⟩=some (.slice (some ⟨gi,0,none⟩) n bY)):=hid ((b0.cell (p:=⟨w.heap.size,0,none⟩) x1).trans HC.out);have A4:=hid (H6.out.below b0 (by omega));have A5:=hid (HB.out.alloc (by omega) (.cells #[.int .i64 (s:Nat),.int .u8 (u:Nat)] 166));have A6:=hid (HO.out.alloc (.cells #[.int .i64 (s:Nat),.int .u8 (u:Nat)] 166));clear b0 HT HF HC H6 HB HO;go_wp2_with fail
     go_loopw [67] (λi wq=>∃ (j:Nat) (ls:List (Nat × Nat)) (found:Nat->Bool) (v:Value),j<=ln/\i=.int .i64 j/\k<ls.length/\Hid (ls[k]?=some (s*256+u,tw))/\Hid (pR (Ew n ns into) (n*256) goal ls found)/\Hid (wo n ns into (ls.map Prod.fst) found k)/\Hid (tF ns (into s) u found j)/\Hid (Three wq S (.slice (some ⟨w.heap.size+1+1,0,none⟩) n n) v (.int .i64 (gs.length:Nat)))/\Hid (wq.ownsRow (S+1) 221 3 v ls.length (jg ls))/\Hid (v.ownBlock≠some W0.heap.size)/\Hid (bU wq (w.heap.size+1+1) (n*256) found)/\Hid (wq.cell? ⟨w.heap.size,0,none⟩=some (.slice (some ⟨gi,0,none⟩) n bY))/\Hid (Three wq (w.heap.size+1) (.slice none 0 0) (.slice none 0 0) (.int .i64 0))/\Hid (wq.cell? ⟨W0.heap.size,1,none⟩=some (.int .u8 (u:Nat)))/\Hid (Below w.heap.size w wq)/\W0.heap.size<wq.heap.size) (λi _=>ln - (intOf i).toNat)
     case atStart=>
      exact⟨0,ls,found,_,aA8 _,rfl,hlk,Lr,HI,HD,hid (λx st hx=>by omega),A1,A6,hid (by simp[Value.ownBlock];omega),A2,A3,A4,hid (by simp),A5,by simp⟩
     case round=>
      obtain⟨j,ls,found,v,hj,rfl,hlk,Lr,HI,HD,HN,HT,HO,HV,HF,HC,H6,HU,HB,ma⟩:=hrel;rename World=>W3;clear A1 A2 A3 A4 A5 A6;by_cases eQ:j<ln
      ·obtain⟨gr,e,hgr,Fe⟩:=jR.out (by omega);subst e;obtain⟨⟨fr,l⟩,hst⟩:∃ st,(into s)[j]?=some st:=⟨(into s)[j]'(by rw[bZ.out];exact eQ),aAV (by rw[bZ.out];exact eQ)⟩;obtain⟨Kr,hl⟩:=mI.out _ (aBB hst);have z:=Fe j _ hst;have z0:=(HB.out.cell (p:=⟨gr,j*2,none⟩) hgr).trans z.1;have z1:=(HB.out.cell (p:=⟨gr,j*2+1,none⟩) hgr).trans z.2;dsimp only at Kr hl z0 z1;have bm:=(HM.out.below HB.out hP) l u hl hu;have hbv:=vU h8 l u;have fc:=HF.out.c (fr*256+gY ns l u) (by omega);have ff:=HF.out.f (fr*256+gY ns l u) (by omega);have hcu:=HU.out;have t0:=HT.out.c0;have t1:=HT.out.c1;have HEW:Hid (Ew n ns into (fr*256+gY ns l u) (s*256+u)):=hid ⟨by omega,(fr,l),by rw[show (s*256+u) / 256=s by omega];exact aBB hst,by rw[show (s*256+u) % 256=u by omega]⟩;have He:=hid (λ(f2:Nat->Bool) (k:tF ns (into s) u f2 j) (hf:f2 (fr*256+gY ns l u)=true)=>k.step hst hf);have hN:=MI h8 HP.out HEW.out;have x5:P<W3.heap.size:=by omega
       have x6:w.heap.size+1+1<W3.heap.size:=by omega
       have x7:gr<W3.heap.size:=by omega
       have x8:S<W3.heap.size:=by omega
       have ajW:=mJ HI.out;rw[hgE]at ajW;have bw:=hid (((aAW W3.heap.size W3).alloc (aAU _) (.cells #[.int .i64 (fr:Nat),.int .i64 (l:Nat)] 224)));obtain⟨ao,cp,rfl⟩:=ai HO.out;clear z hst Fe;generalize gY ns l u=bv at *;cases Og:found (fr*256+bv) with
       | true=>
        have zZ:=hid (He.out found HN.out Og);rw[Og]at fc;clear Og He;go_wp2_with fail
        go_quiet (fail)
        go_wp2_with fail;go_roundw
        case rel=>
         have bd:=aBd bw.out nq;exact⟨j+1,ls,found,_,by omega,by go_num,hlk,Lr,HI,HD,zZ,hid (HT.out.below bd x8),hid (ae HO.out bd),HV,hid (HF.out.below bd x6),hid ((bd.cell (p:=⟨w.heap.size,0,none⟩) (by show w.heap.size<_;omega)).trans HC.out),hid (H6.out.below bd (by omega)),hid ((bd.cell (p:=⟨W0.heap.size,1,none⟩) ma).trans HU.out),hid (HB.out.trans (bd.mono (by omega))),aBi ma bd.size⟩
        case measure=>simp[intOf];omega
       | false=>
        rw[Og]at fc;go_wp2_with fail
        go_quiet (fail)
        go_wp2_with (at_builtin;go_must (refine aBw _ rfl (.tmp 98) (.tmp 105) 169 rfl (S+1) 221 i0 (.agg #[.int .i64 0,.int .u8 0,.int .i64 0]) 3 24 Tryz.underlying169 hi aR aP aN rfl (by decide) _ _ _ rfl ((ax (ae HO.out (aBd bw.out nq)) (k:=w.heap.size+1+1) (by omega) (fr*256+bv) (.bool true)).alloc _) ⟨W3.heap.size+1,0,none⟩ 1 1 [.int .i64 (fr:Nat),.int .u8 (bv:Nat),.int .i64 (k:Nat)] rfl rfl ?c1 ?c2 (by decide) ?c3 ?c4 ?c5 (W3.heap.size+2) ?c6 ?_))
        case c1=>exact(by simpa using vQ (((W3.alloc (.cells #[.int .i64 (fr:Nat),.int .i64 (l:Nat)] 224)).drewN nq).setCell ⟨w.heap.size+1+1,fr*256+bv,none⟩ (.bool true)) [.int .i64 (fr:Nat),.int .u8 (bv:Nat),.int .i64 (k:Nat)] 221)
        case c2=>intro y hy;simp at hy;rcases hy with rfl | rfl | rfl <;> rfl
        case c3=>unfold maxLen;omega
        case c4=>omega
        case c5=>simp;omega
        case c6=>simp
        intro gg cc w5 hown hgrow hat ar1;have bd:=aBd bw.out nq;generalize hWd:(W3.alloc (.cells #[.int .i64 (fr:Nat),.int .i64 (l:Nat)] 224)).drewN nq=Wd at *;have hsd:Wd.heap.size=W3.heap.size+1:=by rw[<-hWd];simp
        clear hWd;have FSt:=(HF.out.below bd x6).set (fr*256+bv) true;have bs:Below (S+1) (Wd.setCell ⟨w.heap.size+1+1,fr*256+bv,none⟩ (.bool true)) w5:=((aAW (S+1) _).alloc (by simp;omega) _).grown hgrow (by simp;omega) (λk h=>(HO.out.lt k h).1);have F5:=(FSt.below bs (by omega));have C5:w5.cell? ⟨w.heap.size,0,none⟩=some (.slice (some ⟨gi,0,none⟩) n bY):=by
         rw[bs.cell (p:=⟨w.heap.size,0,none⟩) (by show w.heap.size<S+1;omega),aA0 _ _ _ _ (λe=>by have:=congrArg Addr.block e;simp at this;omega)];exact(bd.cell (p:=⟨w.heap.size,0,none⟩) (by show w.heap.size<_;omega)).trans HC.out
        have U5:w5.cell? ⟨W0.heap.size,1,none⟩=some (.int .u8 (u:Nat)):=by
         refine hgrow.cell ?_ (λe=>HV.out e.symm);rw[aBt _ _ _ (by simp;omega),aA0 _ _ _ _ (λe=>by have:=congrArg Addr.block e;simp at this;omega)];exact(bd.cell (p:=⟨W0.heap.size,1,none⟩) ma).trans HU.out
        have T5:=((HT.out.below bd x8).other (k:=w.heap.size+1+1) (o:=fr*256+bv) (by omega) (.bool true)).below bs (by omega);have S5:=((H6.out.below bd (by omega)).other (k:=w.heap.size+1+1) (o:=fr*256+bv) (by omega) (.bool true)).below bs (by omega);have B5:=(((HB.out.trans (bd.mono (by omega))).setCell (p:=⟨w.heap.size+1+1,fr*256+bv,none⟩) (by show w.heap.size<=w.heap.size+1+1;omega) (.bool true)).trans (bs.mono (by omega)));have V5:Hid ((Value.slice (some ⟨gg,0,none⟩) (ls.length+1) cc).ownBlock≠some W0.heap.size):=hid (by
         rcases hat with h | h
         ·have h2:=HV.out;rw[h]at h2;exact h2
         ·subst h;simp[Value.ownBlock];omega)
        have hz5:W0.heap.size<w5.heap.size:=by
         have:=hgrow.size;simp at this;omega
        have q1:=T5.c1;have q2:=T5.fz 1 (by omega);have D1:=hid (T5.set1 (.slice (some ⟨gg,0,none⟩) (ls.length+1) cc));have D2:Hid ((w5.setCell ⟨S,1,none⟩ (.slice (some ⟨gg,0,none⟩) (ls.length+1) cc)).ownsRow (S+1) 221 3 (.slice (some ⟨gg,0,none⟩) (ls.length+1) cc) (ls++[(fr*256+bv,k)]).length (jg (ls++[(fr*256+bv,k)]))):=hid (ax (by
         rw[aA5,Ic];simp only;rw[show (fr*256+bv) / 256=fr by omega,show (fr*256+bv) % 256=bv by omega];exact hown) (by omega) _ _)
        have D4:=hid (F5.other ⟨S,1,none⟩ (.slice (some ⟨gg,0,none⟩) (ls.length+1) cc) (by show S≠w.heap.size+1+1;omega));have D5:Hid ((w5.setCell ⟨S,1,none⟩ (.slice (some ⟨gg,0,none⟩) (ls.length+1) cc)).cell? ⟨w.heap.size,0,none⟩=some (.slice (some ⟨gi,0,none⟩) n bY)):=hid (by
         rw[aA0 _ _ _ _ (λe=>by have:=congrArg Addr.block e;simp at this;omega)];exact C5)
        have D6:=hid (S5.other (k:=S) (o:=1) (by omega) (.slice (some ⟨gg,0,none⟩) (ls.length+1) cc));have D7:=hid (B5.setCell (p:=⟨S,1,none⟩) (by show w.heap.size<=S;omega) (.slice (some ⟨gg,0,none⟩) (ls.length+1) cc));have D8:Hid ((w5.setCell ⟨S,1,none⟩ (.slice (some ⟨gg,0,none⟩) (ls.length+1) cc)).cell? ⟨W0.heap.size,1,none⟩=some (.int .u8 (u:Nat))):=hid (by
         rw[aA0 _ _ _ _ (λe=>by have:=congrArg Addr.block e;simp at this;omega)];exact U5)
        have HI5:=hid (adj HI.out Lr.out HEW.out hN Og);have HD5:Hid (wo n ns into ((ls++[(fr*256+bv,k)]).map Prod.fst) (upd found (fr*256+bv) true) k):=hid (by
         rw[aBE];exact HD.out.add (by rw[aBG];exact hlk) (fr*256+bv))
        have HN5:=hid (He.out _ (HN.out.add (fr*256+bv)) (upd_same _ _ _));have HR5:Hid ((ls++[(fr*256+bv,k)])[k]?=some (s*256+u,tw)):=hid (by rw[aA9 hlk];exact Lr.out);clear hown hgrow hat bs bd FSt Og He fc ff hcu z0 z1 bm T5 S5 F5 C5 U5 B5 HT HO HF HC H6 HB HI HD HN t0 t1;go_wp2_with fail;go_roundw
        case rel=>exact⟨j+1,ls++[(fr*256+bv,k)],upd found (fr*256+bv) true,_,by omega,by go_num,by simp;omega,HR5,HI5,HD5,HN5,D1,D2,V5,D4,D5,D6,D8,D7,by simp;omega⟩
        case measure=>simp[intOf];omega
      ·obtain rfl:j=ln:=by omega
       have Xg:=hid (abE HD.out (by rw[aBk,Lr.out];rfl) hu (by rw[bZ.out];exact HN.out));go_wp2_with fail;go_roundw
       case rel=>exact⟨k+1,ls,found,_,by omega,by go_num,HI,Xg,HT,HO,HF,HC,H6,HB,by omega⟩
       case measure=>have h9:=mJ HI.out;rw[hgE]at h9;simp[intOf];omega
    ·obtain rfl:k=ls.length:=by omega
     have HR:=hid (aar (λa b h=>age a b h) HI.out.lead (λa ha y hy=>by
      obtain⟨j,hj,e⟩:=aBC ha;exact HD.out j a (by rw[aBG]at hj;exact hj) (by rw[aAV hj,e]) y hy))
     have q0:=H6.out.c0;have q1:=H6.out.c1;have q2:=H6.out.c2;have f0:=H6.out.fz 0 (by omega);have f1:=H6.out.fz 1 (by omega);have f2:=H6.out.fz 2 (by omega);go_wp2_with fail;have y1:=hid (H6.out.set0 (.slice (some ⟨w.heap.size+1+1,0,none⟩) n n) |>.set1 (.slice ao ls.length cp) |>.set2 (.int .i64 (gs.length:Nat)));refine zf rfl rfl rfl (Ng q0 q1 q2 _ _ _) Tryz.underlying171 rfl Tryz.XJ ?_;refine⟨w.heap.size+1+1,found,ls,.slice ao ls.length cp,by rw[hgE],by omega,by simp;omega,?_,HR.out,HI.out,?_,?_⟩
     ·exact((HF.out.other ⟨w.heap.size+1,0,none⟩ _ (by simp)).other ⟨w.heap.size+1,1,none⟩ _ (by simp)).other ⟨w.heap.size+1,2,none⟩ _ (by simp)
     ·have h1:=ax (ax (ax HO.out (show w.heap.size+1<S+1 by omega) 0 (.slice (some ⟨w.heap.size+1+1,0,none⟩) n n)) (show w.heap.size+1<S+1 by omega) 1 (.slice ao ls.length cp)) (show w.heap.size+1<S+1 by omega) 2 (.int .i64 (gs.length:Nat));exact bJ h1 (by omega)
     ·exact((HB.out.setCell (p:=⟨w.heap.size+1,0,none⟩) (by show w.heap.size<=w.heap.size+1;omega) _).setCell (p:=⟨w.heap.size+1,1,none⟩) (by show w.heap.size<=w.heap.size+1;omega) _).setCell (p:=⟨w.heap.size+1,2,none⟩) (by show w.heap.size<=w.heap.size+1;omega) _
theorem NP(P gi n bY g cap:Nat)(ns:List Nd)(into:Nat->List (Nat × Nat))(goal:Nat->Bool)(w:World)(h8:ns.length<=8)(hp:uV n into)(mF:uN w P ns)(hP:P<w.heap.size)(hw:nY w gi n into)(kz:bU w g (n*256) goal)(hg:g<w.heap.size) :
  Calls Tryz.prog 146 #[.pointer (some ⟨P,0,none⟩),.agg #[.slice (some ⟨gi,0,none⟩) n bY],.slice (some ⟨g,0,none⟩) n cap] w λe w'=>∃ g' found,e=.returned (.slice (some ⟨g',0,none⟩) n n)/\w.heap.size<=g'/\g'<w'.heap.size/\bU w' g' (n*256) found/\(∀ x,found x=true↔fE (Ew n ns into) (λy=>goal y=true) x)/\Below w.heap.size w w':=by
 have HP:=hid hp;have HM:=hid mF;have HW:=hid hw;have HG:=hid kz;clear hp mF hw kz;go_enter Tryz.func146,Tryz.ntmps146;go_wp2_with fail;have ba:=(aAW w.heap.size w).alloc (aAU _) (.cells #[.slice (some ⟨gi,0,none⟩) n bY] 159);refine(xU P gi n bY g cap ns into goal _ h8 HP.out (HM.out.below ba hP) (by simp;omega) (HW.out.below ba) (HG.out.below ba hg) (by simp;omega)).mono ?_;rintro e w1 ⟨g',found,ls,v,rfl,R7,nV,hF,hL,_,hO,hb⟩;simp only[aAZ]at R7 hb;obtain⟨ao,cp,rfl⟩:=ai hO;have HF:=hid hF;have HL:=hid hL;have HB:=hid (ba.trans (hb.mono (by omega)));have hs:=hb.size;clear hF hL hO hb ba;go_wp2_with fail;go_ret;have bb:=(aAW w1.heap.size w1).alloc (aAU _) (.cells #[.slice (some ⟨g',0,none⟩) n n,.slice ao ls.length cp,.int .i64 ((aG goal (n*256)).length:Nat)] 171);exact⟨g',found,rfl,by omega,by simp;omega,HF.out.below bb nV,HL.out,HB.out.trans (bb.mono (by omega))⟩
