import Derived.Test.YtjagijohfkffiabGreatFREM14
set_option maxHeartbeats 16000000
set_option maxRecDepth 100000
set_option linter.unusedSimpArgs false
namespace Go.Proofs.YtjagijohfkffiabGreat
set_option linter.unusedVariables false
def fE(E:Nat->Nat->Prop)(G:Nat->Prop)(x:Nat):Prop:=∃ y,reach E x y/\G y
theorem fE.mono{E:Nat->Nat->Prop}{G H:Nat->Prop}(h:∀ x,G x->H x){x:Nat}(k:fE E G x):fE E H x:=k.imp λy ⟨a,b⟩=>⟨a,h y b⟩
theorem fE.congr{E:Nat->Nat->Prop}{G H:Nat->Prop}(h:∀ x,G x↔H x)(x:Nat):fE E G x↔fE E H x:=⟨fE.mono λx=>(h x).1,fE.mono λx=>(h x).2⟩
def lQ(E:Nat->Nat->Prop)(cs:List (Nat->Bool))(G:Nat->Prop):Nat->Prop:=cs.foldl (λL c=>fE E (λy=>L y/\c y=true)) (fE E G)
theorem YP(E:Nat->Nat->Prop)(cs:List (Nat->Bool))(c:Nat->Bool)(G:Nat->Prop):lQ E (cs++[c]) G=fE E (λy=>lQ E cs G y/\c y=true):=by simp[lQ]
theorem OQ{E:Nat->Nat->Prop}:∀ (cs:List (Nat->Bool)) (A B:Nat->Prop),(∀ x,A x->B x)->∀ x,cs.foldl (λL c=>fE E (λy=>L y/\c y=true)) A x->cs.foldl (λL c=>fE E (λy=>L y/\c y=true)) B x
 | [],A,B,h=>h
 | c::cs,A,B,h=>OQ cs _ _ (λx k=>k.mono λy ⟨a,b⟩=>⟨h y a,b⟩)
theorem abC{E:Nat->Nat->Prop}{cs:List (Nat->Bool)}{G H:Nat->Prop}(h:∀ x,G x->H x)(x:Nat):lQ E cs G x->lQ E cs H x:=
 OQ cs _ _ (λx k=>k.mono h) x
def KL(cs:List (Nat->Bool))(k i:Nat):Prop:=∃ c,cs[k]?=some c/\c i=true
def iI(E:Nat->Nat->Prop)(cs:List (Nat->Bool))(x:Nat):Prop:=∃ q,q 0=x/\Path E q/\uW (KL cs) cs.length q
theorem FJ{E:Nat->Nat->Prop}{q:Nat->Nat}(hq:Path E q):∀ (cs:List (Nat->Bool)) (A:Nat->Prop),(∀ c∈cs,∀ t,∃ t',t<=t'/\c (q t')=true)->(∀ t,A (q t))->∀ t,cs.foldl (λL c=>fE E (λy=>L y/\c y=true)) A (q t)
 | [],A,_,h=>h
 | c::cs,A,hc,h=>by
  refine FJ hq cs _ (λc' oW=>hc c' (List.mem_cons_of_mem _ oW)) (λt=>?_);obtain⟨t',h1,h2⟩:=hc c (List.mem_cons_self ..) (t+1);obtain⟨d,rfl⟩:∃ d,t'=t+d+1:=⟨t' - t - 1,by omega⟩;exact⟨_,rP hq t d,h _,h2⟩
theorem vB{cs:List (Nat->Bool)}{q:Nat->Nat}(h:uW (KL cs) cs.length q):∀ c∈cs,∀ t,∃ t',t<=t'/\c (q t')=true:=by
 intro c hc t;obtain⟨k,hk,e⟩:=aBC hc;obtain⟨t',h1,c',h2,h3⟩:=h k hk t;rw[aAV hk,e]at h2;cases h2;exact⟨t',h1,h3⟩
theorem yC{E:Nat->Nat->Prop}{cs:List (Nat->Bool)}{q:Nat->Nat}(hq:Path E q)(hm:uW (KL cs) cs.length q)(t:Nat):iI E cs (q t):=by
 refine⟨λi=>q (t+i),rfl,λi=>?_,λk hk i=>?_⟩
 ·have:=hq (t+i);rwa [show t+i+1=t+(i+1) by omega]at this
 ·obtain⟨t',h1,h2⟩:=hm k hk (t+i);refine⟨t' - t,by omega,?_⟩;show KL cs k (q (t+(t' - t)));rwa [show t+(t' - t)=t' by omega]
theorem Sw{E:Nat->Nat->Prop}{cs:List (Nat->Bool)}{G:Nat->Prop}(h:∀ x,iI E cs x->G x)(x:Nat)(hx:iI E cs x):lQ E cs G x:=by
 obtain⟨q,rfl,hq,hm⟩:=hx;have hG:∀ t,G (q t):=λt=>h _ (yC hq hm t);exact FJ hq cs _ (vB hm) (λt=>⟨_,rP hq t 0,hG _⟩) 0
theorem OJ{E:Nat->Nat->Prop}{G:Nat->Prop}:∀ (cs done:List (Nat->Bool)) (A:Nat->Prop),(∀ x,A x->∃ y,G y/\reach E x y/\∀ c∈done,∃ i,reach E x i/\c i=true/\reach E i y) ->
  ∀ x,cs.foldl (λL c=>fE E (λy=>L y/\c y=true)) A x->∃ y,G y/\reach E x y/\∀ c∈done++cs,∃ i,reach E x i/\c i=true/\reach E i y
 | [],done,A,h=>by simpa using h
 | c::cs,done,A,h=>by
  have:=OJ (G:=G) cs (done++[c]) (fE E (λy=>A y/\c y=true)) (λx ⟨z,h1,h2,h3⟩=>by
   obtain⟨y,h4,h5,h6⟩:=h z h2;refine⟨y,h4,dU h1 h5,λc' oW=>?_⟩;rcases aBy.1 oW with oW | oW
   ·obtain⟨i,h7,h8,h9⟩:=h6 c' oW;exact⟨i,dU h1 h7,h8,h9⟩
   ·simp at oW;subst oW;exact⟨z,h1,h3,h5⟩)
  simpa using this
theorem OZ{E:Nat->Nat->Prop}{cs:List (Nat->Bool)}{G:Nat->Prop}{x:Nat}(h:lQ E cs G x):∃ y,G y/\reach E x y/\∀ c∈cs,∃ i,reach E x i/\c i=true/\reach E i y:=by
 have:=OJ (E:=E) (G:=G) cs [] (fE E G) (λx ⟨y,h1,h2⟩=>⟨y,h2,h1,λc hc=>by simp at hc⟩) x h;simpa using this
theorem Tk{E:Nat->Nat->Prop}{cs:List (Nat->Bool)}{G:Nat->Prop}{n:Nat}(hE:∀ a b,E a b->b<n)(h:∀ x,G x->lQ E cs G x){x:Nat}(hn:x<n)(hx:G x):iI E cs x:=by
 have nx:∀ a:{ a // G a },∃ b:{ a // G a },reach E a.1 b.1/\∀ c∈cs,∃ i,reach E a.1 i/\c i=true/\reach E i b.1:=λa=>by
  obtain⟨y,h1,h2⟩:=OZ (h a.1 a.2);exact⟨⟨y,h1⟩,h2⟩
 let f:{ a // G a }->{ a // G a }:=λa=>Classical.choose (nx a)
 have hf:∀ a,reach E a.1 (f a).1/\∀ c∈cs,∃ i,reach E a.1 i/\c i=true/\reach E i (f a).1:=λa=>Classical.choose_spec (nx a)
 let p:Nat->{ a // G a }:=λt=>Nat.rec ⟨x,hx⟩ (λ_ a=>f a) t
 have hp:∀ t,p (t+1)=f (p t):=λt=>rfl;have rb:∀ {a b},reach E a b->b<n:=by
  intro a b ⟨L,hL⟩
  induction L generalizing a with
  | zero=>obtain⟨c,he,rfl⟩:=hL;exact hE _ _ he
  | succ L ih=>obtain⟨c,he,hc⟩:=hL;exact ih hc
 have bd:∀ t,(p t).1<n:=λt=>by
  cases t with
  | zero=>exact hn
  | succ t=>rw[hp];exact rb (hf (p t)).1
 have sq:∀ d t,reach E (p t).1 (p (t+d+1)).1:=by
  intro d
  induction d with
  | zero=>intro t;rw[show t+0+1=t+1 by omega,hp];exact(hf (p t)).1
  | succ d ih=>
   intro t;refine dU (ih t) ?_;rw[show t+(d+1)+1=(t+d+1)+1 by omega,hp];exact(hf _).1
 obtain⟨v,hv,-,aj3⟩:=EH (q:=λt=>(p t).1) (P:=λ_=>True) bd (λt=>⟨t,aAU _,trivial⟩);obtain⟨t1,-,e1⟩:=aj3 0;obtain⟨t2,h2,e2⟩:=aj3 (t1+2);obtain⟨d,rfl⟩:∃ d,t2=t1+1+d+1:=⟨t2 - t1 - 2,by omega⟩;have r1:=(hf (p t1)).1;have r2:=sq d (t1+1);rw[e2,hp]at r2;rw[e1]at r1;have hvv:reach E v v:=dU r1 r2;have hxv:reach E x v:=by
  cases t1 with
  | zero=>rw[<-e1]at hvv;rw[<-e1];exact hvv
  | succ t=>
   have:=sq t 0;rw[show 0+t+1=t+1 by omega,e1]at this;exact this
 refine(Ap (K:=KL cs) (m:=cs.length) hE hn).2 ⟨v,hv,hxv,hvv,λk hk=>?_⟩;obtain⟨i,h3,h4,h5⟩:=(hf (p t1)).2 cs[k] (List.getElem_mem hk);rw[e1]at h3;exact⟨i,h3,dU h5 r2,cs[k],aAV hk,h4⟩
/-! ### The search -/
def iy(f:Nat->Bool):Nat->Nat
 | 0=>0
 | n+1=>iy f n+(if f n=true then 1 else 0)
theorem Bt(f:Nat->Bool):∀ n,iy f n<=n
 | 0=>aAU _
 | n+1=>by have:=Bt f n;rw[iy];split <;> omega
theorem KH{f g:Nat->Bool}:∀ n,(∀ i,i<n->f i=g i)->iy f n=iy g n
 | 0,_=>rfl
 | n+1,h=>by rw[iy,iy,KH n (λi hi=>h i (by omega)),h n (by omega)]
theorem Ju{f:Nat->Bool}{b:Nat}(hf:f b=false):∀ n,b<n->iy (upd f b true) n=iy f n+1
 | 0,h=>by omega
 | n+1,h=>by
  by_cases e:b=n
  ·subst e;rw[iy,iy,KH (f:=upd f b true) (g:=f) b (λi hi=>by unfold upd;rw[aBT (by omega)])];simp[upd,hf]
  ·rw[iy,iy,Ju hf n (by omega)];have e2:upd f b true n=f n:=by unfold upd;rw[aBT (λh=>e h.symm)]
   rw[e2];omega
theorem Pd{f g:Nat->Bool}:∀ n,(∀ i,i<n->f i=true->g i=true)->iy f n<=iy g n
 | 0,_=>aAU _
 | n+1,h=>by
  have h1:=Pd n (λi hi=>h i (by omega));have h2:=h n (by omega);rw[iy,iy];by_cases e:f n=true
  ·rw[aBU e,aBU (h2 e)];omega
  ·rw[aBT e];split <;> omega
theorem WC{f g:Nat->Bool}{b:Nat}(hf:f b=false)(hg:g b=true):∀ n,b<n->(∀ i,i<n->f i=true->g i=true)->iy f n<iy g n
 | 0,h,_=>by omega
 | n+1,h,hm=>by
  by_cases e:b=n
  ·subst e;have:=Pd b (λi hi=>hm i (by omega));rw[iy,iy,aBT (by simp[hf]),aBU hg];omega
  ·have h1:=WC hf hg n (by omega) (λi hi=>hm i (by omega));have h2:=hm n (by omega);rw[iy,iy];by_cases e:f n=true
   ·rw[aBU e,aBU (h2 e)];omega
   ·rw[aBT e];split <;> omega
structure Lc (E:Nat->Nat->Prop) (N:Nat) (goal:Nat->Bool) (rl:List Nat) (found:Nat->Bool):Prop where
 Wv:∀ x,x<N->goal x=true->x∈rl
 sound:∀ x∈rl,x<N/\(goal x=true\/found x=true)
 ok:∀ x,found x=true->x<N/\fE E (λy=>goal y=true) x
 in_:∀ x,found x=true->x∈rl
 len:rl.length=iy goal N+iy found N
theorem adU{E:Nat->Nat->Prop}{N:Nat}{goal found:Nat->Bool}{rl:List Nat}(h:Lc E N goal rl found){a y:Nat}(ha:a∈rl)(he:E y a)(hy:y<N)(hf:found y=false):Lc E N goal (rl++[y]) (upd found y true):=by
 have hu:∀ x,upd found y true x=true↔(found x=true\/x=y):=λx=>by
  unfold upd;by_cases e:x=y
  ·simp[e]
  ·simp[e]
 refine⟨λx hx hg=>List.mem_append_left _ (h.Wv x hx hg),λx hx=>?_,λx hx=>?_,λx hx=>?_,?_⟩
 ·rcases aBy.1 hx with hx | hx
  ·obtain⟨h1,h2⟩:=h.sound x hx;exact⟨h1,h2.imp id λh3=>(hu x).2 (aA2 h3)⟩
  ·simp at hx;subst hx;exact⟨hy,aA3 ((hu x).2 (aA3 rfl))⟩
 ·rcases (hu x).1 hx with h1 | rfl
  ·exact h.ok x h1
  ·refine⟨hy,?_⟩;obtain⟨h1,h2⟩:=h.sound a ha;rcases h2 with h2 | h2
   ·exact⟨a,kJ he,h2⟩
   ·obtain⟨z,h3,h4⟩:=(h.ok a h2).2;exact⟨z,XU he h3,h4⟩
 ·rcases (hu x).1 hx with h1 | rfl
  ·exact List.mem_append_left _ (h.in_ x h1)
  ·exact List.mem_append_right _ (by simp)
 ·rw[Ju hf N hy,aA5,h.len];simp;omega
theorem aar{E:Nat->Nat->Prop}{N:Nat}{goal found:Nat->Bool}{rl:List Nat}(hE:∀ a b,E a b->b<N)(h:Lc E N goal rl found)(hall:∀ a∈rl,∀ y,E y a->found y=true)(x:Nat):found x=true↔fE E (λy=>goal y=true) x:=by
 refine⟨λk=>(h.ok x k).2,?_⟩;rintro ⟨y,⟨L,hL⟩,hg⟩
 induction L generalizing x with
 | zero=>
  obtain⟨c,he,rfl⟩:=hL;exact hall _ (h.Wv _ (hE _ _ he) hg) x he
 | succ L ih=>
  obtain⟨c,he,hc⟩:=hL;exact hall c (h.in_ c (ih c hc)) x he
def aG(goal:Nat->Bool)(n:Nat):List Nat:=(List.range n).filter goal
theorem FE(goal:Nat->Bool)(n:Nat):aG goal (n+1)=aG goal n++(if goal n=true then [n] else []):=by
 unfold aG;rw[aBL,List.filter_append];cases e:goal n <;> simp[e]
theorem qm(goal:Nat->Bool):∀ n,(aG goal n).length=iy goal n
 | 0=>rfl
 | n+1=>by rw[FE,iy,aA5,qm goal n];split <;> simp
theorem Yi(E:Nat->Nat->Prop)(N:Nat)(goal:Nat->Bool):Lc E N goal (aG goal N) (λ_=>false):=by
 have z:∀ n,iy (λ_=>false) n=0:=λn=>by
  induction n with
  | zero=>rfl
  | succ n ih=>rw[iy,ih];simp
 refine⟨λx hx hg=>by simp[aG,hx,hg],λx hx=>?_,λx hx=>by simp at hx,λx hx=>by simp at hx,by rw[qm,z];rfl⟩;simp[aG]at hx;exact⟨hx.1,aA2 hx.2⟩
open Go.RowKit
structure bU (w:World) (g N:Nat) (f:Nat->Bool):Prop where
 c:∀ i,i<N->w.cell? ⟨g,i,none⟩=some (.bool (f i))
 f:∀ i,i<N->w.frozen? ⟨g,i,none⟩=false
theorem bU.below{B:Nat}{w w':World}{g N:Nat}{f:Nat->Bool}(h:bU w g N f)(hb:Below B w w')(hlt:g<B):bU w' g N f:=
 ⟨λj hj=>(hb.cell (p:=⟨g,j,none⟩) hlt).trans (h.c j hj),λj hj=>(hb.frozen (p:=⟨g,j,none⟩) hlt).trans (h.f j hj)⟩
theorem bU.drew{w:World}{g N:Nat}{f:Nat->Bool}(h:bU w g N f):bU w.drew g N f:=⟨h.c,h.f⟩
theorem bU.congr{w:World}{g N:Nat}{f f':Nat->Bool}(h:bU w g N f)(e:∀ j,j<N->f j=f' j):bU w g N f':=⟨λj hj=>by rw[h.c j hj,e j hj],h.f⟩
theorem bU.set{w:World}{g N:Nat}{f:Nat->Bool}(h:bU w g N f)(i:Nat)(v:Bool):bU (w.setCell ⟨g,i,none⟩ (.bool v)) g N (upd f i v):=by
 refine⟨λj hj=>?_,λj hj=>by rw[aBe];exact h.f j hj⟩;by_cases e:j=i
 ·subst e;rw[aBr _ _ _ (h.c j hj)];simp[upd]
 ·rw[aA0 _ ⟨g,i,none⟩ ⟨g,j,none⟩ _ (λq=>e (by have:=congrArg Addr.off q;simp at this;omega)),h.c j hj];simp[upd,e]
theorem bU.other{w:World}{g N:Nat}{f:Nat->Bool}(h:bU w g N f)(p:Addr)(v:Value)(hp:p.block≠g):bU (w.setCell p v) g N f:=by
 refine⟨λj hj=>?_,λj hj=>by rw[aBe];exact h.f j hj⟩;rw[aA0 _ p ⟨g,j,none⟩ _ (λq=>hp (congrArg Addr.block q))];exact h.c j hj
theorem bU.zG{w:World}{g N:Nat}{f:Nat->Bool}(h:bU w g N f){t:Nat}(ht:t*256+256<=N):bC w g (t*256) (λj=>f (t*256+j)):=
 ⟨λj hj=>h.c _ (by omega),λj hj=>h.f _ (by omega)⟩
theorem bU.stored{w w1:World}{b o g N:Nat}{f g':Nat->Bool}(h:bU w g N f)(s:uK w b o g' w1)(hne:g≠b):bU w1 g N f:=
 ⟨λj hj=>by rw[s.cell ⟨g,j,none⟩ (aA2 hne)];exact h.c j hj,λj hj=>by rw[s.fz];exact h.f j hj⟩
theorem Tryz.EN:(Tryz.prog.info? 61).map (λi=>(i.zero,i.size,i.bytes))=some (some (.agg (gv λ_=>false).toArray),256,256):=by kernel_rfl
theorem abk{w:World}{base g n:Nat}(h:w.ownsRow base 61 256 (.slice (some ⟨g,0,none⟩) n n) n (madeCells (gv λ_=>false).toArray (n*256)).toList):bU w g (n*256) (λ_=>false):=by
 refine⟨λi hi=>?_,λi hi=>World.ownsRow.frozenAt h i⟩;rw[World.ownsRow.cellAt h i (by omega)];have h1:(madeCells (gv λ_=>false).toArray (n*256)).toList[i]?=some ((gv λ_=>false).toArray[i % (gv λ_=>false).toArray.size]!):=by
  simp[madeCells,hi]
 rw[h1];have h2:i % 256<256:=Nat.mod_lt _ (by omega);simp[gv,h2]
theorem iV{ops:Array Oper}{rest:List Oper}{o:Oper}{a:Act}{Q:Exit->Act->World->Prop}(w:World)(hg:o.guard=none)(l:Operand)(hop:o.op=Op.makeSlice 59 l l)(n:Nat)(hl:a.eval l=.int .i64 n)(hn:n<=1099511627776)
  (hK:∀ w',bU w' w.heap.size (n*256) (λ_=>false)->w.heap.size<w'.heap.size->Below w.heap.size w w'->wpList Tryz.prog ops Q rest (a.put o.dst (.slice (some ⟨w.heap.size,0,none⟩) n n)) w') :
  wpList Tryz.prog ops Q (o::rest) a w:=by
 obtain⟨i0,hi,aR,aP,aN⟩:=info_parts Tryz.EN;refine aBA w hg l l 59 hop w.heap.size 61 i0 (.agg (gv λ_=>false).toArray) 256 Tryz.underlying59 hi aR aP .i64 .i64 n n n hl hl rfl rfl ?_ ?_ (aAU _) ?_
 ·rw[aN];omega
 ·unfold maxLen;omega
 ·intro w' own grow;exact hK w' (abk own) (own.lt _ rfl).2 ((aAW _ _).grown grow (aAU _) (λk h=>by cases h))
def eG(f wt:Nat->Bool):Nat->Bool:=λx=>f x&&wt (x % 256)
theorem wu(f:Nat->Bool){j:Nat}(hj:j<256)(W:World):(Instr.index 61 (.agg (gv f).toArray) (.int .i64 (j:Nat))).run Tryz.prog W=.ok (.bool (f j)) W:=
 kr W Tryz.je (λw=>AU Tryz.underlying4 w) Tryz.Gb hj (by simpa using yz f hj)
theorem Jv(g n cap:Nat)(f wt:Nat->Bool)(w:World)(hn:n<=1099511627776)(hf:bU w g (n*256) f)(hg:g<w.heap.size) :
  Calls Tryz.prog 137 #[.slice (some ⟨g,0,none⟩) n cap,.agg (gv wt).toArray] w λe w'=>∃ g',e=.returned (.slice (some ⟨g',0,none⟩) n n)/\w.heap.size<=g'/\g'<w'.heap.size/\bU w' g' (n*256) (eG f wt)/\Below w.heap.size w w':=by
 have HF:=hid hf;clear hf;go_enter Tryz.func137,Tryz.ntmps137;go_wp2_with (at_make;go_must (refine iV _ rfl (.tmp 11) rfl n rfl hn ?_));intro w1 F1 iw aM;have G3:=hid ((uF w wt 61).below aM (by omega));have F5:=hid F1;have aK:=hid (((aAW w.heap.size w).alloc (aAU _) (.cells (gv wt).toArray 61)).trans (aM.mono (by omega)));clear F1 aM;go_wp2_with fail
 go_loopw [15] (λi wq=>∃ t:Nat,t<=n/\i=.int .i64 t/\Hid (bU wq (w.heap.size+1) (n*256) (upTo (eG f wt) (t*256)))/\Hid (bC wq w.heap.size 0 wt)/\w.heap.size+1<wq.heap.size/\Hid (Below w.heap.size w wq)) (λi _=>n - (intOf i).toNat)
 case atStart=>exact⟨0,aA8 _,rfl,by rw[Nat.zero_mul,qU];exact F5,G3,iw,aK⟩
 case round=>
  obtain⟨t,ht,rfl,H5,H3,hz,HB⟩:=hrel;rename World=>W0;by_cases hlt:t<n
  ·have GG:=hid ((HF.out.below HB.out hg).zG (t:=t) (by omega));go_wp2_with (first | (refine aQ rfl (.tmp 18) rfl g (t*256) _ rfl GG.out ?_) | (refine bW rfl (.tmp 7) (.tmp 19) rfl W0.heap.size 0 (λj=>f (t*256+j)) rfl rfl (gN W0).there ?_))
   intro w2 S2;have A7:=hid S2.at_;have A3:=hid (S2.zG (H3.out.alloc (.cells Tryz.zeroCells61 61)) (aA2 (by omega)));have A5:=hid ((H5.out.below ((aAW W0.heap.size W0).alloc (aAU _) (.cells Tryz.zeroCells61 61)) (by omega)).stored S2 (by omega));have AB:=hid (S2.bG _ _ (by omega) (HB.out.alloc (by omega) (.cells Tryz.zeroCells61 61)));have aN:w.heap.size+1<w2.heap.size:=by rw[S2.size,size_alloc];omega
   clear S2 GG;go_wp2_with (refine aQ rfl (.tmp 7) rfl W0.heap.size 0 _ rfl A7.out ?_)
   go_loopw [21] (λi wq=>∃ j:Nat,j<=256/\i=.int .i64 j/\Hid (bU wq (w.heap.size+1) (n*256) (upTo (eG f wt) (t*256+j)))/\Hid (bC wq w.heap.size 0 wt)/\w.heap.size+1<wq.heap.size/\Hid (Below w.heap.size w wq)) (λi _=>256 - (intOf i).toNat)
   case atStart=>exact⟨0,by omega,rfl,A5,A3,aN,AB⟩
   case round=>
    obtain⟨j,hj,rfl,H5,H3,Ki,HB⟩:=hrel;rename World=>W3;by_cases eQ:j<256
    ·have q0:=H5.out.f (t*256+j) (by omega);have q1:=H5.out.c (t*256+j) (by omega);have q2:W3.cell? ⟨w.heap.size,j,none⟩=some (.bool (wt j)):=by have:=H3.out.c j eQ;rwa [aBo]at this
     have ix:=λW=>wu (λj=>f (t*256+j)) eQ W;have e0:eG f wt (t*256+j)=(f (t*256+j)&&wt j):=by unfold eG;rw[show (t*256+j) % 256=j by omega]
     have D5:=hid (H5.out.drew.set (t*256+j) (eG f wt (t*256+j)));have D3:=hid (H3.out.drew.other ⟨w.heap.size+1,t*256+j,none⟩ (.bool (eG f wt (t*256+j))) (aA2 (by simp)));have DB:=hid (HB.out.drew.setCell (p:=⟨w.heap.size+1,t*256+j,none⟩) (by show w.heap.size<=w.heap.size+1;omega) (.bool (eG f wt (t*256+j))));rw[qV]at D5;generalize upTo (eG f wt) (t*256+j) (t*256+j)=ov at *;generalize eG f wt (t*256+j)=sv at *;generalize f (t*256+j)=fv at *;generalize wt j=wv at *;subst e0;cases fv with
     | false=>
      simp only[Bool.false_and]at D5 D3 DB;go_wp2_with fail;refine wp_region_held_drew (S:=λ_=>True) (by kernel_rfl) trivial (λau=>?_);refine aA4 (i:=0) (oi:={ dst:=some 25,op:=Op.move (.tmp 5),type:=_,pos:=_,after:=_,guard:=none }) (v:=(Value.slice (some ⟨w.heap.size+1,0,none⟩) n n)) rfl (by kernel_rfl) (by kernel_rfl) (by kernel_rfl) (λ_ _ _ h=>h) (aA2 ⟨by rfl,by intro w' af;(try dsimp only at af);go_simp⟩) (by assumption) ?_
      simp only[Act.put,aAT,aAX,aAY];refine aA4 (i:=1) (oi:={ dst:=some 26,op:=Op.move (.tmp 6),type:=_,pos:=_,after:=_,guard:=none }) (v:=(Value.int .i64 (t:Nat))) rfl (by kernel_rfl) (by kernel_rfl) (by kernel_rfl) (λ_ _ _ h=>h) (aA2 ⟨by rfl,by intro w' af;(try dsimp only at af);go_simp⟩) (by assumption) ?_
      simp only[Act.put,aAT,aAX,aAY];refine aA4 (i:=2) (oi:={ dst:=some 27,op:=Op.move (.tmp 8),type:=_,pos:=_,after:=_,guard:=none }) (v:=(Value.int .i64 (j:Nat))) rfl (by kernel_rfl) (by kernel_rfl) (by kernel_rfl) (λ_ _ _ h=>h) (aA2 ⟨by rfl,by intro w' af;(try dsimp only at af);go_simp⟩) (by assumption) ?_
      simp only[Act.put,aAT,aAX,aAY];refine aA4 (i:=3) (oi:={ dst:=some 28,op:=Op.move (.tmp 9),type:=_,pos:=_,after:=_,guard:=none }) (v:=(Value.bool false)) rfl (by kernel_rfl) (by kernel_rfl) (by kernel_rfl) (λ_ _ _ h=>h) (aA2 ⟨by rfl,by intro w' af;(try dsimp only at af);go_simp⟩) (by assumption) ?_
      simp only[Act.put,aAT,aAX,aAY];refine aA4 (i:=4) (oi:={ dst:=some 29,op:=Op.move (.tmp 28),type:=_,pos:=_,after:=_,guard:=none }) (v:=(Value.bool false)) rfl (by kernel_rfl) (by kernel_rfl) (by kernel_rfl) (λ_ _ _ h=>h) (aA2 ⟨by rfl,by intro w' af;(try dsimp only at af);go_simp⟩) (by assumption) ?_
      simp only[Act.put,aAT,aAX,aAY];refine aA4 (i:=5) (oi:={ dst:=some 30,op:=Op.move (.tmp 8),type:=_,pos:=_,after:=_,guard:=some (4,true) }) (v:=undef) rfl (by kernel_rfl) (by kernel_rfl) (by kernel_rfl) (λ_ _ _ h=>h) (aA3 ⟨by rfl,rfl⟩) (by assumption) ?_;simp only[Act.put,aAT,aAX,aAY];refine aA4 (i:=6) (oi:={ dst:=some 31,op:=Op.indexAddr _ (.tmp 3) (.tmp 30),type:=_,pos:=_,after:=_,guard:=some (4,true) }) (v:=undef) rfl (by kernel_rfl) (by kernel_rfl) (by kernel_rfl) (λ_ _ _ h=>h) (aA3 ⟨by rfl,rfl⟩) (by assumption) ?_;simp only[Act.put,aAT,aAX,aAY];refine aA4 (i:=7) (oi:={ dst:=some 32,op:=Op.load _ (.tmp 31),type:=_,pos:=_,after:=_,guard:=some (4,true) }) (v:=undef) rfl (by kernel_rfl) (by kernel_rfl) (by kernel_rfl) (λ_ _ _ h=>h) (aA3 ⟨by rfl,rfl⟩) (by assumption) ?_;simp only[Act.put,aAT,aAX,aAY];refine aA4 (i:=8) (oi:={ dst:=some 33,op:=Op.pick (.tmp 29) (.tmp 32) (Operand.const (Value.bool false)),type:=_,pos:=_,after:=_,guard:=none }) (v:=(Value.bool false)) rfl (by kernel_rfl) (by kernel_rfl) (by kernel_rfl) (λ_ _ _ h=>h) (aA2 ⟨by rfl,by intro w' af;(try dsimp only at af);go_simp⟩) (by assumption) ?_
      simp only[Act.put,aAT,aAX,aAY];refine aA4 (i:=9) (oi:={ dst:=some 34,op:=Op.indexAddr _ (.tmp 25) (.tmp 26),type:=_,pos:=_,after:=_,guard:=none }) (v:=(Value.pointer (some ⟨w.heap.size+1,t*256,none⟩))) rfl (by kernel_rfl) (by kernel_rfl) (by kernel_rfl) (λ_ _ _ h=>h) (aA2 ⟨by rfl,by intro w' af;(try dsimp only at af);go_simp⟩) (by assumption) ?_
      simp only[Act.put,aAT,aAX,aAY];refine aA4 (i:=10) (oi:={ dst:=some 35,op:=Op.indexAddr _ (.tmp 34) (.tmp 27),type:=_,pos:=_,after:=_,guard:=none }) (v:=(Value.pointer (some ⟨w.heap.size+1,t*256+j,none⟩))) rfl (by kernel_rfl) (by kernel_rfl) (by kernel_rfl) (λ_ _ _ h=>h) (aA2 ⟨by rfl,by intro w' af;(try dsimp only at af);go_simp⟩) (by assumption) ?_
      simp only[Act.put,aAT,aAX,aAY];refine aBc (rs:=[11]) (by kernel_rfl) (by simp) ?_;refine aA7 rfl (λK hK=>?_) aBb
      go_simp
      refine hK.out _ _ trivial (λau=>?_);clear hK K;refine aBS (by kernel_rfl) ?_ _;go_wp2_with fail;go_roundw
      case rel=>exact⟨j+1,by omega,by go_num,D5,D3,by simp;omega,DB⟩
      case measure=>simp[intOf];omega
     | true=>
      simp only[Bool.true_and]at D5 D3 DB;go_wp2_with fail
      go_region_held3 (λw'=>w'.cell? ⟨w.heap.size,j,none⟩=some (.bool wv)) (go_keep) (fail)
      go_wp2_with fail;go_roundw
      case rel=>exact⟨j+1,by omega,by go_num,D5,D3,by simp;omega,DB⟩
      case measure=>simp[intOf];omega
    ·obtain rfl:j=256:=by omega
     go_wp2_with fail;go_roundw
     case rel=>exact⟨t+1,by omega,by go_num,by rw[show (t+1)*256=t*256+256 by omega];exact H5,H3,Ki,HB⟩
     case measure=>simp[intOf];omega
  ·obtain rfl:t=n:=by omega
   go_wp2_with fail;go_ret;exact⟨_,rfl,by omega,hz,H5.out.congr (λj hj=>by simp[upTo,hj]),HB.out⟩
theorem adl(g1 g2 n c1 c2:Nat)(f h:Nat->Bool)(w:World)(hn:n<=1099511627776)(hf:bU w g1 (n*256) f)(hh:bU w g2 (n*256) h)(hg1:g1<w.heap.size)(oV:g2<w.heap.size) :
  Calls Tryz.prog 132 #[.slice (some ⟨g1,0,none⟩) n c1,.slice (some ⟨g2,0,none⟩) n c2] w λe w'=>∃ b:Bool,e=.returned (.bool b)/\(b=true↔∀ i,i<n*256->f i=h i)/\Below w.heap.size w w':=by
 have HF:=hid hf;have HH:=hid hh;have EQ:=λg h W=>ni 9998 g h W;clear hf hh;go_enter Tryz.func132,Tryz.ntmps132;go_wp2_with fail
 go_loopw [14] (λi wq=>∃ t:Nat,t<=n/\i=.int .i64 t/\Hid (∀ i,i<t*256->f i=h i)/\Hid (Below w.heap.size w wq)) (λi _=>n - (intOf i).toNat)
 case atStart=>exact⟨0,aA8 _,rfl,hid (λi hi=>by omega),hid (aAW _ _)⟩
 case round=>
  obtain⟨t,ht,rfl,HA,HB⟩:=hrel;rename World=>W0;by_cases hlt:t<n
  ·have hsz:=HB.out.size;have GF:=hid ((HF.out.below HB.out hg1).zG (t:=t) (by omega));have GH:=hid ((HH.out.below HB.out oV).zG (t:=t) (by omega));go_wp2_with (first | (refine aQ rfl (.tmp 17) rfl g1 (t*256) _ rfl GF.out ?_) | (refine bW rfl (.tmp 6) (.tmp 18) rfl W0.heap.size 0 (λj=>f (t*256+j)) rfl rfl (gN W0).there ?_))
   intro w2 S2;have A6:=hid S2.at_;have A2:=hid (S2.zG (GH.out.alloc (.cells Tryz.zeroCells61 61)) (aA2 (by omega)));have AB:=hid (S2.bG _ _ (by omega) (HB.out.alloc (by omega) (.cells Tryz.zeroCells61 61)));clear S2 GF GH;go_wp2_with fail;refine wp_region_held_drew (S:=λW=>bC W W0.heap.size 0 (λj=>f (t*256+j))/\bC W g2 (t*256) (λj=>h (t*256+j))) (by kernel_rfl) ⟨A6.out.drew,A2.out.drew⟩ (λau=>?_);refine aA4 (i:=0) (oi:={ dst:=some 19,op:=Op.load 61 (.tmp 6),type:=_,pos:=_,after:=_,guard:=none }) (v:=(Value.agg (gv (λj=>f (t*256+j))).toArray)) rfl (by kernel_rfl) (by kernel_rfl) (by kernel_rfl) (λ_ _ _ h=>h) (yieldsIf_load_mid (by rfl) 61 (.tmp 6) rfl W0.heap.size 0 rfl (gv (λj=>f (t*256+j))) _ (λW h=>h.1.tJ) Tryz.je rfl (Tryz.nM _)) (by assumption) ?_;simp only[Act.put,aAT,aAX,aAY];refine aA4 (i:=1) (oi:={ dst:=some 20,op:=Op.move (.tmp 1),type:=_,pos:=_,after:=_,guard:=none }) (v:=(Value.slice (some ⟨g2,0,none⟩) n c2)) rfl (by kernel_rfl) (by kernel_rfl) (by kernel_rfl) (λ_ _ _ h=>h) (aA2 ⟨by rfl,by intro w' af;(try dsimp only at af);go_simp⟩) (by assumption) ?_
   simp only[Act.put,aAT,aAX,aAY];refine aA4 (i:=2) (oi:={ dst:=some 21,op:=Op.move (.tmp 5),type:=_,pos:=_,after:=_,guard:=none }) (v:=(Value.int .i64 (t:Nat))) rfl (by kernel_rfl) (by kernel_rfl) (by kernel_rfl) (λ_ _ _ h=>h) (aA2 ⟨by rfl,by intro w' af;(try dsimp only at af);go_simp⟩) (by assumption) ?_
   simp only[Act.put,aAT,aAX,aAY];refine aA4 (i:=3) (oi:={ dst:=some 22,op:=Op.indexAddr _ (.tmp 20) (.tmp 21),type:=_,pos:=_,after:=_,guard:=none }) (v:=(Value.pointer (some ⟨g2,t*256,none⟩))) rfl (by kernel_rfl) (by kernel_rfl) (by kernel_rfl) (λ_ _ _ h=>h) (aA2 ⟨by rfl,by intro w' af;(try dsimp only at af);go_simp⟩) (by assumption) ?_
   simp only[Act.put,aAT,aAX,aAY];refine aA4 (i:=4) (oi:={ dst:=some 23,op:=Op.load 61 (.tmp 22),type:=_,pos:=_,after:=_,guard:=none }) (v:=(Value.agg (gv (λj=>h (t*256+j))).toArray)) rfl (by kernel_rfl) (by kernel_rfl) (by kernel_rfl) (λ_ _ _ h=>h) (yieldsIf_load_mid (by rfl) 61 (.tmp 22) rfl g2 (t*256) rfl (gv (λj=>h (t*256+j))) _ (λW h=>h.2.tJ) Tryz.je rfl (Tryz.nM _)) (by assumption) ?_;simp only[Act.put,aAT,aAX,aAY];refine aA4 (i:=5) (oi:={ dst:=some 24,op:=Op.binOp BinOp.neq 61 (.tmp 19) (.tmp 23) 61,type:=_,pos:=_,after:=_,guard:=none }) (v:=(Value.bool (!geq (λj=>f (t*256+j)) (λj=>h (t*256+j))))) rfl (by kernel_rfl) (by kernel_rfl) (by kernel_rfl) (λ_ _ _ h=>h) (aA2 ⟨by rfl,by intro w' af;go_simp⟩) (by assumption) ?_;simp only[Act.put,aAT,aAX,aAY];refine aBS (by kernel_rfl) ?_ _;clear au;cases eq:geq (λj=>f (t*256+j)) (λj=>h (t*256+j)) with
   | true=>
    have HQ:=hid (jl.1 eq);clear eq;go_wp2_with fail;go_roundw
    case rel=>
     refine⟨t+1,by omega,by go_num,hid (λi hi=>?_),hid AB.out.drew⟩;by_cases zA:i<t*256
     ·exact HA.out i zA
     ·have:=HQ.out (i - t*256) (by omega);rwa [show t*256+(i - t*256)=i by omega]at this
    case measure=>simp[intOf];omega
   | false=>
    have HN:Hid (¬ ∀ i,i<n*256->f i=h i):=hid (λk=>by
     have:geq (λj=>f (t*256+j)) (λj=>h (t*256+j))=true:=jl.2 λj hj=>k _ (by omega);rw[eq]at this;cases this)
    clear eq;go_wp2_with fail;go_ret;exact⟨false,rfl,by simpa using HN.out,AB.out.drew⟩
  ·obtain rfl:t=n:=by omega
   go_wp2_with fail;go_ret;exact⟨true,rfl,by simpa using HA.out,HB.out⟩
def dn(xs:List Nat):List Value:=xs.flatMap λx=>[.int .i64 (x / 256:Nat),.int .u8 (x % 256:Nat)]
theorem Ia(xs:List Nat)(x:Nat):dn (xs++[x])=dn xs++[.int .i64 (x / 256:Nat),.int .u8 (x % 256:Nat)]:=by simp[dn]
theorem xe{xs:List Nat}{i x:Nat}(h:xs[i]?=some x):(dn xs)[i*2]?=some (.int .i64 (x / 256:Nat))/\(dn xs)[i*2+1]?=some (.int .u8 (x % 256:Nat)):=by
 induction xs generalizing i with
 | nil=>simp at h
 | cons p ps ih=>
  cases i with
  | zero=>simp at h;subst h;simp[dn]
  | succ i=>
   have:=ih (by simpa using h);rw[show dn (p::ps)=[.int .i64 (p / 256:Nat),.int .u8 (p % 256:Nat)]++dn ps by simp[dn]];rw[aBa (by simp;omega),aBa (by simp;omega)];simpa [show (i+1)*2 - 2=i*2 by omega,show (i+1)*2+1 - 2=i*2+1 by omega] using this
theorem Tryz.EM:(Tryz.prog.info? 166).map (λi=>(i.zero,i.size,i.bytes))=some (some (.agg #[.int .i64 0,.int .u8 0]),2,16):=by kernel_rfl
theorem Sv(f:Nat->Bool)(n:Nat):(aG f n).length<=n:=by rw[qm];exact Bt f n
theorem Ro(g n cap:Nat)(f:Nat->Bool)(w:World)(hn:n<=17179869184)(hf:bU w g (n*256) f)(hg:g<w.heap.size) :
  Calls Tryz.prog 92 #[.slice (some ⟨g,0,none⟩) n cap] w λe w'=>∃ v,e=.returned v/\w'.ownsRow w.heap.size 166 2 v (aG f (n*256)).length (dn (aG f (n*256)))/\Below w.heap.size w w':=by
 have HF:=hid hf;clear hf;obtain⟨i0,hi,aR,aP,aN⟩:=info_parts Tryz.EM;go_enter Tryz.func92,Tryz.ntmps92;go_wp2_with fail
 go_loopw [3,10] (λv i wq=>∃ t:Nat,t<=n/\i=.int .i64 t/\Hid (wq.ownsRow w.heap.size 166 2 v (aG f (t*256)).length (dn (aG f (t*256))))/\Hid (Below w.heap.size w wq)) (λ_ i _=>n - (intOf i).toNat)
 case atStart=>exact⟨0,aA8 _,rfl,hid (aBh _ _ _ _),hid (aAW _ _)⟩
 case round=>
  obtain⟨t,ht,rfl,HO,HB⟩:=hrel;rename World=>W0;rename Value=>v0;by_cases hlt:t<n
  ·have hsz:=HB.out.size;have GF:=hid ((HF.out.below HB.out hg).zG (t:=t) (by omega));go_wp2_with (first | (refine aQ rfl (.tmp 13) rfl g (t*256) _ rfl GF.out ?_) | (refine bW rfl (.tmp 5) (.tmp 14) rfl W0.heap.size 0 (λj=>f (t*256+j)) rfl rfl (gN W0).there ?_))
   intro w2 S2;have A5:=hid S2.at_;have AB:=hid (S2.bG _ _ (by omega) (HB.out.alloc (by omega) (.cells Tryz.zeroCells61 61)));have AO:=hid (ae HO.out (S2.bG W0.heap.size W0 (aAU _) ((aAW _ _).alloc (aAU _) (.cells Tryz.zeroCells61 61))));clear S2 GF;go_wp2_with (refine aQ rfl (.tmp 5) rfl W0.heap.size 0 _ rfl A5.out ?_);clear A5
   go_loopw [3,16] (λv i wq=>∃ j:Nat,j<=256/\i=.int .i64 j/\Hid (wq.ownsRow w.heap.size 166 2 v (aG f (t*256+j)).length (dn (aG f (t*256+j))))/\Hid (Below w.heap.size w wq)) (λ_ i _=>256 - (intOf i).toNat)
   case atStart=>exact⟨0,by omega,rfl,AO,AB⟩
   case round=>
    obtain⟨j,hj,rfl,HO,HB⟩:=hrel;rename World=>W3;rename Value=>v3;by_cases eQ:j<256
    ·have ix:=λW=>wu (λj=>f (t*256+j)) eQ W;have kz:=Sv f (t*256+j);have HS:=hid (FE f (t*256+j));have d1:Hid ((t*256+j) / 256=t):=hid (by omega);have d2:Hid ((t*256+j) % 256=j):=hid (by omega);have wr0:IntKind.u8.wrap (j:Int)=j:=by rw[IntKind.wrap_u8];omega
     have hsz:=HB.out.size;generalize aG f (t*256+j)=xs at *;generalize f (t*256+j)=fv at *;cases fv with
     | false=>
      go_wp2_with fail;go_roundw
      case rel=>exact⟨j+1,by omega,by go_num,by rw[show t*256+(j+1)=t*256+j+1 by omega,HS.out];simpa using HO,HB⟩
      case measure=>simp[intOf];omega
     | true=>
      go_wp2_with (at_builtin;go_must (refine wpList_append_own _ rfl (.tmp 21) (.tmp 26) 163 rfl w.heap.size 166 i0 (.agg #[.int .i64 0,.int .u8 0]) 2 16 Tryz.underlying163 hi aR aP aN rfl (by decide) _ _ _ rfl (HO.out.alloc _) ⟨W3.heap.size,0,none⟩ 1 1 [.int .i64 (t:Nat),.int .u8 (j:Nat)] rfl rfl ?c1 ?c2 ?c3 ?c4 ?c5 ?_))
      case c2=>exact⟨rfl,rfl⟩
      case c3=>unfold maxLen;omega
      case c4=>omega
      case c5=>omega
      intro v4 w4 hown hgrow _;have eH:=hid ((HB.out.alloc hsz (.cells #[.int .i64 (t:Nat),.int .u8 (j:Nat)] 166)).grown hgrow (by simp;omega) (λk h=>(HO.out.lt k h).1));have Iw:Hid (w4.ownsRow w.heap.size 166 2 v4 (aG f (t*256+j+1)).length (dn (aG f (t*256+j+1)))):=by
       rw[HS.out,aBU (by trivial),aA5,Ia,d1.out,d2.out];exact hid hown
      clear hown hgrow;go_wp2_with fail;go_roundw
      case rel=>exact⟨j+1,by omega,by go_num,Iw,eH⟩
      case measure=>simp[intOf];omega
    ·obtain rfl:j=256:=by omega
     go_wp2_with fail;go_roundw
     case rel=>exact⟨t+1,by omega,by go_num,by rw[show (t+1)*256=t*256+256 by omega];exact HO,HB⟩
     case measure=>simp[intOf];omega
  ·obtain rfl:t=n:=by omega
   go_wp2_with fail;go_ret;exact⟨_,rfl,HO.out,HB.out⟩
