import Derived.Test.YtjagijohfkffiabGreatALLM10
set_option maxHeartbeats 16000000
set_option maxRecDepth 100000
set_option linter.unusedSimpArgs false
namespace Go.Proofs.YtjagijohfkffiabGreat
open Go.RowKit
set_option linter.unusedVariables false
theorem BO.keeps{w w':World}{B g N:Nat}{f:Nat->Bool}(h:BO w B g N f)(hb:Below w.heap.size w w'):BO w' B g N f:=ai h hb
theorem BO.base{w:World}{B B2 g N:Nat}{f:Nat->Bool}(h:BO w B g N f)(hb:B2<=B):BO w B2 g N f:=by
 refine⟨h.1,?_⟩;rcases h.2 with h0 | ⟨x,cap,cur,e,hx,r⟩
 ·exact aCa h0
 ·exact aCb ⟨x,cap,cur,e,aCW hb hx,r⟩
structure lm (a:Nat) (w w':World):Prop where
 size:w.heap.size<=w'.heap.size
 block:∀ x,a<=x->x<w.heap.size->w'.heap[x]?=w.heap[x]?
theorem lm.refl(a:Nat)(w:World):lm a w w:=⟨aB2 _,λ_ _ _=>rfl⟩
theorem lm.below{a:Nat}{w w' w2:World}(h:lm a w w')(hb:Below w'.heap.size w' w2):lm a w w2:=⟨aCW h.size hb.size,λx h1 h2=>(hb.block x (aCq h2 h.size)).trans (h.block x h1 h2)⟩
theorem lm.set{a:Nat}{w w':World}(h:lm a w w'){k:Nat}(hk:k<a)(o:Nat)(u:Value):lm a w (w'.setCell ⟨k,o,none⟩ u):=⟨by rw[aCr];exact h.size,λx h1 h2=>(aCD _ _ _ _ (by simp;omega)).trans (h.block x h1 h2)⟩
def OE:Prop:=∀ (P N K:Nat) (to:Nat->List Nat) (kp:Nat->Nat->Bool) (w:World),pI w P N to K kp->0<N->(∀ a,a<N->∀ b∈to a,b<N)->(∀ a,a<N->(to a).length<=4398046511104)->(∀ a,a<N->∀ j,(to a).count j<=8)->N<=274877906944 ->
  Calls Tryz.prog 123 #[.pointer (some ⟨P,0,none⟩)] w λe w'=>∃ P2 tl,e=.returned (.pointer (some ⟨P2,0,none⟩))/\(∀ w2,lm w.heap.size w' w2->pI w2 P2 N tl 0 kp)/\(∀ j a,a∈tl j↔a<N/\j∈to a)/\(∀ j,(tl j).length<=8*N)/\Below w.heap.size w w'
theorem Sy{N:Nat}{E:Nat->Nat->Prop}(hE:∀ x y,E x y->y<N):∀ L a b,sF E (L+1) a b->b<N
 | 0,a,b,h=>by
  obtain⟨c,h1,h2⟩:=h;obtain rfl:c=b:=h2;exact hE _ _ h1
 | L+1,a,b,h=>by
  obtain⟨c,h1,h2⟩:=h;exact Sy hE L c b h2
theorem WO{N:Nat}{to:Nat->List Nat}(hto:∀ a,a<N->∀ b∈to a,b<N){a b:Nat}(h:reach (Ed N to) a b):b<N:=by
 obtain⟨L,h⟩:=h;exact Sy (λx y e=>hto x e.1 y e.2) L a b h
theorem Lm{N:Nat}{to tl:Nat->List Nat}(hto:∀ a,a<N->∀ b∈to a,b<N)(E9:∀ j a,a∈tl j↔a<N/\j∈to a){a b:Nat}:reach (Ed N tl) a b↔reach (Ed N to) b a:=by
 have e:Ed N tl=λx y=>Ed N to y x:=by
  funext x y;apply propext;unfold Ed;rw[E9];exact⟨λh=>h.2,λh=>⟨hto y h.1 x h.2,h⟩⟩
 rw[e];exact zI
def vU(f:Nat->Bool):Nat->Bool
 | 0=>false
 | x+1=>vU f x||f x
def tH(f:Nat->Bool):Nat->Bool
 | 0=>true
 | x+1=>tH f x&&f x
theorem Ii(f:Nat->Bool):∀ n,vU f n=true↔∃ i,i<n/\f i=true
 | 0=>by simp[vU]
 | n+1=>by
  rw[vU,aCN,Ii f n];constructor
  ·rintro (⟨i,h1,h2⟩ | h)
   ·exact⟨i,by omega,h2⟩
   ·exact⟨n,by omega,h⟩
  ·rintro ⟨i,h1,h2⟩;by_cases e:i=n
   ·exact aCb (e ▸ h2)
   ·exact aCa ⟨i,by omega,h2⟩
theorem QJ(f:Nat->Bool):∀ n,tH f n=true↔∀ i,i<n->f i=true
 | 0=>by simp[tH]
 | n+1=>by
  rw[tH,aCH,QJ f n];constructor
  ·rintro ⟨h1,h2⟩ i hi;by_cases e:i=n
   ·exact e ▸ h2
   ·exact h1 i (by omega)
  ·intro h;exact⟨λi hi=>h i (by omega),h n (by omega)⟩
def GN(N:Nat)(to:Nat->List Nat)(K:Nat)(kp:Nat->Nat->Bool)(c:Nat):Prop:=ze (Ed N to) (λk i=>kp k i=true) K c
def K8(a b:Nat->Bool)(kp:Nat->Nat->Bool)(k:Nat):Nat->Bool:=λi=>a i&&b i&&kp k i
def Qr(a b:Nat->Bool)(kp:Nat->Nat->Bool)(N:Nat):Nat->Bool:=λk=>vU (K8 a b kp k) N
theorem agq{N K c:Nat}{to:Nat->List Nat}{kp:Nat->Nat->Bool}{a b:Nat->Bool}(hto:∀ a,a<N->∀ b∈to a,b<N)(ha:∀ i,a i=true↔reach (Ed N to) c i)(hb:∀ i,b i=true↔reach (Ed N to) i c)(hc:a c=true):tH (Qr a b kp N) K=true↔GN N to K kp c:=by
 rw[QJ];unfold GN ze;constructor
 ·intro h;refine⟨(ha c).1 hc,λk d=>?_⟩;obtain⟨i,l,e⟩:=(Ii _ _).1 (h k d);simp only[K8,aCH]at e;exact⟨i,(ha i).1 e.1.1,(hb i).1 e.1.2,e.2⟩
 ·rintro ⟨_,h⟩ k d;obtain⟨i,f,g,j⟩:=h k d;refine(Ii _ _).2 ⟨i,WO hto f,?_⟩;simp only[K8,aCH];exact⟨⟨(ha i).2 f,(hb i).2 g⟩,j⟩
structure MQ (N:Nat) (to:Nat->List Nat) (K:Nat) (kp:Nat->Nat->Bool) (c:Nat) (done good:Nat->Bool):Prop where
 p1:∀ i,done i=true->(good i=true↔GN N to K kp i)
 p2:∀ i,i<c->done i=true\/¬ reach (Ed N to) i i
 p3:∀ i,done i=false->good i=false
theorem afd(N:Nat)(to:Nat->List Nat)(K:Nat)(kp:Nat->Nat->Bool):MQ N to K kp 0 (λ_=>false) (λ_=>false):=⟨λi h=>(by cases h),λi h=>(by omega),λi _=>rfl⟩
theorem ajm{N K c:Nat}{to:Nat->List Nat}{kp:Nat->Nat->Bool}{done good:Nat->Bool}(h:MQ N to K kp c done good)(hs:done c=true\/¬ reach (Ed N to) c c):MQ N to K kp (c+1) done good:=
 ⟨h.p1,λi hi=>by
  by_cases e:i=c
  ·exact e ▸ hs
  ·exact h.p2 i (by omega),h.p3⟩
theorem akM{N K c:Nat}{to:Nat->List Nat}{kp:Nat->Nat->Bool}{done good:Nat->Bool}(h:MQ N to K kp c done good)(hd:done c=false)(hs:¬ reach (Ed N to) c c):MQ N to K kp (c+1) (upd done c true) good:=by
 refine⟨λi a=>?_,λi a=>?_,λi a=>?_⟩
 ·unfold upd at a;by_cases e:i=c
  ·subst e;rw[h.p3 i hd];exact⟨λh=>(by cases h),λh=>absurd h.1 hs⟩
  ·rw[aC1 e]at a;exact h.p1 i a
 ·by_cases e:i=c
  ·subst e;exact aCa (zx _ _ _)
  ·rcases h.p2 i (by omega) with h1 | h1
   ·exact aCa (Dr h1 (λ_=>rfl))
   ·exact aCb h1
 ·unfold upd at a;by_cases e:i=c
  ·rw[aC2 e]at a;cases a
  ·rw[aC1 e]at a;exact h.p3 i a
def Ae(a b d:Nat->Bool)(x:Nat):Nat->Bool:=λi=>if i<x/\a i=true/\b i=true then true else d i
def Bl(a b g:Nat->Bool)(fine:Bool)(x:Nat):Nat->Bool:=λi=>if i<x/\a i=true/\b i=true then fine else g i
theorem aj4(a b d:Nat->Bool):Ae a b d 0=d:=by funext i;simp[Ae]
theorem ajW(a b g:Nat->Bool)(fine:Bool):Bl a b g fine 0=g:=by funext i;simp[Bl]
theorem aj5{a b d:Nat->Bool}{x:Nat}(h:(a x&&b x)=true):upd (Ae a b d x) x true=Ae a b d (x+1):=by
 rw[aCH]at h;funext i;unfold upd Ae;by_cases e:i=x
 ·subst e;rw[aC2 rfl,aC2 ⟨by omega,h⟩]
 ·rw[aC1 e];by_cases c:i<x/\a i=true/\b i=true
  ·rw[aC2 c,aC2 ⟨by omega,c.2⟩]
  ·rw[aC1 c,aC1 (λq=>c ⟨by omega,q.2⟩)]
theorem ajX{a b g:Nat->Bool}{fine:Bool}{x:Nat}(h:(a x&&b x)=true):upd (Bl a b g fine x) x fine=Bl a b g fine (x+1):=by
 rw[aCH]at h;funext i;unfold upd Bl;by_cases e:i=x
 ·subst e;rw[aC2 rfl,aC2 ⟨by omega,h⟩]
 ·rw[aC1 e];by_cases c:i<x/\a i=true/\b i=true
  ·rw[aC2 c,aC2 ⟨by omega,c.2⟩]
  ·rw[aC1 c,aC1 (λq=>c ⟨by omega,q.2⟩)]
theorem apm{a b d:Nat->Bool}{x:Nat}(h:(a x&&b x)=false):Ae a b d x=Ae a b d (x+1):=by
 funext i;unfold Ae;by_cases e:i=x
 ·subst e;rw[aC1 (λq=>by omega),aC1 (λq=>by rw[q.2.1,q.2.2]at h;cases h)]
 ·by_cases c:i<x/\a i=true/\b i=true
  ·rw[aC2 c,aC2 ⟨by omega,c.2⟩]
  ·rw[aC1 c,aC1 (λq=>c ⟨by omega,q.2⟩)]
theorem apl{a b g:Nat->Bool}{fine:Bool}{x:Nat}(h:(a x&&b x)=false):Bl a b g fine x=Bl a b g fine (x+1):=by
 funext i;unfold Bl;by_cases e:i=x
 ·subst e;rw[aC1 (λq=>by omega),aC1 (λq=>by rw[q.2.1,q.2.2]at h;cases h)]
 ·by_cases c:i<x/\a i=true/\b i=true
  ·rw[aC2 c,aC2 ⟨by omega,c.2⟩]
  ·rw[aC1 c,aC1 (λq=>c ⟨by omega,q.2⟩)]
theorem ajn{N K c:Nat}{to:Nat->List Nat}{kp:Nat->Nat->Bool}{done good a b:Nat->Bool}(h:MQ N to K kp c done good)(hto:∀ a,a<N->∀ b∈to a,b<N)(ha:∀ i,a i=true↔reach (Ed N to) c i)(hb:∀ i,b i=true↔reach (Ed N to) i c)(hc:a c=true)(hcN:c<N) :
  MQ N to K kp (c+1) (Ae a b (upd done c true) N) (Bl a b good (tH (Qr a b kp N) K) N):=by
 have k:b c=true:=(hb c).2 ((ha c).1 hc);have hF:=agq (K:=K) (kp:=kp) hto ha hb hc;refine⟨λi d=>?_,λi d=>?_,λi d=>?_⟩
 ·unfold Ae at d;unfold Bl;by_cases e:i<N/\a i=true/\b i=true
  ·rw[aC2 e,hF];have j:=(ha i).1 e.2.1;have l:=(hb i).1 e.2.2;exact⟨λg=>UM j l g,λg=>UM l j g⟩
  ·rw[aC1 e]at d ⊢;by_cases f:i=c
   ·subst f;exact absurd ⟨hcN,hc,k⟩ e
   ·unfold upd at d;rw[aC1 f]at d;exact h.p1 i d
 ·unfold Ae;by_cases e:i<N/\a i=true/\b i=true
  ·rw[aC2 e];exact aCa rfl
  ·rw[aC1 e];by_cases f:i=c
   ·subst f;exact aCa (zx _ _ _)
   ·rcases h.p2 i (by omega) with j | j
    ·exact aCa (Dr j (λ_=>rfl))
    ·exact aCb j
 ·unfold Ae at d;unfold Bl;by_cases e:i<N/\a i=true/\b i=true
  ·rw[aC2 e]at d;cases d
  ·rw[aC1 e]at d ⊢;by_cases f:i=c
   ·subst f;rw[zx]at d;cases d
   ·unfold upd at d;rw[aC1 f]at d;exact h.p3 i d
theorem akN{N K:Nat}{to:Nat->List Nat}{kp:Nat->Nat->Bool}{done good:Nat->Bool}(h:MQ N to K kp N done good)(i:Nat)(hi:i<N):good i=true↔GN N to K kp i:=by
 cases hd:done i with
 | true=>exact h.p1 i hd
 | false=>
  rcases h.p2 i hi with h1 | h1
  ·rw[hd]at h1;cases h1
  ·rw[h.p3 i hd];exact⟨λq=>(by cases q),λq=>absurd q.1 h1⟩
theorem abr(HT:OE)(P N K:Nat)(to:Nat->List Nat)(kp:Nat->Nat->Bool)(w:World)(hn:pI w P N to K kp)(hN0:0<N)(hto:∀ a,a<N->∀ b∈to a,b<N)(hlen:∀ a,a<N->(to a).length<=4398046511104)(zY:∀ a,a<N->∀ j,(to a).count j<=8)(hN:N<=274877906944)(hK:K<=65536) :
  Calls Tryz.prog 122 #[.pointer (some ⟨P,0,none⟩)] w λe w'=>∃ g good,e=.returned (.slice (some ⟨g,0,none⟩) N N)/\w.heap.size<=g/\BO w' w.heap.size g N good/\(∀ i,i<N->(good i=true↔GN N to K kp i))/\Below w.heap.size w w':=by
 obtain⟨v0,c0,ao,cap,rfl,hcap,M⟩:=hn.c0;obtain⟨v1,c1,aok,ay7,rfl,ayZ,IZ⟩:=hn.c1;have hP:=hn.lt;have JO:=hid hn;have HKR:=hid IZ;obtain⟨i0,hi,aT,aP,aO⟩:=info_parts Tryz.dY;have O:=hid hto;have Nj:=hid hlen;have YO:=hid zY;have YB:=hid HT;clear M IZ hn hto hlen zY HT;go_enter Tryz.func122,Tryz.ntmps122;go_wp2_with (at_make;go_must (refine aCI _ rfl (.tmp 21) (.tmp 21) 132 rfl w.heap.size 4 i0 (.bool false) 1 Tryz.underlying132 hi aT aP .i64 .i64 N N N rfl rfl rfl rfl ?m2 ?m3 (aB2 _) ?_))
 case m2=>rw[aO];omega
 case m3=>unfold maxLen;omega
 intro w1 aF aQ;have Q:(madeCells #[Value.bool false] N).toList=List.replicate N (.bool false):=aCy _ _;rw[Q,<-dm (λ_=>false),show ax (λ_=>false) N 0=ax (λ_=>false) N N by simp[ax]]at aF;have aC:Below w.heap.size w w1:=(aB4 _ _).grown aQ (aB2 _) (λk h=>by cases h);have OG:Hid (BO w1 w.heap.size w.heap.size N (λ_=>false)):=hid aF;have tT:=aC.size;have hl0:=OG.out.blk.2;have aK:=hid aC;clear aF aQ Q aC;go_wp2_with (at_make;go_must (refine aCI _ rfl (.tmp 23) (.tmp 23) 132 rfl w.heap.size 4 i0 (.bool false) 1 Tryz.underlying132 hi aT aP .i64 .i64 N N N rfl rfl rfl rfl ?m2 ?m3 tT ?_))
 case m2=>rw[aO];omega
 case m3=>unfold maxLen;omega
 intro R fU kQ;have Q:(madeCells #[Value.bool false] N).toList=List.replicate N (.bool false):=aCy _ _;rw[Q,<-dm (λ_=>false),show ax (λ_=>false) N 0=ax (λ_=>false) N N by simp[ax]]at fU;have OD:Hid (BO R w.heap.size w1.heap.size N (λ_=>false)):=hid fU;have S:=hid (OG.out.grown kQ);have hl1:=OD.out.blk.2;have ae:=aK.out.grown kQ tT (λk h=>by cases h);have qP:=ae.size;have aM:=hid ae;clear fU kQ Q OG aK ae;generalize hg1:w1.heap.size=g1 at *;go_wp2_with fail;refine(YB.out P N K to kp R (JO.out.below aM.out) hN0 O.out Nj.out YO.out hN).mono ?_;rintro e G ⟨P2,tl,rfl,ST,E9,jI,T⟩;have qa:=hid ST;have Iu:=hid E9;have sZ:=hid jI;have U:=hid (S.out.keeps T);have V:=hid (OD.out.keeps T);have NZ:=T.size;have bF:=hid (aM.out.trans (T.mono qP));clear S OD aM T ST E9 jI;go_wp2_with fail;refine(afF P N K to kp G (JO.out.below bF.out) O.out Nj.out (by omega)).mono ?_;rintro e w4 ⟨gl,lv,rfl,lL,OL,kY,H⟩;have HOL:=hid OL;have mJ:=hid kY;have OG4:=hid (U.out.keeps H);have OD4:=hid (V.out.keeps H);have azf:=H.size;have dW:=hid (bF.out.trans (H.mono (by omega)));have HSY:=hid ((lm.refl R.heap.size G).below H);have ng1:gl≠w.heap.size:=by omega
 have W:gl≠g1:=by omega
 have z:g1≠w.heap.size:=by omega
 have eD:=dW.out.size;clear U V bF H OL kY;go_wp2_with fail
 go_loopw [8] (λi m=>∃ (c:Nat) (l good:Nat->Bool),c<=N/\i=.int .i64 c/\Hid (MQ N to K kp c l good)/\Hid (BO m w.heap.size w.heap.size N good)/\Hid (BO m w.heap.size g1 N l)/\Hid (BO m G.heap.size gl N lv)/\Hid (lm R.heap.size G m)/\Below w.heap.size w m) (λi _=>N - (intOf i).toNat)
 case atStart=>exact⟨0,_,_,aCg _,rfl,hid (afd _ _ _ _),OG4,OD4,HOL,HSY,dW.out⟩
 case round=>
  obtain⟨c,l,good,hc,rfl,HR,X,t,Y,HS,Z⟩:=hrel;rename World=>W0;by_cases n:c<N
  ·have d1:=t.out.get n;have d2:=Y.out.get n;have d3:=t.out.fz c;have q:Hid (lv c=false->¬ reach (Ed N to) c c):=hid (λh r=>by have:=mJ.out c r;rw[h]at this;cases this);have qb:=hid (λh=>ajm HR.out (c:=c) h);have YG:=hid (λh=>akM HR.out (c:=c) h);have D1:=hid (t.out.set c true);have D2:=hid (X.out.other t.out z.symm c (.bool true));have D3:=hid (Y.out.other t.out W c (.bool true));have D4:=hid (HS.out.set (k:=g1) (by omega) c (.bool true));have jV:=hid (Z.setCell (p:=⟨g1,c,none⟩) (by show w.heap.size<=g1;omega) (.bool true));generalize hdv:l c=dv at *;generalize hvv:lv c=vv at *;have HDV:=hid hdv;clear hdv hvv;cases dv with
   | true=>
    have jD:=hid (qb.out (aCa rfl));clear qb YG q;go_wp2_with fail;go_roundw
    case rel=>exact⟨c+1,l,good,by omega,by go_num,jD,X,t,Y,HS,Z⟩
    case measure=>simp[intOf];omega
   | false=>
    cases vv with
    | false=>
     have jD:=hid (qb.out (aCb (q.out rfl)));clear qb YG q;go_wp2_with fail;go_roundw
     case rel=>exact⟨c+1,l,good,by omega,by go_num,jD,X,t,Y,HS,Z⟩
     case measure=>simp[intOf];omega
    | true=>
     have yA:=hid (YG.out rfl);clear qb YG q X t Y HS Z;have FR:=hid (Kq P N K c to kp (W0.setCell ⟨g1,c,none⟩ (.bool true)) (JO.out.below jV.out) O.out Nj.out n (by omega));go_wp2_with fail;refine FR.out.mono ?_;rintro e I ⟨ga,a,rfl,hga,OA,haR,A⟩;have HA:Hid (BO I (W0.setCell ⟨g1,c,none⟩ (.bool true)).heap.size ga N a):=hid OA;have HAR:=hid haR;have E1:=hid (D1.out.keeps A);have E2:=hid (D2.out.keeps A);have E3:=hid (D3.out.keeps A);have E4:=hid (D4.out.below A);have s1:=jV.out.size;have s3:=D4.out.size;have s2:=A.size;have jE:=hid (jV.out.trans (A.mono s1));have a1:=HA.out.get n;clear D1 D2 D3 D4 jV FR OA haR A d1 d2 d3;rw[aCr]at s1 s2 s3 hga;have rZ:Hid (BO I w.heap.size ga N a):=hid (HA.out.base (by rw[aCr];exact s1));clear HA;cases hac:a c with
     | false=>
      rw[hac]at a1;have jD:=hid (yA.out (λr=>by have:=(HAR.out c).2 r;rw[hac]at this;cases this));clear hac yA;go_wp2_with fail;go_roundw
      case rel=>exact⟨c+1,_,good,by omega,by go_num,jD,E2,E1,E3,E4,jE.out⟩
      case measure=>simp[intOf];omega
     | true=>
      rw[hac]at a1;have HAC:=hid hac;clear hac yA;have FB:=hid (Kq P2 N 0 c tl kp I (qa.out I E4.out) (λx hx y hy=>((Iu.out x y).1 hy).1) (λx hx=>by have:=sZ.out x;omega) n (by omega));go_wp2_with fail;refine FB.out.mono ?_;rintro e J ⟨L,b,rfl,Ju,OB,hbR,B⟩;have iJ:Hid (BO J w.heap.size L N b):=hid (BO.base (show BO J I.heap.size L N b from OB) jE.out.size);have Wl:Hid (∀ i,b i=true↔reach (Ed N to) i c):=hid (λi=>(hbR i).trans (Lm O.out Iu.out));have F1:=hid (E1.out.keeps B);have F2:=hid (E2.out.keeps B);have F3:=hid (E3.out.keeps B);have F4:=hid (E4.out.below B);have YQ:=hid (rZ.out.keeps B);have IM:=hid (jE.out.trans (B.mono jE.out.size));have azt:I.heap.size<=L:=Ju;have azu:=rZ.out.blk.2;have kK:=hid (ajn (K:=K) (kp:=kp) HR.out O.out HAR.out Wl.out HAC.out n);have c16:=(IM.out.cell (p:=⟨P,1,none⟩) hP).trans c1;clear E1 E2 E3 E4 jE FB OB hbR B rZ a1;go_wp2_with fail
      go_loopw [12,11] (λi f m=>∃ (k:Nat),k<=K/\i=.int .i64 k/\f=.bool (tH (Qr a b kp N) k)/\J=m) (λi _ _=>K - (intOf i).toNat)
      case atStart=>exact⟨0,aCg _,rfl,rfl,rfl⟩
      case round=>
       obtain⟨k,hk,rfl,rfl,e⟩:=hrel;subst e;by_cases hlk:k<K
       ·obtain⟨gk,e,hgk,hkc⟩:=HKR.out (by omega);subst e;obtain⟨bk,ckp,ck,azx,nM⟩:=hkc k hlk;have ck6:=(IM.out.cell (p:=⟨gk,k,none⟩) hgk).trans ck;have JK:=hid (nM.below IM.out);have HFS:Hid (tH (Qr a b kp N) (k+1)=(tH (Qr a b kp N) k&&vU (K8 a b kp k) N)):=hid rfl;clear hkc ck nM;generalize tH (Qr a b kp N) k=fv at *;go_wp2_with fail
        go_loopw [14,13] (λi s m=>∃ (x:Nat),x<=N/\i=.int .i64 x/\s=.bool (vU (K8 a b kp k) x)/\J=m) (λi _ _=>N - (intOf i).toNat)
        case atStart=>exact⟨0,aCg _,rfl,rfl,rfl⟩
        case round=>
         obtain⟨x,hx,rfl,rfl,e⟩:=hrel;subst e;by_cases u:x<N
         ·have t1:=YQ.out.get u;have t2:=iJ.out.get u;have t3:=JK.out.cell x u;have Q6:Hid (vU (K8 a b kp k) (x+1)=(vU (K8 a b kp k) x||(a x&&b x&&kp k x))):=hid rfl;generalize vU (K8 a b kp k) x=sv at *;generalize a x=av at *;generalize b x=bv at *;generalize kp k x=kv at *;cases sv with
          | true=>
           go_wp2_with fail;go_roundw
           case rel=>exact⟨x+1,by omega,by go_num,by rw[Q6.out];rfl,trivial⟩
           case measure=>simp[intOf];omega
          | false=>
           cases av with
           | false=>
            go_wp2_with fail;go_roundw
            case rel=>exact⟨x+1,by omega,by go_num,by rw[Q6.out];rfl,trivial⟩
            case measure=>simp[intOf];omega
           | true=>
            cases bv with
            | false=>
             go_wp2_with fail;go_roundw
             case rel=>exact⟨x+1,by omega,by go_num,by rw[Q6.out];rfl,trivial⟩
             case measure=>simp[intOf];omega
            | true=>
             go_wp2_with fail;go_roundw
             case rel=>exact⟨x+1,by omega,by go_num,by rw[Q6.out];rfl,trivial⟩
             case measure=>simp[intOf];omega
         ·obtain rfl:x=N:=by omega
          generalize vU (K8 a b kp k) x=sv at *;cases fv with
          | true=>
           go_wp2_with fail;go_roundw
           case rel=>exact⟨k+1,by omega,by go_num,by rw[HFS.out];rfl,trivial⟩
           case measure=>simp[intOf];omega
          | false=>
           go_wp2_with fail;go_roundw
           case rel=>exact⟨k+1,by omega,by go_num,by rw[HFS.out];rfl,trivial⟩
           case measure=>simp[intOf];omega
       ·obtain rfl:k=K:=by omega
        have F1z:Hid (BO J w.heap.size g1 N (Ae a b (upd l c true) 0)):=hid (by rw[aj4];exact F1.out);have F2z:Hid (BO J w.heap.size w.heap.size N (Bl a b good (tH (Qr a b kp N) k) 0)):=hid (by rw[ajW];exact F2.out);clear F1 F2;generalize tH (Qr a b kp N) k=fv at *;go_wp2_with fail
        go_loopw [15] (λi m=>∃ (x:Nat),x<=N/\i=.int .i64 x/\Hid (BO m w.heap.size w.heap.size N (Bl a b good fv x))/\Hid (BO m w.heap.size g1 N (Ae a b (upd l c true) x))/\Hid (BO m G.heap.size gl N lv)/\Hid (BO m w.heap.size ga N a)/\Hid (BO m w.heap.size L N b)/\Hid (lm R.heap.size G m)/\Below w.heap.size w m) (λi _=>N - (intOf i).toNat)
        case atStart=>exact⟨0,aCg _,rfl,F2z,F1z,F3,YQ,iJ,F4,IM.out⟩
        case round=>
         obtain⟨x,hx,rfl,G1,o,G3,G4,G5,G6,vI⟩:=hrel;by_cases u:x<N
         ·have t1:=G4.out.get u;have t2:=G5.out.get u;have C:=hid (λh=>aj5 (a:=a) (b:=b) (d:=upd l c true) (x:=x) h);have D:=hid (λh=>ajX (a:=a) (b:=b) (g:=good) (fine:=fv) (x:=x) h);have E:=hid (λh=>apm (a:=a) (b:=b) (d:=upd l c true) (x:=x) h);have F:=hid (λh=>apl (a:=a) (b:=b) (g:=good) (fine:=fv) (x:=x) h);cases hab:(a x&&b x) with
          | false=>
           have H1:=hid (E.out hab);have H2:=hid (F.out hab);clear C D E F;generalize a x=av at *;generalize b x=bv at *;cases av with
           | false=>
            clear hab;go_wp2_with fail;go_roundw
            case rel=>exact⟨x+1,by omega,by go_num,by rw[<-H2.out];exact G1,by rw[<-H1.out];exact o,G3,G4,G5,G6,vI⟩
            case measure=>simp[intOf];omega
           | true=>
            obtain rfl:bv=false:=by simpa using hab
            clear hab;go_wp2_with fail;go_roundw
            case rel=>exact⟨x+1,by omega,by go_num,by rw[<-H2.out];exact G1,by rw[<-H1.out];exact o,G3,G4,G5,G6,vI⟩
            case measure=>simp[intOf];omega
          | true=>
           have H1:=hid (C.out hab);have H2:=hid (D.out hab);clear C D E F;generalize a x=av at *;generalize b x=bv at *;obtain⟨rfl,rfl⟩:av=true/\bv=true:=by simpa using hab
           clear hab;have m1:ga≠g1:=by omega
           have m2:ga≠w.heap.size:=by omega
           have m3:L≠g1:=by omega
           have m4:L≠w.heap.size:=by omega
           have s4:=o.out.fz x;have s5:=o.out.get u;have v:=G1.out.other o.out z.symm x (.bool true);have A2:=o.out.set x true;have A3:=G3.out.other o.out W x (.bool true);have A4:=G4.out.other o.out m1 x (.bool true);have A5:=G5.out.other o.out m3 x (.bool true);have A6:=G6.out.set (k:=g1) (by omega) x (.bool true);rw[H1.out]at A2;have s6:=v.fz x;have s7:=v.get u;have C1:=v.set x fv;rw[H2.out]at C1;have C2:=hid (A2.other v z x (.bool fv));have C3:=hid (A3.other v ng1 x (.bool fv));have C4:=hid (A4.other v m2 x (.bool fv));have C5:=hid (A5.other v m4 x (.bool fv));have C6:=hid (A6.set (k:=w.heap.size) (by omega) x (.bool fv));have C0:=hid C1;have Wj:=hid ((vI.setCell (p:=⟨g1,x,none⟩) (by show w.heap.size<=g1;omega) (.bool true)).setCell (p:=⟨w.heap.size,x,none⟩) (aB2 _) (.bool fv));clear v A2 A3 A4 A5 A6 C1 G1 o G3 G4 G5 G6;generalize Ae a b (upd l c true) x x=z1 at *;generalize Bl a b good fv x x=z2 at *;go_wp2_with fail;go_roundw
           case rel=>exact⟨x+1,by omega,by go_num,C0,C2,C3,C4,C5,C6,Wj.out⟩
           case measure=>simp[intOf];omega
         ·obtain rfl:x=N:=by omega
          go_wp2_with fail;go_roundw
          case rel=>exact⟨c+1,_,_,by omega,by go_num,kK,G1,o,G3,G6,vI⟩
          case measure=>simp[intOf];omega
  ·obtain rfl:c=N:=by omega
   have Nn:=hid (akN HR.out);go_wp2_with fail;go_ret;exact⟨w.heap.size,good,rfl,aB2 _,X.out,Nn.out,Z⟩
structure Wq (N:Nat) (to:Nat->List Nat) (good out:Nat->Bool) (i:Nat):Prop where
 p1:∀ x,out x=true->∃ c,c<i/\good c=true/\reach (Ed N to) x c
 p2:∀ x c,c<i->good c=true->reach (Ed N to) x c->out x=true
theorem agx(N:Nat)(to:Nat->List Nat)(good:Nat->Bool):Wq N to good (λ_=>false) 0:=⟨λx h=>(by cases h),λx c h=>(by omega)⟩
theorem aj3{N i:Nat}{to:Nat->List Nat}{good out:Nat->Bool}(h:Wq N to good out i)(hs:good i=false\/out i=true):Wq N to good out (i+1):=by
 refine⟨λx g=>?_,λx c m a f=>?_⟩
 ·obtain⟨c,n,j⟩:=h.p1 x g;exact⟨c,by omega,j⟩
 ·by_cases e:c=i
  ·subst e;rcases hs with hs | hs
   ·rw[hs]at a;cases a
   ·obtain⟨d,k,l,b⟩:=h.p1 c hs;exact h.p2 x d k l (eu f b)
  ·exact h.p2 x c (by omega) a f
def ER(out l:Nat->Bool)(x:Nat):Nat->Bool:=λi=>if i<x then out i||l i else out i
theorem ajw(out l:Nat->Bool):ER out l 0=out:=by funext i;simp[ER]
theorem ajy(out l:Nat->Bool)(x:Nat):ER out l x x=out x:=by simp[ER]
theorem ajx(out l:Nat->Bool)(x:Nat):upd (ER out l x) x (out x||l x)=ER out l (x+1):=by
 funext i;unfold upd ER;by_cases e:i=x
 ·subst e;rw[aC2 rfl,aC2 (by omega)]
 ·rw[aC1 e];by_cases a:i<x
  ·rw[aC2 a,aC2 (by omega)]
  ·rw[aC1 a,aC1 (by omega)]
theorem Ra{N:Nat}{to:Nat->List Nat}{a b:Nat}(h:reach (Ed N to) a b):a<N:=by
 obtain⟨L,c,d,_⟩:=h;exact d.1
theorem amM{N i:Nat}{to:Nat->List Nat}{good out l:Nat->Bool}(h:Wq N to good out i)(hg:good i=true)(hl:∀ x,l x=true↔reach (Ed N to) x i):Wq N to good (ER out l N) (i+1):=by
 refine⟨λx a=>?_,λx c j f b=>?_⟩
 ·have d:out x=true\/l x=true:=by
   unfold ER at a;by_cases e:x<N
   ·rw[aC2 e,aCN]at a;exact a
   ·rw[aC1 e]at a;exact aCa a
  rcases d with k | k
  ·obtain⟨c,m,g⟩:=h.p1 x k;exact⟨c,by omega,g⟩
  ·exact⟨i,by omega,hg,(hl x).1 k⟩
 ·unfold ER;rw[aC2 (Ra b),aCN];by_cases e:c=i
  ·subst e;exact aCb ((hl x).2 b)
  ·exact aCa (h.p2 x c (by omega) f b)
theorem amL{N K:Nat}{to:Nat->List Nat}{kp:Nat->Nat->Bool}{good out:Nat->Bool}(h:Wq N to good out N)(hg:∀ i,i<N->(good i=true↔GN N to K kp i))(x:Nat):out x=true↔∃ c,c<N/\reach (Ed N to) x c/\GN N to K kp c:=by
 constructor
 ·intro e;obtain⟨c,a,b,d⟩:=h.p1 x e;exact⟨c,a,d,(hg c a).1 b⟩
 ·rintro ⟨c,a,b,d⟩;exact h.p2 x c a ((hg c a).2 d) b
theorem Cb(HT:OE)(P N K:Nat)(to:Nat->List Nat)(kp:Nat->Nat->Bool)(w:World)(hn:pI w P N to K kp)(hN0:0<N)(hto:∀ a,a<N->∀ b∈to a,b<N)(hlen:∀ a,a<N->(to a).length<=4398046511104)(zY:∀ a,a<N->∀ j,(to a).count j<=8)(hN:N<=274877906944)(hK:K<=65536) :
  Calls Tryz.prog 75 #[.pointer (some ⟨P,0,none⟩)] w λe w'=>∃ g out,e=.returned (.slice (some ⟨g,0,none⟩) N N)/\w.heap.size<=g/\BO w' w.heap.size g N out/\(∀ i,out i=true↔∃ c,c<N/\reach (Ed N to) i c/\GN N to K kp c)/\Below w.heap.size w w':=by
 have RN:=hid (abr HT P N K to kp w hn hN0 hto hlen zY hN hK);have JO:=hid hn;obtain⟨i0,hi,aT,aP,aO⟩:=info_parts Tryz.dY;have BC:=hid hto;have Nj:=hid hlen;have YO:=hid zY;have YB:=hid HT;clear hn hto hlen zY HT;go_enter Tryz.func75,Tryz.ntmps75;go_wp2_with fail;refine RN.out.mono ?_;rintro e w1 ⟨G,good,rfl,Mc,H,vG,I⟩;have r:=hid H;have Nl:=hid vG;have aK:=hid I;have tT:=I.size;have hlg:=H.blk.2;clear H vG I RN;go_wp2_with (at_make;go_must (refine aCI _ rfl (.tmp 12) (.tmp 12) 132 rfl w.heap.size 4 i0 (.bool false) 1 Tryz.underlying132 hi aT aP .i64 .i64 N N N rfl rfl rfl rfl ?m2 ?m3 tT ?_))
 case m2=>rw[aO];omega
 case m3=>unfold maxLen;omega
 intro D J L;have eo:(madeCells #[Value.bool false] N).toList=List.replicate N (.bool false):=aCy _ _;rw[eo,<-dm (λ_=>false),show ax (λ_=>false) N 0=ax (λ_=>false) N N by simp[ax]]at J;have M:Hid (BO D w.heap.size w1.heap.size N (λ_=>false)):=hid J;have s:=hid (r.out.grown L);have hl1:=M.out.blk.2;have O:=aK.out.grown L tT (λk h=>by cases h);have qP:=O.size;have Q:=hid O;clear J L eo r aK O;generalize hg1:w1.heap.size=g1 at *;go_wp2_with fail;refine(YB.out P N K to kp D (JO.out.below Q.out) hN0 BC.out Nj.out YO.out hN).mono ?_;rintro e w3 ⟨P2,tl,rfl,ST,E9,jI,t⟩;have qa:=hid ST;have Iu:=hid E9;have sZ:=hid jI;have R:=hid (s.out.keeps t);have S:=hid (M.out.keeps t);have NZ:=t.size;have bF:=hid (Q.out.trans (t.mono qP));have T:G≠g1:=by omega
 have eD:=bF.out.size;clear s M Q t ST E9 jI;go_wp2_with fail
 go_loopw [6] (λi f=>∃ (c:Nat) (out:Nat->Bool),c<=N/\i=.int .i64 c/\Hid (Wq N to good out c)/\Hid (BO f w.heap.size G N good)/\Hid (BO f w.heap.size g1 N out)/\Hid (lm D.heap.size w3 f)/\Below w.heap.size w f) (λi _=>N - (intOf i).toNat)
 case atStart=>exact⟨0,_,aCg _,rfl,hid (agx _ _ _),R,S,hid (lm.refl _ _),bF.out⟩
 case round=>
  obtain⟨c,out,hc,rfl,U,u,m,v,q⟩:=hrel;rename World=>W0;by_cases n:c<N
  ·have d1:=u.out.get n;have d2:=m.out.get n;have z:=hid (λh=>aj3 U.out (i:=c) h);have E:=hid (λh l=>amM U.out (i:=c) h (l:=l));generalize good c=gv at *;generalize out c=ov at *;cases gv with
   | false=>
    have d:=hid (z.out (aCa rfl));clear z E;go_wp2_with fail;go_roundw
    case rel=>exact⟨c+1,out,by omega,by go_num,d,u,m,v,q⟩
    case measure=>simp[intOf];omega
   | true=>
    cases ov with
    | true=>
     have d:=hid (z.out (aCb rfl));clear z E;go_wp2_with fail;go_roundw
     case rel=>exact⟨c+1,out,by omega,by go_num,d,u,m,v,q⟩
     case measure=>simp[intOf];omega
    | false=>
     have rZ:=hid (E.out rfl);clear z E;have A:=q.size;have FB:=hid (Kq P2 N 0 c tl kp W0 (qa.out W0 v.out) (λx hx y hy=>((Iu.out x y).1 hy).1) (λx hx=>by have:=sZ.out x;omega) n (by omega));go_wp2_with fail;refine FB.out.mono ?_;rintro e V ⟨F,l,rfl,Ju,OB,B,C⟩;have W:Hid (BO V w.heap.size F N l):=hid (BO.base (show BO V W0.heap.size F N l from OB) A);have Wl:Hid (∀ x,l x=true↔reach (Ed N to) x c):=hid (λx=>(B x).trans (Lm BC.out Iu.out));have d:=hid (rZ.out l Wl.out);have F1:=hid (u.out.keeps C);have F2:Hid (BO V w.heap.size g1 N (ER out l 0)):=hid (by rw[ajw];exact m.out.keeps C);have F4:=hid (v.out.below C);have hso:=m.out.blk.2;have IM:=hid (q.trans (C.mono A));clear FB OB B C rZ u m v d1 d2 q;go_wp2_with fail
     go_loopw [8] (λi f=>∃ (x:Nat),x<=N/\i=.int .i64 x/\Hid (BO f w.heap.size G N good)/\Hid (BO f w.heap.size g1 N (ER out l x))/\Hid (BO f w.heap.size F N l)/\Hid (lm D.heap.size w3 f)/\Below w.heap.size w f) (λi _=>N - (intOf i).toNat)
     case atStart=>exact⟨0,aCg _,rfl,F1,F2,W,F4,IM.out⟩
     case round=>
      obtain⟨x,hx,rfl,X,o,Y,Z,vI⟩:=hrel;by_cases gD:x<N
      ·have s1:=o.out.fz x;have s2:=o.out.get gD;have s3:=Y.out.get gD;have m1:F≠g1:=by omega
       rw[ajy]at s2;have A2:=o.out.set x (out x||l x);rw[ajx]at A2;have C2:=hid A2;have C1:=hid (X.out.other o.out T x (.bool (out x||l x)));have C3:=hid (Y.out.other o.out m1 x (.bool (out x||l x)));have C4:=hid (Z.out.set (k:=g1) (by omega) x (.bool (out x||l x)));have Wj:=hid (vI.setCell (p:=⟨g1,x,none⟩) (by show w.heap.size<=g1;omega) (.bool (out x||l x)));clear A2 X o Y Z;generalize out x=ov at *;generalize l x=lv at *;cases ov with
       | true=>
        go_wp2_with fail;go_roundw
        case rel=>exact⟨x+1,by omega,by go_num,C1,C2,C3,C4,Wj.out⟩
        case measure=>simp[intOf];omega
       | false=>
        rw[Bool.false_or]at C1 C2 C3 C4 Wj;go_wp2_with fail;go_roundw
        case rel=>exact⟨x+1,by omega,by go_num,C1,C2,C3,C4,Wj.out⟩
        case measure=>simp[intOf];omega
      ·obtain rfl:x=N:=by omega
       go_wp2_with fail;go_roundw
       case rel=>exact⟨c+1,_,by omega,by go_num,d,X,o,Z,vI⟩
       case measure=>simp[intOf];omega
  ·obtain rfl:c=N:=by omega
   have Nn:=hid (amL U.out Nl.out);have atA:w.heap.size<=g1:=by omega
   go_wp2_with fail;go_ret;exact⟨g1,out,rfl,atA,m.out,Nn.out,q⟩
def aX(vs:List Nat)(i:Nat):Nat->Bool:=lY (bZ vs i)
def uj(ns:List Nd)(vs:List Nat)(i k:Nat):List Nat:=(List.range k).filter λq=>Eo ns (aX vs i) (aX vs q)
def toS(ns:List Nd)(vs:List Nat)(i:Nat):List Nat:=uj ns vs i vs.length
def yn(ns:List Nd)(vs:List Nat)(k i:Nat):Bool:=iq (au ns k) k (aX vs i)
theorem aiM{ns:List Nd}{vs:List Nat}{i k:Nat}(h:Eo ns (aX vs i) (aX vs k)=true):uj ns vs i (k+1)=uj ns vs i k++[k]:=by simp[uj,aCT,List.filter_append,h]
theorem akA{ns:List Nd}{vs:List Nat}{i k:Nat}(h:Eo ns (aX vs i) (aX vs k)=false):uj ns vs i (k+1)=uj ns vs i k:=by simp[uj,aCT,List.filter_append,h]
theorem Nv(ns:List Nd)(vs:List Nat)(i k:Nat):(uj ns vs i k).length<=k:=by
 have:=List.length_filter_le (λq=>Eo ns (aX vs i) (aX vs q)) (List.range k);simpa [uj] using this
theorem ny(l:List Nat):(aI l).length=l.length:=by simp[aI]
theorem IR{w:World}{B N:Nat}{v:Value}{V:Nat->Value}{to:Nat->List Nat}(h:fZ w B 22 3 v N V (λq=>aI (to q))):MU w v N to:=by
 rcases h.out.2 with⟨rfl,h0⟩ | ⟨g,cap,cur,rfl,hb,hh,hc,hm,_⟩
 ·exact⟨none,0,by rw[h0],by omega,λh=>by omega⟩
 ·refine⟨_,cap,rfl,hc,λ_=>⟨g,rfl,dC hh,λi a=>⟨V i,?_,?_⟩⟩⟩
  ·rw[h.out.cellAt i (by omega)];simp[aCs,aCF a]
  ·have:=h.row i a;rw[ny]at this;exact Cw this
theorem aji{w:World}{B K N:Nat}{v:Value}{V:Nat->Value}{kp:Nat->Nat->Bool}(h:fZ w B 132 4 v K V (λq=>ax (kp q) N N))(hV:∀ i,i<K->∃ b,V i=.slice (some ⟨b,0,none⟩) N N):Q8 w v K N kp:=by
 rcases h.out.2 with⟨rfl,h0⟩ | ⟨g,cap,cur,rfl,a,hh,hc,hm,_⟩
 ·exact⟨none,0,by rw[h0],by omega,λh=>by omega⟩
 ·refine⟨_,cap,rfl,hc,λ_=>⟨g,rfl,dC hh,λi c=>?_⟩⟩;obtain⟨b,a⟩:=hV i c;have d:=h.row i c;have f:(ax (kp i) N N).length=N:=by simp[ax]
  simp only[f,a]at d;refine⟨b,?_,?_,λq j=>?_⟩
  ·rw[h.out.cellAt i (by omega)];simp[aCs,aCF c,a]
  ·rcases d.2 with⟨e,h0⟩ | ⟨g',cap',atL,e,_,Uy,_⟩
   ·cases e
   ·cases e;exact dC Uy
  ·rw[d.cellAt q (by omega)];exact kV (kp i) N q j
theorem ajE(F gp cap Bs:Nat)(ns:List Nd)(bs vs:List Nat)(v:Value)(w:World)(hf:FR w F gp cap ns bs)(hg:Good ns)(hs:yc w Bs v ns.length vs)(hN:vs.length<=256) :
  Calls Tryz.prog 74 #[.pointer (some ⟨F,0,none⟩),v] w λe w'=>e=.returned (.pointer (some ⟨w.heap.size,0,none⟩))/\pI w' w.heap.size vs.length (toS ns vs) ns.length (yn ns vs)/\Below w.heap.size w w':=by
 have di:=hg.le;have P:=hg.pos;have k0:=hf.c0;have kc:=hf.hcap;have hF:=hf.PM;obtain⟨bb,Q,sr⟩:=hs;obtain⟨ao,aew,rfl⟩:=ak Q;have hvc:vs.length<=aew:=by
  rcases Q.2 with⟨e,h0⟩ | ⟨g,cp,cur,e,_,_,hc,_⟩
  ·omega
  ·cases e;exact hc
 have SC:Hid (∀ i,i<vs.length->∃ l,ao=some ⟨l,0,none⟩/\l<w.heap.size/\w.cell? ⟨l,i,none⟩=some (.slice (some ⟨bb i,0,none⟩) ns.length ns.length)):=hid (λi r=>by
  obtain⟨l,e,_,J,_⟩:=eZ Q (by omega);subst e;refine⟨l,rfl,J,?_⟩;rw[Q.cellAt i (by omega)];simp[aCs,aCF r,iD])
 have Y:Hid (∀ i,i<vs.length->Rb w (bb i) ns.length (aX vs i)):=hid (λi r=>Sl P (sr i r));obtain⟨i0,r,aT,aP,aO⟩:=info_parts Tryz.mE;obtain⟨i1,jU,gJ,gI,gG⟩:=info_parts Tryz.wP;obtain⟨i2,vF,TV,TT,TR⟩:=info_parts Tryz.dY;obtain⟨i3,hi3,TU,TS,TQ⟩:=info_parts Tryz.AZ;have FO:=hid (λ(W:World) (i k:Nat) (h1:Below w.heap.size w W) (r:i<vs.length) (Z:k<vs.length)=>Xg F gp cap (bb i) (bb k) ns.length ns.length ns bs (aX vs i) (aX vs k) W (hf.below h1) ((Y.out i r).below h1) ((Y.out k Z).below h1) hg (aB2 _) (aB2 _));have KE:=hid (λ(W:World) (i k:Nat) (h1:Below w.heap.size w W) (r:i<vs.length) (Z:k<ns.length)=>Ki F gp cap (bb i) ns.length ns bs (aX vs i) W k Z (hf.below h1) ((Y.out i r).below h1) hg (aB2 _));clear Q sr Y hf hg;have M4:Hid (∀ i,toS ns vs i=uj ns vs i vs.length):=hid (λi=>rfl);generalize vs.length=N at *;generalize ns.length=n at *;go_enter Tryz.func74,Tryz.ntmps74;go_wp2_with fail
 go_loopw [6] (λi wr=>∃ (j:Nat) (K:Value) (V:Nat->Value),j<=N/\i=.int .i64 j/\Below w.heap.size w wr/\Two wr w.heap.size K (.slice none 0 0)/\Hid (fZ wr (w.heap.size+1) 22 3 K j V (λq=>aI (toS ns vs q)))) (λi _=>N - (intOf i).toNat)
 case atStart=>exact⟨0,_,λ_=>.bool false,aCg _,rfl,(aB4 _ _).alloc (aB2 _) _,bY w _ _ _,hid (uk _ _ _ _ _ _)⟩
 case round=>
  obtain⟨j,K,V,hj,rfl,hb,q1,HL⟩:=hrel;rename World=>W0;have hM:=q1.lt;by_cases R:j<N
  ·have QT:=hid q1;clear q1;go_wp2_with fail
   go_loopw [8,7] (λi s S=>∃ (k:Nat),k<=N/\i=.int .i64 k/\Below W0.heap.size W0 S/\Hid (S.ownsRow W0.heap.size 3 1 s (uj ns vs j k).length (aI (uj ns vs j k)))) (λi _ _=>N - (intOf i).toNat)
   case atStart=>exact⟨0,aCg _,rfl,aB4 _ _,hid (by simpa [uj,aI] using aCp _ _ _ _)⟩
   case round=>
    obtain⟨k,Z,rfl,d,t⟩:=hrel;have hsz:=d.size;have f:Below w.heap.size w wr:=hb.trans (d.mono hb.size);by_cases T:k<N
    ·obtain⟨l,e,J,ci⟩:=SC.out j R;subst e;obtain⟨Yf,e,_,ck⟩:=SC.out k T;cases e;have ci':=(f.cell (p:=⟨l,j,none⟩) J).trans ci;have ck':=(f.cell (p:=⟨l,k,none⟩) J).trans ck;have C:=λm=>FO.out (wr.drewN m) j k (aCl f m) R T;have U:=hid (aiM (ns:=ns) (vs:=vs) (i:=j) (k:=k));have oI:=hid (akA (ns:=ns) (vs:=vs) (i:=j) (k:=k));have E9:=Nv ns vs j k;generalize Eo ns (aX vs j) (aX vs k)=fv at *;go_wp2_with fail
     go_quiet ((go_at_call 121;exact Calls.quiet_of (C _)))
     cases fv
     ·go_wp2_with fail;go_roundw
      case rel=>exact⟨k+1,by omega,by go_num,aCl d _,by rw[oI.out rfl];exact hid (ai t.out (aCl (aB4 _ _) _))⟩
      case measure=>simp[intOf];omega
     ·have own:=ai t.out (aCl (aB4 wr.heap.size wr) nq);have UD:=aCl d nq;have hsd:=UD.size;have HY:=hid (U.out rfl);have Wn:=hid UD;clear t d UD C U oI;generalize wr.drewN nq=W2 at *;generalize uj ns vs j k=tl at *;go_wp2_with (at_builtin;go_must (refine wpList_append_own _ rfl (.tmp 38) (.tmp 40) 22 rfl W0.heap.size 3 i0 (.int .i64 0) 1 8 Tryz.underlying22 r aT aP aO rfl (by decide) _ _ _ rfl (own.alloc _) ⟨W2.heap.size,0,none⟩ 1 1 [.int .i64 k] rfl rfl ?c1 ?c2 ?c3 ?c4 ?c5 ?_))
      case c1=>intro q u hq;rw[uK,aCw,aCY];simpa using hq
      case c2=>intro u A;simp at A;subst A;rfl
      case c3=>unfold maxLen;omega
      case c4=>omega
      case c5=>simp;omega
      intro v' w1 c a _;have B1:=hid ((Wn.out.alloc hsd _).grown a (by simp;omega) (λk h=>(own.lt k h).1));rw[show aI tl++[.int .i64 (k:Nat)]=aI (tl++[k]) by simp[aI],show tl.length+1=(tl++[k]).length by simp,<-HY.out]at c;have O1:=hid c;clear c a own;go_wp2_with fail;go_roundw
      case rel=>exact⟨k+1,by omega,by go_num,B1.out,O1⟩
      case measure=>simp[intOf];omega
    ·obtain rfl:k=N:=by omega
     have O6:=t.out;rw[<-M4.out]at O6;have E9:(toS ns vs j).length<=k:=by rw[M4.out];exact Nv ns vs j k
     have L:=HL.out.keeps d;have E:=QT.out.below d hM;have k1:=E.c0;have BB:=hid f;obtain⟨X,xZ,hv6⟩:=ak O6;subst hv6;have h6:=hid (bQ O6 (B':=w.heap.size+1) (by omega));have sZ:=hid L;have T1:=hid E;have l1:=L.out;have asZ:=f.size;clear O6 t L E d HL QT f;generalize ZZ:(toS ns vs j).length=aeC at *;have Iu:Hid ((aI (toS ns vs j)).length=aeC):=hid (by rw[ny];exact ZZ);clear ZZ;go_wp2_with (at_builtin;go_must (refine aCE _ rfl (.tmp 46) (.tmp 48) 23 rfl (w.heap.size+1) 22 i1 (.slice none 0 0) 1 24 Tryz.underlying23 jU gJ gI gG rfl (by decide) _ _ _ rfl (l1.alloc _) ⟨wr.heap.size,0,none⟩ 1 1 [.slice X aeC xZ] rfl rfl ?d1 ?d2 (by decide) ?d3 ?d4 ?d5 _ rfl ?_))
     case d1=>intro q u hq;rw[uK,aCw,aCY];simpa using hq
     case d2=>intro u A;simp at A;subst A;rfl
     case d3=>unfold maxLen;omega
     case d4=>omega
     case d5=>simp;omega
     intro B D w2 c a G iy;have H:Below (w.heap.size+1) wr w2:=((aB4 _ _).alloc (by omega) _).grown a (by simp;omega) (λk h=>(l1.lt k h).1);have M:=nL (sZ.out.keeps ((aB4 _ _).alloc (aB2 _) (.cells #[.slice X aeC xZ] 22))) (by show World.ownsRow _ _ _ _ _ (aI (toS ns vs j)).length _;rw[Iu.out];exact h6.out.alloc _) (by decide) a c;have x:=T1.out.below H (by omega);have L3:=hid (M.set (k:=w.heap.size) (by omega) 0 (.slice (some ⟨B,0,none⟩) (j+1) D));have V1:=hid (x.set0 (.slice (some ⟨B,0,none⟩) (j+1) D));have e0:=x.c0;have e1:=x.f0;have Ws:=hid ((BB.out.trans (H.mono (by omega))).setCell (p:=⟨w.heap.size,0,none⟩) (aB2 _) (.slice (some ⟨B,0,none⟩) (j+1) D));clear c a G M x H l1 k1;go_wp2_with fail;go_roundw
     case rel=>exact⟨j+1,_,_,by omega,by go_num,Ws.out,V1.out,L3⟩
     case measure=>simp[intOf];omega
  ·obtain rfl:j=N:=by omega
   clear FO;go_wp2_with fail
   go_loopw [10] (λi wr=>∃ (p:Nat) (v2:Value) (V2:Nat->Value),p<=n/\i=.int .i64 p/\Below w.heap.size w wr/\Two wr w.heap.size K v2/\Hid (fZ wr (w.heap.size+1) 22 3 K j V (λq=>aI (toS ns vs q))) /\
     Hid (fZ wr (w.heap.size+1) 132 4 v2 p V2 (λq=>ax (yn ns vs q) j j))/\Hid (∀ i,i<p->∃ b,V2 i=.slice (some ⟨b,0,none⟩) j j)) (λi _=>n - (intOf i).toNat)
   case atStart=>exact⟨0,_,λ_=>.bool false,aCg _,rfl,hb,q1,HL,hid (uk _ _ _ _ _ _),hid (λi h=>by omega)⟩
   case round=>
    obtain⟨p,v2,V2,hp,rfl,y,O,Q3,rA,sW⟩:=hrel;rename World=>W3;have I:=O.lt;have NZ:=y.size;have k03:=(y.cell (p:=⟨F,0,none⟩) hF).trans k0;by_cases atl:p<n
    ·have Df:=hid O;clear O;go_wp2_with (at_make;go_must (refine aCI _ rfl (.tmp 62) (.tmp 62) 132 rfl (w.heap.size+1) 4 i2 (.bool false) 1 Tryz.underlying132 vF TV TT .i64 .i64 j j j rfl rfl rfl rfl ?m2 ?m3 I ?_))
     case m2=>rw[TR];omega
     case m3=>unfold maxLen;omega
     intro w1 aF aQ;have eo:(madeCells #[Value.bool false] j).toList=List.replicate j (.bool false):=aCy _ _;rw[eo,<-dm (yn ns vs p)]at aF;have aC:Below W3.heap.size W3 w1:=(aB4 _ _).grown aQ (aB2 _) (λk h=>by cases h);have OS:=hid aF;have aK:=hid aC;clear aF aQ eo aC;go_wp2_with fail
     go_loopw [12] (λi S=>∃ q:Nat,q<=j/\i=.int .i64 q/\Hid (S.ownsRow (w.heap.size+1) 4 1 (.slice (some ⟨W3.heap.size,0,none⟩) j j) j (ax (yn ns vs p) j q))/\Below W3.heap.size W3 S) (λi _=>j - (intOf i).toNat)
     case atStart=>exact⟨0,aCg _,rfl,OS,aK.out⟩
     case round=>
      obtain⟨q,hq,rfl,t,d⟩:=hrel;have f:Below w.heap.size w wr:=y.trans (d.mono NZ);by_cases zV:q<j
      ·have own:=t.out;have f0:=own.frozenAt q;have f1:(wr.cell? ⟨W3.heap.size,q,none⟩).isSome=true:=by
        rw[own.cellAt q (by omega)];simp[ax,zV]
       obtain⟨qv,f2⟩:=aCL.1 f1;have hO:=own.stored q (.bool (yn ns vs p q));rw[fJ]at hO;have nI:=hid hO.1;have aM:=hid (d.setCell (p:=⟨W3.heap.size,q,none⟩) (aB2 _) (.bool (yn ns vs p q)));obtain⟨l,e,J,cq⟩:=SC.out q zV;subst e;have cq':=(f.cell (p:=⟨l,q,none⟩) J).trans cq;have C:=KE.out wr q p f zV atl;have HKP:Hid (yn ns vs p q=iq (au ns p) p (aX vs q)):=hid rfl;clear hO f1 own t f;generalize iq (au ns p) p (aX vs q)=kv at *;go_wp2_with fail;refine C.mono ?_;rintro e w4 ⟨rfl,rfl⟩;clear C;go_wp2_with fail;go_roundw
       case rel=>
        have o:=nI.out;have g:=aM.out;rw[HKP.out]at o g;exact⟨q+1,by omega,by go_num,hid o,g⟩
       case measure=>simp[intOf];omega
      ·obtain rfl:q=j:=by omega
       have own:=t.out;have L1:=Q3.out.keeps d;have M:=rA.out.keeps d;have E:=Df.out.below d I;have k1:=E.c1;have BB:=hid f;have Fz:=hid own;have auv:=hid L1;have auu:=hid M;have T1:=hid E;have l2:=M.out;have asZ:=f.size;have azk:=d.size;clear own t L1 M E d Q3 rA Df f OS aK;go_wp2_with (at_builtin;go_must (refine aCE _ rfl (.tmp 84) (.tmp 86) 77 rfl (w.heap.size+1) 132 i3 (.slice none 0 0) 1 24 Tryz.underlying77 hi3 TU TS TQ rfl (by decide) _ _ _ rfl (l2.alloc _) ⟨wr.heap.size,0,none⟩ 1 1 [.slice (some ⟨W3.heap.size,0,none⟩) q q] rfl rfl ?d1 ?d2 (by decide) ?d3 ?d4 ?d5 _ rfl ?_))
       case d1=>intro z u hz;rw[uK,aCw,aCY];simpa using hz
       case d2=>intro u A;simp at A;subst A;rfl
       case d3=>unfold maxLen;omega
       case d4=>omega
       case d5=>simp;omega
       intro B D w2 c a G iy;have H:Below (w.heap.size+1) wr w2:=((aB4 _ _).alloc (by omega) _).grown a (by simp;omega) (λk h=>(l2.lt k h).1);have jI:(ax (yn ns vs p) q q).length=q:=by simp[ax]
       have A2:=auu.out.keeps ((aB4 _ _).alloc (aB2 _) (.cells #[.slice (some ⟨W3.heap.size,0,none⟩) q q] 132));have L3:=nL A2 (by show World.ownsRow _ _ _ _ _ (ax (yn ns vs p) q q).length _;rw[jI];exact Fz.out.alloc _) (by decide) a c;have L4:=(auv.out.keeps ((aB4 _ _).alloc (aB2 _) (.cells #[.slice (some ⟨W3.heap.size,0,none⟩) q q] 132))).grown A2.out a (by decide) (by decide);have x:=T1.out.below H (by omega);have L5:=hid (L3.set (k:=w.heap.size) (by omega) 1 (.slice (some ⟨B,0,none⟩) (p+1) D));have L6:=hid (L4.set (k:=w.heap.size) (by omega) 1 (.slice (some ⟨B,0,none⟩) (p+1) D));have V1:=hid (x.set1 (.slice (some ⟨B,0,none⟩) (p+1) D));have e0:=x.c1;have e1:=x.f1;have Ws:=hid ((BB.out.trans (H.mono (by omega))).setCell (p:=⟨w.heap.size,1,none⟩) (aB2 _) (.slice (some ⟨B,0,none⟩) (p+1) D));clear c a G L3 L4 A2 x H l2 k1 jI;go_wp2_with fail;go_roundw
       case rel=>
        refine⟨p+1,_,_,by omega,by go_num,Ws.out,V1.out,L6,L5,hid (λi r=>?_)⟩;by_cases e:i=p
        ·subst e;exact⟨W3.heap.size,by simp⟩
        ·simp only[aC1 e];exact sW.out i (by omega)
       case measure=>simp[intOf];omega
    ·obtain rfl:p=n:=by omega
     have NM:Hid (pI W3 w.heap.size j (toS ns vs) p (yn ns vs)):=hid ⟨I,⟨K,O.c0,IR Q3.out⟩,⟨v2,O.c1,(aji rA.out sW.out).brc⟩⟩;clear O;go_wp2_with fail;go_ret;exact⟨rfl,NM.out,y⟩
structure tJ (w:World) (R F gp cap:Nat) (ns:List Nd) (bs vs:List Nat):Prop where
 lt:R<w.heap.size
 fr:FR w F gp cap ns bs
 c0:w.cell? ⟨R,0,none⟩=some (.pointer (some ⟨F,0,none⟩))
 c1:∃ v,w.cell? ⟨R,1,none⟩=some v/\Q8 w v vs.length ns.length (aX vs)
 c2:∃ v,w.cell? ⟨R,2,none⟩=some v/\MU w v vs.length (toS ns vs)
theorem tJ.below{w w':World}{R F gp cap:Nat}{ns:List Nd}{bs vs:List Nat}(h:tJ w R F gp cap ns bs vs)(hb:Below w.heap.size w w'):tJ w' R F gp cap ns bs vs:=by
 obtain⟨a,b,c⟩:=h.c1;obtain⟨d,e,f⟩:=h.c2;exact⟨aCq h.lt hb.size,h.fr.below hb,(hb.cell (p:=⟨R,0,none⟩) h.lt).trans h.c0,⟨a,(hb.cell (p:=⟨R,1,none⟩) h.lt).trans b,c.below hb⟩,⟨d,(hb.cell (p:=⟨R,2,none⟩) h.lt).trans e,f.below hb⟩⟩
theorem FE(R F gp cap:Nat)(ns:List Nd)(bs vs:List Nat)(hd:Bool)(w:World)(h:tJ w R F gp cap ns bs vs)(hg:Good ns)(hM:vs.length<=256) :
  Calls Tryz.prog 76 #[.pointer (some ⟨R,0,none⟩),.bool hd] w λe w'=>∃ g,e=.returned (.slice (some ⟨g,0,none⟩) vs.length vs.length)/\Rb w' g vs.length (λi=>aX vs i (ns.length - 1)==hd)/\w.heap.size<=g/\Below w.heap.size w w'/\w'.ownsRow w.heap.size 4 1 (.slice (some ⟨g,0,none⟩) vs.length vs.length) vs.length (ax (λi=>aX vs i (ns.length - 1)==hd) vs.length vs.length):=by
 obtain⟨v1,J,ao,K,rfl,L,c⟩:=h.c1;have m:=h.lt;have N:=h.c0;have O:=h.fr.c0;have hF:=h.fr.PM;have P:=h.fr.hcap;have di:=hg.le;have y:=hg.pos;obtain⟨i0,q,Q,S,T⟩:=info_parts Tryz.dY;have U:=hid c;clear c h hg;generalize ns.length=n at *;obtain⟨a,rfl⟩:∃ a,n=a+1:=⟨n - 1,by omega⟩;rw[show a+1 - 1=a by omega];have V:IntKind.i64.wrap (((a+1:Nat):Int) - 1)=(a:Int):=by rw[IntKind.wrap_i64];omega
 generalize vs.length=M at *;go_enter Tryz.func76,Tryz.ntmps76;go_wp2_with (at_make;go_must (refine aCI _ rfl (.tmp 11) (.tmp 11) 132 rfl w.heap.size 4 i0 (.bool false) 1 Tryz.underlying132 q Q S .i64 .i64 M M M rfl rfl rfl rfl ?m2 ?m3 (aB2 _) ?_))
 case m2=>rw[T];omega
 case m3=>unfold maxLen;omega
 intro W r z;have A:(madeCells #[Value.bool false] M).toList=List.replicate M (.bool false):=aCy _ _;rw[A,<-dm (λi=>aX vs i a==hd)]at r;have B:Below w.heap.size w W:=(aB4 _ _).grown z (aB2 _) (λk h=>by cases h);have X:=hid r;have Y:=hid B;clear r z A B;go_wp2_with fail
 go_loopw [6] (λi C=>∃ k:Nat,k<=M/\i=.int .i64 k/\Hid (C.ownsRow w.heap.size 4 1 (.slice (some ⟨w.heap.size,0,none⟩) M M) M (ax (λi=>aX vs i a==hd) M k))/\Below w.heap.size w C) (λi _=>M - (intOf i).toNat)
 case atStart=>exact⟨0,aCg _,rfl,X,Y.out⟩
 case round=>
  obtain⟨k,hk,rfl,f,d⟩:=hrel;have Z:=(d.cell (p:=⟨R,1,none⟩) m).trans J;by_cases j:k<M
  ·obtain⟨s,e,D,E⟩:=U.out (by omega);subst e;obtain⟨b,G,t⟩:=E k j;have Hw:=(d.cell (p:=⟨s,k,none⟩) D).trans G;have zJ:=(d.cell (p:=⟨R,0,none⟩) m).trans N;have Ho:=(d.cell (p:=⟨F,0,none⟩) hF).trans O;have H:=t.lt;have cx:=(d.cell (p:=⟨b,a,none⟩) H).trans (t.cell a (by omega));have own:=f.out;have q0:=own.frozenAt k;have I:(wr.cell? ⟨w.heap.size,k,none⟩).isSome=true:=by
    rw[own.cellAt k (by omega)];simp[ax,j]
   obtain⟨qv,q2⟩:=aCL.1 I;have u:=own.stored k (.bool (aX vs k a==hd));rw[fJ (λi=>aX vs i a==hd)]at u;have nI:=hid u.1;have aM:=hid (d.setCell (p:=⟨w.heap.size,k,none⟩) (aB2 _) (.bool (aX vs k a==hd)));clear u I own f E G t;generalize aX vs k a=mv at *;have l:∀ (x o:Nat) {v:Value},x<w.heap.size->wr.cell? ⟨x,o,none⟩=some v->(wr.setCell ⟨w.heap.size,k,none⟩ (.bool (mv==hd))).drew.cell? ⟨x,o,none⟩=some v:=λx o v hx hv=>by
    show (wr.setCell ⟨w.heap.size,k,none⟩ (.bool (mv==hd))).cell? ⟨x,o,none⟩=some v;rw[aB8 _ _ _ _ (λe=>by have:=congrArg Addr.block e;simp at this;omega)];exact hv
   have z1:(0:Int)<=(k:Int):=Int.natCast_nonneg _;have z2:(k:Int)<(M:Int):=by omega
   have z3:(0:Int)<=(a:Int):=Int.natCast_nonneg _;have z4:(a:Int)<((a+1:Nat):Int):=by omega
   have wr2:IntKind.i64.wrap (a:Int)=(a:Int):=by rw[IntKind.wrap_i64];omega
   have wr3:IntKind.i64.wrap ((a:Int)+1 - 1)=(a:Int):=by rw[IntKind.wrap_i64];omega
   have z5:(a:Int)<(a:Int)+1:=by omega
   go_wp2_with fail
   go_region_held3 (λw'=>w'.cell? ⟨R,1,none⟩=some (.slice (some ⟨s,0,none⟩) M K)/\w'.cell? ⟨s,k,none⟩=some (.slice (some ⟨b,0,none⟩) (a+1) (a+1))/\w'.cell? ⟨R,0,none⟩=some (.pointer (some ⟨F,0,none⟩))/\w'.cell? ⟨F,0,none⟩=some (.slice (some ⟨gp,0,none⟩) (a+1) cap)/\w'.cell? ⟨b,a,none⟩=some (.bool mv))
    (first
     | go_keep
     | exact⟨l _ _ m Z,l _ _ D Hw,l _ _ m zJ,l _ _ hF Ho,l _ _ H cx⟩)
    (fail)
   go_wp2_with fail;go_roundw
   case rel=>exact⟨k+1,by omega,by go_num,hid (ai nI.out (aCl (aB4 _ _) 1)),aCl aM.out 1⟩
   case measure=>simp[intOf];omega
  ·obtain rfl:k=M:=by omega
   have RB:Hid (Rb wr w.heap.size k (λi=>aX vs i a==hd)):=hid ⟨(f.out.lt _ rfl).2,λi q=>by rw[f.out.cellAt i (by omega)];exact kV _ _ _ q⟩;go_wp2_with fail;go_ret;exact⟨w.heap.size,rfl,RB.out,aB2 _,d,f.out⟩
theorem FH(R F gp cap:Nat)(ns:List Nd)(bs vs:List Nat)(hd:Bool)(w:World)(h:tJ w R F gp cap ns bs vs)(hg:Good ns)(hM:vs.length<=256) :
  Calls Tryz.prog 76 #[.pointer (some ⟨R,0,none⟩),.bool hd] w λe w'=>∃ g,e=.returned (.slice (some ⟨g,0,none⟩) vs.length vs.length)/\Rb w' g vs.length (λi=>aX vs i (ns.length - 1)==hd)/\w.heap.size<=g/\Below w.heap.size w w':=
 (FE R F gp cap ns bs vs hd w h hg hM).mono λe w' ⟨g,h1,h2,h3,h4,_⟩=>⟨g,h1,h2,h3,h4⟩
section
variable (ns:List Nd) (vs:List Nat) (f:Nat->Bool) (a:Nat)
def iU(i j:Nat):Bool:=(List.range i).any λq=>f q&&iR ns (aX vs q) a&&decide (j∈toS ns vs q)
def BP(i k j:Nat):Bool:=iU ns vs f a i j||decide (j∈(toS ns vs i).take k)
theorem ajB{i:Nat}(h:(f i&&iR ns (aX vs i) a)=false)(j:Nat):iU ns vs f a (i+1) j=iU ns vs f a i j:=by
 simp[iU,aCT,List.any_append,h]
theorem abI(i j:Nat):BP ns vs f a i 0 j=iU ns vs f a i j:=by simp[BP]
theorem abJ{i k:Nat}(hk:k<(toS ns vs i).length):upd (BP ns vs f a i k) (bZ (toS ns vs i) k) true=BP ns vs f a i (k+1):=by
 funext j;have e:(toS ns vs i).take (k+1)=(toS ns vs i).take k++[bZ (toS ns vs i) k]:=by
  rw[List.take_succ_eq_append_getElem hk];simp[bZ,List.getD,aB3 hk]
 unfold upd BP;rw[e];by_cases b:j=bZ (toS ns vs i) k
 ·rw[aC2 b];simp[b]
 ·rw[aC1 b];simp[b]
theorem afu{i:Nat}(h:(f i&&iR ns (aX vs i) a)=true)(j:Nat):BP ns vs f a i (toS ns vs i).length j=iU ns vs f a (i+1) j:=by
 unfold BP iU;rw[List.take_length,aCT,List.any_append];simp[h]
end
theorem KU{ns:List Nd}{vs:List Nat}{i b:Nat}(h:b∈toS ns vs i):b<vs.length:=by
 unfold toS uj at h;rw[List.mem_filter,aCQ]at h;exact h.1
theorem zf(ns:List Nd)(vs:List Nat)(i:Nat):(toS ns vs i).length<=vs.length:=Nv ns vs i vs.length
theorem Td(R F gp cap gl a:Nat)(ns:List Nd)(bs vs:List Nat)(f:Nat->Bool)(w:World)(h:tJ w R F gp cap ns bs vs)(hg:Good ns)(hM:vs.length<=256)(ha:a<8)(hf:Rb w gl vs.length f) :
  Calls Tryz.prog 78 #[.pointer (some ⟨R,0,none⟩),.slice (some ⟨gl,0,none⟩) vs.length vs.length,.int .i64 a] w λe w'=>∃ g,e=.returned (.slice (some ⟨g,0,none⟩) vs.length vs.length)/\Rb w' g vs.length (iU ns vs f a vs.length)/\w.heap.size<=g/\Below w.heap.size w w'/\w'.ownsRow w.heap.size 4 1 (.slice (some ⟨g,0,none⟩) vs.length vs.length) vs.length (ax (iU ns vs f a vs.length) vs.length vs.length):=by
 obtain⟨v1,a1,ao,ay,rfl,hsc,d⟩:=h.c1;obtain⟨v2,L,kZ,bJ,rfl,htc,N⟩:=h.c2;have x:=h.lt;have r0:=h.c0;have di:=hg.le;have Iu:=hid (λi=>zf ns vs i);have lq:=hid (λi b=>KU (ns:=ns) (vs:=vs) (i:=i) (b:=b));obtain⟨i0,y,aT,aP,aO⟩:=info_parts Tryz.dY;have KN:=hid d;have z:=hid N;have RD:=hid (λ(W:World) (b:Nat) S (h1:Below w.heap.size w W) (h2:Rb W b ns.length S)=>DJ F gp cap b ns.length ns bs S W a ha (h.fr.below h1) h2 hg (aB2 _));have lL:=hf.lt;have YK:=hid hf.cell;clear d N h hg hf;generalize ns.length=n at *;generalize vs.length=M at *;go_enter Tryz.func78,Tryz.ntmps78;go_wp2_with (at_make;go_must (refine aCI _ rfl (.tmp 12) (.tmp 12) 132 rfl w.heap.size 4 i0 (.bool false) 1 Tryz.underlying132 y aT aP .i64 .i64 M M M rfl rfl rfl rfl ?m2 ?m3 (aB2 _) ?_))
 case m2=>rw[aO];omega
 case m3=>unfold maxLen;omega
 intro w1 A O;have P:(madeCells #[Value.bool false] M).toList=List.replicate M (.bool false):=aCy _ _;rw[P,<-dm (λ_=>false),show ax (λ_=>false) M 0=ax (iU ns vs f a 0) M M by simp[ax,iU]]at A;have Q:Below w.heap.size w w1:=(aB4 _ _).grown O (aB2 _) (λk h=>by cases h);have OS:=hid A;have aK:=hid Q;clear A O P Q;go_wp2_with fail
 go_loopw [8] (λi o=>∃ q:Nat,q<=M/\i=.int .i64 q/\Hid (o.ownsRow w.heap.size 4 1 (.slice (some ⟨w.heap.size,0,none⟩) M M) M (ax (iU ns vs f a q) M M))/\Below w.heap.size w o) (λi _=>M - (intOf i).toNat)
 case atStart=>exact⟨0,aCg _,rfl,OS,aK.out⟩
 case round=>
  obtain⟨q,hq,rfl,s,c⟩:=hrel;rename World=>W0;by_cases B:q<M
  ·obtain⟨gs,e,nD,T⟩:=KN.out (by omega);subst e;obtain⟨b,U,D⟩:=T q B;have Hw:=(c.cell (p:=⟨gs,q,none⟩) nD).trans U;have zJ:=(c.cell (p:=⟨R,0,none⟩) x).trans r0;have MO:=(c.cell (p:=⟨R,1,none⟩) x).trans a1;have V:=(c.cell (p:=⟨gl,q,none⟩) lL).trans (YK.out q B);have E:=D.below c;have C:=λm=>RD.out (W0.drewN m) b (aX vs q) (aCl c m) ((D.below c).drewN m);have X:=hid (ajB ns vs f a (i:=q));have Y:=hid (afu ns vs f a (i:=q));clear T U D E;generalize iR ns (aX vs q) a=rv at *;generalize f q=fv at *;go_wp2_with fail
   go_quiet ((go_at_call 81;exact Calls.quiet_of_same (C _)))
   have t:=hid (aCl c nq);have G:=hid (ai s.out (aCl (aB4 W0.heap.size W0) nq));have cl2:(W0.drewN nq).cell? ⟨gl,q,none⟩=some (.bool fv):=V;clear C s V;by_cases j:(fv&&rv)=true
   ·obtain⟨rfl,rfl⟩:fv=true/\rv=true:=by cases fv <;> cases rv <;> simp_all
    obtain⟨Z,e,oO,Gq⟩:=z.out (by omega);subst e;obtain⟨r,cr,aor,qI,rfl,hrc,qR⟩:=Gq q B;have kK:=hid qR;have BH:=hid cr;have jI:=Iu.out q;have rZ:=hid L;have HZ:Hid (ax (iU ns vs f a q) M M=ax (BP ns vs f a q 0) M M):=hid (sH (λi _=>(abI ns vs f a q i).symm));have qa:=hid (λk=>abJ ns vs f a (i:=q) (k:=k));have H:Hid (ax (BP ns vs f a q (toS ns vs q).length) M M=ax (iU ns vs f a (q+1)) M M):=hid (sH (λi _=>Y.out rfl i));have JR:=hid (λb=>lq.out q b);clear j Gq qR cr X Y;generalize nY:(toS ns vs q).length=ln at *;have bW:=hid nY;clear nY Hw zJ MO;have a22:=(t.out.cell (p:=⟨R,2,none⟩) x).trans L;have cr2:=(t.out.cell (p:=⟨Z,q,none⟩) oO).trans BH.out;generalize W0.drewN nq=W1 at *;go_wp2_with fail
    go_loopw [10] (λi o=>∃ k:Nat,k<=ln/\i=.int .i64 k/\Hid (o.ownsRow w.heap.size 4 1 (.slice (some ⟨w.heap.size,0,none⟩) M M) M (ax (BP ns vs f a q k) M M))/\Below w.heap.size w o) (λi _=>ln - (intOf i).toNat)
    case atStart=>exact⟨0,aCg _,rfl,by rw[<-HZ.out];exact G,t.out⟩
    case round=>
     obtain⟨k,hk,rfl,I,u⟩:=hrel;have a23:=(u.cell (p:=⟨R,2,none⟩) x).trans rZ.out;have cr3:=(u.cell (p:=⟨Z,q,none⟩) oO).trans BH.out;by_cases l:k<ln
     ·obtain⟨gr,e,J,Hr⟩:=kK.out (by omega);subst e;have cb3:=(u.cell (p:=⟨gr,k,none⟩) J).trans (Hr k l);have CQ:=JR.out _ (oq (show k<(toS ns vs q).length by rw[bW.out];exact l));have own:=I.out;have e2:=qa.out k l;have q0:=own.frozenAt (bZ (toS ns vs q) k);have q1:(wr.cell? ⟨w.heap.size,bZ (toS ns vs q) k,none⟩).isSome=true:=by
       rw[own.cellAt _ (by omega)];simp[ax,CQ]
      obtain⟨qv,q2⟩:=aCL.1 q1;have K:=own.stored (bZ (toS ns vs q) k) (.bool true);rw[AU,e2]at K;have JL:=hid K.1;have dW:=hid (u.setCell (p:=⟨w.heap.size,bZ (toS ns vs q) k,none⟩) (aB2 _) (.bool true));clear K q1 own I Hr e2;generalize bZ (toS ns vs q) k=b2 at *;go_wp2_with fail;go_roundw
      case rel=>exact⟨k+1,by omega,by go_num,JL,dW.out⟩
      case measure=>simp[intOf];omega
     ·obtain rfl:k=ln:=by omega
      go_wp2_with fail;go_roundw
      case rel=>exact⟨q+1,by omega,by go_num,by rw[<-H.out];exact I,u⟩
      case measure=>simp[intOf];omega
   ·have v:(fv&&rv)=false:=by simpa using j
    have HE:Hid (ax (iU ns vs f a (q+1)) M M=ax (iU ns vs f a q) M M):=hid (sH (λi _=>X.out v i));clear j;generalize W0.drewN nq=W1 at *;cases fv
    ·go_wp2_with fail;go_roundw
     case rel=>exact⟨q+1,by omega,by go_num,by rw[HE.out];exact G,t.out⟩
     case measure=>simp[intOf];omega
    ·cases rv
     ·go_wp2_with fail;go_roundw
      case rel=>exact⟨q+1,by omega,by go_num,by rw[HE.out];exact G,t.out⟩
      case measure=>simp[intOf];omega
     ·cases v
  ·obtain rfl:q=M:=by omega
   have RB:Hid (Rb W0 w.heap.size q (iU ns vs f a q)):=hid ⟨(s.out.lt _ rfl).2,λi y=>by rw[s.out.cellAt i (by omega)];exact kV _ _ _ y⟩;go_wp2_with fail;go_ret;exact⟨w.heap.size,rfl,RB.out,aB2 _,c,s.out⟩
theorem akV(R F gp cap gl a:Nat)(ns:List Nd)(bs vs:List Nat)(f:Nat->Bool)(w:World)(h:tJ w R F gp cap ns bs vs)(hg:Good ns)(hM:vs.length<=256)(ha:a<8)(hf:Rb w gl vs.length f) :
  Calls Tryz.prog 78 #[.pointer (some ⟨R,0,none⟩),.slice (some ⟨gl,0,none⟩) vs.length vs.length,.int .i64 a] w λe w'=>∃ g,e=.returned (.slice (some ⟨g,0,none⟩) vs.length vs.length)/\Rb w' g vs.length (iU ns vs f a vs.length)/\w.heap.size<=g/\Below w.heap.size w w':=
 (Td R F gp cap gl a ns bs vs f w h hg hM ha hf).mono λe w' ⟨g,h1,h2,h3,h4,_⟩=>⟨g,h1,h2,h3,h4⟩
def jJ(f:Nat->Bool)(N:Nat):Bool:=(List.range N).all λi=>!f i
theorem Gb{f:Nat->Bool}{N:Nat}:jJ f N=true↔∀ i,i<N->f i=false:=by simp[jJ,List.all_eq_true]
theorem afx{f:Nat->Bool}{N i:Nat}(hi:i<N)(h:f i=true):jJ f N=false:=by
 cases e:jJ f N with
 | false=>rfl
 | true=>rw[Gb]at e;rw[e i hi]at h;cases h
def Du(y n:Bool):Nat:=if y=true then 2 else if n=true then 1 else 0
theorem Tj(g N:Nat)(f:Nat->Bool)(w:World)(h:Rb w g N f)(hN:N<=1099511627776):Calls Tryz.prog 139 #[.slice (some ⟨g,0,Option.none⟩) N N] w λe w'=>e=.returned (.bool (jJ f N))/\w'=w:=by
 go_enter Tryz.func139,Tryz.ntmps139;go_wp2_with fail
 go_loop [3] (λi=>∃ j:Nat,j<=N/\i=.int .i64 j/\Hid (∀ k,k<j->f k=false)) (λi=>N - (intOf i).toNat)
 case atStart=>exact⟨0,aCg _,rfl,hid (λk b=>by omega)⟩
 case round=>
  obtain⟨j,o,rfl,d⟩:=hrel;by_cases a:j<N
  ·have c:=h.cell j a;cases hv:f j with
   | true=>
    rw[hv]at c;have l:=hid (afx a hv);clear hv;go_wp2_with fail;go_ret;exact⟨by rw[l.out];rfl,rfl⟩
   | false=>
    rw[hv]at c;have m:=hid hv;clear hv;go_wp2_with fail
    go_round
    case rel=>
     refine⟨j+1,by omega,by go_num,hid (λk b=>?_)⟩;by_cases e:k<j
     ·exact d.out k e
     ·rw[show k=j by omega];exact m.out
    case measure=>simp[intOf];omega
  ·have n:=hid (Gb.2 (λk b=>d.out k (by omega)):jJ f N=true);go_wp2_with fail;go_ret;exact⟨by rw[n.out];rfl,rfl⟩
theorem RY(g h N:Nat)(y n:Nat->Bool)(w:World)(hy:Rb w g N y)(hn:Rb w h N n)(hN:N<=1099511627776) :
  Calls Tryz.prog 104 #[.slice (some ⟨g,0,Option.none⟩) N N,.slice (some ⟨h,0,Option.none⟩) N N] w λe w'=>e=.returned (.int .i64 (Du (jJ y N) (jJ n N):Nat))/\w'=w:=by
 have A:=Tj g N y w hy hN;have B:=Tj h N n w hn hN;generalize jJ y N=a at *;generalize jJ n N=b at *;cases a <;> cases b
 all_goals
  go_enter Tryz.func104,Tryz.ntmps104;go_wp2_with fail;refine A.mono ?_;rintro e c ⟨rfl,rfl⟩;go_wp2_with fail;refine B.mono ?_;rintro e c ⟨rfl,rfl⟩;go_wp2_with fail;go_ret;exact⟨rfl,rfl⟩
