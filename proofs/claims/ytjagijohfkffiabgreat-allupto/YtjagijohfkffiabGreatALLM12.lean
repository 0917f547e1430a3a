import Derived.Test.YtjagijohfkffiabGreatALLM11
set_option maxHeartbeats 16000000
set_option maxRecDepth 100000
set_option linter.unusedSimpArgs false
namespace Go.Proofs.YtjagijohfkffiabGreat
open Go.RowKit
set_option linter.unusedVariables false
theorem amU(S:Nat->Bool)(n:Nat):dU n S (lY (Bt S n)):=λk hk=>(ady S n k hk).symm
theorem Hd{ns:List Nd}{v:Nat}:yO ns v=true↔Bn ns (lY v)/\∃ x,x<8/\tu ns (lY v) x:=by
 unfold yO;rw[aCH,ac5,List.any_eq_true];constructor
 ·rintro ⟨h,x,a,b⟩;exact⟨h,x,aCQ.1 a,oM.1 b⟩
 ·rintro ⟨h,x,a,b⟩;exact⟨h,x,aCQ.2 a,oM.2 b⟩
theorem KI{ns:List Nd}(hw:iH ns):Jf ns (dX ns (2 ^ ns.length)).length (aX (dX ns (2 ^ ns.length))):=by
 have b:∀ i,i<(dX ns (2 ^ ns.length)).length->yO ns (bZ (dX ns (2 ^ ns.length)) i)=true:=λi a=>(List.mem_filter.1 (oq a)).2;refine⟨λi a=>(Hd.1 (b i a)).1,λi a=>(Hd.1 (b i a)).2,λS x c d f=>?_⟩;have e:=amU S ns.length;have g:Bt S ns.length∈dX ns (2 ^ ns.length):=List.mem_filter.2 ⟨aCQ.2 (Vt S ns.length),Hd.2 ⟨Es hw e d,x,c,DK e f⟩⟩;obtain⟨i,a,h⟩:=zh g;exact⟨i,a,by unfold aX;rw[h];exact e⟩
theorem Yl(ns:List Nd)(vs:List Nat):Ed vs.length (toS ns vs)=I7 ns vs.length (aX vs):=by
 funext i j;apply propext;unfold Ed I7 toS uj;rw[List.mem_filter,aCQ,En]
theorem ajV(ns:List Nd)(vs:List Nat)(c:Nat):GN vs.length (toS ns vs) ns.length (yn ns vs) c↔ze (I7 ns vs.length (aX vs)) (Rx ns (aX vs)) ns.length c:=by
 unfold GN;rw[Yl];exact Iff.rfl
theorem Ru{ns:List Nd}(hw:iH ns){out:Nat->Bool}(h:∀ i,out i=true↔∃ c,c<(dX ns (2 ^ ns.length)).length/\reach (Ed (dX ns (2 ^ ns.length)).length (toS ns (dX ns (2 ^ ns.length)))) i c/\GN (dX ns (2 ^ ns.length)).length (toS ns (dX ns (2 ^ ns.length))) ns.length (yn ns (dX ns (2 ^ ns.length))) c)
  {i:Nat} (hi:i<(dX ns (2 ^ ns.length)).length):out i=true↔chain ns [] (aX (dX ns (2 ^ ns.length)) i):=by
 rw[h,ab0 hw (KI hw) hi,Yl];simp only[ajV]
def iX(vs:List Nat)(good:Nat->Bool)(j:Nat):List Nat:=((List.range j).filter good).map (bZ vs)
theorem afj(vs:List Nat)(good:Nat->Bool)(j:Nat):(iX vs good j).length<=j:=by
 have:=List.length_filter_le good (List.range j);simpa [iX] using this
theorem abY{ns:List Nd}(hw:iH ns){vs:List Nat}(hA:Jf ns vs.length (aX vs)){good:Nat->Bool}(hg:∀ i,i<vs.length->(good i=true↔chain ns [] (aX vs i))) :
  gB ns (iX vs good vs.length).length (aX (iX vs good vs.length)):=by
 refine⟨λi b=>?_,λS h=>?_⟩
 ·have c:=oq b;unfold iX at c;obtain⟨q,a,e⟩:=aCU.1 c;obtain⟨j,d⟩:=List.mem_filter.1 a;have:=(hg q (aCQ.1 j)).1 d;unfold aX at this ⊢;rw[e]at this;exact this
 ·obtain⟨x,l,f,g,a⟩:=h;obtain⟨m,n,_⟩:=(lw hw _ _ _).1 (g.step 0);obtain⟨i,b,e⟩:=hA.all S (x 0) (f 0) (Es hw a m) (DK a n);have o:=(hg i b).2 (Cg hw e ⟨x,l,f,g,a⟩);have c:bZ vs i∈iX vs good vs.length:=aCU.2 ⟨i,List.mem_filter.2 ⟨aCQ.2 b,o⟩,rfl⟩;obtain⟨k,p,r⟩:=zh c;refine⟨k,p,?_⟩;unfold aX at e ⊢;rw[r];exact e
def Aj(ns:List Nd)(vs:List Nat):List Nat->(Nat->Bool)->Nat->Bool
 | [],f=>f
 | a::u,f=>Aj ns vs u (iU ns vs f a vs.length)
theorem akU(ns:List Nd)(vs:List Nat)(f:Nat->Bool)(a j:Nat):iU ns vs f a vs.length j=true↔PI ns vs.length (aX vs) (λi=>i<vs.length/\f i=true) a j:=by
 unfold iU PI;rw[List.any_eq_true];constructor
 ·rintro ⟨q,b,h⟩;simp only[aCH,aCZ]at h;obtain⟨⟨d,e⟩,c⟩:=h;unfold toS uj at c;rw[List.mem_filter,aCQ,En]at c;have b:=aCQ.1 b;exact⟨c.1,q,b,⟨b,d⟩,oM.1 e,c.2⟩
 ·rintro ⟨g,q,b,d,e,c⟩;refine⟨q,aCQ.2 b,?_⟩;simp only[aCH,aCZ];refine⟨⟨d.2,oM.2 e⟩,?_⟩;unfold toS uj;rw[List.mem_filter,aCQ,En];exact⟨g,c⟩
theorem MM(ns:List Nd)(vs:List Nat):∀ (u:List Nat) (f:Nat->Bool) (j:Nat),j<vs.length/\Aj ns vs u f j=true↔vV ns vs.length (aX vs) u (λi=>i<vs.length/\f i=true) j
 | [],f,j=>Iff.rfl
 | a::u,f,j=>by
  show j<vs.length/\Aj ns vs u (iU ns vs f a vs.length) j=true↔vV ns vs.length (aX vs) u (PI ns vs.length (aX vs) (λi=>i<vs.length/\f i=true) a) j;rw[MM ns vs u];have e:(λi=>i<vs.length/\iU ns vs f a vs.length i=true)=PI ns vs.length (aX vs) (λi=>i<vs.length/\f i=true) a:=by
   funext i;apply propext;rw[akU];exact⟨λh=>h.2,λh=>⟨h.1,h⟩⟩
  rw[e]
theorem Ti{ns:List Nd}(hg:Good ns){vs:List Nat}(hL:gB ns vs.length (aX vs))(u:List Nat)(hu:∀ x∈u,x<8)(b:Bool) :
  jJ (Aj ns vs u (λi=>aX vs i (ns.length - 1)==b)) vs.length=false↔May ns u b:=by
 rw[<-RX hg hL u hu b];have e:(λi=>i<vs.length/\aX vs i (ns.length - 1)=b)=(λi=>i<vs.length/\(aX vs i (ns.length - 1)==b)=true):=by
  funext i;rw[beq_iff_eq]
 rw[e];rw[<-Bool.not_eq_true,Gb];constructor
 ·intro h;apply aCx;intro c;refine h (λi d=>?_);cases hv:Aj ns vs u (λi=>aX vs i (ns.length - 1)==b) i with
  | false=>rfl
  | true=>exact absurd ⟨i,(MM ns vs u _ i).1 ⟨d,hv⟩⟩ c
 ·rintro ⟨j,f⟩ a;have:=(MM ns vs u _ j).2 f;rw[a j this.1]at this;cases this.2
structure VH (to:Nat->List Nat) (i k:Nat) (tl:Nat->List Nat):Prop where
 mem:∀ j a,a∈tl j↔(a<i/\j∈to a)\/(a=i/\j∈(to i).take k)
 len:∀ j,(tl j).length<=8*i+((to i).take k).count j
def RU(f:Nat->List Nat)(b:Nat)(l:List Nat):Nat->List Nat:=λi=>if i=b then l else f i
theorem aeB(to:Nat->List Nat):VH to 0 0 (λ_=>[]):=⟨λj a=>by simp,λj=>by simp⟩
theorem aiN{to:Nat->List Nat}{i k:Nat}{tl:Nat->List Nat}(h:VH to i k tl)(hk:k<(to i).length):VH to i (k+1) (RU tl (bZ (to i) k) (tl (bZ (to i) k)++[i])):=by
 have e:(to i).take (k+1)=(to i).take k++[bZ (to i) k]:=by
  rw[List.take_succ_eq_append_getElem hk];simp[bZ,List.getD,aB3 hk]
 refine⟨λj a=>?_,λj=>?_⟩
 ·rw[e];unfold RU;by_cases c:j=bZ (to i) k
  ·rw[aC2 c,aCG,<-c,h.mem];simp only[List.mem_singleton,aCG];constructor
   ·rintro ((b | b) | b)
    ·exact aCa b
    ·exact aCb ⟨b.1,aCa b.2⟩
    ·exact aCb ⟨b,aCb trivial⟩
   ·rintro (b | ⟨b,d | d⟩)
    ·exact aCa (aCa b)
    ·exact aCa (aCb ⟨b,d⟩)
    ·exact aCb b
  ·rw[aC1 c,h.mem];simp only[aCG,List.mem_singleton,c,or_false]
 ·rw[e,List.count_append];have:=h.len j;unfold RU;by_cases c:j=bZ (to i) k
  ·rw[aC2 c,aCd,aCv,<-c];simp only[List.count_singleton,beq_self_eq_true,if_true];omega
  ·rw[aC1 c];omega
theorem aiO{to:Nat->List Nat}{i:Nat}{tl:Nat->List Nat}(h:VH to i (to i).length tl)(hc:∀ j,(to i).count j<=8):VH to (i+1) 0 tl:=by
 refine⟨λj a=>?_,λj=>?_⟩
 ·rw[h.mem,List.take_length];simp only[List.take_zero,List.not_mem_nil,and_false,or_false];constructor
  ·rintro (⟨c,b⟩ | ⟨rfl,b⟩)
   ·exact⟨by omega,b⟩
   ·exact⟨by omega,b⟩
  ·rintro ⟨c,b⟩;by_cases e:a=i
   ·subst e;exact aCb ⟨rfl,b⟩
   ·exact aCa ⟨by omega,b⟩
 ·have c:=h.len j;rw[List.take_length]at c;have:=hc j;simp;omega
structure MP (w:World) (B0 B g2 N:Nat) (V:Nat->Value) (tl:Nat->List Nat):Prop where
 out:w.ownsRow B0 22 1 (.slice (some ⟨g2,0,none⟩) N N) N ((List.range N).map V)
 row:∀ j,j<N->w.ownsRow B 3 1 (V j) (tl j).length (aI (tl j))
 sep:∀ i j,i<N->j<N->i≠j->(V i).ownBlock=none\/(V i).ownBlock≠(V j).ownBlock
theorem MP.keeps{w w':World}{B0 B g2 N:Nat}{V:Nat->Value}{tl:Nat->List Nat}(h:MP w B0 B g2 N V tl)(hb:Below w.heap.size w w'):MP w' B0 B g2 N V tl:=⟨ai h.out hb,λj hj=>ai (h.row j hj) hb,h.sep⟩
theorem abB(V:Nat->Value)(N b:Nat)(x:Value):((List.range N).map V).set b x=(List.range N).map (λi=>if i=b then x else V i):=by
 apply List.ext_getElem
 ·simp
 ·intro i a c;simp at a;rw[List.getElem_set];simp only[List.getElem_map,List.getElem_range];by_cases e:b=i
  ·rw[aC2 e,aC2 e.symm]
  ·rw[aC1 e,aC1 (λh=>e h.symm)]
theorem aeA{w w1:World}{B0 B g2 N:Nat}{V:Nat->Value}{tl:Nat->List Nat}(h:MP w B0 B g2 N V tl){b a gg cc:Nat}(hb:b<N)(hgrow:w.grownBy w1 (V b).ownBlock)
  (hown:w1.ownsRow B 3 1 (.slice (some ⟨gg,0,none⟩) ((tl b).length+1) cc) ((tl b).length+1) (aI (tl b)++[.int .i64 (a:Nat)])) (hat:(V b).ownBlock=some gg\/gg=w.heap.size) :
  MP (w1.setCell ⟨g2,b,none⟩ (.slice (some ⟨gg,0,none⟩) ((tl b).length+1) cc)) B0 B g2 N (λi=>if i=b then .slice (some ⟨gg,0,none⟩) ((tl b).length+1) cc else V i) (RU tl b (tl b++[a])):=by
 have g:∀ j,j<N->j≠b->(V j).ownBlock=none\/(V j).ownBlock≠some gg:=by
  intro j d c;rcases hat with e | e
  ·rw[<-e];exact h.sep j b d hb c
  ·cases ho:(V j).ownBlock with
   | none=>exact aCa rfl
   | some q=>
    have:=((h.row j d).lt q ho).2;exact aCb (λf=>by cases f;omega)
 have p:=h.out.kept hgrow (aY h.out (h.row b hb) (by decide));have o:=p.stored b (.slice (some ⟨gg,0,none⟩) ((tl b).length+1) cc);rw[abB]at o;have c:∀ (v:Value) (n:Nat) (xs:List Value),w1.ownsRow B 3 1 v n xs->(w1.setCell ⟨g2,b,none⟩ (.slice (some ⟨gg,0,none⟩) ((tl b).length+1) cc)).ownsRow B 3 1 v n xs:=by
  intro v n xs r;exact r.kept o.2 (aY r p (by decide))
 refine⟨o.1,λj d=>?_,λi j s d l=>?_⟩
 ·unfold RU;by_cases e:j=b
  ·subst e;simp only[if_true];have:=c _ _ _ hown;rw[show aI (tl j)++[.int .i64 (a:Nat)]=aI (tl j++[a]) by simp[aI]]at this;rw[aCd,aCv];exact this
  ·simp only[aC1 e];exact c _ _ _ ((h.row j d).kept hgrow (h.sep j b d hb e))
 ·by_cases m:i=b
  ·have f:j≠b:=λe=>l (m.trans e.symm);simp only[aC2 m,aC1 f]
   right
   intro e;rcases g j d f with k | k
   ·rw[k]at e;simp[Value.ownBlock]at e
   ·exact k e.symm
  ·by_cases f:j=b
   ·simp only[aC1 m,aC2 f];exact g i s m
   ·simp only[aC1 m,aC1 f];exact h.sep i j s d l
theorem PE{a B:Nat}{e:TypeId}{s:Nat}{v:Value}{n:Nat}{xs:List Value}{w w':World}(h:w.ownsRow B e s v n xs)(hs:lm a w w')(ha:a<=B):w'.ownsRow B e s v n xs:=by
 refine⟨h.1,?_⟩;rcases h.2 with h0 | ⟨g,cap,cur,ev,hb,hg,r⟩
 ·exact aCa h0
 ·exact aCb ⟨g,cap,cur,ev,hb,(hs.block g (aCW ha hb) (dC hg)).trans hg,r⟩
theorem lm.cell{a:Nat}{w w':World}(hs:lm a w w'){x o:Nat}(h1:a<=x)(h2:x<w.heap.size):w'.cell? ⟨x,o,none⟩=w.cell? ⟨x,o,none⟩:=by
 have:=hs.block x h1 h2;unfold World.cell?;simp only[this]
theorem YY(P N K:Nat)(to:Nat->List Nat)(kp:Nat->Nat->Bool)(w:World)(hn:pI w P N to K kp)(hN0:0<N)(hto:∀ a,a<N->∀ b∈to a,b<N)(hlen:∀ a,a<N->(to a).length<=4398046511104)(zY:∀ a,a<N->∀ j,(to a).count j<=8)(hN:N<=274877906944) :
  Calls Tryz.prog 123 #[.pointer (some ⟨P,0,none⟩)] w λe w'=>∃ P2 tl,e=.returned (.pointer (some ⟨P2,0,none⟩))/\(∀ w2,lm w.heap.size w' w2->pI w2 P2 N tl 0 kp)/\(∀ j a,a∈tl j↔a<N/\j∈to a)/\(∀ j,(tl j).length<=8*N)/\Below w.heap.size w w':=by
 obtain⟨v0,c0,ao,cap,rfl,hcap,y⟩:=hn.c0;obtain⟨g,rfl,hg,n⟩:=y (by omega);have hP:=hn.lt;have HC:=hid n;obtain⟨i0,O,aT,aP,aO⟩:=info_parts Tryz.wP;obtain⟨i1,jU,gJ,gI,gG⟩:=info_parts Tryz.mE;have BC:=hid hto;have Nj:=hid hlen;have YO:=hid zY;clear n y hn hto hlen zY;go_enter Tryz.func123,Tryz.ntmps123;go_wp2_with (at_make;go_must (refine aCI _ rfl (.tmp 10) (.tmp 10) 23 rfl w.heap.size 22 i0 (.slice none 0 0) 1 Tryz.underlying23 O aT aP .i64 .i64 N N N rfl rfl rfl rfl ?m2 ?m3 (aB2 _) ?_))
 case m2=>rw[aO];omega
 case m3=>unfold maxLen;omega
 intro d Q aQ;have eo:(madeCells #[Value.slice none 0 0] N).toList=(List.range N).map (λ_=>Value.slice none 0 0):=by
  rw[aCy];apply List.ext_getElem
  ·simp
  ·intro i h1 h2;simp
 rw[eo]at Q;have U:Below w.heap.size w d:=(aB4 _ _).grown aQ (aB2 _) (λk h=>by cases h);have hs1:w.heap.size<d.heap.size:=(Q.lt _ rfl).2;have T1:=hid (bY d (.slice (some ⟨w.heap.size,0,none⟩) N N) (.slice none 0 0) 140);have M1:Hid (MP (d.alloc (.cells #[.slice (some ⟨w.heap.size,0,none⟩) N N,.slice none 0 0] 140)) w.heap.size (d.heap.size+1) w.heap.size N (λ_=>.slice none 0 0) (λ_=>[])):=
  hid ⟨Q.alloc _,λj hj=>aCp _ _ _ _,λi j _ _ _=>aCa rfl⟩
 have aK:=hid (U.alloc U.size (.cells #[.slice (some ⟨w.heap.size,0,none⟩) N N,.slice none 0 0] 140));clear Q aQ eo U;go_wp2_with fail
 go_loopw [4] (λi wr=>∃ (q:Nat) (V:Nat->Value) (tl:Nat->List Nat),q<=N/\i=.int .i64 q/\Hid (VH to q 0 tl)/\Hid (MP wr w.heap.size (d.heap.size+1) w.heap.size N V tl)/\Two wr d.heap.size (.slice (some ⟨w.heap.size,0,none⟩) N N) (.slice none 0 0)/\Below w.heap.size w wr) (λi _=>N - (intOf i).toNat)
 case atStart=>exact⟨0,_,_,aCg _,rfl,hid (aeB to),M1,T1.out,aK.out⟩
 case round=>
  obtain⟨q,V,tl,hq,rfl,W,X,z,Y⟩:=hrel;rename World=>W0;have c0':=(Y.cell (p:=⟨P,0,none⟩) hP).trans c0;by_cases s:q<N
  ·obtain⟨r,cr,LV⟩:=HC.out q s;obtain⟨aor,R,rfl,hrc,qR⟩:=LV;have kK:=hid qR;have BH:=hid cr;have jI:=Nj.out q s;have Z:=hid (BC.out q s);have uM:=hid z;generalize nY:(to q).length=ln at *;have bW:=hid nY;clear qR nY z cr;go_wp2_with fail
   go_loopw [5] (λi wr=>∃ (k:Nat) (V:Nat->Value) (tl:Nat->List Nat),k<=ln/\i=.int .i64 k/\Hid (VH to q k tl)/\Hid (MP wr w.heap.size (d.heap.size+1) w.heap.size N V tl)/\Two wr d.heap.size (.slice (some ⟨w.heap.size,0,none⟩) N N) (.slice none 0 0)/\Below w.heap.size w wr) (λi _=>ln - (intOf i).toNat)
   case atStart=>exact⟨0,V,tl,aCg _,rfl,W,X,uM.out,Y⟩
   case round=>
    obtain⟨k,V,tl,hk,rfl,QU,F,T,D⟩:=hrel;have c3:=(D.cell (p:=⟨P,0,none⟩) hP).trans c0;have G:=(D.cell (p:=⟨g,q,none⟩) hg).trans BH.out;have hsz:=D.size;by_cases B:k<ln
    ·obtain⟨m,e,hgr,Hr⟩:=kK.out (by omega);subst e;have cb:=(D.cell (p:=⟨m,k,none⟩) hgr).trans (Hr k B);have H:bZ (to q) k<N:=Z.out _ (oq (by rw[bW.out];exact B));have qa:=hid (aiN QU.out (k:=k) (by rw[bW.out];exact B));generalize bZ (to q) k=b at *;have cv:wr.cell? ⟨w.heap.size,b,none⟩=some (V b):=by
      rw[F.out.out.cellAt b (by omega)];simp[aCs,aCF H]
     have own:=F.out.row b H;have azo:=QU.out.len b;have p2:=T.c0;have hPP:=T.lt;have hcl:(tl b).length<=1099511627776*4:=by
      have h1:=(List.take_sublist k (to q)).count_le b;have h2:=YO.out q s b;omega
     have wri:IntKind.i64.wrap (q:Int)=(q:Int):=by rw[IntKind.wrap_i64];omega
     have nb:∀ x,x<d.heap.size+1->some x≠(V b).ownBlock:=λx hx e=>by
      have:=(own.lt x e.symm).1;omega
     have cf:wr.frozen? ⟨w.heap.size,b,none⟩=false:=F.out.out.frozenAt b;have z1:(0:Int)<=(q:Int):=Int.natCast_nonneg _;have z2:(q:Int)<(N:Int):=by omega
     have z3:(0:Int)<=(k:Int):=Int.natCast_nonneg _;have z4:(k:Int)<(ln:Int):=by omega
     have z5:(0:Int)<=(b:Int):=Int.natCast_nonneg _;have z6:(b:Int)<(N:Int):=by omega
     have y1:w.heap.size<d.heap.size+1:=by omega
     have y0:w.heap.size<wr.heap.size:=by omega
     have y2:P<d.heap.size+1:=by omega
     have y3:g<d.heap.size+1:=by omega
     have y4:m<d.heap.size+1:=by omega
     clear Hr;go_wp2_with fail;have yP:P<wr.heap.size:=by omega
     have yg:g<wr.heap.size:=by omega
     have ygr:m<wr.heap.size:=by omega
     refine wp_region_held_drew (S:=λw'=>w'.cell? ⟨d.heap.size,0,none⟩=some (.slice (some ⟨w.heap.size,0,none⟩) N N)/\w'.cell? ⟨P,0,none⟩=some (.slice (some ⟨g,0,none⟩) N cap)/\w'.cell? ⟨g,q,none⟩=some (.slice (some ⟨m,0,none⟩) ln R)/\w'.cell? ⟨m,k,none⟩=some (.int .i64 b)) (by kernel_rfl) ⟨p2,c3,G,cb⟩ (λC=>?_);refine aCc (i:=0) (oi:={ dst:=some 35,op:=Op.move (.tmp 3),type:=_,pos:=_,after:=_,guard:=none }) (v:=(Value.pointer (some ⟨d.heap.size,0,none⟩))) rfl (by kernel_rfl) (by kernel_rfl) (by kernel_rfl) (λ_ _ _ h=>h) (aCa ⟨by rfl,by intro w' c;(try dsimp only at c);go_simp⟩) (by assumption) ?_
     simp only[Act.put,aB1,aB5,aB6];refine aCc (i:=1) (oi:={ dst:=some 36,op:=Op.nilCheck (.tmp 35),type:=_,pos:=_,after:=_,guard:=none }) (v:=(Value.pointer (some ⟨d.heap.size,0,none⟩))) rfl (by kernel_rfl) (by kernel_rfl) (by kernel_rfl) (λ_ _ _ h=>h) (aCa ⟨by rfl,by intro w' c;(try dsimp only at c);go_simp⟩) (by assumption) ?_
     simp only[Act.put,aB1,aB5,aB6];refine aCc (i:=2) (oi:={ dst:=some 37,op:=Op.fieldAddr _ (.tmp 36) 0,type:=_,pos:=_,after:=_,guard:=none }) (v:=(Value.pointer (some ⟨d.heap.size,0,none⟩))) rfl (by kernel_rfl) (by kernel_rfl) (by kernel_rfl) (λ_ _ _ h=>h) (aCa ⟨by rfl,by intro w' c;(try dsimp only at c);go_simp⟩) (by assumption) ?_
     simp only[Act.put,aB1,aB5,aB6];refine aCc (i:=3) (oi:={ dst:=some 38,op:=Op.load _ (.tmp 37),type:=_,pos:=_,after:=_,guard:=none }) (v:=(Value.slice (some ⟨w.heap.size,0,none⟩) N N)) rfl (by kernel_rfl) (by kernel_rfl) (by kernel_rfl) (λ_ _ _ h=>h) (aCa ⟨by rfl,by intro w' c;(try dsimp only at c);go_simp⟩) (by assumption) ?_
     simp only[Act.put,aB1,aB5,aB6];refine aCc (i:=4) (oi:={ dst:=some 39,op:=Op.move (.tmp 0),type:=_,pos:=_,after:=_,guard:=none }) (v:=(Value.pointer (some ⟨P,0,none⟩))) rfl (by kernel_rfl) (by kernel_rfl) (by kernel_rfl) (λ_ _ _ h=>h) (aCa ⟨by rfl,by intro w' c;(try dsimp only at c);go_simp⟩) (by assumption) ?_
     simp only[Act.put,aB1,aB5,aB6];refine aCc (i:=5) (oi:={ dst:=some 40,op:=Op.nilCheck (.tmp 39),type:=_,pos:=_,after:=_,guard:=none }) (v:=(Value.pointer (some ⟨P,0,none⟩))) rfl (by kernel_rfl) (by kernel_rfl) (by kernel_rfl) (λ_ _ _ h=>h) (aCa ⟨by rfl,by intro w' c;(try dsimp only at c);go_simp⟩) (by assumption) ?_
     simp only[Act.put,aB1,aB5,aB6];refine aCc (i:=6) (oi:={ dst:=some 41,op:=Op.fieldAddr _ (.tmp 40) 0,type:=_,pos:=_,after:=_,guard:=none }) (v:=(Value.pointer (some ⟨P,0,none⟩))) rfl (by kernel_rfl) (by kernel_rfl) (by kernel_rfl) (λ_ _ _ h=>h) (aCa ⟨by rfl,by intro w' c;(try dsimp only at c);go_simp⟩) (by assumption) ?_
     simp only[Act.put,aB1,aB5,aB6];refine aCc (i:=7) (oi:={ dst:=some 42,op:=Op.load _ (.tmp 41),type:=_,pos:=_,after:=_,guard:=none }) (v:=(Value.slice (some ⟨g,0,none⟩) N cap)) rfl (by kernel_rfl) (by kernel_rfl) (by kernel_rfl) (λ_ _ _ h=>h) (aCa ⟨by rfl,by intro w' c;(try dsimp only at c);go_simp⟩) (by assumption) ?_
     simp only[Act.put,aB1,aB5,aB6];refine aCc (i:=8) (oi:={ dst:=some 43,op:=Op.move (.tmp 4),type:=_,pos:=_,after:=_,guard:=none }) (v:=(Value.int .i64 (q:Nat))) rfl (by kernel_rfl) (by kernel_rfl) (by kernel_rfl) (λ_ _ _ h=>h) (aCa ⟨by rfl,by intro w' c;(try dsimp only at c);go_simp⟩) (by assumption) ?_
     simp only[Act.put,aB1,aB5,aB6];refine aCc (i:=9) (oi:={ dst:=some 44,op:=Op.indexAddr _ (.tmp 42) (.tmp 43),type:=_,pos:=_,after:=_,guard:=none }) (v:=(Value.pointer (some ⟨g,q,none⟩))) rfl (by kernel_rfl) (by kernel_rfl) (by kernel_rfl) (λ_ _ _ h=>h) (aCa ⟨by rfl,by intro w' c;(try dsimp only at c);go_simp⟩) (by assumption) ?_
     simp only[Act.put,aB1,aB5,aB6];refine aCc (i:=10) (oi:={ dst:=some 45,op:=Op.load _ (.tmp 44),type:=_,pos:=_,after:=_,guard:=none }) (v:=(Value.slice (some ⟨m,0,none⟩) ln R)) rfl (by kernel_rfl) (by kernel_rfl) (by kernel_rfl) (λ_ _ _ h=>h) (aCa ⟨by rfl,by intro w' c;(try dsimp only at c);go_simp⟩) (by assumption) ?_
     simp only[Act.put,aB1,aB5,aB6];refine aCc (i:=11) (oi:={ dst:=some 46,op:=Op.move (.tmp 5),type:=_,pos:=_,after:=_,guard:=none }) (v:=(Value.int .i64 (k:Nat))) rfl (by kernel_rfl) (by kernel_rfl) (by kernel_rfl) (λ_ _ _ h=>h) (aCa ⟨by rfl,by intro w' c;(try dsimp only at c);go_simp⟩) (by assumption) ?_
     simp only[Act.put,aB1,aB5,aB6];refine aCc (i:=12) (oi:={ dst:=some 47,op:=Op.indexAddr _ (.tmp 45) (.tmp 46),type:=_,pos:=_,after:=_,guard:=none }) (v:=(Value.pointer (some ⟨m,k,none⟩))) rfl (by kernel_rfl) (by kernel_rfl) (by kernel_rfl) (λ_ _ _ h=>h) (aCa ⟨by rfl,by intro w' c;(try dsimp only at c);go_simp⟩) (by assumption) ?_
     simp only[Act.put,aB1,aB5,aB6];refine aCc (i:=13) (oi:={ dst:=some 48,op:=Op.load _ (.tmp 47),type:=_,pos:=_,after:=_,guard:=none }) (v:=(Value.int .i64 (b:Nat))) rfl (by kernel_rfl) (by kernel_rfl) (by kernel_rfl) (λ_ _ _ h=>h) (aCa ⟨by rfl,by intro w' c;(try dsimp only at c);go_simp⟩) (by assumption) ?_
     simp only[Act.put,aB1,aB5,aB6];refine aCc (i:=14) (oi:={ dst:=some 49,op:=Op.move (.tmp 3),type:=_,pos:=_,after:=_,guard:=none }) (v:=(Value.pointer (some ⟨d.heap.size,0,none⟩))) rfl (by kernel_rfl) (by kernel_rfl) (by kernel_rfl) (λ_ _ _ h=>h) (aCa ⟨by rfl,by intro w' c;(try dsimp only at c);go_simp⟩) (by assumption) ?_
     simp only[Act.put,aB1,aB5,aB6];refine aCc (i:=15) (oi:={ dst:=some 50,op:=Op.nilCheck (.tmp 49),type:=_,pos:=_,after:=_,guard:=none }) (v:=(Value.pointer (some ⟨d.heap.size,0,none⟩))) rfl (by kernel_rfl) (by kernel_rfl) (by kernel_rfl) (λ_ _ _ h=>h) (aCa ⟨by rfl,by intro w' c;(try dsimp only at c);go_simp⟩) (by assumption) ?_
     simp only[Act.put,aB1,aB5,aB6];refine aCc (i:=16) (oi:={ dst:=some 51,op:=Op.fieldAddr _ (.tmp 50) 0,type:=_,pos:=_,after:=_,guard:=none }) (v:=(Value.pointer (some ⟨d.heap.size,0,none⟩))) rfl (by kernel_rfl) (by kernel_rfl) (by kernel_rfl) (λ_ _ _ h=>h) (aCa ⟨by rfl,by intro w' c;(try dsimp only at c);go_simp⟩) (by assumption) ?_
     simp only[Act.put,aB1,aB5,aB6];refine aCc (i:=17) (oi:={ dst:=some 52,op:=Op.load _ (.tmp 51),type:=_,pos:=_,after:=_,guard:=none }) (v:=(Value.slice (some ⟨w.heap.size,0,none⟩) N N)) rfl (by kernel_rfl) (by kernel_rfl) (by kernel_rfl) (λ_ _ _ h=>h) (aCa ⟨by rfl,by intro w' c;(try dsimp only at c);go_simp⟩) (by assumption) ?_
     simp only[Act.put,aB1,aB5,aB6];refine aCc (i:=18) (oi:={ dst:=some 53,op:=Op.move (.tmp 0),type:=_,pos:=_,after:=_,guard:=none }) (v:=(Value.pointer (some ⟨P,0,none⟩))) rfl (by kernel_rfl) (by kernel_rfl) (by kernel_rfl) (λ_ _ _ h=>h) (aCa ⟨by rfl,by intro w' c;(try dsimp only at c);go_simp⟩) (by assumption) ?_
     simp only[Act.put,aB1,aB5,aB6];refine aCc (i:=19) (oi:={ dst:=some 54,op:=Op.nilCheck (.tmp 53),type:=_,pos:=_,after:=_,guard:=none }) (v:=(Value.pointer (some ⟨P,0,none⟩))) rfl (by kernel_rfl) (by kernel_rfl) (by kernel_rfl) (λ_ _ _ h=>h) (aCa ⟨by rfl,by intro w' c;(try dsimp only at c);go_simp⟩) (by assumption) ?_
     simp only[Act.put,aB1,aB5,aB6];refine aCc (i:=20) (oi:={ dst:=some 55,op:=Op.fieldAddr _ (.tmp 54) 0,type:=_,pos:=_,after:=_,guard:=none }) (v:=(Value.pointer (some ⟨P,0,none⟩))) rfl (by kernel_rfl) (by kernel_rfl) (by kernel_rfl) (λ_ _ _ h=>h) (aCa ⟨by rfl,by intro w' c;(try dsimp only at c);go_simp⟩) (by assumption) ?_
     simp only[Act.put,aB1,aB5,aB6];refine aCc (i:=21) (oi:={ dst:=some 56,op:=Op.load _ (.tmp 55),type:=_,pos:=_,after:=_,guard:=none }) (v:=(Value.slice (some ⟨g,0,none⟩) N cap)) rfl (by kernel_rfl) (by kernel_rfl) (by kernel_rfl) (λ_ _ _ h=>h) (aCa ⟨by rfl,by intro w' c;(try dsimp only at c);go_simp⟩) (by assumption) ?_
     simp only[Act.put,aB1,aB5,aB6];refine aCc (i:=22) (oi:={ dst:=some 57,op:=Op.move (.tmp 4),type:=_,pos:=_,after:=_,guard:=none }) (v:=(Value.int .i64 (q:Nat))) rfl (by kernel_rfl) (by kernel_rfl) (by kernel_rfl) (λ_ _ _ h=>h) (aCa ⟨by rfl,by intro w' c;(try dsimp only at c);go_simp⟩) (by assumption) ?_
     simp only[Act.put,aB1,aB5,aB6];refine aCc (i:=23) (oi:={ dst:=some 58,op:=Op.indexAddr _ (.tmp 56) (.tmp 57),type:=_,pos:=_,after:=_,guard:=none }) (v:=(Value.pointer (some ⟨g,q,none⟩))) rfl (by kernel_rfl) (by kernel_rfl) (by kernel_rfl) (λ_ _ _ h=>h) (aCa ⟨by rfl,by intro w' c;(try dsimp only at c);go_simp⟩) (by assumption) ?_
     simp only[Act.put,aB1,aB5,aB6];refine aCc (i:=24) (oi:={ dst:=some 59,op:=Op.load _ (.tmp 58),type:=_,pos:=_,after:=_,guard:=none }) (v:=(Value.slice (some ⟨m,0,none⟩) ln R)) rfl (by kernel_rfl) (by kernel_rfl) (by kernel_rfl) (λ_ _ _ h=>h) (aCa ⟨by rfl,by intro w' c;(try dsimp only at c);go_simp⟩) (by assumption) ?_
     simp only[Act.put,aB1,aB5,aB6];refine aCc (i:=25) (oi:={ dst:=some 60,op:=Op.move (.tmp 5),type:=_,pos:=_,after:=_,guard:=none }) (v:=(Value.int .i64 (k:Nat))) rfl (by kernel_rfl) (by kernel_rfl) (by kernel_rfl) (λ_ _ _ h=>h) (aCa ⟨by rfl,by intro w' c;(try dsimp only at c);go_simp⟩) (by assumption) ?_
     simp only[Act.put,aB1,aB5,aB6];refine aCc (i:=26) (oi:={ dst:=some 61,op:=Op.indexAddr _ (.tmp 59) (.tmp 60),type:=_,pos:=_,after:=_,guard:=none }) (v:=(Value.pointer (some ⟨m,k,none⟩))) rfl (by kernel_rfl) (by kernel_rfl) (by kernel_rfl) (λ_ _ _ h=>h) (aCa ⟨by rfl,by intro w' c;(try dsimp only at c);go_simp⟩) (by assumption) ?_
     simp only[Act.put,aB1,aB5,aB6];refine aCc (i:=27) (oi:={ dst:=some 62,op:=Op.load _ (.tmp 61),type:=_,pos:=_,after:=_,guard:=none }) (v:=(Value.int .i64 (b:Nat))) rfl (by kernel_rfl) (by kernel_rfl) (by kernel_rfl) (λ_ _ _ h=>h) (aCa ⟨by rfl,by intro w' c;(try dsimp only at c);go_simp⟩) (by assumption) ?_
     simp only[Act.put,aB1,aB5,aB6];refine aCc (i:=28) (oi:={ dst:=some 63,op:=Op.indexAddr _ (.tmp 52) (.tmp 62),type:=_,pos:=_,after:=_,guard:=none }) (v:=(Value.pointer (some ⟨w.heap.size,b,none⟩))) rfl (by kernel_rfl) (by kernel_rfl) (by kernel_rfl) (λ_ _ _ h=>h) (aCa ⟨by rfl,by intro w' c;(try dsimp only at c);go_simp⟩) (by assumption) ?_
     simp only[Act.put,aB1,aB5,aB6];refine aCc (i:=30) (oi:={ dst:=some 65,op:=Op.move (.tmp 4),type:=_,pos:=_,after:=_,guard:=none }) (v:=(Value.int .i64 (q:Nat))) rfl (by kernel_rfl) (by kernel_rfl) (by kernel_rfl) (λ_ _ _ h=>h) (aCa ⟨by rfl,by intro w' c;(try dsimp only at c);go_simp⟩) (by assumption) ?_
     simp only[Act.put,aB1,aB5,aB6];refine aCk (rs:=[29,31]) (by kernel_rfl) (by simp) ?_;refine aCf rfl (λK l=>?_) (aCf rfl (λK l=>?_) aCj)
     focus
      go_simp
      refine l.out _ _ (by assumption) (λC=>?_);clear l K;refine aCk (rs:=[31]) (by kernel_rfl) (by simp) ?_;refine aCf rfl (λK l=>?_) aCj
      go_simp
      refine l.out _ _ ?hs (λC=>?_)
      case hs=>first | go_keep | (go_split_ands;refine⟨?_,?_,?_,?_⟩ <;> simp[*])
     rotate_left
     focus
      go_simp
      refine l.out _ _ ?hs (λC=>?_)
      case hs=>first | go_keep | (go_split_ands;refine⟨?_,?_,?_,?_⟩ <;> simp[*])
      clear l K;refine aCk (rs:=[29]) (by kernel_rfl) (by simp) ?_;refine aCf rfl (λK l=>?_) aCj
      go_simp
      refine l.out _ _ (by assumption) (λC=>?_)
     all_goals
      clear l K;refine aCk (rs:=[32]) (by kernel_rfl) (by simp) ?_;refine aCf rfl (λK l=>?_) aCj;refine aCV _ (by rfl) (.tmp 64) (.tmp 66) 22 (by rfl) (d.heap.size+1) 3 i1 (.int .i64 0) 1 8 Tryz.underlying22 jU gJ gI gG rfl (by decide) (V b) (tl b).length (aI (tl b)) (by rfl) ((own.alloc _).drew) ⟨wr.heap.size,0,none⟩ 1 1 [.int .i64 q] (by rfl) (by rfl) (World.news_of_block (cs:=#[.int .i64 q]) (t:=3) (fr:=(0,0)) (heap_alloc_new wr _)) (by simp[Value.oneCell']) (by decide) (by unfold maxLen;omega) (by omega) (by simp;omega) (wr.heap.size+1) (by simp) ?_;intro gg cc w2 A f I iy;have J:MP (wr.alloc (.cells #[.int .i64 (q:Int)] 3)).drew w.heap.size (d.heap.size+1) w.heap.size N V tl:=F.out.keeps (aCl ((aB4 wr.heap.size wr).alloc (aB2 _) (.cells #[.int .i64 (q:Int)] 3)) 1);have O2:=J.out.kept f (aY J.out (J.row b H) (by decide));have d1:=O2.frozenAt b;have d0:w2.cell? ⟨w.heap.size,b,none⟩=some (V b):=(O2.cellAt b (by omega)).trans (by simp[aCs,aCF H]);have E:Below (d.heap.size+1) wr w2:=(aCl ((aB4 (d.heap.size+1) wr).alloc (by omega) (.cells #[.int .i64 (q:Int)] 3)) 1).grown f (by show d.heap.size+1<=(wr.alloc (.cells #[.int .i64 (q:Int)] 3)).heap.size;rw[aB7];omega) (λx h=>(own.lt x h).1);have TM:=hid (aeA J H (a:=q) f A (by rcases I with h | h;exact aCa h;exact aCb (by rw[h];exact(aB7 ..).symm)));have s1:=T.below E (aCA _);have T5:=hid (s1.other (k:=w.heap.size) (o:=b) (by omega) (.slice (some ⟨gg,0,none⟩) ((tl b).length+1) cc));have BB:=hid ((D.trans (E.mono (by omega))).setCell (p:=⟨w.heap.size,b,none⟩) (aB2 _) (.slice (some ⟨gg,0,none⟩) ((tl b).length+1) cc));have e1:=s1.c0;have e2:=(E.cell (p:=⟨P,0,none⟩) y2).trans c3;have e3:=(E.cell (p:=⟨g,q,none⟩) y3).trans G;have e4:=(E.cell (p:=⟨m,k,none⟩) y4).trans cb;have L:∀ (x o:Nat) {u v:Value},x≠w.heap.size->w2.cell? ⟨x,o,none⟩=some v->(w2.setCell ⟨w.heap.size,b,none⟩ u).cell? ⟨x,o,none⟩=some v:=λx o u v hx hv=>by
       rw[aB8 _ _ _ _ (λe=>hx (by have:=congrArg Addr.block e;simpa using this.symm))];exact hv
      have wE:=hid (⟨L _ _ (by omega) e1,L _ _ (by omega) e2,L _ _ (by omega) e3,L _ _ (by omega) e4⟩:(λw':World=>w'.cell? ⟨d.heap.size,0,none⟩=some (.slice (some ⟨w.heap.size,0,none⟩) N N)/\w'.cell? ⟨P,0,none⟩=some (.slice (some ⟨g,0,none⟩) N cap)/\w'.cell? ⟨g,q,none⟩=some (.slice (some ⟨m,0,none⟩) ln R)/\w'.cell? ⟨m,k,none⟩=some (.int .i64 b)) (w2.setCell ⟨w.heap.size,b,none⟩ (.slice (some ⟨gg,0,none⟩) ((tl b).length+1) cc)));refine l.out _ _ ⟨e1,e2,e3,e4⟩ (λC=>?_);clear l K O2 J E A f I s1 L own;simp only[Act.put,aB1];refine aCc (i:=33) (oi:={ dst:=some 68,op:=Op.indexAddr _ (.tmp 38) (.tmp 48),type:=_,pos:=_,after:=_,guard:=none }) (v:=(Value.pointer (some ⟨w.heap.size,b,none⟩))) rfl (by kernel_rfl) (by kernel_rfl) (by kernel_rfl) (λ_ _ _ h=>h) (aCa ⟨by rfl,by intro w' c;(try dsimp only at c);go_simp⟩) (by assumption) ?_
      simp only[Act.put];refine aCk (rs:=[34]) (by kernel_rfl) (by simp) ?_;refine aCf rfl (λK l=>?_) aCj
      go_simp
      refine l.out _ _ wE.out (λC=>?_);clear l K;refine aC0 (by kernel_rfl) ?_ _;clear C e1 e2 e3 e4 d0 d1;go_wp2_with fail;go_roundw
      case rel=>exact⟨k+1,_,_,by omega,by go_num,qa,TM,T5.out,BB.out⟩
      case measure=>simp[intOf];omega
    ·obtain rfl:k=ln:=by omega
     have xQ:=hid (aiO (by rw[bW.out];exact QU.out) (YO.out q s));go_wp2_with fail;go_roundw
     case rel=>exact⟨q+1,V,tl,by omega,by go_num,xQ,F,T,D⟩
     case measure=>simp[intOf];omega
  ·obtain rfl:q=N:=by omega
   have M:w.heap.size<=d.heap.size:=by omega
   have NM:Hid (∀ w2,lm w.heap.size W0 w2->pI w2 d.heap.size q tl 0 kp):=hid (λw2 hs=>by
    have OU:=PE X.out.out hs (aB2 _);exact⟨aCq z.lt hs.size,⟨_,(hs.cell M z.lt).trans z.c0,_,_,rfl,aB2 _,λ_=>⟨w.heap.size,rfl,(OU.lt _ rfl).2,λi O=>⟨V i,by rw[OU.cellAt i (by omega)];simp[aCs,aCF O],Cw (PE (X.out.row i O) hs (by omega))⟩⟩⟩,⟨_,(hs.cell M z.lt).trans z.c1,none,0,rfl,aB2 _,λh=>by omega⟩⟩)
   have HMM:Hid (∀ j a,a∈tl j↔a<q/\j∈to a):=hid (λj a=>by rw[W.out.mem];simp);have sZ:Hid (∀ j,(tl j).length<=8*q):=hid (λj=>by have:=W.out.len j;simpa using this);clear z;go_wp2_with fail;go_ret;exact⟨d.heap.size,tl,rfl,NM.out,HMM.out,sZ.out,Y⟩
theorem JW:OE:=λP N K to kp w hn h0 hto hlen zY hN=>YY P N K to kp w hn h0 hto hlen zY (by omega)
structure Three (w:World) (b:Nat) (x y z:Value):Prop where
 c0:w.cell? ⟨b,0,none⟩=some x
 c1:w.cell? ⟨b,1,none⟩=some y
 c2:w.cell? ⟨b,2,none⟩=some z
 fz:∀ o,o<3->w.frozen? ⟨b,o,none⟩=false
theorem Three.lt{w:World}{b:Nat}{x y z:Value}(h:Three w b x y z):b<w.heap.size:=World.block_lt_of_cell? w ⟨b,0,none⟩ h.c0
theorem dx(w:World)(x y z:Value)(t:TypeId):Three (w.alloc (.cells #[x,y,z] t)) w.heap.size x y z:=⟨by simp,by simp,by simp,λo ho=>by simp⟩
theorem Three.below{B:Nat}{w w':World}{b:Nat}{x y z:Value}(h:Three w b x y z)(hb:Below B w w')(hlt:b<B):Three w' b x y z:=
 ⟨(hb.cell (p:=⟨b,0,none⟩) hlt).trans h.c0,(hb.cell (p:=⟨b,1,none⟩) hlt).trans h.c1,(hb.cell (p:=⟨b,2,none⟩) hlt).trans h.c2,λo ho=>(hb.frozen (p:=⟨b,o,none⟩) hlt).trans (h.fz o ho)⟩
theorem Three.set1{w:World}{b:Nat}{x y z:Value}(h:Three w b x y z)(v:Value):Three (w.setCell ⟨b,1,none⟩ v) b x v z:=
 ⟨by rw[aB8 _ _ _ _ (by simp)];exact h.c0,aCz _ _ _ h.c1,by rw[aB8 _ _ _ _ (by simp)];exact h.c2,λo ho=>by rw[aCm];exact h.fz o ho⟩
theorem Three.set2{w:World}{b:Nat}{x y z:Value}(h:Three w b x y z)(v:Value):Three (w.setCell ⟨b,2,none⟩ v) b x y v:=
 ⟨by rw[aB8 _ _ _ _ (by simp)];exact h.c0,by rw[aB8 _ _ _ _ (by simp)];exact h.c1,aCz _ _ _ h.c2,λo ho=>by rw[aCm];exact h.fz o ho⟩
theorem Three.set0{w:World}{b:Nat}{x y z:Value}(h:Three w b x y z)(v:Value):Three (w.setCell ⟨b,0,none⟩ v) b v y z:=
 ⟨aCz _ _ _ h.c0,by rw[aB8 _ _ _ _ (by simp)];exact h.c1,by rw[aB8 _ _ _ _ (by simp)];exact h.c2,λo ho=>by rw[aCm];exact h.fz o ho⟩
theorem Three.other{w:World}{b k o:Nat}{x y z:Value}(h:Three w b x y z)(hk:k≠b)(v:Value):Three (w.setCell ⟨k,o,none⟩ v) b x y z:=
 ⟨by rw[aB8 _ _ _ _ (λe=>hk (congrArg Addr.block e))];exact h.c0,by rw[aB8 _ _ _ _ (λe=>hk (congrArg Addr.block e))];exact h.c1,by rw[aB8 _ _ _ _ (λe=>hk (congrArg Addr.block e))];exact h.c2,λq hq=>by rw[aCm];exact h.fz q hq⟩
theorem aeL{ns:List Nd}(hw:iH ns):0<(dX ns (2 ^ ns.length)).length:=by
 obtain⟨S,_,a⟩:=pq hw (λ_=>0);obtain⟨b,c,_⟩:=(lw hw _ _ _).1 (a.step 0);obtain⟨i,d,_⟩:=(KI hw).all (S 0) 0 (by omega) b c;omega
theorem Xu{ns:List Nd}(hg:Good ns):(dX ns (2 ^ ns.length)).length<=256:=
 aCW (RQ _ _) (aCW (Nat.pow_le_pow_right (by omega) hg.le) (by decide))
theorem aaT(ns:List Nd)(vs:List Nat)(a j:Nat):(toS ns vs a).count j<=8:=by
 have h:(toS ns vs a).Nodup:=List.nodup_range.filter _;have:=List.nodup_iff_count.1 h j;omega
def jG(good:Nat->Bool)(j:Nat):List Nat:=(List.range j).filter good
theorem ajT{good:Nat->Bool}{j:Nat}(h:good j=true):jG good (j+1)=jG good j++[j]:=by simp[jG,aCT,List.filter_append,h]
theorem alo{good:Nat->Bool}{j:Nat}(h:good j=false):jG good (j+1)=jG good j:=by simp[jG,aCT,List.filter_append,h]
theorem NY(vs:List Nat)(good:Nat->Bool)(j:Nat):(iX vs good j).length=(jG good j).length:=by simp[iX,jG]
theorem ajs{vs:List Nat}{good:Nat->Bool}{j i:Nat}(hi:i<(jG good j).length):bZ (iX vs good j) i=bZ vs (bZ (jG good j) i):=by
 simp only[iX,jG]at *;simp[bZ,List.getD,aCs,aB3 hi]
theorem ak4(l:List Nat)(f:Nat->Value):l.map f=(List.range l.length).map (λi=>f (bZ l i)):=by
 apply List.ext_getElem
 ·simp
 ·intro i a b;simp at a;simp[bZ,List.getD,aB3 a]
theorem PD{w:World}{B B1 B2:Nat}{v:Value}{n:Nat}{vs:List Nat}{good:Nat->Bool}{bb:Nat->Nat}(h1:B<=B1)(h2:B<=B2)
  (ho:w.ownsRow B1 138 1 v (jG good vs.length).length ((jG good vs.length).map λq=>iD n (bb q)))
  (hr:∀ i,i<vs.length->w.ownsRow B2 4 1 (iD n (bb i)) n (ax (lY (bZ vs i)) n n)):yc w B v n (iX vs good vs.length):=by
 refine⟨λi=>bb (bZ (jG good vs.length) i),?_,λi a=>?_⟩
 ·have:=bQ ho h1;rw[ak4]at this;rw[NY];exact this
 ·rw[NY]at a;rw[ajs a];have b:=oq a;unfold jG at b;exact bQ (hr _ (aCQ.1 (List.mem_filter.1 b).1)) h2
theorem aeZ{w:World}{B:Nat}{v:Value}{n:Nat}{vs:List Nat}(hn:0<n)(h:yc w B v n vs):Q8 w v vs.length n (aX vs):=by
 obtain⟨b,a,d⟩:=h;rcases a.2 with⟨rfl,h0⟩ | ⟨g,cap,cur,rfl,hb,hh,hc,hm,_⟩
 ·exact⟨none,0,by rw[h0],by omega,λh=>by omega⟩
 ·refine⟨_,cap,rfl,hc,λ_=>⟨g,rfl,dC hh,λi c=>⟨b i,?_,Sl hn (d i c)⟩⟩⟩;rw[a.cellAt i (by omega)];simp[aCs,aCF c,iD]
theorem Vh(ns:List Nd)(hg:Good ns)(P:Nat)(w:World)(hn:pI w P (dX ns (2 ^ ns.length)).length (toS ns (dX ns (2 ^ ns.length))) ns.length (yn ns (dX ns (2 ^ ns.length)))) :
  Calls Tryz.prog 75 #[.pointer (some ⟨P,0,none⟩)] w λe w'=>∃ g out,e=.returned (.slice (some ⟨g,0,none⟩) (dX ns (2 ^ ns.length)).length (dX ns (2 ^ ns.length)).length)/\w.heap.size<=g/\BO w' w.heap.size g (dX ns (2 ^ ns.length)).length out/\(∀ i,i<(dX ns (2 ^ ns.length)).length->(out i=true↔chain ns [] (aX (dX ns (2 ^ ns.length)) i)))/\Below w.heap.size w w':=by
 have n:=Xu hg;have o:=hg.le;refine(Cb JW P _ ns.length _ _ w hn (aeL hg.wf) (λa _ b c=>KU c) (λa _=>aCW (zf ns _ a) (by omega)) (λa _ j=>aaT ns _ a j) (by omega) (by omega)).mono ?_;rintro e w' ⟨g,out,d,f,h,k,l⟩;exact⟨g,out,d,f,h,λi m=>Ru hg.wf k m,l⟩
theorem afw{w:World}{R N:Nat}{x:Option Addr}{v:Value}{to:Nat->List Nat}(h:MU w v N to)(h0:w.cell? ⟨R,0,none⟩=some (.pointer x))(u:Value):MU (w.setCell ⟨R,2,none⟩ u) v N to:=by
 obtain⟨n,cap,rfl,o,h⟩:=h;refine⟨n,cap,rfl,o,λf=>?_⟩;obtain⟨g,rfl,p,a⟩:=h f;have d:g≠R:=λe=>by
  subst e;obtain⟨r,c,j,c2,q,_⟩:=a 0 f;subst q;rw[h0]at c;cases c
 refine⟨g,rfl,by rw[aCr];exact p,λi s=>?_⟩;obtain⟨r,c,j,c2,rfl,t,y⟩:=a i s;refine⟨_,by rw[aB8 _ _ _ _ (λe=>d (by have:=congrArg Addr.block e;simpa using this.symm))];exact c,j,c2,rfl,t,λl=>?_⟩;obtain⟨m,rfl,z,b⟩:=y l;have A:m≠R:=λe=>by
  subst e;have:=b 0 l;rw[h0]at this;cases this
 exact⟨m,rfl,by rw[aCr];exact z,λk B=>by rw[aB8 _ _ _ _ (λe=>A (by have:=congrArg Addr.block e;simpa using this.symm))];exact b k B⟩
theorem DI(F gp cap:Nat)(ns:List Nd)(bs:List Nat)(w:World)(hf:FR w F gp cap ns bs)(hg:Good ns) :
  Calls Tryz.prog 36 #[.pointer (some ⟨F,0,none⟩)] w λe w'=>∃ R vs,e=.returned (.pointer (some ⟨R,0,none⟩))/\tJ w' R F gp cap ns bs vs/\gB ns vs.length (aX vs)/\vs.length<=256/\Below w.heap.size w w':=by
 have SA:=hid (aeY F gp cap ns bs w hf hg);have NA:=hid (λ(W:World) (vs:List Nat) (Bs:Nat) (v:Value) (h1:Below w.heap.size w W) (h2:yc W Bs v ns.length vs) (h3:vs.length<=256)=>ajE F gp cap Bs ns bs vs v W (hf.below h1) hg h2 h3);have EA:=hid (λ(W:World) (P:Nat)=>Vh ns hg P W);have IE:Hid (∀ good:Nat->Bool,(∀ i,i<(dX ns (2 ^ ns.length)).length->(good i=true↔chain ns [] (aX (dX ns (2 ^ ns.length)) i)))->gB ns (iX (dX ns (2 ^ ns.length)) good (dX ns (2 ^ ns.length)).length).length (aX (iX (dX ns (2 ^ ns.length)) good (dX ns (2 ^ ns.length)).length))):=hid (λgood h=>abY hg.wf (KI hg.wf) h);have di:=Xu hg;have Am:=hid hf;have hF:=hf.PM;have H:=hg.pos;obtain⟨i1,jU,gJ,gI,gG⟩:=info_parts Tryz.XN;clear hf hg;generalize dX ns (2 ^ ns.length)=vs at *;go_enter Tryz.func36,Tryz.ntmps36;go_wp2_with fail;refine SA.out.mono ?_;rintro e w1 ⟨v,rfl,BZ,aC⟩;have u:=hid BZ;have aK:=hid aC;have C:=aC.size;clear SA BZ aC;go_wp2_with fail;refine(NA.out w1 vs w.heap.size v aK.out u.out di).mono ?_;rintro e w2 ⟨rfl,I,ae⟩;have jo:=hid I;have aM:=hid (aK.out.trans (ae.mono C));have J:=hid (u.out.keeps ae);have s2:=ae.size;clear I ae u;go_wp2_with fail;refine(EA.out w2 w1.heap.size jo.out).mono ?_;rintro e a ⟨ge,good,rfl,CL,OG,vG,d⟩;have HOG:=hid OG;have Nl:=hid vG;have bF:=hid (aM.out.trans (d.mono (by omega)));have L:=hid (J.out.keeps d);have s3:=d.size;have atu:=OG.blk.2;clear OG vG d J EA jo aK aM;obtain⟨bb,so,sr⟩:=L.out;obtain⟨ao,aew,rfl⟩:=ak so;have M:=hid so;have QQ:=hid sr;have O:=hid (afj vs good);clear L so sr;have uO:=hid (IE.out good Nl.out);clear IE Nl;generalize Q:vs.length=N at *;have D:=hid Q;clear Q;generalize Bf:ns.length=n at *;have HnL:=hid Bf;clear Bf;go_wp2_with fail
 go_loopw [6] (λi wq=>∃ (j:Nat) (g:Value),j<=N/\i=.int .i64 j/\Three wq a.heap.size (.pointer (some ⟨F,0,none⟩)) g (.slice none 0 0)/\Hid (wq.ownsRow (a.heap.size+1) 138 1 g (jG good j).length ((jG good j).map λq=>iD n (bb q)))/\Below a.heap.size a wq) (λi _=>N - (intOf i).toNat)
 case atStart=>exact⟨0,_,aCg _,rfl,dx a _ _ _ _,hid (aCp _ _ _ _),(aB4 _ _).alloc (aB2 _) _⟩
 case round=>
  obtain⟨j,g,hj,rfl,y,E,d⟩:=hrel;have hR:=y.lt;by_cases T:j<N
  ·have og:=(d.cell (p:=⟨ge,j,none⟩) atu).trans (HOG.out.get T);have hil:(jG good j).length<=j:=by
    have:=O.out j;rw[NY]at this;exact this
   cases Gv:good j with
   | false=>
    rw[Gv]at og;have l:Hid (jG good (j+1)=jG good j):=hid (alo Gv);clear Gv;go_wp2_with fail;go_roundw
    case rel=>exact⟨j+1,g,by omega,by go_num,y,by rw[l.out];exact E,d⟩
    case measure=>simp[intOf];omega
   | true=>
    rw[Gv]at og;have l:Hid ((jG good (j+1)).length=(jG good j).length+1/\((jG good (j+1)).map λq=>iD n (bb q))=((jG good j).map λq=>iD n (bb q))++[.slice (some ⟨bb j,0,none⟩) n n]):=hid (by rw[ajT Gv];simp[iD]);clear Gv;obtain⟨m,e,_,nD,_⟩:=eZ M.out (by omega);subst e;have cs:wr.cell? ⟨m,j,none⟩=some (.slice (some ⟨bb j,0,none⟩) n n):=by
     rw[d.cell (p:=⟨m,j,none⟩) nD,M.out.cellAt j (by omega)];simp[aCs,aCF T,iD]
    have own:=E.out;have p1:=y.c1;have z1:(0:Int)<=(j:Int):=Int.natCast_nonneg _;have z2:(j:Int)<(N:Int):=by omega
    have Cn:m<wr.heap.size:=by omega
    clear E;go_wp2_with fail;refine wp_region_held_drew (S:=λw'=>w'.cell? ⟨m,j,none⟩=some (.slice (some ⟨bb j,0,none⟩) n n)) (by kernel_rfl) cs (λz=>?_);refine aCc (i:=0) (oi:={ dst:=some 26,op:=Op.move (.tmp 5),type:=_,pos:=_,after:=_,guard:=none }) (v:=(Value.pointer (some ⟨a.heap.size,0,none⟩))) rfl (by kernel_rfl) (by kernel_rfl) (by kernel_rfl) (λ_ _ _ h=>h) (aCa ⟨by rfl,by intro w' b;(try dsimp only at b);go_simp⟩) (by assumption) ?_
    simp only[Act.put,aB1,aB5,aB6];refine aCc (i:=1) (oi:={ dst:=some 27,op:=Op.move (.tmp 5),type:=_,pos:=_,after:=_,guard:=none }) (v:=(Value.pointer (some ⟨a.heap.size,0,none⟩))) rfl (by kernel_rfl) (by kernel_rfl) (by kernel_rfl) (λ_ _ _ h=>h) (aCa ⟨by rfl,by intro w' b;(try dsimp only at b);go_simp⟩) (by assumption) ?_
    simp only[Act.put,aB1,aB5,aB6];refine aCc (i:=2) (oi:={ dst:=some 28,op:=Op.nilCheck (.tmp 27),type:=_,pos:=_,after:=_,guard:=none }) (v:=(Value.pointer (some ⟨a.heap.size,0,none⟩))) rfl (by kernel_rfl) (by kernel_rfl) (by kernel_rfl) (λ_ _ _ h=>h) (aCa ⟨by rfl,by intro w' b;(try dsimp only at b);go_simp⟩) (by assumption) ?_
    simp only[Act.put,aB1,aB5,aB6];refine aCc (i:=3) (oi:={ dst:=some 29,op:=Op.fieldAddr _ (.tmp 28) 1,type:=_,pos:=_,after:=_,guard:=none }) (v:=(Value.pointer (some ⟨a.heap.size,1,none⟩))) rfl (by kernel_rfl) (by kernel_rfl) (by kernel_rfl) (λ_ _ _ h=>h) (aCa ⟨by rfl,by intro w' b;(try dsimp only at b);go_simp⟩) (by assumption) ?_
    simp only[Act.put,aB1,aB5,aB6];refine aCc (i:=5) (oi:={ dst:=some 31,op:=Op.move (.tmp 3),type:=_,pos:=_,after:=_,guard:=none }) (v:=(Value.slice (some ⟨m,0,none⟩) N aew)) rfl (by kernel_rfl) (by kernel_rfl) (by kernel_rfl) (λ_ _ _ h=>h) (aCa ⟨by rfl,by intro w' b;(try dsimp only at b);go_simp⟩) (by assumption) ?_
    simp only[Act.put,aB1,aB5,aB6];refine aCc (i:=6) (oi:={ dst:=some 32,op:=Op.move (.tmp 6),type:=_,pos:=_,after:=_,guard:=none }) (v:=(Value.int .i64 (j:Nat))) rfl (by kernel_rfl) (by kernel_rfl) (by kernel_rfl) (λ_ _ _ h=>h) (aCa ⟨by rfl,by intro w' b;(try dsimp only at b);go_simp⟩) (by assumption) ?_
    simp only[Act.put,aB1,aB5,aB6];refine aCc (i:=7) (oi:={ dst:=some 33,op:=Op.indexAddr _ (.tmp 31) (.tmp 32),type:=_,pos:=_,after:=_,guard:=none }) (v:=(Value.pointer (some ⟨m,j,none⟩))) rfl (by kernel_rfl) (by kernel_rfl) (by kernel_rfl) (λ_ _ _ h=>h) (aCa ⟨by rfl,by intro w' b;(try dsimp only at b);go_simp⟩) (by assumption) ?_
    simp only[Act.put,aB1,aB5,aB6];refine aCc (i:=8) (oi:={ dst:=some 34,op:=Op.load _ (.tmp 33),type:=_,pos:=_,after:=_,guard:=none }) (v:=(Value.slice (some ⟨bb j,0,none⟩) n n)) rfl (by kernel_rfl) (by kernel_rfl) (by kernel_rfl) (λ_ _ _ h=>h) (aCa ⟨by rfl,by intro w' b;(try dsimp only at b);go_simp⟩) (by assumption) ?_
    simp only[Act.put,aB1,aB5,aB6];refine aCk (rs:=[4,9]) (by kernel_rfl) (by simp) ?_;refine aCf rfl (λK c=>?_) (aCf rfl (λK c=>?_) aCj)
    focus
     go_simp
     refine c.out _ _ (by assumption) (λz=>?_);clear c K;refine aCk (rs:=[9]) (by kernel_rfl) (by simp) ?_;refine aCf rfl (λK c=>?_) aCj
     go_simp
     refine c.out _ _ ?hs (λz=>?_)
     case hs=>first | go_keep | simp[*]
    rotate_left
    focus
     go_simp
     refine c.out _ _ ?hs (λz=>?_)
     case hs=>first | go_keep | simp[*]
     clear c K;refine aCk (rs:=[4]) (by kernel_rfl) (by simp) ?_;refine aCf rfl (λK c=>?_) aCj
     go_simp
     refine c.out _ _ (by assumption) (λz=>?_)
    all_goals
     clear c K;refine aCk (rs:=[10]) (by kernel_rfl) (by simp) ?_;refine aCf rfl (λK c=>?_) aCj;refine aCV _ (by rfl) (.tmp 30) (.tmp 35) 130 (by rfl) (a.heap.size+1) 138 i1 (.slice none 0 0) 1 24 Tryz.underlying130 jU gJ gI gG rfl (by decide) _ (jG good j).length ((jG good j).map λq=>iD n (bb q)) (by rfl) ((own.alloc _).drew) ⟨wr.heap.size,0,none⟩ 1 1 [.slice (some ⟨bb j,0,none⟩) n n] (by rfl) (by rfl) (World.news_of_block (cs:=#[.slice (some ⟨bb j,0,none⟩) n n]) (t:=138) (fr:=(0,0)) (heap_alloc_new wr _)) (by simp[Value.oneCell']) (by decide) (by unfold maxLen;omega) (by omega) (by simp;omega) (wr.heap.size+1) (by simp) ?_;intro gg cc G s f hat iy;have dO:Below (a.heap.size+1) wr G:=(aCl ((aB4 (a.heap.size+1) wr).alloc (by omega) (.cells #[.slice (some ⟨bb j,0,none⟩) n n] 138)) 1).grown f (by show a.heap.size+1<=(wr.alloc (.cells #[.slice (some ⟨bb j,0,none⟩) n n] 138)).heap.size;rw[aB7];omega) (λx h=>(own.lt x h).1);have C:=y.below dO (aCA _);have T5:=hid (C.set1 (.slice (some ⟨gg,0,none⟩) ((jG good j).length+1) cc));have O5:=hid (aB s (k:=a.heap.size) (aCA _) 1 (.slice (some ⟨gg,0,none⟩) ((jG good j).length+1) cc));have BB:=hid ((d.trans (dO.mono (by omega))).setCell (p:=⟨a.heap.size,1,none⟩) (aB2 _) (.slice (some ⟨gg,0,none⟩) ((jG good j).length+1) cc));have e1:=(dO.cell (p:=⟨m,j,none⟩) (by show m<a.heap.size+1;omega)).trans cs;have d0:=C.c1;have d1:=C.fz 1 (by omega);have wE:Hid ((G.setCell ⟨a.heap.size,1,none⟩ (.slice (some ⟨gg,0,none⟩) ((jG good j).length+1) cc)).cell? ⟨m,j,none⟩=some (.slice (some ⟨bb j,0,none⟩) n n)):=hid (by
      rw[aB8 _ _ _ _ (λe=>by have:=congrArg Addr.block e;simp at this;omega)];exact e1)
     refine c.out _ _ e1 (λz=>?_);clear c K dO s f hat C own;simp only[Act.put,aB1];refine aCc (i:=11) (oi:={ dst:=some 37,op:=Op.nilCheck (.tmp 26),type:=_,pos:=_,after:=_,guard:=none }) (v:=(Value.pointer (some ⟨a.heap.size,0,none⟩))) rfl (by kernel_rfl) (by kernel_rfl) (by kernel_rfl) (λ_ _ _ h=>h) (aCa ⟨by rfl,by intro w' b;(try dsimp only at b);go_simp⟩) (by assumption) ?_
     simp only[Act.put];refine aCc (i:=12) (oi:={ dst:=some 38,op:=Op.fieldAddr _ (.tmp 37) 1,type:=_,pos:=_,after:=_,guard:=none }) (v:=(Value.pointer (some ⟨a.heap.size,1,none⟩))) rfl (by kernel_rfl) (by kernel_rfl) (by kernel_rfl) (λ_ _ _ h=>h) (aCa ⟨by rfl,by intro w' b;(try dsimp only at b);go_simp⟩) (by assumption) ?_
     simp only[Act.put];refine aCk (rs:=[13]) (by kernel_rfl) (by simp) ?_;refine aCf rfl (λK c=>?_) aCj
     go_simp
     refine c.out _ _ wE.out (λz=>?_);clear c K;refine aC0 (by kernel_rfl) ?_ _;clear z e1 d0 d1;go_wp2_with fail;go_roundw
     case rel=>exact⟨j+1,_,by omega,by go_num,T5.out,by rw[l.out.1,l.out.2];exact O5,BB.out⟩
     case measure=>simp[intOf];omega
  ·obtain rfl:j=N:=by omega
   have fI:=bF.out.trans (d.mono bF.out.size);have U:Hid (yc wr w.heap.size g n (iX vs good j)):=hid (by
    have h:=PD (w:=wr) (B:=w.heap.size) (B1:=a.heap.size+1) (B2:=w.heap.size) (v:=g) (n:=n) (vs:=vs) (good:=good) (bb:=bb) (by omega) (aB2 _) (by rw[D.out];exact E.out) (λi hi=>ai (QQ.out i (by rw[<-D.out];exact hi)) d);rw[D.out]at h;exact h)
   have V:(iX vs good j).length<=256:=aCW (O.out j) di;have p1:=y.c1;have CN:=hid (NA.out wr (iX vs good j) w.heap.size g fI U.out V);have yC:=hid fI;have p9:=hid y;clear y;go_wp2_with fail;refine CN.out.mono ?_;rintro e G ⟨rfl,I,bi⟩;obtain⟨v2,c20,A⟩:=I.c0;obtain⟨o,r,e2⟩:∃ o r,v2=.slice o (iX vs good j).length r:=by
    obtain⟨a3,b3,e3,_⟩:=A;exact⟨a3,b3,e3⟩
   subst e2;have X:=p9.out.below bi hR;have q2:=X.c2;have f2:=X.fz 2 (by omega);have yA:=hid (afw A X.c0 (.slice o (iX vs good j).length r));have Y:=hid (X.set2 (.slice o (iX vs good j).length r));have Z:=hid ((d.trans (bi.mono (Nat.le_of_lt hR))).setCell (p:=⟨a.heap.size,2,none⟩) (aB2 _) (.slice o (iX vs good j).length r));have BW6:=hid (bF.out.trans (Z.out.mono bF.out.size));have O6:=hid (aB (ai E.out bi) (k:=a.heap.size) (aCA _) 2 (.slice o (iX vs good j).length r));have SL6:Hid (yc (G.setCell ⟨a.heap.size,2,none⟩ (.slice o (iX vs good j).length r)) w.heap.size g n (iX vs good j)):=hid (by
    have h:=PD (w:=G.setCell ⟨a.heap.size,2,none⟩ (.slice o (iX vs good j).length r)) (B:=w.heap.size) (B1:=a.heap.size+1) (B2:=w.heap.size) (v:=g) (n:=n) (vs:=vs) (good:=good) (bb:=bb) (by omega) (aB2 _) (by rw[D.out];exact O6.out) (λi hi=>ai (QQ.out i (by rw[<-D.out];exact hi)) Z.out);rw[D.out]at h;exact h)
   have RM:Hid (tJ (G.setCell ⟨a.heap.size,2,none⟩ (.slice o (iX vs good j).length r)) a.heap.size F gp cap ns bs (iX vs good j)):=hid ⟨Y.out.lt,Am.out.below BW6.out,Y.out.c0,⟨g,Y.out.c1,by rw[HnL.out];exact aeZ H SL6.out⟩,⟨_,Y.out.c2,yA.out⟩⟩;clear I bi A X SL6 O6 yA Y U CN E p9;go_wp2_with fail;go_ret;exact⟨a.heap.size,_,rfl,RM.out,uO.out,V,BW6.out⟩
def lD(s:ByteArray)(z:List Int):Nat:=if (af s).1=0 then (if 40<z.length then 5 else if dh z=true then 0 else 6) else (af s).1
theorem abM{z:List Int}(h:dh z=true):∀ x∈eH z,x<8:=λx hx=>by
 obtain⟨y,hy,rfl⟩:=aCU.1 hx;have hl:=ja.1 (List.all_eq_true.1 h _ hy);omega
def oC(s:ByteArray)(z1:List Int)(w:World)(e:Ending)(w':World):Prop:=
 ∃ v:Nat,e=.returned (.tuple #[.int .i64 v,.int .i64 (lD s z1)])/\(lD s z1=0->jC (af s).2 (eH z1) v)/\(lD s z1≠0->v=0)/\Below w.heap.size w w'
theorem KM(ns:List Nd)(vs:List Nat):∀ (u:List Nat) (f:Nat->Bool) (a:Nat),Aj ns vs (u++[a]) f=iU ns vs (Aj ns vs u f) a vs.length
 | [],f,a=>rfl
 | x::u,f,a=>KM ns vs u _ a
theorem Xq{ns:List Nd}(hg:Good ns){vs:List Nat}(hL:gB ns vs.length (aX vs))(u:List Nat)(hu:∀ x∈u,x<8) :
  jC ns u (Du (jJ (Aj ns vs u (λi=>aX vs i (ns.length - 1)==true)) vs.length) (jJ (Aj ns vs u (λi=>aX vs i (ns.length - 1)==false)) vs.length)):=by
 have a:=Ti hg hL u hu true;have b:=Ti hg hL u hu false;generalize jJ (Aj ns vs u (λi=>aX vs i (ns.length - 1)==true)) vs.length=y at *;generalize jJ (Aj ns vs u (λi=>aX vs i (ns.length - 1)==false)) vs.length=n at *;unfold jC Du;cases y with
 | true=>exact aCa ⟨rfl,λh=>by have:=a.2 h;cases this⟩
 | false=>
  cases n with
  | true=>exact aCb (aCa ⟨rfl,a.1 rfl,λh=>by have:=b.2 h;cases this⟩)
  | false=>exact aCb (aCb ⟨rfl,a.1 rfl,b.1 rfl⟩)
theorem ab2{z:List Int}(h:dh z=true){k:Nat}(hk:k<z.length):∃ x:Nat,x<8/\z.getD k 0=(x:Int)/\(eH z).take (k+1)=(eH z).take k++[x]:=by
 have a:z[k]∈z:=List.getElem_mem hk;have b:=ja.1 (List.all_eq_true.1 h _ a);refine⟨z[k].toNat,by omega,?_,?_⟩
 ·simp[List.getD,aB3 hk];omega
 ·rw[List.take_succ_eq_append_getElem (by simpa [eH] using hk)];simp[eH]
section
variable (s:ByteArray) (a1:Option Addr) (l1 c1:Nat) (z1:List Int) (w:World)
theorem abp(hm:s.size<=maxLen)(h:(af s).1≠0):Calls Tryz.prog 54 #[.string s,.slice a1 l1 c1] w (oC s z1 w):=by
 have E:Hid (lD s z1=(af s).1):=hid (by unfold lD;rw[aC1 h]);have C:=fe s w hm;unfold dF at C;unfold oC;rw[E.out];generalize af s=p at *;have k:((p.1:Int) !=0)=true:=by rw[bne_iff_ne];omega
 go_enter Tryz.func54,Tryz.ntmps54;go_wp2_with fail;refine C.mono ?_;rintro e d ⟨a,⟨_,rfl⟩ | ⟨b,_⟩⟩
 ·go_wp2_with fail
  go_ret2
  exact⟨0,rfl,λc=>absurd c h,λ_=>rfl,a⟩
 ·exact absurd b h
theorem Zn(hm:s.size<=maxLen)(h:(af s).1=0)(h1:Ints w a1 l1 c1 z1):Calls Tryz.prog 54 #[.string s,.slice a1 l1 c1] w (oC s z1 w):=by
 have E:Hid (lD s z1=if 40<z1.length then 5 else if dh z1=true then 0 else 6):=hid (by unfold lD;rw[aC2 h]);have C:=fe s w hm;unfold dF at C;have G:=hid (iM h);have m1:=h1.hmax;have m3:=h1.hcap;have H:=h1.hlen;have l:=λW (b:Below w.heap.size w W)=>ul a1 l1 c1 z1 W (h1.below b);unfold oC;rw[E.out];generalize af s=p at *;obtain⟨p1,ns⟩:=p;dsimp only at *;subst h;rw[H];by_cases q1:40<l1
 ·rw[aC2 q1];have k1:(40:Int)<(l1:Int):=by omega
  go_enter Tryz.func54,Tryz.ntmps54;go_wp2_with fail;refine C.mono ?_;rintro e w1 ⟨a,⟨o,_⟩ | ⟨_,q,rfl,m⟩⟩
  ·exact absurd rfl o
  go_wp2_with fail;refine(l _ a).mono ?_;rintro e I ⟨rfl,rfl⟩;go_wp2_with fail
  go_ret2
  exact⟨0,rfl,λh1=>(by cases h1),λ_=>rfl,a⟩
 rw[aC1 q1];have k1:¬ (40:Int)<(l1:Int):=by omega
 cases hal:dh z1 with
 | false=>
  rw[hal]at l;rw[aC1 (by simp)];clear hal;go_enter Tryz.func54,Tryz.ntmps54;go_wp2_with fail;refine C.mono ?_;rintro e w1 ⟨a,⟨o,_⟩ | ⟨_,q,rfl,m⟩⟩
  ·exact absurd rfl o
  go_wp2_with fail;refine(l _ a).mono ?_;rintro e I ⟨rfl,rfl⟩;go_wp2_with fail
  go_ret2
  exact⟨0,rfl,λh1=>(by cases h1),λ_=>rfl,a⟩
 | true=>
  rw[hal]at l;rw[aC2 rfl];have uO:=hid hal;have H1:=hid h1;clear hal h1;go_enter Tryz.func54,Tryz.ntmps54;go_wp2_with fail;refine C.mono ?_;rintro e w1 ⟨a,⟨o,_⟩ | ⟨_,q,rfl,m⟩⟩
  ·exact absurd rfl o
  have aK:=hid a;have HF:=hid m;clear C m;go_wp2_with fail;refine(l _ a).mono ?_;rintro e I ⟨rfl,rfl⟩;clear l a;obtain⟨J,cap,zX⟩:=Rz HF.out G.out.pos;have RW:=hid (DI w.heap.size J cap ns q I zX G.out);clear HF zX;go_wp2_with fail;refine RW.out.mono ?_;rintro e c ⟨R,vs,rfl,K,Ff,hM,aA⟩;have s1:=aK.out.size;have bF:=hid (aK.out.trans (aA.mono s1));have L:=hid (λ(W:World) (b:Below c.heap.size c W) (hd:Bool)=>FH R w.heap.size J cap ns q vs hd W (K.below b) G.out hM);have ON:=hid (λ(W:World) (b:Below c.heap.size c W) (gl x:Nat) (f:Nat->Bool) (hx:x<8) (m:Rb W gl vs.length f)=>akV R w.heap.size J cap gl x ns q vs f W (K.below b) G.out hM hx m);have N:=hid (Xq G.out Ff (eH z1) (abM uO.out));have QR:=hid (λu f x=>KM ns vs u f x);clear K Ff RW aA;go_wp2_with fail;refine(L.out c (aB4 _ _) true).mono ?_;rintro e w4 ⟨d,rfl,hy,hgy,dB⟩;have r:=hid hy;have B:=hid dB;clear hy dB;go_wp2_with fail;refine(L.out w4 B.out false).mono ?_;rintro e w5 ⟨g,rfl,hn,wz,O⟩;have t:=hid (r.out.below O);have v:=hid hn;have fH:=hid (B.out.trans (O.mono B.out.size));clear hn O r B L;generalize vs.length=M at *;go_wp2_with fail
  go_loopw [12,10,11] (λi y n P=>∃ (k d g:Nat),k<=l1/\i=.int .i64 k/\y=.slice (some ⟨d,0,none⟩) M M/\n=.slice (some ⟨g,0,none⟩) M M/\Hid (Rb P d M (Aj ns vs ((eH z1).take k) (λi=>aX vs i (ns.length - 1)==true)))/\Hid (Rb P g M (Aj ns vs ((eH z1).take k) (λi=>aX vs i (ns.length - 1)==false)))/\Below c.heap.size c P) (λi _ _ _=>l1 - (intOf i).toNat)
  case atStart=>exact⟨0,d,g,aCg _,rfl,rfl,rfl,t,v,fH.out⟩
  case round=>
   obtain⟨k,d,g,hk,rfl,rfl,rfl,t,v,a⟩:=hrel;have BW:=hid (bF.out.trans (a.mono bF.out.size));by_cases z:k<l1
   ·obtain⟨Q,j,e,S,hc⟩:=H1.out.hcell (by omega);subst e;have D:=(BW.out.cell (p:=⟨Q,j+k,none⟩) S).trans (hc k z);obtain⟨x,ET,ex,A⟩:=ab2 uO.out (k:=k) (by rw[H];exact z);rw[ex]at D;have JH:=hid A;have T:=hid a;clear hc ex A a;go_wp2_with fail;refine(ON.out wr T.out d x _ ET t.out).mono ?_;rintro e w6 ⟨g1,rfl,r1,_,F⟩;have U:=(F.cell (p:=⟨Q,j+k,none⟩) (World.block_lt_of_cell? wr ⟨Q,j+k,none⟩ D)).trans D;have V:=hid (T.out.trans (F.mono T.out.size));have QS:=hid r1;have X:=hid (v.out.below F);clear D r1 F;go_wp2_with fail;refine(ON.out w6 V.out g x _ ET X.out).mono ?_;rintro e w7 ⟨g2,rfl,r2,_,Y⟩;have jD:=hid r2;have Z:=hid (QS.out.below Y);have HBT:=hid (V.out.trans (Y.mono V.out.size));clear r2 Y U QS;go_wp2_with fail;go_roundw
    case rel=>exact⟨k+1,g1,g2,by omega,by go_num,rfl,rfl,by rw[JH.out,QR.out];exact Z,by rw[JH.out,QR.out];exact jD,HBT.out⟩
    case measure=>simp[intOf];omega
   ·obtain rfl:k=l1:=by omega
    have A:(eH z1).take k=eH z1:=List.take_of_length_le (by simp[eH,H]);rw[A]at t v;clear A a;go_wp2_with fail;refine(RY d g M _ _ wr t.out v.out (by omega)).mono ?_;rintro e w6 ⟨rfl,rfl⟩;go_wp2_with fail
    go_ret2
    exact⟨_,rfl,λ_=>by simpa using N.out,λh=>absurd rfl h,BW.out⟩
theorem Zo(hm:s.size<=maxLen)(h1:Ints w a1 l1 c1 z1):Calls Tryz.prog 54 #[.string s,.slice a1 l1 c1] w (oC s z1 w):=by
 by_cases h:(af s).1=0
 ·exact Zn s a1 l1 c1 z1 w hm h h1
 ·exact abp s a1 l1 c1 z1 w hm h
end
