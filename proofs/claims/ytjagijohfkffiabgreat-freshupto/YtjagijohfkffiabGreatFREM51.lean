import Derived.Test.YtjagijohfkffiabGreatFREM50
set_option maxHeartbeats 16000000
set_option maxRecDepth 100000
set_option linter.unusedSimpArgs false
namespace Go.Proofs.YtjagijohfkffiabGreat.fresh
open Go.ChangeShapes Go.WideShapes Go.ChangeAt Go.RowKit Go.Deep
open Go.ChangeMaps (open_string shut_string)
set_option linter.unusedVariables false
theorem own:ownKnob Tryz.prog.godebug=none:=by kernel_rfl
theorem laidOut:laidOutB Tryz.prog=true:=by kernel_rfl
theorem aeY{H:Type}(d:DataW H):1<=Rows.uptoBulk d:=by
 cases d with
 | lit x=>cases x <;> simp only[Rows.uptoBulk] <;> omega
 | nil=>simp only[Rows.uptoBulk];omega
 | ptr d=>simp only[Rows.uptoBulk];omega
 | slice a b=>simp only[Rows.uptoBulk];omega
 | agg a=>simp only[Rows.uptoBulk];omega
 | iface t d=>simp only[Rows.uptoBulk];omega
 | map e=>simp only[Rows.uptoBulk];omega
 | held h=>simp only[Rows.uptoBulk];omega
theorem Di{H:Type}:∀ (ds:List (DataW H)),ds.length<=Rows.uptoBulkAll ds
 | []=>by simp
 | d::r=>by
  have h1:=aeY d;have h2:=Di r;simp only[Rows.uptoBulkAll,List.length_cons];omega
theorem qM{H:Type}:∀ (ds:List (DataW H)) (d:DataW H),d∈ds->Rows.uptoBulk d<=Rows.uptoBulkAll ds
 | [],d,h=>by cases h
 | x::r,d,h=>by
  simp only[Rows.uptoBulkAll];rcases List.mem_cons.1 h with rfl | h
  ·omega
  ·have:=qM r d h;omega
theorem VU{H:Type}{enc:TypeId × Value->H}{W:World}{v:Value}{x:DataW H × List MemPlace}{fuel:Nat}(hf:DataW.trod enc Tryz.prog W 0 (λ_=>true) true fuel 22 [v]=some x):∃ a len cap zs,v=.slice a len cap/\Ints W a len cap zs/\len<=Rows.uptoBulk x.1:=by
 rcases open_ints Tryz.underlying22 Tryz.underlying3 (by kernel_rfl) hf with⟨hcs,_⟩ | ⟨a,len,cap,zs,hcs,_,hl,hm,hz,hx,hcell,hwz⟩
 ·simp at hcs;subst hcs;exact⟨none,0,0,[],rfl,⟨rfl,aAU _,by omega,λ_=>⟨rfl,rfl⟩,λh=>by omega⟩,by omega⟩
 ·simp at hcs;subst hcs;have aN:zs.length=cap:=by simpa using hz
  unfold maxLen at hm;refine⟨some a,len,cap,zs.take len,rfl,⟨by rw[List.length_take];omega,hl,hm,λh=>by simp at h,λh0=>?_⟩,?_⟩
  ·obtain⟨b,off,hx,hc⟩:=ints_at hcell (by omega);subst hx;refine⟨b,off,rfl,World.block_lt_of_cell? W ⟨b,off+0,none⟩ (hc 0 (by omega)),λi hi=>?_⟩;rw[hc i (by omega)];simp[List.getD,List.getElem?_take_of_lt hi]
  ·rw[hx];simp only[Rows.uptoBulk];have:=Di (lits (H:=H) .i64 (zs.take len));have e:(lits (H:=H) .i64 (zs.take len)).length=len:=by simp[lits];omega
   omega
theorem adS{H:Type}{enc:TypeId × Value->H}{W:World}{v:Value}{x:DataW H × List MemPlace}{fuel:Nat}(hf:DataW.trod enc Tryz.prog W 0 (λ_=>true) true fuel 23 [v]=some x):∃ a len cap ag,v=.slice a len cap/\Lists W a len cap ag/\len<=Rows.uptoBulk x.1/\∀ i,i<len->(ag.getD i []).length<=Rows.uptoBulk x.1:=by
 rcases open_int_rows Tryz.underlying23 Tryz.underlying22 Tryz.underlying3 (by kernel_rfl) (by kernel_rfl) hf with⟨hcs,_⟩ | ⟨x',len,cap,A,L,C,Z,hcs,_,hl,hm,hx,hr⟩
 ·simp at hcs;subst hcs;exact⟨none,0,0,[],rfl,⟨rfl,aAU _,by omega,λ_=>⟨rfl,rfl⟩,λh=>by omega⟩,by omega,λi h=>by omega⟩
 ·simp at hcs;subst hcs;unfold maxLen at hm;have hg:∀ i,i<len->((List.range len).map λr=>(Z r).take (L r)).getD i []=(Z i).take (L i):=λi hi=>by simp[List.getD,aBk,aBx hi]
  refine⟨some x',len,cap,(List.range len).map λr=>(Z r).take (L r),rfl,⟨by simp,hl,hm,λh=>by simp at h,λh0=>?_⟩,?_,λi hi=>?_⟩
  ·obtain⟨b,off,spot⟩:=x';have ann:spot=none:=by simpa [Addr.add] using World.cell?_spot (hr 0 (by omega)).1
   subst ann;have hc:∀ r,r<cap->W.cell? ⟨b,off+r,none⟩=some (.slice (A r) (L r) (C r)):=λr h=>by
    have:=(hr r h).1;rwa [Go.WideShapes.add_plain]at this
   refine⟨b,off,rfl,World.block_lt_of_cell? W ⟨b,off+0,none⟩ (hc 0 (by omega)),λi hi=>⟨A i,L i,C i,hc i (by omega),?_⟩⟩;rw[hg i hi];obtain⟨_,q1,q2,q3,_,q4,q5⟩:=hr i (by omega);unfold maxLen at q2;refine⟨by rw[List.length_take];omega,q1,q2,λh=>⟨by have:=q4 h;omega,q4 h⟩,λh0=>?_⟩;cases ha:A i with
   | none=>have:=q4 ha;omega
   | some a'=>
    have q6:=(q5 a' ha).2;obtain⟨b',Me,sp⟩:=a';have hsp:sp=none:=by simpa [Addr.add] using World.cell?_spot (q6 0 (by omega))
    subst hsp;have q7:∀ j,j<C i->W.cell? ⟨b',Me+j,none⟩=some (.int .i64 ((Z i).getD j 0)):=λj hj=>by rw[<-Go.WideShapes.add_plain];exact q6 j hj
    refine⟨b',Me,rfl,World.block_lt_of_cell? W ⟨b',Me+0,none⟩ (q7 0 (by omega)),λj hj=>?_⟩;rw[q7 j (by omega)];simp[List.getD,List.getElem?_take_of_lt hj]
  ·rw[hx];simp only[Rows.uptoBulk];have:=Di ((List.range len).map λr=>intRow (H:=H) .i64 (A r) (L r) (Z r));simp only[aBG,List.length_range]at this;omega
  ·rw[hg i hi,List.length_take,hx];simp only[Rows.uptoBulk];have EW:=qM ((List.range len).map λr=>intRow (H:=H) .i64 (A r) (L r) (Z r)) (intRow .i64 (A i) (L i) (Z i)) (aBM.2 ⟨i,aBI.2 hi,rfl⟩);generalize Rows.uptoBulkAll ((List.range len).map λr=>intRow (H:=H) .i64 (A r) (L r) (Z r))=T at *;obtain⟨_,q1,q2,q3,_,q4,q5⟩:=hr i (by omega);cases ha:A i with
   | none=>have:=q4 ha;omega
   | some a'=>
    rw[ha]at EW;simp only[intRow,Rows.uptoBulk]at EW;have:=Di (lits (H:=H) .i64 ((Z i).take (L i)));have e:(lits (H:=H) .i64 ((Z i).take (L i))).length=min (L i) (Z i).length:=by simp[lits]
    omega
theorem acV{α:Type}{cs:Array α}(h:cs.size=3):∃ c0 c1 c2,cs=#[c0,c1,c2]:=⟨cs[0],cs[1],cs[2],by
 apply Array.ext
 ·simp[h]
 ·intro i h1 h2;have:i=0\/i=1\/i=2:=by omega
  rcases this with rfl | rfl | rfl <;> rfl⟩
theorem cells3:Tryz.prog.cellsOf 25=3:=by kernel_rfl
theorem aes{H:Type}{enc:TypeId × Value->H}{W:World}{base:Nat}{v:Value}{d:DataW H}{p:List MemPlace}(hv:Value.okWide Tryz.prog W .any base 25 v)(h:DataW.Trod enc Tryz.prog W 0 (λ_=>true) true 25 v d p) :
  ∃ a1 l1 c1 a2 l2 c2 a3 l3 c3 zs ag ss,v=.agg #[.slice a1 l1 c1,.slice a2 l2 c2,.slice a3 l3 c3]/\Ints W a1 l1 c1 zs/\Lists W a2 l2 c2 ag/\Ints W a3 l3 c3 ss/\l1<=Rows.uptoBulk d/\l2<=Rows.uptoBulk d/\l3<=Rows.uptoBulk d/\∀ i,i<l2->(ag.getD i []).length<=Rows.uptoBulk d:=by
 obtain⟨cs,rfl,hsz⟩:=okWide_struct Tryz.underlying25 hv;obtain⟨c0,c1,c2,rfl⟩:=acV (hsz.trans cells3);obtain⟨fuel,hf⟩:=h;obtain⟨y0,y1,y2,n,hx,_,t0,t1,t2⟩:=trod_struct3 Tryz.underlying25 hf;have k0:Tryz.prog.cellsOf 22=1:=by kernel_rfl
 have k1:Tryz.prog.cellsOf 23=1:=by kernel_rfl
 obtain⟨a1,l1,rE,zs,rfl,hi,n1⟩:=VU (v:=c0) (by simpa [Value.cells,k0] using t0);obtain⟨a2,l2,kE,ag,rfl,hl,n2,n3⟩:=adS (v:=c1) (by simpa [Value.cells,k0,k1] using t1);obtain⟨a3,l3,cc3,ss,rfl,hs,n4⟩:=VU (v:=c2) (by simpa [Value.cells,k0,k1] using t2);have hd:d=.agg [y0.1,y1.1,y2.1]:=congrArg Prod.fst hx;have b0:=qM [y0.1,y1.1,y2.1] y0.1 (by simp);have b1:=qM [y0.1,y1.1,y2.1] y1.1 (by simp);have b2:=qM [y0.1,y1.1,y2.1] y2.1 (by simp);refine⟨a1,l1,rE,a2,l2,kE,a3,l3,cc3,zs,ag,ss,rfl,hi,hl,hs,?_,?_,?_,λi zB=>?_⟩
 all_goals rw[hd];simp only[Rows.uptoBulk]
 ·omega
 ·omega
 ·omega
 ·have:=n3 i zB;omega
theorem lifted(os:Os)(started:os.Started)(H:Type)(enc:TypeId × Value->H)(F:Stop.Interp) :
  ReturnsInHanded {} Tryz.checked os 3 .any ((Rows.OpenSpec.upto Rows.freshSpec).pre6 enc Tryz.prog Tryz.f3 Rows.freshUptoRow.domain false) (((Rows.OpenSpec.upto Rows.freshSpec).at F).post enc Tryz.prog Tryz.f3 false true false false):=by
 refine returnsInHanded_of_cond (C:=Tryz.checked) (s:=Rows.OpenSpec.upto Rows.freshSpec) (k:=Rows.uptoSmall) rfl own started (by kernel_rfl) Tryz.func3
  (OpenSpec.witness (enc:=enc) (C:=Tryz.checked) (s:=Rows.OpenSpec.upto Rows.freshSpec) (k:=Rows.uptoSmall) rfl false ⟨#[],#[.string .empty,.string .empty,.agg #[.slice none 0 0,.slice none 0 0,.slice none 0 0]],[]⟩ 8 (by kernel_rfl) (by kernel_rfl) (by kernel_rfl)
   (x:=([.lit (.string []),.lit (.string []),.agg [.nil,.nil,.nil]],[],[])) (by kernel_rfl) rfl (by kernel_rfl)) ?_
 intro W base args ds gs before afD hW _ hk _;have hval:∀ (j:Nat) t v,Tryz.f3.params[j]?=some t->args[j]?=some v->Value.okWide Tryz.prog W .any base t v:=afD;have hW':=hW;obtain⟨p,q,hA0,hV,rfl,hfz,hnd⟩:=hW;have hA:DataW.TrodAll enc Tryz.prog W 0 (λ_=>true) true Tryz.f3.params.toList args.toList ds p:=hA0;rw[Tryz.params3]at hA hval;obtain⟨v0,vs0,d0,ds0,p0,q0,hargs,rfl,rfl,h0,r0⟩:=trodAll_cons hA;obtain⟨v1,vs1,d1,ds1,p1,q1,rfl,rfl,rfl,h1,r1⟩:=trodAll_cons r0;obtain⟨v2,vs2,d2,ds2,p2,q2,rfl,rfl,rfl,h2,r2⟩:=trodAll_cons r1;obtain⟨rfl,rfl,rfl⟩:=trodAll_nil r2;obtain rfl:args=#[v0,v1,v2]:=by cases args;simp_all
 obtain⟨rfl,rfl⟩:=trodVars_none hV;have axM:Rows.uptoBulkAll [d0,d1,d2]<=1048576:=of_decide_eq_true hk;have m1:=qM [d0,d1,d2] d1 (by simp);have m2:=qM [d0,d1,d2] d2 (by simp);obtain⟨s1,rfl,rfl,rfl,w0⟩:=open_string Tryz.underlying9 (hval 0 9 v0 rfl rfl) h0;obtain⟨s2,rfl,rfl,rfl,w1⟩:=open_string Tryz.underlying9 (hval 1 9 v1 rfl rfl) h1;have lt2:∀ x∈p2,x.block<W.heap.size:=by obtain⟨m,hm⟩:=h2;exact DataW.trod_lt m _ _ _ hm
 obtain⟨a5,l5,c5,a6,l6,c6,a7,l7,c7,zs,M3,ss,rfl,w5,w6,w7,n5,n6,n7,n6'⟩:=aes (hval 2 25 v2 rfl rfl) h2;have lm:s2.size<=1048576:=by
  simp only[Rows.uptoBulk]at m1;have e:s2.data.toList.length=s2.size:=by rw[Array.length_toList];rfl
  omega
 clear hA0 afD;refine(abf s1 s2 a5 a6 a7 l5 c5 l6 c6 l7 c7 zs M3 ss W w0 lm w5 w6 w7 (by omega) (by omega) (by omega) (λi hi=>by have:=n6' i hi;omega)).mono λe W' ⟨he,bG⟩=>?_;subst he;exact⟨_,rfl,_,_,_,[],_,[],hW',trodAll_mk1 (shut_bool Tryz.underlying4 _),(trodAll_cons_mk (shut_string Tryz.underlying9 w0) (trodAll_cons_mk (shut_string Tryz.underlying9 w1) (trodAll_cons_mk (Below.trod laidOut (by kernel_rfl) (of_decide_eq_true (by kernel_rfl)) h2 bG lt2) trodAll_mk0))),rfl,bG.frame _,λh=>by cases h⟩
theorem proved:Rows.FreshUptoSaid:=
 OpenClaim.holds_of_cond 3 Tryz.f3 rfl rfl rfl rfl rfl rfl rfl ⟨rfl,rfl,rfl,rfl,rfl⟩ rfl rfl rfl rfl rfl (by kernel_rfl) Tryz.func3 (by kernel_rfl)
  (of_decide_eq_true (by kernel_rfl)) (by unfold Func.isWrapper;first | (rw[aBU (by decide +kernel)];kernel_rfl) | (rw[aBT (by decide +kernel)];exact⟨rfl,rfl⟩))
  (λos started H enc _ F=>lifted os started H enc F)
end Go.Proofs.YtjagijohfkffiabGreat.fresh
namespace Go.Proofs.YtjagijohfkffiabGreat
theorem fresh_holds:Rows.FreshUptoSaid:=fresh.proved
end Go.Proofs.YtjagijohfkffiabGreat
