import Derived.Test.YtjagijohfkffiabGreatFREM25
set_option maxHeartbeats 16000000
set_option maxRecDepth 100000
set_option linter.unusedSimpArgs false
namespace Go.Proofs.YtjagijohfkffiabGreat
open Go.RowKit
set_option linter.unusedVariables false
theorem Ny{a B:Nat}{e:TypeId}{s:Nat}{v:Value}{n:Nat}{xs:List Value}{w w':World}(h:w.ownsRow B e s v n xs)(hs:jX a w w')(ha:a<=B):w'.ownsRow B e s v n xs:=by
 refine⟨h.1,?_⟩;rcases h.2 with h0 | ⟨g,cap,cur,ev,hb,hg,r⟩
 ·exact aA2 h0
 ·exact aA3 ⟨g,cap,cur,ev,hb,(hs.block g (aBO ha hb) (dB hg)).trans hg,r⟩
theorem jX.cell{a:Nat}{w w':World}(hs:jX a w w'){x o:Nat}(h1:a<=x)(h2:x<w.heap.size):w'.cell? ⟨x,o,none⟩=w.cell? ⟨x,o,none⟩:=by
 have:=hs.block x h1 h2;unfold World.cell?;simp only[this]
theorem Xw(P N K:Nat)(to:Nat->List Nat)(kp:Nat->Nat->Bool)(w:World)(hn:pq w P N to K kp)(hN0:0<N)(hto:∀ a,a<N->∀ b∈to a,b<N)(hlen:∀ a,a<N->(to a).length<=4398046511104)(yw:∀ a,a<N->∀ j,(to a).count j<=8)(hN:N<=274877906944) :
  Calls Tryz.prog 123 #[.pointer (some ⟨P,0,none⟩)] w λe w'=>∃ P2 tl,e=.returned (.pointer (some ⟨P2,0,none⟩))/\(∀ w2,jX w.heap.size w' w2->pq w2 P2 N tl 0 kp)/\(∀ j a,a∈tl j↔a<N/\j∈to a)/\(∀ j,(tl j).length<=8*N)/\Below w.heap.size w w':=by
 obtain⟨v0,c0,ao,cap,rfl,hcap,hrow⟩:=hn.c0;obtain⟨g,rfl,hg,hcell⟩:=hrow (by omega);have hP:=hn.lt;have HC:=hid hcell;obtain⟨i0,hi,aR,aP,aN⟩:=info_parts Tryz.ym;obtain⟨i1,iC,fe,eZ,eY⟩:=info_parts Tryz.lW;have zX:=hid hto;have Ls:=hid hlen;have Xh:=hid yw;clear hcell hrow hn hto hlen yw;go_enter Tryz.func123,Tryz.ntmps123;go_wp2_with (at_make;go_must (refine aBA _ rfl (.tmp 10) (.tmp 10) 23 rfl w.heap.size 22 i0 (.slice none 0 0) 1 Tryz.underlying23 hi aR aP .i64 .i64 N N N rfl rfl rfl rfl ?m2 ?m3 (aAU _) ?_))
 case m2=>rw[aN];omega
 case m3=>unfold maxLen;omega
 intro w1 aF aZ;have eo:(madeCells #[Value.slice none 0 0] N).toList=(List.range N).map (λ_=>Value.slice none 0 0):=by
  rw[aBq];apply List.ext_getElem
  ·simp
  ·intro i h1 h2;simp
 rw[eo]at aF;have aM:Below w.heap.size w w1:=(aAW _ _).grown aZ (aAU _) (λk h=>by cases h);have hs1:w.heap.size<w1.heap.size:=(aF.lt _ rfl).2;have T1:=hid (dD w1 (.slice (some ⟨w.heap.size,0,none⟩) N N) (.slice none 0 0) 140);have M1:Hid (Im (w1.alloc (.cells #[.slice (some ⟨w.heap.size,0,none⟩) N N,.slice none 0 0] 140)) w.heap.size (w1.heap.size+1) w.heap.size N (λ_=>.slice none 0 0) (λ_=>[])):=
  hid ⟨aF.alloc _,λj hj=>aBh _ _ _ _,λi j _ _ _=>aA2 rfl⟩
 have aK:=hid (aM.alloc aM.size (.cells #[.slice (some ⟨w.heap.size,0,none⟩) N N,.slice none 0 0] 140));clear aF aZ eo aM;go_wp2_with fail
 go_loopw [4] (λi wr=>∃ (q:Nat) (V:Nat->Value) (tl:Nat->List Nat),q<=N/\i=.int .i64 q/\Hid (Ua to q 0 tl)/\Hid (Im wr w.heap.size (w1.heap.size+1) w.heap.size N V tl)/\Two wr w1.heap.size (.slice (some ⟨w.heap.size,0,none⟩) N N) (.slice none 0 0)/\Below w.heap.size w wr) (λi _=>N - (intOf i).toNat)
 case atStart=>exact⟨0,_,_,aA8 _,rfl,hid (acT to),M1,T1.out,aK.out⟩
 case round=>
  obtain⟨q,V,tl,hq,rfl,HP,HM,t2,hb⟩:=hrel;rename World=>W0;have c0':=(hb.cell (p:=⟨P,0,none⟩) hP).trans c0;by_cases hlt:q<N
  ·obtain⟨r,cr,Km⟩:=HC.out q hlt;obtain⟨aor,qF,rfl,hrc,rz⟩:=Km;have oh:=hid rz;have Eh:=hid cr;have jW:=Ls.out q hlt;have HTQ:=hid (zX.out q hlt);have uf:=hid t2;generalize oU:(to q).length=ln at *;have bZ:=hid oU;clear rz oU t2 cr;go_wp2_with fail
   go_loopw [5] (λi wr=>∃ (k:Nat) (V:Nat->Value) (tl:Nat->List Nat),k<=ln/\i=.int .i64 k/\Hid (Ua to q k tl)/\Hid (Im wr w.heap.size (w1.heap.size+1) w.heap.size N V tl)/\Two wr w1.heap.size (.slice (some ⟨w.heap.size,0,none⟩) N N) (.slice none 0 0)/\Below w.heap.size w wr) (λi _=>ln - (intOf i).toNat)
   case atStart=>exact⟨0,V,tl,aA8 _,rfl,HP,HM,uf.out,hb⟩
   case round=>
    obtain⟨k,V,tl,hk,rfl,Eb,qp,t3,aI⟩:=hrel;have c3:=(aI.cell (p:=⟨P,0,none⟩) hP).trans c0;have cr3:=(aI.cell (p:=⟨g,q,none⟩) hg).trans Eh.out;have hsz:=aI.size;by_cases hlk:k<ln
    ·obtain⟨gr,e,hgr,FW⟩:=oh.out (by omega);subst e;have cb:=(aI.cell (p:=⟨gr,k,none⟩) hgr).trans (FW k hlk);have wL:df (to q) k<N:=HTQ.out _ (mh (by rw[bZ.out];exact hlk));have mI:=hid (ahf Eb.out (k:=k) (by rw[bZ.out];exact hlk));generalize df (to q) k=b at *;have cv:wr.cell? ⟨w.heap.size,b,none⟩=some (V b):=by
      rw[qp.out.out.cellAt b (by omega)];simp[aBk,aBx wL]
     have own:=qp.out.row b wL;have ax4:=Eb.out.len b;have p2:=t3.c0;have hPP:=t3.lt;have hcl:(tl b).length<=1099511627776*4:=by
      have h1:=(List.take_sublist k (to q)).count_le b;have h2:=Xh.out q hlt b;omega
     have wri:IntKind.i64.wrap (q:Int)=(q:Int):=by rw[IntKind.wrap_i64];omega
     have nb:∀ x,x<w1.heap.size+1->some x≠(V b).ownBlock:=λx hx e=>by
      have:=(own.lt x e.symm).1;omega
     have cf:wr.frozen? ⟨w.heap.size,b,none⟩=false:=qp.out.out.frozenAt b;have z1:(0:Int)<=(q:Int):=Int.natCast_nonneg _;have z2:(q:Int)<(N:Int):=by omega
     have z3:(0:Int)<=(k:Int):=Int.natCast_nonneg _;have z4:(k:Int)<(ln:Int):=by omega
     have z5:(0:Int)<=(b:Int):=Int.natCast_nonneg _;have z6:(b:Int)<(N:Int):=by omega
     have y1:w.heap.size<w1.heap.size+1:=by omega
     have y0:w.heap.size<wr.heap.size:=by omega
     have y2:P<w1.heap.size+1:=by omega
     have y3:g<w1.heap.size+1:=by omega
     have y4:gr<w1.heap.size+1:=by omega
     clear FW;go_wp2_with fail;have yP:P<wr.heap.size:=by omega
     have yg:g<wr.heap.size:=by omega
     have ygr:gr<wr.heap.size:=by omega
     refine wp_region_held_drew (S:=λw'=>w'.cell? ⟨w1.heap.size,0,none⟩=some (.slice (some ⟨w.heap.size,0,none⟩) N N)/\w'.cell? ⟨P,0,none⟩=some (.slice (some ⟨g,0,none⟩) N cap)/\w'.cell? ⟨g,q,none⟩=some (.slice (some ⟨gr,0,none⟩) ln qF)/\w'.cell? ⟨gr,k,none⟩=some (.int .i64 b)) (by kernel_rfl) ⟨p2,c3,cr3,cb⟩ (λau=>?_);refine aA4 (i:=0) (oi:={ dst:=some 35,op:=Op.move (.tmp 3),type:=_,pos:=_,after:=_,guard:=none }) (v:=(Value.pointer (some ⟨w1.heap.size,0,none⟩))) rfl (by kernel_rfl) (by kernel_rfl) (by kernel_rfl) (λ_ _ _ h=>h) (aA2 ⟨by rfl,by intro w' af;(try dsimp only at af);go_simp⟩) (by assumption) ?_
     simp only[Act.put,aAT,aAX,aAY];refine aA4 (i:=1) (oi:={ dst:=some 36,op:=Op.nilCheck (.tmp 35),type:=_,pos:=_,after:=_,guard:=none }) (v:=(Value.pointer (some ⟨w1.heap.size,0,none⟩))) rfl (by kernel_rfl) (by kernel_rfl) (by kernel_rfl) (λ_ _ _ h=>h) (aA2 ⟨by rfl,by intro w' af;(try dsimp only at af);go_simp⟩) (by assumption) ?_
     simp only[Act.put,aAT,aAX,aAY];refine aA4 (i:=2) (oi:={ dst:=some 37,op:=Op.fieldAddr _ (.tmp 36) 0,type:=_,pos:=_,after:=_,guard:=none }) (v:=(Value.pointer (some ⟨w1.heap.size,0,none⟩))) rfl (by kernel_rfl) (by kernel_rfl) (by kernel_rfl) (λ_ _ _ h=>h) (aA2 ⟨by rfl,by intro w' af;(try dsimp only at af);go_simp⟩) (by assumption) ?_
     simp only[Act.put,aAT,aAX,aAY];refine aA4 (i:=3) (oi:={ dst:=some 38,op:=Op.load _ (.tmp 37),type:=_,pos:=_,after:=_,guard:=none }) (v:=(Value.slice (some ⟨w.heap.size,0,none⟩) N N)) rfl (by kernel_rfl) (by kernel_rfl) (by kernel_rfl) (λ_ _ _ h=>h) (aA2 ⟨by rfl,by intro w' af;(try dsimp only at af);go_simp⟩) (by assumption) ?_
     simp only[Act.put,aAT,aAX,aAY];refine aA4 (i:=4) (oi:={ dst:=some 39,op:=Op.move (.tmp 0),type:=_,pos:=_,after:=_,guard:=none }) (v:=(Value.pointer (some ⟨P,0,none⟩))) rfl (by kernel_rfl) (by kernel_rfl) (by kernel_rfl) (λ_ _ _ h=>h) (aA2 ⟨by rfl,by intro w' af;(try dsimp only at af);go_simp⟩) (by assumption) ?_
     simp only[Act.put,aAT,aAX,aAY];refine aA4 (i:=5) (oi:={ dst:=some 40,op:=Op.nilCheck (.tmp 39),type:=_,pos:=_,after:=_,guard:=none }) (v:=(Value.pointer (some ⟨P,0,none⟩))) rfl (by kernel_rfl) (by kernel_rfl) (by kernel_rfl) (λ_ _ _ h=>h) (aA2 ⟨by rfl,by intro w' af;(try dsimp only at af);go_simp⟩) (by assumption) ?_
     simp only[Act.put,aAT,aAX,aAY];refine aA4 (i:=6) (oi:={ dst:=some 41,op:=Op.fieldAddr _ (.tmp 40) 0,type:=_,pos:=_,after:=_,guard:=none }) (v:=(Value.pointer (some ⟨P,0,none⟩))) rfl (by kernel_rfl) (by kernel_rfl) (by kernel_rfl) (λ_ _ _ h=>h) (aA2 ⟨by rfl,by intro w' af;(try dsimp only at af);go_simp⟩) (by assumption) ?_
     simp only[Act.put,aAT,aAX,aAY];refine aA4 (i:=7) (oi:={ dst:=some 42,op:=Op.load _ (.tmp 41),type:=_,pos:=_,after:=_,guard:=none }) (v:=(Value.slice (some ⟨g,0,none⟩) N cap)) rfl (by kernel_rfl) (by kernel_rfl) (by kernel_rfl) (λ_ _ _ h=>h) (aA2 ⟨by rfl,by intro w' af;(try dsimp only at af);go_simp⟩) (by assumption) ?_
     simp only[Act.put,aAT,aAX,aAY];refine aA4 (i:=8) (oi:={ dst:=some 43,op:=Op.move (.tmp 4),type:=_,pos:=_,after:=_,guard:=none }) (v:=(Value.int .i64 (q:Nat))) rfl (by kernel_rfl) (by kernel_rfl) (by kernel_rfl) (λ_ _ _ h=>h) (aA2 ⟨by rfl,by intro w' af;(try dsimp only at af);go_simp⟩) (by assumption) ?_
     simp only[Act.put,aAT,aAX,aAY];refine aA4 (i:=9) (oi:={ dst:=some 44,op:=Op.indexAddr _ (.tmp 42) (.tmp 43),type:=_,pos:=_,after:=_,guard:=none }) (v:=(Value.pointer (some ⟨g,q,none⟩))) rfl (by kernel_rfl) (by kernel_rfl) (by kernel_rfl) (λ_ _ _ h=>h) (aA2 ⟨by rfl,by intro w' af;(try dsimp only at af);go_simp⟩) (by assumption) ?_
     simp only[Act.put,aAT,aAX,aAY];refine aA4 (i:=10) (oi:={ dst:=some 45,op:=Op.load _ (.tmp 44),type:=_,pos:=_,after:=_,guard:=none }) (v:=(Value.slice (some ⟨gr,0,none⟩) ln qF)) rfl (by kernel_rfl) (by kernel_rfl) (by kernel_rfl) (λ_ _ _ h=>h) (aA2 ⟨by rfl,by intro w' af;(try dsimp only at af);go_simp⟩) (by assumption) ?_
     simp only[Act.put,aAT,aAX,aAY];refine aA4 (i:=11) (oi:={ dst:=some 46,op:=Op.move (.tmp 5),type:=_,pos:=_,after:=_,guard:=none }) (v:=(Value.int .i64 (k:Nat))) rfl (by kernel_rfl) (by kernel_rfl) (by kernel_rfl) (λ_ _ _ h=>h) (aA2 ⟨by rfl,by intro w' af;(try dsimp only at af);go_simp⟩) (by assumption) ?_
     simp only[Act.put,aAT,aAX,aAY];refine aA4 (i:=12) (oi:={ dst:=some 47,op:=Op.indexAddr _ (.tmp 45) (.tmp 46),type:=_,pos:=_,after:=_,guard:=none }) (v:=(Value.pointer (some ⟨gr,k,none⟩))) rfl (by kernel_rfl) (by kernel_rfl) (by kernel_rfl) (λ_ _ _ h=>h) (aA2 ⟨by rfl,by intro w' af;(try dsimp only at af);go_simp⟩) (by assumption) ?_
     simp only[Act.put,aAT,aAX,aAY];refine aA4 (i:=13) (oi:={ dst:=some 48,op:=Op.load _ (.tmp 47),type:=_,pos:=_,after:=_,guard:=none }) (v:=(Value.int .i64 (b:Nat))) rfl (by kernel_rfl) (by kernel_rfl) (by kernel_rfl) (λ_ _ _ h=>h) (aA2 ⟨by rfl,by intro w' af;(try dsimp only at af);go_simp⟩) (by assumption) ?_
     simp only[Act.put,aAT,aAX,aAY];refine aA4 (i:=14) (oi:={ dst:=some 49,op:=Op.move (.tmp 3),type:=_,pos:=_,after:=_,guard:=none }) (v:=(Value.pointer (some ⟨w1.heap.size,0,none⟩))) rfl (by kernel_rfl) (by kernel_rfl) (by kernel_rfl) (λ_ _ _ h=>h) (aA2 ⟨by rfl,by intro w' af;(try dsimp only at af);go_simp⟩) (by assumption) ?_
     simp only[Act.put,aAT,aAX,aAY];refine aA4 (i:=15) (oi:={ dst:=some 50,op:=Op.nilCheck (.tmp 49),type:=_,pos:=_,after:=_,guard:=none }) (v:=(Value.pointer (some ⟨w1.heap.size,0,none⟩))) rfl (by kernel_rfl) (by kernel_rfl) (by kernel_rfl) (λ_ _ _ h=>h) (aA2 ⟨by rfl,by intro w' af;(try dsimp only at af);go_simp⟩) (by assumption) ?_
     simp only[Act.put,aAT,aAX,aAY];refine aA4 (i:=16) (oi:={ dst:=some 51,op:=Op.fieldAddr _ (.tmp 50) 0,type:=_,pos:=_,after:=_,guard:=none }) (v:=(Value.pointer (some ⟨w1.heap.size,0,none⟩))) rfl (by kernel_rfl) (by kernel_rfl) (by kernel_rfl) (λ_ _ _ h=>h) (aA2 ⟨by rfl,by intro w' af;(try dsimp only at af);go_simp⟩) (by assumption) ?_
     simp only[Act.put,aAT,aAX,aAY];refine aA4 (i:=17) (oi:={ dst:=some 52,op:=Op.load _ (.tmp 51),type:=_,pos:=_,after:=_,guard:=none }) (v:=(Value.slice (some ⟨w.heap.size,0,none⟩) N N)) rfl (by kernel_rfl) (by kernel_rfl) (by kernel_rfl) (λ_ _ _ h=>h) (aA2 ⟨by rfl,by intro w' af;(try dsimp only at af);go_simp⟩) (by assumption) ?_
     simp only[Act.put,aAT,aAX,aAY];refine aA4 (i:=18) (oi:={ dst:=some 53,op:=Op.move (.tmp 0),type:=_,pos:=_,after:=_,guard:=none }) (v:=(Value.pointer (some ⟨P,0,none⟩))) rfl (by kernel_rfl) (by kernel_rfl) (by kernel_rfl) (λ_ _ _ h=>h) (aA2 ⟨by rfl,by intro w' af;(try dsimp only at af);go_simp⟩) (by assumption) ?_
     simp only[Act.put,aAT,aAX,aAY];refine aA4 (i:=19) (oi:={ dst:=some 54,op:=Op.nilCheck (.tmp 53),type:=_,pos:=_,after:=_,guard:=none }) (v:=(Value.pointer (some ⟨P,0,none⟩))) rfl (by kernel_rfl) (by kernel_rfl) (by kernel_rfl) (λ_ _ _ h=>h) (aA2 ⟨by rfl,by intro w' af;(try dsimp only at af);go_simp⟩) (by assumption) ?_
     simp only[Act.put,aAT,aAX,aAY];refine aA4 (i:=20) (oi:={ dst:=some 55,op:=Op.fieldAddr _ (.tmp 54) 0,type:=_,pos:=_,after:=_,guard:=none }) (v:=(Value.pointer (some ⟨P,0,none⟩))) rfl (by kernel_rfl) (by kernel_rfl) (by kernel_rfl) (λ_ _ _ h=>h) (aA2 ⟨by rfl,by intro w' af;(try dsimp only at af);go_simp⟩) (by assumption) ?_
     simp only[Act.put,aAT,aAX,aAY];refine aA4 (i:=21) (oi:={ dst:=some 56,op:=Op.load _ (.tmp 55),type:=_,pos:=_,after:=_,guard:=none }) (v:=(Value.slice (some ⟨g,0,none⟩) N cap)) rfl (by kernel_rfl) (by kernel_rfl) (by kernel_rfl) (λ_ _ _ h=>h) (aA2 ⟨by rfl,by intro w' af;(try dsimp only at af);go_simp⟩) (by assumption) ?_
     simp only[Act.put,aAT,aAX,aAY];refine aA4 (i:=22) (oi:={ dst:=some 57,op:=Op.move (.tmp 4),type:=_,pos:=_,after:=_,guard:=none }) (v:=(Value.int .i64 (q:Nat))) rfl (by kernel_rfl) (by kernel_rfl) (by kernel_rfl) (λ_ _ _ h=>h) (aA2 ⟨by rfl,by intro w' af;(try dsimp only at af);go_simp⟩) (by assumption) ?_
     simp only[Act.put,aAT,aAX,aAY];refine aA4 (i:=23) (oi:={ dst:=some 58,op:=Op.indexAddr _ (.tmp 56) (.tmp 57),type:=_,pos:=_,after:=_,guard:=none }) (v:=(Value.pointer (some ⟨g,q,none⟩))) rfl (by kernel_rfl) (by kernel_rfl) (by kernel_rfl) (λ_ _ _ h=>h) (aA2 ⟨by rfl,by intro w' af;(try dsimp only at af);go_simp⟩) (by assumption) ?_
     simp only[Act.put,aAT,aAX,aAY];refine aA4 (i:=24) (oi:={ dst:=some 59,op:=Op.load _ (.tmp 58),type:=_,pos:=_,after:=_,guard:=none }) (v:=(Value.slice (some ⟨gr,0,none⟩) ln qF)) rfl (by kernel_rfl) (by kernel_rfl) (by kernel_rfl) (λ_ _ _ h=>h) (aA2 ⟨by rfl,by intro w' af;(try dsimp only at af);go_simp⟩) (by assumption) ?_
     simp only[Act.put,aAT,aAX,aAY];refine aA4 (i:=25) (oi:={ dst:=some 60,op:=Op.move (.tmp 5),type:=_,pos:=_,after:=_,guard:=none }) (v:=(Value.int .i64 (k:Nat))) rfl (by kernel_rfl) (by kernel_rfl) (by kernel_rfl) (λ_ _ _ h=>h) (aA2 ⟨by rfl,by intro w' af;(try dsimp only at af);go_simp⟩) (by assumption) ?_
     simp only[Act.put,aAT,aAX,aAY];refine aA4 (i:=26) (oi:={ dst:=some 61,op:=Op.indexAddr _ (.tmp 59) (.tmp 60),type:=_,pos:=_,after:=_,guard:=none }) (v:=(Value.pointer (some ⟨gr,k,none⟩))) rfl (by kernel_rfl) (by kernel_rfl) (by kernel_rfl) (λ_ _ _ h=>h) (aA2 ⟨by rfl,by intro w' af;(try dsimp only at af);go_simp⟩) (by assumption) ?_
     simp only[Act.put,aAT,aAX,aAY];refine aA4 (i:=27) (oi:={ dst:=some 62,op:=Op.load _ (.tmp 61),type:=_,pos:=_,after:=_,guard:=none }) (v:=(Value.int .i64 (b:Nat))) rfl (by kernel_rfl) (by kernel_rfl) (by kernel_rfl) (λ_ _ _ h=>h) (aA2 ⟨by rfl,by intro w' af;(try dsimp only at af);go_simp⟩) (by assumption) ?_
     simp only[Act.put,aAT,aAX,aAY];refine aA4 (i:=28) (oi:={ dst:=some 63,op:=Op.indexAddr _ (.tmp 52) (.tmp 62),type:=_,pos:=_,after:=_,guard:=none }) (v:=(Value.pointer (some ⟨w.heap.size,b,none⟩))) rfl (by kernel_rfl) (by kernel_rfl) (by kernel_rfl) (λ_ _ _ h=>h) (aA2 ⟨by rfl,by intro w' af;(try dsimp only at af);go_simp⟩) (by assumption) ?_
     simp only[Act.put,aAT,aAX,aAY];refine aA4 (i:=30) (oi:={ dst:=some 65,op:=Op.move (.tmp 4),type:=_,pos:=_,after:=_,guard:=none }) (v:=(Value.int .i64 (q:Nat))) rfl (by kernel_rfl) (by kernel_rfl) (by kernel_rfl) (λ_ _ _ h=>h) (aA2 ⟨by rfl,by intro w' af;(try dsimp only at af);go_simp⟩) (by assumption) ?_
     simp only[Act.put,aAT,aAX,aAY];refine aBc (rs:=[29,31]) (by kernel_rfl) (by simp) ?_;refine aA7 rfl (λK hK=>?_) (aA7 rfl (λK hK=>?_) aBb)
     ·go_simp
      refine hK.out _ _ (by assumption) (λau=>?_);clear hK K;refine aBc (rs:=[31]) (by kernel_rfl) (by simp) ?_;refine aA7 rfl (λK hK=>?_) aBb
      go_simp
      refine hK.out _ _ ?hs (λau=>?_)
      case hs=>first | go_keep | (go_split_ands;refine⟨?_,?_,?_,?_⟩ <;> simp[*])
      clear hK K;refine aBc (rs:=[32]) (by kernel_rfl) (by simp) ?_;refine aA7 rfl (λK hK=>?_) aBb;refine aBN _ (by rfl) (.tmp 64) (.tmp 66) 22 (by rfl) (w1.heap.size+1) 3 i1 (.int .i64 0) 1 8 Tryz.underlying22 iC fe eZ eY rfl (by decide) (V b) (tl b).length (aD (tl b)) (by rfl) ((own.alloc _).drew) ⟨wr.heap.size,0,none⟩ 1 1 [.int .i64 q] (by rfl) (by rfl) (World.news_of_block (cs:=#[.int .i64 q]) (t:=3) (fr:=(0,0)) (heap_alloc_new wr _)) (by simp[Value.oneCell']) (by decide) (by unfold maxLen;omega) (by omega) (by simp;omega) (wr.heap.size+1) (by simp) ?_;intro gg cc w2 hown hgrow hat gu;have iL:Im (wr.alloc (.cells #[.int .i64 (q:Int)] 3)).drew w.heap.size (w1.heap.size+1) w.heap.size N V tl:=qp.out.keeps (aBd ((aAW wr.heap.size wr).alloc (aAU _) (.cells #[.int .i64 (q:Int)] 3)) 1);have O2:=iL.out.kept hgrow (aC iL.out (iL.row b wL) (by decide));have d1:=O2.frozenAt b;have d0:w2.cell? ⟨w.heap.size,b,none⟩=some (V b):=(O2.cellAt b (by omega)).trans (by simp[aBk,aBx wL]);have bR:Below (w1.heap.size+1) wr w2:=(aBd ((aAW (w1.heap.size+1) wr).alloc (by omega) (.cells #[.int .i64 (q:Int)] 3)) 1).grown hgrow (by show w1.heap.size+1<=(wr.alloc (.cells #[.int .i64 (q:Int)] 3)).heap.size;rw[aAZ];omega) (λx h=>(own.lt x h).1);have TM:=hid (QA iL wL (a:=q) hgrow hown (by rcases hat with h | h;exact aA2 h;exact aA3 (by rw[h];exact(aAZ ..).symm)));have s1:=t3.below bR (aBs _);have T5:=hid (s1.other (k:=w.heap.size) (o:=b) (by omega) (.slice (some ⟨gg,0,none⟩) ((tl b).length+1) cc));have BB:=hid ((aI.trans (bR.mono (by omega))).setCell (p:=⟨w.heap.size,b,none⟩) (aAU _) (.slice (some ⟨gg,0,none⟩) ((tl b).length+1) cc));have e1:=s1.c0;have e2:=(bR.cell (p:=⟨P,0,none⟩) y2).trans c3;have e3:=(bR.cell (p:=⟨g,q,none⟩) y3).trans cr3;have e4:=(bR.cell (p:=⟨gr,k,none⟩) y4).trans cb;have KS:∀ (x o:Nat) {u v:Value},x≠w.heap.size->w2.cell? ⟨x,o,none⟩=some v->(w2.setCell ⟨w.heap.size,b,none⟩ u).cell? ⟨x,o,none⟩=some v:=λx o u v hx hv=>by
       rw[aA0 _ _ _ _ (λe=>hx (by have:=congrArg Addr.block e;simpa using this.symm))];exact hv
      have jw:=hid (⟨KS _ _ (by omega) e1,KS _ _ (by omega) e2,KS _ _ (by omega) e3,KS _ _ (by omega) e4⟩:(λw':World=>w'.cell? ⟨w1.heap.size,0,none⟩=some (.slice (some ⟨w.heap.size,0,none⟩) N N)/\w'.cell? ⟨P,0,none⟩=some (.slice (some ⟨g,0,none⟩) N cap)/\w'.cell? ⟨g,q,none⟩=some (.slice (some ⟨gr,0,none⟩) ln qF)/\w'.cell? ⟨gr,k,none⟩=some (.int .i64 b)) (w2.setCell ⟨w.heap.size,b,none⟩ (.slice (some ⟨gg,0,none⟩) ((tl b).length+1) cc)));refine hK.out _ _ ⟨e1,e2,e3,e4⟩ (λau=>?_);clear hK K O2 iL bR hown hgrow hat s1 KS own;simp only[Act.put,aAT];refine aA4 (i:=33) (oi:={ dst:=some 68,op:=Op.indexAddr _ (.tmp 38) (.tmp 48),type:=_,pos:=_,after:=_,guard:=none }) (v:=(Value.pointer (some ⟨w.heap.size,b,none⟩))) rfl (by kernel_rfl) (by kernel_rfl) (by kernel_rfl) (λ_ _ _ h=>h) (aA2 ⟨by rfl,by intro w' af;(try dsimp only at af);go_simp⟩) (by assumption) ?_
      simp only[Act.put];refine aBc (rs:=[34]) (by kernel_rfl) (by simp) ?_;refine aA7 rfl (λK hK=>?_) aBb
      go_simp
      refine hK.out _ _ jw.out (λau=>?_);clear hK K;refine aBS (by kernel_rfl) ?_ _;clear au e1 e2 e3 e4 d0 d1;go_wp2_with fail;go_roundw
      case rel=>exact⟨k+1,_,_,by omega,by go_num,mI,TM,T5.out,BB.out⟩
      case measure=>simp[intOf];omega
     ·go_simp
      refine hK.out _ _ ?hs (λau=>?_)
      case hs=>first | go_keep | (go_split_ands;refine⟨?_,?_,?_,?_⟩ <;> simp[*])
      clear hK K;refine aBc (rs:=[29]) (by kernel_rfl) (by simp) ?_;refine aA7 rfl (λK hK=>?_) aBb
      go_simp
      refine hK.out _ _ (by assumption) (λau=>?_);clear hK K;refine aBc (rs:=[32]) (by kernel_rfl) (by simp) ?_;refine aA7 rfl (λK hK=>?_) aBb;refine aBN _ (by rfl) (.tmp 64) (.tmp 66) 22 (by rfl) (w1.heap.size+1) 3 i1 (.int .i64 0) 1 8 Tryz.underlying22 iC fe eZ eY rfl (by decide) (V b) (tl b).length (aD (tl b)) (by rfl) ((own.alloc _).drew) ⟨wr.heap.size,0,none⟩ 1 1 [.int .i64 q] (by rfl) (by rfl) (World.news_of_block (cs:=#[.int .i64 q]) (t:=3) (fr:=(0,0)) (heap_alloc_new wr _)) (by simp[Value.oneCell']) (by decide) (by unfold maxLen;omega) (by omega) (by simp;omega) (wr.heap.size+1) (by simp) ?_;intro gg cc w2 hown hgrow hat gu;have iL:Im (wr.alloc (.cells #[.int .i64 (q:Int)] 3)).drew w.heap.size (w1.heap.size+1) w.heap.size N V tl:=qp.out.keeps (aBd ((aAW wr.heap.size wr).alloc (aAU _) (.cells #[.int .i64 (q:Int)] 3)) 1);have O2:=iL.out.kept hgrow (aC iL.out (iL.row b wL) (by decide));have d1:=O2.frozenAt b;have d0:w2.cell? ⟨w.heap.size,b,none⟩=some (V b):=(O2.cellAt b (by omega)).trans (by simp[aBk,aBx wL]);have bR:Below (w1.heap.size+1) wr w2:=(aBd ((aAW (w1.heap.size+1) wr).alloc (by omega) (.cells #[.int .i64 (q:Int)] 3)) 1).grown hgrow (by show w1.heap.size+1<=(wr.alloc (.cells #[.int .i64 (q:Int)] 3)).heap.size;rw[aAZ];omega) (λx h=>(own.lt x h).1);have TM:=hid (QA iL wL (a:=q) hgrow hown (by rcases hat with h | h;exact aA2 h;exact aA3 (by rw[h];exact(aAZ ..).symm)));have s1:=t3.below bR (aBs _);have T5:=hid (s1.other (k:=w.heap.size) (o:=b) (by omega) (.slice (some ⟨gg,0,none⟩) ((tl b).length+1) cc));have BB:=hid ((aI.trans (bR.mono (by omega))).setCell (p:=⟨w.heap.size,b,none⟩) (aAU _) (.slice (some ⟨gg,0,none⟩) ((tl b).length+1) cc));have e1:=s1.c0;have e2:=(bR.cell (p:=⟨P,0,none⟩) y2).trans c3;have e3:=(bR.cell (p:=⟨g,q,none⟩) y3).trans cr3;have e4:=(bR.cell (p:=⟨gr,k,none⟩) y4).trans cb;have KS:∀ (x o:Nat) {u v:Value},x≠w.heap.size->w2.cell? ⟨x,o,none⟩=some v->(w2.setCell ⟨w.heap.size,b,none⟩ u).cell? ⟨x,o,none⟩=some v:=λx o u v hx hv=>by
       rw[aA0 _ _ _ _ (λe=>hx (by have:=congrArg Addr.block e;simpa using this.symm))];exact hv
      have jw:=hid (⟨KS _ _ (by omega) e1,KS _ _ (by omega) e2,KS _ _ (by omega) e3,KS _ _ (by omega) e4⟩:(λw':World=>w'.cell? ⟨w1.heap.size,0,none⟩=some (.slice (some ⟨w.heap.size,0,none⟩) N N)/\w'.cell? ⟨P,0,none⟩=some (.slice (some ⟨g,0,none⟩) N cap)/\w'.cell? ⟨g,q,none⟩=some (.slice (some ⟨gr,0,none⟩) ln qF)/\w'.cell? ⟨gr,k,none⟩=some (.int .i64 b)) (w2.setCell ⟨w.heap.size,b,none⟩ (.slice (some ⟨gg,0,none⟩) ((tl b).length+1) cc)));refine hK.out _ _ ⟨e1,e2,e3,e4⟩ (λau=>?_);clear hK K O2 iL bR hown hgrow hat s1 KS own;simp only[Act.put,aAT];refine aA4 (i:=33) (oi:={ dst:=some 68,op:=Op.indexAddr _ (.tmp 38) (.tmp 48),type:=_,pos:=_,after:=_,guard:=none }) (v:=(Value.pointer (some ⟨w.heap.size,b,none⟩))) rfl (by kernel_rfl) (by kernel_rfl) (by kernel_rfl) (λ_ _ _ h=>h) (aA2 ⟨by rfl,by intro w' af;(try dsimp only at af);go_simp⟩) (by assumption) ?_
      simp only[Act.put];refine aBc (rs:=[34]) (by kernel_rfl) (by simp) ?_;refine aA7 rfl (λK hK=>?_) aBb
      go_simp
      refine hK.out _ _ jw.out (λau=>?_);clear hK K;refine aBS (by kernel_rfl) ?_ _;clear au e1 e2 e3 e4 d0 d1;go_wp2_with fail;go_roundw
      case rel=>exact⟨k+1,_,_,by omega,by go_num,mI,TM,T5.out,BB.out⟩
      case measure=>simp[intOf];omega
    ·obtain rfl:k=ln:=by omega
     have Ef:=hid (ahg (by rw[bZ.out];exact Eb.out) (Xh.out q hlt));go_wp2_with fail;go_roundw
     case rel=>exact⟨q+1,V,tl,by omega,by go_num,Ef,qp,t3,aI⟩
     case measure=>simp[intOf];omega
  ·obtain rfl:q=N:=by omega
   have hwg:w.heap.size<=w1.heap.size:=by omega
   have NM:Hid (∀ w2,jX w.heap.size W0 w2->pq w2 w1.heap.size q tl 0 kp):=hid (λw2 hs=>by
    have OU:=Ny HM.out.out hs (aAU _);exact⟨aBi t2.lt hs.size,⟨_,(hs.cell hwg t2.lt).trans t2.c0,_,_,rfl,aAU _,λ_=>⟨w.heap.size,rfl,(OU.lt _ rfl).2,λi hi=>⟨V i,by rw[OU.cellAt i (by omega)];simp[aBk,aBx hi],AY (Ny (HM.out.row i hi) hs (by omega))⟩⟩⟩,⟨_,(hs.cell hwg t2.lt).trans t2.c1,none,0,rfl,aAU _,λh=>by omega⟩⟩)
   have HMM:Hid (∀ j a,a∈tl j↔a<q/\j∈to a):=hid (λj a=>by rw[HP.out.mem];simp);have qw:Hid (∀ j,(tl j).length<=8*q):=hid (λj=>by have:=HP.out.len j;simpa using this);clear t2;go_wp2_with fail;go_ret;exact⟨w1.heap.size,tl,rfl,NM.out,HMM.out,qw.out,hb⟩
theorem Qx:MU:=λP N K to kp w hn h0 hto hlen yw hN=>Xw P N K to kp w hn h0 hto hlen yw (by omega)
theorem ac2{ns:List Nd}(hw:gZ ns):0<(dQ ns (2 ^ ns.length)).length:=by
 obtain⟨S,_,hE⟩:=pO hw (λ_=>0);obtain⟨f1,f2,_⟩:=(kg hw _ _ _).1 (hE.step 0);obtain⟨i,hi,_⟩:=(JC hw).all (S 0) 0 (by omega) f1 f2;omega
theorem VC{ns:List Nd}(hg:Good ns):(dQ ns (2 ^ ns.length)).length<=256:=
 aBO (Qt _ _) (aBO (Nat.pow_le_pow_right (by omega) hg.le) (by decide))
theorem Zm(ns:List Nd)(vs:List Nat)(a j:Nat):(toS ns vs a).count j<=8:=by
 have h:(toS ns vs a).Nodup:=List.nodup_range.filter _;have:=List.nodup_iff_count.1 h j;omega
def gG(good:Nat->Bool)(j:Nat):List Nat:=(List.range j).filter good
theorem aij{good:Nat->Bool}{j:Nat}(h:good j=true):gG good (j+1)=gG good j++[j]:=by simp[gG,aBL,List.filter_append,h]
theorem ajG{good:Nat->Bool}{j:Nat}(h:good j=false):gG good (j+1)=gG good j:=by simp[gG,aBL,List.filter_append,h]
theorem Mm(vs:List Nat)(good:Nat->Bool)(j:Nat):(iA vs good j).length=(gG good j).length:=by simp[iA,gG]
theorem ahR{vs:List Nat}{good:Nat->Bool}{j i:Nat}(hi:i<(gG good j).length):df (iA vs good j) i=df vs (df (gG good j) i):=by
 simp only[iA,gG]at *;simp[df,List.getD,aBk,aAV hi]
theorem ajl(l:List Nat)(f:Nat->Value):l.map f=(List.range l.length).map (λi=>f (df l i)):=by
 apply List.ext_getElem
 ·simp
 ·intro i h1 h2;simp at h1;simp[df,List.getD,aAV h1]
theorem Nv{w:World}{B B1 B2:Nat}{v:Value}{n:Nat}{vs:List Nat}{good:Nat->Bool}{bb:Nat->Nat}(h1:B<=B1)(h2:B<=B2)
  (ho:w.ownsRow B1 138 1 v (gG good vs.length).length ((gG good vs.length).map λq=>gD n (bb q)))
  (hr:∀ i,i<vs.length->w.ownsRow B2 4 1 (gD n (bb i)) n (ay (kP (df vs i)) n n)):wF w B v n (iA vs good vs.length):=by
 refine⟨λi=>bb (df (gG good vs.length) i),?_,λi hi=>?_⟩
 ·have:=bJ ho h1;rw[ajl]at this;rw[Mm];exact this
 ·rw[Mm]at hi;rw[ahR hi];have hm:=mh hi;unfold gG at hm;exact bJ (hr _ (aBI.1 (List.mem_filter.1 hm).1)) h2
theorem adf{w:World}{B:Nat}{v:Value}{n:Nat}{vs:List Nat}(hn:0<n)(h:wF w B v n vs):PQ w v vs.length n (bD vs):=by
 obtain⟨b,ho,hr⟩:=h;rcases ho.2 with⟨rfl,h0⟩ | ⟨g,cap,cur,rfl,hb,hh,hc,hm,_⟩
 ·exact⟨none,0,by rw[h0],by omega,λh=>by omega⟩
 ·refine⟨_,cap,rfl,hc,λ_=>⟨g,rfl,dB hh,λi hi=>⟨b i,?_,QH hn (hr i hi)⟩⟩⟩;rw[ho.cellAt i (by omega)];simp[aBk,aBx hi,gD]
theorem Tj(ns:List Nd)(hg:Good ns)(P:Nat)(w:World)(hn:pq w P (dQ ns (2 ^ ns.length)).length (toS ns (dQ ns (2 ^ ns.length))) ns.length (wK ns (dQ ns (2 ^ ns.length)))) :
  Calls Tryz.prog 75 #[.pointer (some ⟨P,0,none⟩)] w λe w'=>∃ g out,e=.returned (.slice (some ⟨g,0,none⟩) (dQ ns (2 ^ ns.length)).length (dQ ns (2 ^ ns.length)).length)/\w.heap.size<=g/\BO w' w.heap.size g (dQ ns (2 ^ ns.length)).length out/\(∀ i,i<(dQ ns (2 ^ ns.length)).length->(out i=true↔chain ns [] (bD (dQ ns (2 ^ ns.length)) i)))/\Below w.heap.size w w':=by
 have dw:=VC hg;have h8:=hg.le;refine(Ig Qx P _ ns.length _ _ w hn (ac2 hg.wf) (λa _ b hb=>Qz hb) (λa _=>aBO (Gz ns _ a) (by omega)) (λa _ j=>Zm ns _ a j) (by omega) (by omega)).mono ?_;rintro e w' ⟨g,out,he,h1,h2,h3,h4⟩;exact⟨g,out,he,h1,h2,λi hi=>Qd hg.wf h3 hi,h4⟩
