import Derived.Test.YtjagijohfkffiabGreatALLM02
import Derived.Test.YtjagijohfkffiabGreatALLM17
import Derived.Test.YtjagijohfkffiabGreatALLM18
import Derived.Test.YtjagijohfkffiabGreatALLM19
import Derived.Deep.AppendLies
import Derived.Deep.RegionHeld3
set_option maxHeartbeats 16000000
set_option maxRecDepth 100000
namespace Go.Proofs.YtjagijohfkffiabGreat
open Go.RowKit
set_option linter.unusedVariables false
structure OY (to:Nat→List Nat) (i k:Nat) (tl:Nat→List Nat):Prop where
 mem:∀ j a,a∈tl j↔(a<i∧j∈to a)∨(a=i∧j∈(to i).take k)
 len:∀ j,(tl j).length≤8*i+((to i).take k).count j
def LU (f:Nat→List Nat) (b:Nat) (l:List Nat):Nat→List Nat:=fun i=>if i=b then l else f i
theorem YM (to:Nat→List Nat):OY to 0 0 (fun _=>[]):=⟨fun j a=>by simp,fun j=>by simp⟩
theorem ab0 {to:Nat→List Nat} {i k:Nat} {tl:Nat→List Nat} (h:OY to i k tl) (hk:k<(to i).length):OY to i (k+1) (LU tl (bG (to i) k) (tl (bG (to i) k)++[i])):=by
 have e:(to i).take (k+1)=(to i).take k++[bG (to i) k]:=by
  rw [List.take_succ_eq_append_getElem hk]
  simp [bG,List.getD,List.getElem?_eq_getElem hk]
 refine ⟨fun j a=>?_,fun j=>?_⟩
 ·rw [e]
  unfold LU
  by_cases ej:j=bG (to i) k
  ·rw [if_pos ej,List.mem_append,←ej,h.mem]
   simp only [List.mem_singleton,List.mem_append]
   constructor
   ·rintro ((h1 | h1) | h1)
    ·exact Or.inl h1
    ·exact Or.inr ⟨h1.1,Or.inl h1.2⟩
    ·exact Or.inr ⟨h1,Or.inr trivial⟩
   ·rintro (h1 | ⟨h1,h2 | h2⟩)
    ·exact Or.inl (Or.inl h1)
    ·exact Or.inl (Or.inr ⟨h1,h2⟩)
    ·exact Or.inr h1
  ·rw [if_neg ej,h.mem]
   simp only [List.mem_append,List.mem_singleton,ej,or_false]
 ·rw [e,List.count_append]
  have:=h.len j
  unfold LU
  by_cases ej:j=bG (to i) k
  ·rw [if_pos ej,List.length_append,List.length_singleton,←ej]
   simp only [List.count_singleton,beq_self_eq_true,if_true]
   omega
  ·rw [if_neg ej];omega
theorem ab1 {to:Nat→List Nat} {i:Nat} {tl:Nat→List Nat} (h:OY to i (to i).length tl) (hc:∀ j,(to i).count j≤8):OY to (i+1) 0 tl:=by
 refine ⟨fun j a=>?_,fun j=>?_⟩
 ·rw [h.mem,List.take_length]
  simp only [List.take_zero,List.not_mem_nil,and_false,or_false]
  constructor
  ·rintro (⟨h1,h2⟩ | ⟨rfl,h2⟩)
   ·exact ⟨by omega,h2⟩
   ·exact ⟨by omega,h2⟩
  ·rintro ⟨h1,h2⟩
   by_cases e:a=i
   ·subst e;exact Or.inr ⟨rfl,h2⟩
   ·exact Or.inl ⟨by omega,h2⟩
 ·have h1:=h.len j
  rw [List.take_length] at h1
  have:=hc j
  simp
  omega
structure Dz (w:World) (B0 B g2 N:Nat) (V:Nat→Value) (tl:Nat→List Nat):Prop where
 out:w.ownsRow B0 22 1 (.slice (some ⟨g2,0,none⟩) N N) N ((List.range N).map V)
 row:∀ j,j<N→w.ownsRow B 3 1 (V j) (tl j).length (au (tl j))
 sep:∀ i j,i<N→j<N→i≠j→(V i).ownBlock=none∨(V i).ownBlock≠(V j).ownBlock
theorem Dz.keeps {w w':World} {B0 B g2 N:Nat} {V:Nat→Value} {tl:Nat→List Nat} (h:Dz w B0 B g2 N V tl) (hb:Below w.heap.size w w'):Dz w' B0 B g2 N V tl:=⟨ae h.out hb,fun j hj=>ae (h.row j hj) hb,h.sep⟩
theorem VI (V:Nat→Value) (N b:Nat) (x:Value):((List.range N).map V).set b x=(List.range N).map (fun i=>if i=b then x else V i):=by
 apply List.ext_getElem
 ·simp
 ·intro i h1 h2
  simp at h1
  rw [List.getElem_set]
  simp only [List.getElem_map,List.getElem_range]
  by_cases e:b=i
  ·rw [if_pos e,if_pos e.symm]
  ·rw [if_neg e,if_neg (fun h=>e h.symm)]
theorem LZ {w w1:World} {B0 B g2 N:Nat} {V:Nat→Value} {tl:Nat→List Nat} (h:Dz w B0 B g2 N V tl) {b a gg cc:Nat} (hb:b<N) (hgrow:w.grownBy w1 (V b).ownBlock)
  (hown:w1.ownsRow B 3 1 (.slice (some ⟨gg,0,none⟩) ((tl b).length+1) cc) ((tl b).length+1) (au (tl b)++[.int .i64 (a:Nat)])) (hat:(V b).ownBlock=some gg∨gg=w.heap.size) :
  Dz (w1.setCell ⟨g2,b,none⟩ (.slice (some ⟨gg,0,none⟩) ((tl b).length+1) cc)) B0 B g2 N (fun i=>if i=b then .slice (some ⟨gg,0,none⟩) ((tl b).length+1) cc else V i) (LU tl b (tl b++[a])):=by
 have key:∀ j,j<N→j≠b→(V j).ownBlock=none∨(V j).ownBlock≠some gg:=by
  intro j hj hne
  rcases hat with e | e
  ·rw [←e];exact h.sep j b hj hb hne
  ·cases ho:(V j).ownBlock with
   | none=>exact Or.inl rfl
   | some q=>
    have:=((h.row j hj).lt q ho).2
    exact Or.inr (fun e2=>by cases e2;omega)
 have ho1:=h.out.kept hgrow (aD h.out (h.row b hb) (by decide))
 have hset:=ho1.stored b (.slice (some ⟨gg,0,none⟩) ((tl b).length+1) cc)
 rw [VI] at hset
 have hne:∀ (v:Value) (n:Nat) (xs:List Value),w1.ownsRow B 3 1 v n xs→(w1.setCell ⟨g2,b,none⟩ (.slice (some ⟨gg,0,none⟩) ((tl b).length+1) cc)).ownsRow B 3 1 v n xs:=by
  intro v n xs hv
  exact hv.kept hset.2 (aD hv ho1 (by decide))
 refine ⟨hset.1,fun j hj=>?_,fun i j hi hj hij=>?_⟩
 ·unfold LU
  by_cases e:j=b
  ·subst e
   simp only [if_true]
   have:=hne _ _ _ hown
   rw [show au (tl j)++[.int .i64 (a:Nat)]=au (tl j++[a]) by simp [au]] at this
   rw [List.length_append,List.length_singleton]
   exact this
  ·simp only [if_neg e]
   exact hne _ _ _ ((h.row j hj).kept hgrow (h.sep j b hj hb e))
 ·by_cases e1:i=b
  ·have e2:j≠b:=fun e=>hij (e1.trans e.symm)
   simp only [if_pos e1,if_neg e2]
   right
   intro e
   rcases key j hj e2 with k | k
   ·rw [k] at e;simp [Value.ownBlock] at e
   ·exact k e.symm
  ·by_cases e2:j=b
   ·simp only [if_neg e1,if_pos e2]
    exact key i hi e1
   ·simp only [if_neg e1,if_neg e2]
    exact h.sep i j hi hj hij
theorem JF {a B:Nat} {e:TypeId} {s:Nat} {v:Value} {n:Nat} {xs:List Value} {w w':World} (h:w.ownsRow B e s v n xs) (hs:jC a w w') (ha:a≤B):w'.ownsRow B e s v n xs:=by
 refine ⟨h.1,?_⟩
 rcases h.2 with h0 | ⟨g,cap,cur,ev,hb,hg,r⟩
 ·exact Or.inl h0
 ·exact Or.inr ⟨g,cap,cur,ev,hb,(hs.block g (Nat.le_trans ha hb) (bO hg)).trans hg,r⟩
theorem jC.cell {a:Nat} {w w':World} (hs:jC a w w') {x o:Nat} (h1:a≤x) (h2:x<w.heap.size):w'.cell? ⟨x,o,none⟩=w.cell? ⟨x,o,none⟩:=by
 have:=hs.block x h1 h2
 unfold World.cell?
 simp only [this]
theorem R7 (P N K:Nat) (to:Nat→List Nat) (kp:Nat→Nat→Bool) (w:World) (hn:mK w P N to K kp) (hN0:0<N) (hto:∀ a,a<N→∀ b∈to a,b<N) (hlen:∀ a,a<N→(to a).length≤4398046511104) (hcnt:∀ a,a<N→∀ j,(to a).count j≤8) (hN:N≤274877906944) :
  Calls Tryz.prog 123 #[.pointer (some ⟨P,0,none⟩)] w fun e w'=>∃ P2 tl,e=.returned (.pointer (some ⟨P2,0,none⟩))∧(∀ w2,jC w.heap.size w' w2→mK w2 P2 N tl 0 kp)∧(∀ j a,a∈tl j↔a<N∧j∈to a)∧(∀ j,(tl j).length≤8*N)∧Below w.heap.size w w':=by
 obtain ⟨v0,c0,ao,cap,rfl,hcap,hrow⟩:=hn.c0
 obtain ⟨g,rfl,hg,hcell⟩:=hrow (by omega)
 have hP:=hn.lt
 have HC:=hid hcell
 obtain ⟨i0,hi,hz0,hz1,hz2⟩:=info_parts Tryz.sQ
 obtain ⟨i1,hi1,hz01,hz11,hz21⟩:=info_parts Tryz.kG
 have xN:=hid hto
 have Ho:=hid hlen
 have RI:=hid hcnt
 clear hcell hrow hn hto hlen hcnt
 go_enter Tryz.func123,Tryz.ntmps123
 go_wp2_with (at_make;go_must (refine wpList_make_full _ rfl (.tmp 10) (.tmp 10) 23 rfl w.heap.size 22 i0 (.slice none 0 0) 1 Tryz.underlying23 hi hz0 hz1 .i64 .i64 N N N rfl rfl rfl rfl ?m2 ?m3 (Nat.le_refl _) ?_))
 case m2=>rw [hz2];omega
 case m3=>unfold maxLen;omega
 intro w1 ay grow1
 have eo:(madeCells #[Value.slice none 0 0] N).toList=(List.range N).map (fun _=>Value.slice none 0 0):=by
  rw [toList_madeCells_one]
  apply List.ext_getElem
  ·simp
  ·intro i h1 h2;simp
 rw [eo] at ay
 have hb1:Below w.heap.size w w1:=(Below.refl _ _).grown grow1 (Nat.le_refl _) (fun k h=>by cases h)
 have hs1:w.heap.size<w1.heap.size:=(ay.lt _ rfl).2
 have T1:=hid (bF w1 (.slice (some ⟨w.heap.size,0,none⟩) N N) (.slice none 0 0) 140)
 have M1:Hid (Dz (w1.alloc (.cells #[.slice (some ⟨w.heap.size,0,none⟩) N N,.slice none 0 0] 140)) w.heap.size (w1.heap.size+1) w.heap.size N (fun _=>.slice none 0 0) (fun _=>[])):=
  hid ⟨ay.alloc _,fun j hj=>World.ownsRow_nil _ _ _ _,fun i j _ _ _=>Or.inl rfl⟩
 have HB1:=hid (hb1.alloc hb1.size (.cells #[.slice (some ⟨w.heap.size,0,none⟩) N N,.slice none 0 0] 140))
 clear ay grow1 eo hb1
 go_wp2_with fail
 go_loopw [4] (fun i wr=>∃ (q:Nat) (V:Nat→Value) (tl:Nat→List Nat),q≤N∧i=.int .i64 q∧Hid (OY to q 0 tl)∧Hid (Dz wr w.heap.size (w1.heap.size+1) w.heap.size N V tl)∧Two wr w1.heap.size (.slice (some ⟨w.heap.size,0,none⟩) N N) (.slice none 0 0)∧Below w.heap.size w wr) (fun i _=>N - (intOf i).toNat)
 case atStart=>exact ⟨0,_,_,Nat.zero_le _,rfl,hid (YM to),M1,T1.out,HB1.out⟩
 case round=>
  obtain ⟨q,V,tl,hq,rfl,HP,HM,t2,hb⟩:=hrel
  rename World=>W0
  have c0':=(hb.cell (p:=⟨P,0,none⟩) hP).trans c0
  by_cases hlt:q<N
  ·obtain ⟨r,cr,hnr⟩:=HC.out q hlt
   obtain ⟨aor,nE,rfl,hrc,hrr⟩:=hnr
   have HRR:=hid hrr
   have xQ:=hid cr
   have hll:=Ho.out q hlt
   have HTQ:=hid (xN.out q hlt)
   have HT2:=hid t2
   generalize hlnE:(to q).length=ln at *
   have bg:=hid hlnE
   clear hrr hlnE t2 cr
   go_wp2_with fail
   go_loopw [5] (fun i wr=>∃ (k:Nat) (V:Nat→Value) (tl:Nat→List Nat),k≤ln∧i=.int .i64 k∧Hid (OY to q k tl)∧Hid (Dz wr w.heap.size (w1.heap.size+1) w.heap.size N V tl)∧Two wr w1.heap.size (.slice (some ⟨w.heap.size,0,none⟩) N N) (.slice none 0 0)∧Below w.heap.size w wr) (fun i _=>ln - (intOf i).toNat)
   case atStart=>exact ⟨0,V,tl,Nat.zero_le _,rfl,HP,HM,HT2.out,hb⟩
   case round=>
    obtain ⟨k,V,tl,hk,rfl,HP3,Hl,t3,hb3⟩:=hrel
    have c3:=(hb3.cell (p:=⟨P,0,none⟩) hP).trans c0
    have Xw:=(hb3.cell (p:=⟨g,q,none⟩) hg).trans xQ.out
    have hsz:=hb3.size
    by_cases hlk:k<ln
    ·obtain ⟨gr,e,hgr,crr⟩:=HRR.out (by omega)
     subst e
     have cb:=(hb3.cell (p:=⟨gr,k,none⟩) hgr).trans (crr k hlk)
     have hbN:bG (to q) k<N:=HTQ.out _ (lT (by rw [bg.out];exact hlk))
     have HST:=hid (ab0 HP3.out (k:=k) (by rw [bg.out];exact hlk))
     generalize bG (to q) k=b at *
     have cv:wr.cell? ⟨w.heap.size,b,none⟩=some (V b):=by
      rw [Hl.out.out.cellAt b (by omega)]
      simp [List.getElem?_map,List.getElem?_range hbN]
     have own:=Hl.out.row b hbN
     have amN:=HP3.out.len b
     have p2:=t3.c0
     have hPP:=t3.lt
     have hcl:(tl b).length≤1099511627776*4:=by
      have h1:=(List.take_sublist k (to q)).count_le b
      have h2:=RI.out q hlt b
      omega
     have wri:IntKind.i64.wrap (q:Int)=(q:Int):=by rw [IntKind.wrap_i64];omega
     have nb:∀ x,x<w1.heap.size+1→some x≠(V b).ownBlock:=fun x hx e=>by
      have:=(own.lt x e.symm).1
      omega
     have cf:wr.frozen? ⟨w.heap.size,b,none⟩=false:=Hl.out.out.frozenAt b
     have z1:(0:Int)≤(q:Int):=Int.natCast_nonneg _
     have z2:(q:Int)<(N:Int):=by omega
     have z3:(0:Int)≤(k:Int):=Int.natCast_nonneg _
     have z4:(k:Int)<(ln:Int):=by omega
     have z5:(0:Int)≤(b:Int):=Int.natCast_nonneg _
     have z6:(b:Int)<(N:Int):=by omega
     have y1:w.heap.size<w1.heap.size+1:=by omega
     have y0:w.heap.size<wr.heap.size:=by omega
     have y2:P<w1.heap.size+1:=by omega
     have y3:g<w1.heap.size+1:=by omega
     have y4:gr<w1.heap.size+1:=by omega
     clear crr
     go_wp2_with fail
     have yP:P<wr.heap.size:=by omega
     have yg:g<wr.heap.size:=by omega
     have ygr:gr<wr.heap.size:=by omega
     refine wp_region_held_drew (S:=fun w'=>w'.cell? ⟨w1.heap.size,0,none⟩=some (.slice (some ⟨w.heap.size,0,none⟩) N N)∧w'.cell? ⟨P,0,none⟩=some (.slice (some ⟨g,0,none⟩) N cap)∧w'.cell? ⟨g,q,none⟩=some (.slice (some ⟨gr,0,none⟩) ln nE)∧w'.cell? ⟨gr,k,none⟩=some (.int .i64 b)) (by kernel_rfl) ⟨p2,c3,Xw,cb⟩ (fun hHeld=>?_)
     refine wpAnyH_take (i:=0) (oi:={ dst:=some 35,op:=Op.move (.tmp 3),type:=_,pos:=_,after:=_,guard:=none }) (v:=(Value.pointer (some ⟨w1.heap.size,0,none⟩))) rfl (by kernel_rfl) (by kernel_rfl) (by kernel_rfl) (fun _ _ _ h=>h) (Or.inl ⟨by rfl,by intro w' hSw;(try dsimp only at hSw);go_simp⟩) (by assumption) ?_
     simp only [Act.put,List.setIfInBounds_toArray,List.set_cons_zero,List.set_cons_succ]
     refine wpAnyH_take (i:=1) (oi:={ dst:=some 36,op:=Op.nilCheck (.tmp 35),type:=_,pos:=_,after:=_,guard:=none }) (v:=(Value.pointer (some ⟨w1.heap.size,0,none⟩))) rfl (by kernel_rfl) (by kernel_rfl) (by kernel_rfl) (fun _ _ _ h=>h) (Or.inl ⟨by rfl,by intro w' hSw;(try dsimp only at hSw);go_simp⟩) (by assumption) ?_
     simp only [Act.put,List.setIfInBounds_toArray,List.set_cons_zero,List.set_cons_succ]
     refine wpAnyH_take (i:=2) (oi:={ dst:=some 37,op:=Op.fieldAddr _ (.tmp 36) 0,type:=_,pos:=_,after:=_,guard:=none }) (v:=(Value.pointer (some ⟨w1.heap.size,0,none⟩))) rfl (by kernel_rfl) (by kernel_rfl) (by kernel_rfl) (fun _ _ _ h=>h) (Or.inl ⟨by rfl,by intro w' hSw;(try dsimp only at hSw);go_simp⟩) (by assumption) ?_
     simp only [Act.put,List.setIfInBounds_toArray,List.set_cons_zero,List.set_cons_succ]
     refine wpAnyH_take (i:=3) (oi:={ dst:=some 38,op:=Op.load _ (.tmp 37),type:=_,pos:=_,after:=_,guard:=none }) (v:=(Value.slice (some ⟨w.heap.size,0,none⟩) N N)) rfl (by kernel_rfl) (by kernel_rfl) (by kernel_rfl) (fun _ _ _ h=>h) (Or.inl ⟨by rfl,by intro w' hSw;(try dsimp only at hSw);go_simp⟩) (by assumption) ?_
     simp only [Act.put,List.setIfInBounds_toArray,List.set_cons_zero,List.set_cons_succ]
     refine wpAnyH_take (i:=4) (oi:={ dst:=some 39,op:=Op.move (.tmp 0),type:=_,pos:=_,after:=_,guard:=none }) (v:=(Value.pointer (some ⟨P,0,none⟩))) rfl (by kernel_rfl) (by kernel_rfl) (by kernel_rfl) (fun _ _ _ h=>h) (Or.inl ⟨by rfl,by intro w' hSw;(try dsimp only at hSw);go_simp⟩) (by assumption) ?_
     simp only [Act.put,List.setIfInBounds_toArray,List.set_cons_zero,List.set_cons_succ]
     refine wpAnyH_take (i:=5) (oi:={ dst:=some 40,op:=Op.nilCheck (.tmp 39),type:=_,pos:=_,after:=_,guard:=none }) (v:=(Value.pointer (some ⟨P,0,none⟩))) rfl (by kernel_rfl) (by kernel_rfl) (by kernel_rfl) (fun _ _ _ h=>h) (Or.inl ⟨by rfl,by intro w' hSw;(try dsimp only at hSw);go_simp⟩) (by assumption) ?_
     simp only [Act.put,List.setIfInBounds_toArray,List.set_cons_zero,List.set_cons_succ]
     refine wpAnyH_take (i:=6) (oi:={ dst:=some 41,op:=Op.fieldAddr _ (.tmp 40) 0,type:=_,pos:=_,after:=_,guard:=none }) (v:=(Value.pointer (some ⟨P,0,none⟩))) rfl (by kernel_rfl) (by kernel_rfl) (by kernel_rfl) (fun _ _ _ h=>h) (Or.inl ⟨by rfl,by intro w' hSw;(try dsimp only at hSw);go_simp⟩) (by assumption) ?_
     simp only [Act.put,List.setIfInBounds_toArray,List.set_cons_zero,List.set_cons_succ]
     refine wpAnyH_take (i:=7) (oi:={ dst:=some 42,op:=Op.load _ (.tmp 41),type:=_,pos:=_,after:=_,guard:=none }) (v:=(Value.slice (some ⟨g,0,none⟩) N cap)) rfl (by kernel_rfl) (by kernel_rfl) (by kernel_rfl) (fun _ _ _ h=>h) (Or.inl ⟨by rfl,by intro w' hSw;(try dsimp only at hSw);go_simp⟩) (by assumption) ?_
     simp only [Act.put,List.setIfInBounds_toArray,List.set_cons_zero,List.set_cons_succ]
     refine wpAnyH_take (i:=8) (oi:={ dst:=some 43,op:=Op.move (.tmp 4),type:=_,pos:=_,after:=_,guard:=none }) (v:=(Value.int .i64 (q:Nat))) rfl (by kernel_rfl) (by kernel_rfl) (by kernel_rfl) (fun _ _ _ h=>h) (Or.inl ⟨by rfl,by intro w' hSw;(try dsimp only at hSw);go_simp⟩) (by assumption) ?_
     simp only [Act.put,List.setIfInBounds_toArray,List.set_cons_zero,List.set_cons_succ]
     refine wpAnyH_take (i:=9) (oi:={ dst:=some 44,op:=Op.indexAddr _ (.tmp 42) (.tmp 43),type:=_,pos:=_,after:=_,guard:=none }) (v:=(Value.pointer (some ⟨g,q,none⟩))) rfl (by kernel_rfl) (by kernel_rfl) (by kernel_rfl) (fun _ _ _ h=>h) (Or.inl ⟨by rfl,by intro w' hSw;(try dsimp only at hSw);go_simp⟩) (by assumption) ?_
     simp only [Act.put,List.setIfInBounds_toArray,List.set_cons_zero,List.set_cons_succ]
     refine wpAnyH_take (i:=10) (oi:={ dst:=some 45,op:=Op.load _ (.tmp 44),type:=_,pos:=_,after:=_,guard:=none }) (v:=(Value.slice (some ⟨gr,0,none⟩) ln nE)) rfl (by kernel_rfl) (by kernel_rfl) (by kernel_rfl) (fun _ _ _ h=>h) (Or.inl ⟨by rfl,by intro w' hSw;(try dsimp only at hSw);go_simp⟩) (by assumption) ?_
     simp only [Act.put,List.setIfInBounds_toArray,List.set_cons_zero,List.set_cons_succ]
     refine wpAnyH_take (i:=11) (oi:={ dst:=some 46,op:=Op.move (.tmp 5),type:=_,pos:=_,after:=_,guard:=none }) (v:=(Value.int .i64 (k:Nat))) rfl (by kernel_rfl) (by kernel_rfl) (by kernel_rfl) (fun _ _ _ h=>h) (Or.inl ⟨by rfl,by intro w' hSw;(try dsimp only at hSw);go_simp⟩) (by assumption) ?_
     simp only [Act.put,List.setIfInBounds_toArray,List.set_cons_zero,List.set_cons_succ]
     refine wpAnyH_take (i:=12) (oi:={ dst:=some 47,op:=Op.indexAddr _ (.tmp 45) (.tmp 46),type:=_,pos:=_,after:=_,guard:=none }) (v:=(Value.pointer (some ⟨gr,k,none⟩))) rfl (by kernel_rfl) (by kernel_rfl) (by kernel_rfl) (fun _ _ _ h=>h) (Or.inl ⟨by rfl,by intro w' hSw;(try dsimp only at hSw);go_simp⟩) (by assumption) ?_
     simp only [Act.put,List.setIfInBounds_toArray,List.set_cons_zero,List.set_cons_succ]
     refine wpAnyH_take (i:=13) (oi:={ dst:=some 48,op:=Op.load _ (.tmp 47),type:=_,pos:=_,after:=_,guard:=none }) (v:=(Value.int .i64 (b:Nat))) rfl (by kernel_rfl) (by kernel_rfl) (by kernel_rfl) (fun _ _ _ h=>h) (Or.inl ⟨by rfl,by intro w' hSw;(try dsimp only at hSw);go_simp⟩) (by assumption) ?_
     simp only [Act.put,List.setIfInBounds_toArray,List.set_cons_zero,List.set_cons_succ]
     refine wpAnyH_take (i:=14) (oi:={ dst:=some 49,op:=Op.move (.tmp 3),type:=_,pos:=_,after:=_,guard:=none }) (v:=(Value.pointer (some ⟨w1.heap.size,0,none⟩))) rfl (by kernel_rfl) (by kernel_rfl) (by kernel_rfl) (fun _ _ _ h=>h) (Or.inl ⟨by rfl,by intro w' hSw;(try dsimp only at hSw);go_simp⟩) (by assumption) ?_
     simp only [Act.put,List.setIfInBounds_toArray,List.set_cons_zero,List.set_cons_succ]
     refine wpAnyH_take (i:=15) (oi:={ dst:=some 50,op:=Op.nilCheck (.tmp 49),type:=_,pos:=_,after:=_,guard:=none }) (v:=(Value.pointer (some ⟨w1.heap.size,0,none⟩))) rfl (by kernel_rfl) (by kernel_rfl) (by kernel_rfl) (fun _ _ _ h=>h) (Or.inl ⟨by rfl,by intro w' hSw;(try dsimp only at hSw);go_simp⟩) (by assumption) ?_
     simp only [Act.put,List.setIfInBounds_toArray,List.set_cons_zero,List.set_cons_succ]
     refine wpAnyH_take (i:=16) (oi:={ dst:=some 51,op:=Op.fieldAddr _ (.tmp 50) 0,type:=_,pos:=_,after:=_,guard:=none }) (v:=(Value.pointer (some ⟨w1.heap.size,0,none⟩))) rfl (by kernel_rfl) (by kernel_rfl) (by kernel_rfl) (fun _ _ _ h=>h) (Or.inl ⟨by rfl,by intro w' hSw;(try dsimp only at hSw);go_simp⟩) (by assumption) ?_
     simp only [Act.put,List.setIfInBounds_toArray,List.set_cons_zero,List.set_cons_succ]
     refine wpAnyH_take (i:=17) (oi:={ dst:=some 52,op:=Op.load _ (.tmp 51),type:=_,pos:=_,after:=_,guard:=none }) (v:=(Value.slice (some ⟨w.heap.size,0,none⟩) N N)) rfl (by kernel_rfl) (by kernel_rfl) (by kernel_rfl) (fun _ _ _ h=>h) (Or.inl ⟨by rfl,by intro w' hSw;(try dsimp only at hSw);go_simp⟩) (by assumption) ?_
     simp only [Act.put,List.setIfInBounds_toArray,List.set_cons_zero,List.set_cons_succ]
     refine wpAnyH_take (i:=18) (oi:={ dst:=some 53,op:=Op.move (.tmp 0),type:=_,pos:=_,after:=_,guard:=none }) (v:=(Value.pointer (some ⟨P,0,none⟩))) rfl (by kernel_rfl) (by kernel_rfl) (by kernel_rfl) (fun _ _ _ h=>h) (Or.inl ⟨by rfl,by intro w' hSw;(try dsimp only at hSw);go_simp⟩) (by assumption) ?_
     simp only [Act.put,List.setIfInBounds_toArray,List.set_cons_zero,List.set_cons_succ]
     refine wpAnyH_take (i:=19) (oi:={ dst:=some 54,op:=Op.nilCheck (.tmp 53),type:=_,pos:=_,after:=_,guard:=none }) (v:=(Value.pointer (some ⟨P,0,none⟩))) rfl (by kernel_rfl) (by kernel_rfl) (by kernel_rfl) (fun _ _ _ h=>h) (Or.inl ⟨by rfl,by intro w' hSw;(try dsimp only at hSw);go_simp⟩) (by assumption) ?_
     simp only [Act.put,List.setIfInBounds_toArray,List.set_cons_zero,List.set_cons_succ]
     refine wpAnyH_take (i:=20) (oi:={ dst:=some 55,op:=Op.fieldAddr _ (.tmp 54) 0,type:=_,pos:=_,after:=_,guard:=none }) (v:=(Value.pointer (some ⟨P,0,none⟩))) rfl (by kernel_rfl) (by kernel_rfl) (by kernel_rfl) (fun _ _ _ h=>h) (Or.inl ⟨by rfl,by intro w' hSw;(try dsimp only at hSw);go_simp⟩) (by assumption) ?_
     simp only [Act.put,List.setIfInBounds_toArray,List.set_cons_zero,List.set_cons_succ]
     refine wpAnyH_take (i:=21) (oi:={ dst:=some 56,op:=Op.load _ (.tmp 55),type:=_,pos:=_,after:=_,guard:=none }) (v:=(Value.slice (some ⟨g,0,none⟩) N cap)) rfl (by kernel_rfl) (by kernel_rfl) (by kernel_rfl) (fun _ _ _ h=>h) (Or.inl ⟨by rfl,by intro w' hSw;(try dsimp only at hSw);go_simp⟩) (by assumption) ?_
     simp only [Act.put,List.setIfInBounds_toArray,List.set_cons_zero,List.set_cons_succ]
     refine wpAnyH_take (i:=22) (oi:={ dst:=some 57,op:=Op.move (.tmp 4),type:=_,pos:=_,after:=_,guard:=none }) (v:=(Value.int .i64 (q:Nat))) rfl (by kernel_rfl) (by kernel_rfl) (by kernel_rfl) (fun _ _ _ h=>h) (Or.inl ⟨by rfl,by intro w' hSw;(try dsimp only at hSw);go_simp⟩) (by assumption) ?_
     simp only [Act.put,List.setIfInBounds_toArray,List.set_cons_zero,List.set_cons_succ]
     refine wpAnyH_take (i:=23) (oi:={ dst:=some 58,op:=Op.indexAddr _ (.tmp 56) (.tmp 57),type:=_,pos:=_,after:=_,guard:=none }) (v:=(Value.pointer (some ⟨g,q,none⟩))) rfl (by kernel_rfl) (by kernel_rfl) (by kernel_rfl) (fun _ _ _ h=>h) (Or.inl ⟨by rfl,by intro w' hSw;(try dsimp only at hSw);go_simp⟩) (by assumption) ?_
     simp only [Act.put,List.setIfInBounds_toArray,List.set_cons_zero,List.set_cons_succ]
     refine wpAnyH_take (i:=24) (oi:={ dst:=some 59,op:=Op.load _ (.tmp 58),type:=_,pos:=_,after:=_,guard:=none }) (v:=(Value.slice (some ⟨gr,0,none⟩) ln nE)) rfl (by kernel_rfl) (by kernel_rfl) (by kernel_rfl) (fun _ _ _ h=>h) (Or.inl ⟨by rfl,by intro w' hSw;(try dsimp only at hSw);go_simp⟩) (by assumption) ?_
     simp only [Act.put,List.setIfInBounds_toArray,List.set_cons_zero,List.set_cons_succ]
     refine wpAnyH_take (i:=25) (oi:={ dst:=some 60,op:=Op.move (.tmp 5),type:=_,pos:=_,after:=_,guard:=none }) (v:=(Value.int .i64 (k:Nat))) rfl (by kernel_rfl) (by kernel_rfl) (by kernel_rfl) (fun _ _ _ h=>h) (Or.inl ⟨by rfl,by intro w' hSw;(try dsimp only at hSw);go_simp⟩) (by assumption) ?_
     simp only [Act.put,List.setIfInBounds_toArray,List.set_cons_zero,List.set_cons_succ]
     refine wpAnyH_take (i:=26) (oi:={ dst:=some 61,op:=Op.indexAddr _ (.tmp 59) (.tmp 60),type:=_,pos:=_,after:=_,guard:=none }) (v:=(Value.pointer (some ⟨gr,k,none⟩))) rfl (by kernel_rfl) (by kernel_rfl) (by kernel_rfl) (fun _ _ _ h=>h) (Or.inl ⟨by rfl,by intro w' hSw;(try dsimp only at hSw);go_simp⟩) (by assumption) ?_
     simp only [Act.put,List.setIfInBounds_toArray,List.set_cons_zero,List.set_cons_succ]
     refine wpAnyH_take (i:=27) (oi:={ dst:=some 62,op:=Op.load _ (.tmp 61),type:=_,pos:=_,after:=_,guard:=none }) (v:=(Value.int .i64 (b:Nat))) rfl (by kernel_rfl) (by kernel_rfl) (by kernel_rfl) (fun _ _ _ h=>h) (Or.inl ⟨by rfl,by intro w' hSw;(try dsimp only at hSw);go_simp⟩) (by assumption) ?_
     simp only [Act.put,List.setIfInBounds_toArray,List.set_cons_zero,List.set_cons_succ]
     refine wpAnyH_take (i:=28) (oi:={ dst:=some 63,op:=Op.indexAddr _ (.tmp 52) (.tmp 62),type:=_,pos:=_,after:=_,guard:=none }) (v:=(Value.pointer (some ⟨w.heap.size,b,none⟩))) rfl (by kernel_rfl) (by kernel_rfl) (by kernel_rfl) (fun _ _ _ h=>h) (Or.inl ⟨by rfl,by intro w' hSw;(try dsimp only at hSw);go_simp⟩) (by assumption) ?_
     simp only [Act.put,List.setIfInBounds_toArray,List.set_cons_zero,List.set_cons_succ]
     refine wpAnyH_take (i:=30) (oi:={ dst:=some 65,op:=Op.move (.tmp 4),type:=_,pos:=_,after:=_,guard:=none }) (v:=(Value.int .i64 (q:Nat))) rfl (by kernel_rfl) (by kernel_rfl) (by kernel_rfl) (fun _ _ _ h=>h) (Or.inl ⟨by rfl,by intro w' hSw;(try dsimp only at hSw);go_simp⟩) (by assumption) ?_
     simp only [Act.put,List.setIfInBounds_toArray,List.set_cons_zero,List.set_cons_succ]
     refine wpAnyH_ready (rs:=[29,31]) (by kernel_rfl) (by simp) ?_
     refine AllReadyH.cons rfl (fun K hK=>?_) (AllReadyH.cons rfl (fun K hK=>?_) AllReadyH.nil)
     ·go_simp
      refine hK.out _ _ (by assumption) (fun hHeld=>?_)
      clear hK K
      refine wpAnyH_ready (rs:=[31]) (by kernel_rfl) (by simp) ?_
      refine AllReadyH.cons rfl (fun K hK=>?_) AllReadyH.nil
      go_simp
      refine hK.out _ _ ?hs (fun hHeld=>?_)
      case hs=>first | go_keep | (go_split_ands;refine ⟨?_,?_,?_,?_⟩ <;> simp [*])
      clear hK K
      refine wpAnyH_ready (rs:=[32]) (by kernel_rfl) (by simp) ?_
      refine AllReadyH.cons rfl (fun K hK=>?_) AllReadyH.nil
      refine step_append_lies _ (by rfl) (.tmp 64) (.tmp 66) 22 (by rfl) (w1.heap.size+1) 3 i1 (.int .i64 0) 1 8 Tryz.underlying22 hi1 hz01 hz11 hz21 rfl (by decide) (V b) (tl b).length (au (tl b)) (by rfl) ((own.alloc _).drew) ⟨wr.heap.size,0,none⟩ 1 1 [.int .i64 q] (by rfl) (by rfl) (World.news_of_block (cs:=#[.int .i64 q]) (t:=3) (fr:=(0,0)) (heap_alloc_new wr _)) (by simp [Value.oneCell']) (by decide) (by unfold maxLen;omega) (by omega) (by simp;omega) (wr.heap.size+1) (by simp) ?_
      intro gg cc w2 hown hgrow hat hlt2
      have iE:Dz (wr.alloc (.cells #[.int .i64 (q:Int)] 3)).drew w.heap.size (w1.heap.size+1) w.heap.size N V tl:=Hl.out.keeps (below_drewN ((Below.refl wr.heap.size wr).alloc (Nat.le_refl _) (.cells #[.int .i64 (q:Int)] 3)) 1)
      have O2:=iE.out.kept hgrow (aD iE.out (iE.row b hbN) (by decide))
      have d1:=O2.frozenAt b
      have d0:w2.cell? ⟨w.heap.size,b,none⟩=some (V b):=(O2.cellAt b (by omega)).trans (by simp [List.getElem?_map,List.getElem?_range hbN])
      have aZ:Below (w1.heap.size+1) wr w2:=(below_drewN ((Below.refl (w1.heap.size+1) wr).alloc (by omega) (.cells #[.int .i64 (q:Int)] 3)) 1).grown hgrow (by show w1.heap.size+1≤(wr.alloc (.cells #[.int .i64 (q:Int)] 3)).heap.size;rw [World.size_alloc];omega) (fun x h=>(own.lt x h).1)
      have TM:=hid (LZ iE hbN (a:=q) hgrow hown (by rcases hat with h | h;exact Or.inl h;exact Or.inr (by rw [h];exact (World.size_alloc ..).symm)))
      have s1:=t3.below aZ (Nat.lt_succ_self _)
      have T5:=hid (s1.other (k:=w.heap.size) (o:=b) (by omega) (.slice (some ⟨gg,0,none⟩) ((tl b).length+1) cc))
      have BB:=hid ((hb3.trans (aZ.mono (by omega))).setCell (p:=⟨w.heap.size,b,none⟩) (Nat.le_refl _) (.slice (some ⟨gg,0,none⟩) ((tl b).length+1) cc))
      have e1:=s1.c0
      have e2:=(aZ.cell (p:=⟨P,0,none⟩) y2).trans c3
      have e3:=(aZ.cell (p:=⟨g,q,none⟩) y3).trans Xw
      have e4:=(aZ.cell (p:=⟨gr,k,none⟩) y4).trans cb
      have KS:∀ (x o:Nat) {u v:Value},x≠w.heap.size→w2.cell? ⟨x,o,none⟩=some v→(w2.setCell ⟨w.heap.size,b,none⟩ u).cell? ⟨x,o,none⟩=some v:=fun x o u v hx hv=>by
       rw [World.cell?_setCell_other _ _ _ _ (fun e=>hx (by have:=congrArg Addr.block e;simpa using this.symm))]
       exact hv
      have iW:=hid (⟨KS _ _ (by omega) e1,KS _ _ (by omega) e2,KS _ _ (by omega) e3,KS _ _ (by omega) e4⟩:(fun w':World=>w'.cell? ⟨w1.heap.size,0,none⟩=some (.slice (some ⟨w.heap.size,0,none⟩) N N)∧w'.cell? ⟨P,0,none⟩=some (.slice (some ⟨g,0,none⟩) N cap)∧w'.cell? ⟨g,q,none⟩=some (.slice (some ⟨gr,0,none⟩) ln nE)∧w'.cell? ⟨gr,k,none⟩=some (.int .i64 b)) (w2.setCell ⟨w.heap.size,b,none⟩ (.slice (some ⟨gg,0,none⟩) ((tl b).length+1) cc)))
      refine hK.out _ _ ⟨e1,e2,e3,e4⟩ (fun hHeld=>?_)
      clear hK K O2 iE aZ hown hgrow hat s1 KS own
      simp only [Act.put,List.setIfInBounds_toArray]
      refine wpAnyH_take (i:=33) (oi:={ dst:=some 68,op:=Op.indexAddr _ (.tmp 38) (.tmp 48),type:=_,pos:=_,after:=_,guard:=none }) (v:=(Value.pointer (some ⟨w.heap.size,b,none⟩))) rfl (by kernel_rfl) (by kernel_rfl) (by kernel_rfl) (fun _ _ _ h=>h) (Or.inl ⟨by rfl,by intro w' hSw;(try dsimp only at hSw);go_simp⟩) (by assumption) ?_
      simp only [Act.put]
      refine wpAnyH_ready (rs:=[34]) (by kernel_rfl) (by simp) ?_
      refine AllReadyH.cons rfl (fun K hK=>?_) AllReadyH.nil
      go_simp
      refine hK.out _ _ iW.out (fun hHeld=>?_)
      clear hK K
      refine wpAnyH_done (by kernel_rfl) ?_ _
      clear hHeld e1 e2 e3 e4 d0 d1
      go_wp2_with fail
      go_roundw
      case rel=>exact ⟨k+1,_,_,by omega,by go_num,HST,TM,T5.out,BB.out⟩
      case measure=>simp [intOf];omega
     ·go_simp
      refine hK.out _ _ ?hs (fun hHeld=>?_)
      case hs=>first | go_keep | (go_split_ands;refine ⟨?_,?_,?_,?_⟩ <;> simp [*])
      clear hK K
      refine wpAnyH_ready (rs:=[29]) (by kernel_rfl) (by simp) ?_
      refine AllReadyH.cons rfl (fun K hK=>?_) AllReadyH.nil
      go_simp
      refine hK.out _ _ (by assumption) (fun hHeld=>?_)
      clear hK K
      refine wpAnyH_ready (rs:=[32]) (by kernel_rfl) (by simp) ?_
      refine AllReadyH.cons rfl (fun K hK=>?_) AllReadyH.nil
      refine step_append_lies _ (by rfl) (.tmp 64) (.tmp 66) 22 (by rfl) (w1.heap.size+1) 3 i1 (.int .i64 0) 1 8 Tryz.underlying22 hi1 hz01 hz11 hz21 rfl (by decide) (V b) (tl b).length (au (tl b)) (by rfl) ((own.alloc _).drew) ⟨wr.heap.size,0,none⟩ 1 1 [.int .i64 q] (by rfl) (by rfl) (World.news_of_block (cs:=#[.int .i64 q]) (t:=3) (fr:=(0,0)) (heap_alloc_new wr _)) (by simp [Value.oneCell']) (by decide) (by unfold maxLen;omega) (by omega) (by simp;omega) (wr.heap.size+1) (by simp) ?_
      intro gg cc w2 hown hgrow hat hlt2
      have iE:Dz (wr.alloc (.cells #[.int .i64 (q:Int)] 3)).drew w.heap.size (w1.heap.size+1) w.heap.size N V tl:=Hl.out.keeps (below_drewN ((Below.refl wr.heap.size wr).alloc (Nat.le_refl _) (.cells #[.int .i64 (q:Int)] 3)) 1)
      have O2:=iE.out.kept hgrow (aD iE.out (iE.row b hbN) (by decide))
      have d1:=O2.frozenAt b
      have d0:w2.cell? ⟨w.heap.size,b,none⟩=some (V b):=(O2.cellAt b (by omega)).trans (by simp [List.getElem?_map,List.getElem?_range hbN])
      have aZ:Below (w1.heap.size+1) wr w2:=(below_drewN ((Below.refl (w1.heap.size+1) wr).alloc (by omega) (.cells #[.int .i64 (q:Int)] 3)) 1).grown hgrow (by show w1.heap.size+1≤(wr.alloc (.cells #[.int .i64 (q:Int)] 3)).heap.size;rw [World.size_alloc];omega) (fun x h=>(own.lt x h).1)
      have TM:=hid (LZ iE hbN (a:=q) hgrow hown (by rcases hat with h | h;exact Or.inl h;exact Or.inr (by rw [h];exact (World.size_alloc ..).symm)))
      have s1:=t3.below aZ (Nat.lt_succ_self _)
      have T5:=hid (s1.other (k:=w.heap.size) (o:=b) (by omega) (.slice (some ⟨gg,0,none⟩) ((tl b).length+1) cc))
      have BB:=hid ((hb3.trans (aZ.mono (by omega))).setCell (p:=⟨w.heap.size,b,none⟩) (Nat.le_refl _) (.slice (some ⟨gg,0,none⟩) ((tl b).length+1) cc))
      have e1:=s1.c0
      have e2:=(aZ.cell (p:=⟨P,0,none⟩) y2).trans c3
      have e3:=(aZ.cell (p:=⟨g,q,none⟩) y3).trans Xw
      have e4:=(aZ.cell (p:=⟨gr,k,none⟩) y4).trans cb
      have KS:∀ (x o:Nat) {u v:Value},x≠w.heap.size→w2.cell? ⟨x,o,none⟩=some v→(w2.setCell ⟨w.heap.size,b,none⟩ u).cell? ⟨x,o,none⟩=some v:=fun x o u v hx hv=>by
       rw [World.cell?_setCell_other _ _ _ _ (fun e=>hx (by have:=congrArg Addr.block e;simpa using this.symm))]
       exact hv
      have iW:=hid (⟨KS _ _ (by omega) e1,KS _ _ (by omega) e2,KS _ _ (by omega) e3,KS _ _ (by omega) e4⟩:(fun w':World=>w'.cell? ⟨w1.heap.size,0,none⟩=some (.slice (some ⟨w.heap.size,0,none⟩) N N)∧w'.cell? ⟨P,0,none⟩=some (.slice (some ⟨g,0,none⟩) N cap)∧w'.cell? ⟨g,q,none⟩=some (.slice (some ⟨gr,0,none⟩) ln nE)∧w'.cell? ⟨gr,k,none⟩=some (.int .i64 b)) (w2.setCell ⟨w.heap.size,b,none⟩ (.slice (some ⟨gg,0,none⟩) ((tl b).length+1) cc)))
      refine hK.out _ _ ⟨e1,e2,e3,e4⟩ (fun hHeld=>?_)
      clear hK K O2 iE aZ hown hgrow hat s1 KS own
      simp only [Act.put,List.setIfInBounds_toArray]
      refine wpAnyH_take (i:=33) (oi:={ dst:=some 68,op:=Op.indexAddr _ (.tmp 38) (.tmp 48),type:=_,pos:=_,after:=_,guard:=none }) (v:=(Value.pointer (some ⟨w.heap.size,b,none⟩))) rfl (by kernel_rfl) (by kernel_rfl) (by kernel_rfl) (fun _ _ _ h=>h) (Or.inl ⟨by rfl,by intro w' hSw;(try dsimp only at hSw);go_simp⟩) (by assumption) ?_
      simp only [Act.put]
      refine wpAnyH_ready (rs:=[34]) (by kernel_rfl) (by simp) ?_
      refine AllReadyH.cons rfl (fun K hK=>?_) AllReadyH.nil
      go_simp
      refine hK.out _ _ iW.out (fun hHeld=>?_)
      clear hK K
      refine wpAnyH_done (by kernel_rfl) ?_ _
      clear hHeld e1 e2 e3 e4 d0 d1
      go_wp2_with fail
      go_roundw
      case rel=>exact ⟨k+1,_,_,by omega,by go_num,HST,TM,T5.out,BB.out⟩
      case measure=>simp [intOf];omega
    ·obtain rfl:k=ln:=by omega
     have uu:=hid (ab1 (by rw [bg.out];exact HP3.out) (RI.out q hlt))
     go_wp2_with fail
     go_roundw
     case rel=>exact ⟨q+1,V,tl,by omega,by go_num,uu,Hl,t3,hb3⟩
     case measure=>simp [intOf];omega
  ·obtain rfl:q=N:=by omega
   have hwg:w.heap.size≤w1.heap.size:=by omega
   have NM:Hid (∀ w2,jC w.heap.size W0 w2→mK w2 w1.heap.size q tl 0 kp):=hid (fun w2 hs=>by
    have OU:=JF HM.out.out hs (Nat.le_refl _)
    exact ⟨Nat.lt_of_lt_of_le t2.lt hs.size,⟨_,(hs.cell hwg t2.lt).trans t2.c0,_,_,rfl,Nat.le_refl _,fun _=>⟨w.heap.size,rfl,(OU.lt _ rfl).2,fun i hi=>⟨V i,by rw [OU.cellAt i (by omega)];simp [List.getElem?_map,List.getElem?_range hi],yI (JF (HM.out.row i hi) hs (by omega))⟩⟩⟩,⟨_,(hs.cell hwg t2.lt).trans t2.c1,none,0,rfl,Nat.le_refl _,fun h=>by omega⟩⟩)
   have HMM:Hid (∀ j a,a∈tl j↔a<q∧j∈to a):=hid (fun j a=>by rw [HP.out.mem];simp)
   have pR:Hid (∀ j,(tl j).length≤8*q):=hid (fun j=>by have:=HP.out.len j;simpa using this)
   clear t2
   go_wp2_with fail
   go_ret
   exact ⟨w1.heap.size,tl,rfl,NM.out,HMM.out,pR.out,hb⟩
theorem Ee:I9:=fun P N K to kp w hn h0 hto hlen hcnt hN=>R7 P N K to kp w hn h0 hto hlen hcnt (by omega)
structure Three (w:World) (b:Nat) (x y z:Value):Prop where
 c0:w.cell? ⟨b,0,none⟩=some x
 c1:w.cell? ⟨b,1,none⟩=some y
 c2:w.cell? ⟨b,2,none⟩=some z
 fz:∀ o,o<3→w.frozen? ⟨b,o,none⟩=false
theorem Three.lt {w:World} {b:Nat} {x y z:Value} (h:Three w b x y z):b<w.heap.size:=World.block_lt_of_cell? w ⟨b,0,none⟩ h.c0
theorem bK (w:World) (x y z:Value) (t:TypeId):Three (w.alloc (.cells #[x,y,z] t)) w.heap.size x y z:=⟨by simp,by simp,by simp,fun o ho=>by simp⟩
theorem Three.below {B:Nat} {w w':World} {b:Nat} {x y z:Value} (h:Three w b x y z) (hb:Below B w w') (hlt:b<B):Three w' b x y z:=
 ⟨(hb.cell (p:=⟨b,0,none⟩) hlt).trans h.c0,(hb.cell (p:=⟨b,1,none⟩) hlt).trans h.c1,(hb.cell (p:=⟨b,2,none⟩) hlt).trans h.c2,fun o ho=>(hb.frozen (p:=⟨b,o,none⟩) hlt).trans (h.fz o ho)⟩
theorem Three.set1 {w:World} {b:Nat} {x y z:Value} (h:Three w b x y z) (v:Value):Three (w.setCell ⟨b,1,none⟩ v) b x v z:=
 ⟨by rw [World.cell?_setCell_other _ _ _ _ (by simp)];exact h.c0,World.cell?_setCell_same _ _ _ h.c1,by rw [World.cell?_setCell_other _ _ _ _ (by simp)];exact h.c2,fun o ho=>by rw [World.frozen?_setCell];exact h.fz o ho⟩
theorem Three.set2 {w:World} {b:Nat} {x y z:Value} (h:Three w b x y z) (v:Value):Three (w.setCell ⟨b,2,none⟩ v) b x y v:=
 ⟨by rw [World.cell?_setCell_other _ _ _ _ (by simp)];exact h.c0,by rw [World.cell?_setCell_other _ _ _ _ (by simp)];exact h.c1,World.cell?_setCell_same _ _ _ h.c2,fun o ho=>by rw [World.frozen?_setCell];exact h.fz o ho⟩
theorem Three.set0 {w:World} {b:Nat} {x y z:Value} (h:Three w b x y z) (v:Value):Three (w.setCell ⟨b,0,none⟩ v) b v y z:=
 ⟨World.cell?_setCell_same _ _ _ h.c0,by rw [World.cell?_setCell_other _ _ _ _ (by simp)];exact h.c1,by rw [World.cell?_setCell_other _ _ _ _ (by simp)];exact h.c2,fun o ho=>by rw [World.frozen?_setCell];exact h.fz o ho⟩
theorem Three.other {w:World} {b k o:Nat} {x y z:Value} (h:Three w b x y z) (hk:k≠b) (v:Value):Three (w.setCell ⟨k,o,none⟩ v) b x y z:=
 ⟨by rw [World.cell?_setCell_other _ _ _ _ (fun e=>hk (congrArg Addr.block e))];exact h.c0,by rw [World.cell?_setCell_other _ _ _ _ (fun e=>hk (congrArg Addr.block e))];exact h.c1,by rw [World.cell?_setCell_other _ _ _ _ (fun e=>hk (congrArg Addr.block e))];exact h.c2,fun q hq=>by rw [World.frozen?_setCell];exact h.fz q hq⟩
theorem YV {ns:List Nd} (hw:fO ns):0<(dn ns (2 ^ ns.length)).length:=by
 obtain ⟨S,_,hE⟩:=mF hw (fun _=>0)
 obtain ⟨f1,f2,_⟩:=(jF hw _ _ _).1 (hE.step 0)
 obtain ⟨i,hi,_⟩:=(EM hw).all (S 0) 0 (by omega) f1 f2
 omega
theorem QE {ns:List Nd} (hg:Good ns):(dn ns (2 ^ ns.length)).length≤256:=
 Nat.le_trans (LQ _ _) (Nat.le_trans (Nat.pow_le_pow_right (by omega) hg.le) (by decide))
theorem UX (ns:List Nd) (vs:List Nat) (a j:Nat):(toS ns vs a).count j≤8:=by
 have h:(toS ns vs a).Nodup:=List.nodup_range.filter _
 have:=List.nodup_iff_count.1 h j
 omega
def fF (good:Nat→Bool) (j:Nat):List Nat:=(List.range j).filter good
theorem ac8 {good:Nat→Bool} {j:Nat} (h:good j=true):fF good (j+1)=fF good j++[j]:=by simp [fF,List.range_succ,List.filter_append,h]
theorem aev {good:Nat→Bool} {j:Nat} (h:good j=false):fF good (j+1)=fF good j:=by simp [fF,List.range_succ,List.filter_append,h]
theorem Iu (vs:List Nat) (good:Nat→Bool) (j:Nat):(gI vs good j).length=(fF good j).length:=by simp [gI,fF]
theorem acI {vs:List Nat} {good:Nat→Bool} {j i:Nat} (hi:i<(fF good j).length):bG (gI vs good j) i=bG vs (bG (fF good j) i):=by
 simp only [gI,fF] at *
 simp [bG,List.getD,List.getElem?_map,List.getElem?_eq_getElem hi]
theorem aee (l:List Nat) (f:Nat→Value):l.map f=(List.range l.length).map (fun i=>f (bG l i)):=by
 apply List.ext_getElem
 ·simp
 ·intro i h1 h2
  simp at h1
  simp [bG,List.getD,List.getElem?_eq_getElem h1]
theorem JE {w:World} {B B1 B2:Nat} {v:Value} {n:Nat} {vs:List Nat} {good:Nat→Bool} {bb:Nat→Nat} (h1:B≤B1) (h2:B≤B2)
  (ho:w.ownsRow B1 138 1 v (fF good vs.length).length ((fF good vs.length).map fun q=>fA n (bb q)))
  (hr:∀ i,i<vs.length→w.ownsRow B2 4 1 (fA n (bb i)) n (aj (jV (bG vs i)) n n)):uB w B v n (gI vs good vs.length):=by
 refine ⟨fun i=>bb (bG (fF good vs.length) i),?_,fun i hi=>?_⟩
 ·have:=aY ho h1
  rw [aee] at this
  rw [Iu]
  exact this
 ·rw [Iu] at hi
  rw [acI hi]
  have hm:=lT hi
  unfold fF at hm
  exact aY (hr _ (List.mem_range.1 (List.mem_filter.1 hm).1)) h2
theorem Y9 {w:World} {B:Nat} {v:Value} {n:Nat} {vs:List Nat} (hn:0<n) (h:uB w B v n vs):KZ w v vs.length n (aJ vs):=by
 obtain ⟨b,ho,hr⟩:=h
 rcases ho.2 with ⟨rfl,h0⟩ | ⟨g,cap,cur,rfl,hb,hh,hc,hm,_⟩
 ·exact ⟨none,0,by rw [h0],by omega,fun h=>by omega⟩
 ·refine ⟨_,cap,rfl,hc,fun _=>⟨g,rfl,bO hh,fun i hi=>⟨b i,?_,Mm hn (hr i hi)⟩⟩⟩
  rw [ho.cellAt i (by omega)]
  simp [List.getElem?_map,List.getElem?_range hi,fA]
theorem Oe (ns:List Nd) (hg:Good ns) (P:Nat) (w:World) (hn:mK w P (dn ns (2 ^ ns.length)).length (toS ns (dn ns (2 ^ ns.length))) ns.length (uH ns (dn ns (2 ^ ns.length)))) :
  Calls Tryz.prog 75 #[.pointer (some ⟨P,0,none⟩)] w fun e w'=>∃ g out,e=.returned (.slice (some ⟨g,0,none⟩) (dn ns (2 ^ ns.length)).length (dn ns (2 ^ ns.length)).length)∧w.heap.size≤g∧BO w' w.heap.size g (dn ns (2 ^ ns.length)).length out∧(∀ i,i<(dn ns (2 ^ ns.length)).length→(out i=true↔chain ns [] (aJ (dn ns (2 ^ ns.length)) i)))∧Below w.heap.size w w':=by
 have hle:=QE hg
 have h8:=hg.le
 refine (yj Ee P _ ns.length _ _ w hn (YV hg.wf) (fun a _ b hb=>EY hb) (fun a _=>Nat.le_trans (vC ns _ a) (by omega)) (fun a _ j=>UX ns _ a j) (by omega) (by omega)).mono ?_
 rintro e w' ⟨g,out,he,h1,h2,h3,h4⟩
 exact ⟨g,out,he,h1,h2,fun i hi=>Lt hg.wf h3 hi,h4⟩
end Go.Proofs.YtjagijohfkffiabGreat
