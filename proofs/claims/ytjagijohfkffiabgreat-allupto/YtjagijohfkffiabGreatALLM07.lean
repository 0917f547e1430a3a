import Derived.Test.YtjagijohfkffiabGreatALLM02
import Derived.Test.YtjagijohfkffiabGreatALLM06
import Derived.Outline
import Derived.Deep.RegionWith
set_option maxHeartbeats 16000000
set_option maxRecDepth 100000
namespace Go.Proofs.YtjagijohfkffiabGreat
open Go.RowKit
set_option linter.unusedVariables false
def ib (ps:List (Nat × Nat)):List Value:=ps.flatMap fun p=>[.int .i64 p.1,.int .i64 p.2]
theorem Uj (ps:List (Nat × Nat)) (p:Nat × Nat):ib (ps++[p])=ib ps++[.int .i64 p.1,.int .i64 p.2]:=by simp [ib]
theorem uk (ps:List (Nat × Nat)) (i:Nat) (hi:i<ps.length):(ib ps)[i*2]?=some (.int .i64 (bN ps i))∧(ib ps)[i*2+1]?=some (.int .i64 (ax ps i)):=by
 induction ps generalizing i with
 | nil=>simp at hi
 | cons p ps ih=>
  cases i with
  | zero=>simp [ib,bN,ax]
  | succ i=>
   have:=ih i (by simpa using hi)
   rw [uV,pI,show ib (p::ps)=[.int .i64 p.1,.int .i64 p.2]++ib ps by simp [ib]]
   rw [List.getElem?_append_right (by simp;omega),List.getElem?_append_right (by simp;omega)]
   simpa [show (i+1)*2 - 2=i*2 by omega,show (i+1)*2+1 - 2=i*2+1 by omega] using this
theorem Kj (ps:List (Nat × Nat)) (i:Nat) (hi:i<ps.length) (x S:Nat):((ib ps).set (i*2) (.int .i64 x)).set (i*2+1) (.int .i64 S)=ib (ps.set i (x,S)):=by
 induction ps generalizing i with
 | nil=>simp at hi
 | cons p ps ih=>
  cases i with
  | zero=>simp [ib]
  | succ i=>
   have:=ih i (by simpa using hi)
   rw [show ib (p::ps)=.int .i64 p.1::.int .i64 p.2::ib ps by simp [ib],show (i+1)*2=i*2+1+1 by omega]
   simp only [List.set_cons_succ]
   rw [this]
   simp [ib]
structure Tb (w:World) (T back:Nat) (ps:List (Nat × Nat)):Prop where
 c0:∃ ao cap,w.cell? ⟨T,0,none⟩=some (.slice ao ps.length cap)∧w.ownsRow (T+1) 232 2 (.slice ao ps.length cap) ps.length (ib ps)
 c1:w.cell? ⟨T,1,none⟩=some (.int .i64 back)
 f0:w.frozen? ⟨T,0,none⟩=false
def lV (w w':World):Prop:=∀ (q:Nat) (c:Array Value) (Ty:TypeId) (z:Nat × Nat),w.heap[q]?=some (.cells c Ty z)→Ty≠232→w'.heap[q]?=some (.cells c Ty z)
theorem lV.refl (w:World):lV w w:=fun _ _ _ _ h _=>h
theorem lV.trans {a b c:World} (h:lV a b) (k:lV b c):lV a c:=fun q x T z h1 h2=>k q x T z (h q x T z h1 h2) h2
theorem lV.of_below {w w':World} (h:Below w.heap.size w w'):lV w w':=fun q c Ty z h1 _=>by
 rw [h.block q (Array.getElem?_eq_some_iff.1 h1).1];exact h1
theorem lV.drewN {a w:World} (h:lV a w) (n:Nat):lV a (w.drewN n):=h
theorem Tb.lt {w:World} {T back:Nat} {ps:List (Nat × Nat)} (h:Tb w T back ps):T<w.heap.size:=World.block_lt_of_cell? w ⟨T,1,none⟩ h.c1
theorem Tb.row {w:World} {T back:Nat} {ps:List (Nat × Nat)} (h:Tb w T back ps) (hn:0<ps.length):∃ g cap,w.cell? ⟨T,0,none⟩=some (.slice (some ⟨g,0,none⟩) ps.length cap)∧w.ownsRow (T+1) 232 2 (.slice (some ⟨g,0,none⟩) ps.length cap) ps.length (ib ps)∧T<g∧g<w.heap.size∧ps.length≤cap:=by
 obtain ⟨ao,cap,c,own⟩:=h.c0
 rcases own.2 with ⟨e,h0⟩ | ⟨g,cap',cur,e,hb,hh,hc,_⟩
 ·omega
 ·cases e
  exact ⟨g,cap,c,own,by omega,(Array.getElem?_eq_some_iff.1 hh).1,hc⟩
theorem Tb.below {w w':World} {T back:Nat} {ps:List (Nat × Nat)} (h:Tb w T back ps) (hb:Below w.heap.size w w'):Tb w' T back ps:=by
 obtain ⟨ao,cap,c,own⟩:=h.c0
 refine ⟨⟨ao,cap,?_,?_⟩,?_,?_⟩
 ·rw [hb.cell h.lt];exact c
 ·exact own.kept (row:=none) ⟨hb.os,hb.tape,hb.output,hb.size,fun k hk _=>hb.block k hk⟩ (by cases hv:(Value.slice ao ps.length cap).ownBlock <;> simp)
 ·rw [hb.cell h.lt];exact h.c1
 ·rw [hb.frozen h.lt];exact h.f0
theorem lV.set {a w:World} (h:lV a w) {P:Nat} (hP:a.heap.size≤P∨∃ c z,a.heap[P]?=some (.cells c 232 z)) (j:Nat) (v:Value):lV a (w.setCell ⟨P,j,none⟩ v):=fun q c Ty z h1 h2=>by
 have hq:=(Array.getElem?_eq_some_iff.1 h1).1
 have:q≠P:=by
  rcases hP with hP | ⟨c',z',hP⟩
  ·omega
  ·intro e
   subst e
   rw [h1] at hP
   simp at hP
   exact h2 hP.2.1
 rw [Below.heap_setCell _ _ _ _ this]
 exact h q c Ty z h1 h2
theorem adP {w:World} {T back i g cap n x S:Nat} {ps:List (Nat × Nat)} (ht:Tb w T back ps) (hi:i<ps.length) (hn:ps.length=n) (hc:w.cell? ⟨T,0,none⟩=some (.slice (some ⟨g,0,none⟩) n cap)) :
  Tb ((w.setCell ⟨g,i*2,none⟩ (.int .i64 x)).setCell ⟨g,i*2+1,none⟩ (.int .i64 S)) T back (ps.set i (x,S))∧lV w ((w.setCell ⟨g,i*2,none⟩ (.int .i64 x)).setCell ⟨g,i*2+1,none⟩ (.int .i64 S))∧Below (T+1) w ((w.setCell ⟨g,i*2,none⟩ (.int .i64 x)).setCell ⟨g,i*2+1,none⟩ (.int .i64 S)):=by
 subst hn
 obtain ⟨g',cap',c,own,Nq,_,_⟩:=ht.row (by omega)
 rw [hc] at c
 cases c
 have o1:=(own.stored (i*2) (.int .i64 x)).1
 have o2:=(o1.stored (i*2+1) (.int .i64 S)).1
 rw [Kj ps i hi] at o2
 have ne:∀ j k,(⟨g,j,none⟩:Addr)≠⟨T,k,none⟩:=fun j k e=>by have:=congrArg Addr.block e;simp at this;omega
 have hrow:∃ c z,w.heap[g]?=some (.cells c 232 z):=by
  rcases own.2 with ⟨e,_⟩ | ⟨g',cap',cur,e,_,hh,_⟩
  ·cases e
  ·cases e;exact ⟨_,_,hh⟩
 refine ⟨⟨⟨some ⟨g,0,none⟩,cap,?_,?_⟩,?_,?_⟩,?_,?_⟩
 ·rw [World.cell?_setCell_other _ _ _ _ (ne _ _),World.cell?_setCell_other _ _ _ _ (ne _ _),List.length_set];exact hc
 ·rw [List.length_set];exact o2
 ·rw [World.cell?_setCell_other _ _ _ _ (ne _ _),World.cell?_setCell_other _ _ _ _ (ne _ _)];exact ht.c1
 ·rw [World.frozen?_setCell,World.frozen?_setCell];exact ht.f0
 ·exact ((lV.refl w).set (Or.inr hrow) _ _).set (Or.inr hrow) _ _
 ·exact ((Below.refl _ _).setCell (p:=⟨g,i*2,none⟩) Nq _).setCell (p:=⟨g,i*2+1,none⟩) Nq _
theorem Tb.drewN {w:World} {T back:Nat} {ps:List (Nat × Nat)} (h:Tb w T back ps) (m:Nat):Tb (w.drewN m) T back ps:=⟨h.c0,h.c1,h.f0⟩
theorem Vm (n:Nd) (k N:Nat) (ps:List (Nat × Nat)) (i:Nat) (hi:i<ps.length) :
  (ps.take (i+1)++(aU n k N (ps.drop (i+1))).1).set i (bN ps i,qA n k (bN ps i,ax ps i) (aU n k N (ps.drop (i+1))).2)=ps.take i++(aU n k N (ps.drop i)).1:=by
 have e:ps.drop i=(bN ps i,ax ps i)::ps.drop (i+1):=by
  have h1:bN ps i=ps[i].1:=by simp [bN,List.getD,List.getElem?_eq_getElem hi]
  have h2:ax ps i=ps[i].2:=by simp [ax,List.getD,List.getElem?_eq_getElem hi]
  rw [h1,h2]
  exact List.drop_eq_getElem_cons hi
 rw [e]
 simp only [aU]
 rw [List.take_succ_eq_append_getElem hi,List.append_assoc,List.set_append_right _ _ (by simp;omega)]
 simp [show min i ps.length=i by omega]
theorem Ue (n:Nd) (k N:Nat) (ps:List (Nat × Nat)) (i:Nat) (hi:i<ps.length):(aU n k N (ps.drop i)).2=qA n k (bN ps i,ax ps i) (aU n k N (ps.drop (i+1))).2:=by
 have e:ps.drop i=(bN ps i,ax ps i)::ps.drop (i+1):=by
  have h1:bN ps i=ps[i].1:=by simp [bN,List.getD,List.getElem?_eq_getElem hi]
  have h2:ax ps i=ps[i].2:=by simp [ax,List.getD,List.getElem?_eq_getElem hi]
  rw [h1,h2]
  exact List.drop_eq_getElem_cons hi
 rw [e];simp [aU]
theorem adp (n:Nd) (k N:Nat) (ps:List (Nat × Nat)) (i:Nat) (hi:i<ps.length):bN (ps.take (i+1)++(aU n k N (ps.drop (i+1))).1) i=bN ps i∧ax (ps.take (i+1)++(aU n k N (ps.drop (i+1))).1) i=ax ps i:=by
 simp only [bN,ax,List.getD]
 rw [List.getElem?_append_left (by simp;omega),List.getElem?_take_of_lt (by omega)]
 exact ⟨rfl,rfl⟩
theorem adm (n:Nd) (k N:Nat) (ps:List (Nat × Nat)) (j:Nat) (hj:j≤ps.length):(ps.take j++(aU n k N (ps.drop j)).1).length=ps.length:=by
 rw [List.length_append,ma];simp;omega
theorem ac9 (n:Nd) (k N:Nat) (ps:List (Nat × Nat)) (hk:k<8) (hf:kR ps) (hN:N<256) (j:Nat):(aU n k N (ps.drop j)).2<256:=by
 rw [Di]
 split
 ·have:kR (ps.drop j):=fun i=>by have:=hf (j+i);simpa [bN,ax,List.getD,List.getElem?_drop] using this
  exact (ny hk this 0).2
 ·exact hN
theorem Sd (N T back k:Nat) (n:Nd) (ps:List (Nat × Nat)) (w:World) (hNe:ax ps back=N) (ht:Tb w T back ps) (hf:kR ps) (hb:back<ps.length) (hlen:ps.length≤80) (hk:k<8) (hl:n.l<8) (hr:n.r<8) :
  Calls Tryz.prog 147 #[.pointer (some ⟨T,0,none⟩),uG n,.int .i64 k] w fun e w'=>e=.returned (.tuple #[])∧Tb w' T back (aU n k N ps).1∧Below T w w'∧lV w w':=by
 obtain ⟨g,cap,c0,own,Nq,hg,hcap⟩:=ht.row (by omega)
 have c1:=ht.c1
 have hT:=ht.lt
 have hd:decide ((back:Int)<0)=false:=by simp
 have hd2:decide ((ps.length:Int)≤(back:Int))=false:=by simp;omega
 have hd3:decide (ps.length≤back)=false:=by simp;omega
 have x1:=(own.cellAt (back*2+1) (by omega)).trans (uk ps back hb).2
 have hN:=(hf back).2
 rw [hNe] at x1 hN
 clear hNe
 unfold uG
 go_enter Tryz.func147,Tryz.ntmps147
 go_wp2
 go_quiet (fail)
 go_wp2
 go_quiet (fail)
 go_wp2
 clear hd hd2 hd3 x1 c0 c1 own
 go_loopw [6,7] (fun nx i wr=>∃ j:Nat,j≤ps.length∧i=.int .i64 ((j:Int) - 1)∧nx=.int .i64 ((aU n k N (ps.drop j)).2:Nat)∧Tb wr T back (ps.take j++(aU n k N (ps.drop j)).1)∧Below T w wr∧lV w wr∧wr.heap[w.heap.size]?=some (.cells #[.int .u8 n.op,.int .i64 n.l,.int .i64 n.r] 109)) (fun _ i _=>(intOf i+1).toNat)
 case atStart=>
  refine ⟨ps.length,Nat.le_refl _,rfl,by simp [aU],?_,?_,?_,?_⟩
  ·rw [List.take_length,List.drop_length]
   simp only [aU,List.append_nil]
   exact (ht.below ((Below.refl _ _).alloc (Nat.le_refl _) _)).drewN _
  ·exact below_drewN ((Below.refl _ _).alloc (by omega) _) _
  ·exact (lV.of_below ((Below.refl _ _).alloc (Nat.le_refl _) _)).drewN _
  ·exact heap_alloc_new _ _
 case round=>
  obtain ⟨j,hj,rfl,rfl,htr,hbr,hkr,Iz⟩:=hrel
  cases j with
  | zero=>
   go_wp2
   go_end0
   refine ⟨rfl,?_,hbr,hkr⟩
   simpa using htr
  | succ i=>
   have hcl:=adm n k N ps (i+1) hj
   obtain ⟨g1,cap1,d0,ay,hTg1,hg1,hcap1⟩:=htr.row (by omega)
   have ha:=adp n k N ps i (by omega)
   have y:=uk (ps.take (i+1)++(aU n k N (ps.drop (i+1))).1) i (by omega)
   rw [ha.1,ha.2] at y
   have y1:=(ay.cellAt (i*2) (by omega)).trans y.1
   have y2:=(ay.cellAt (i*2+1) (by omega)).trans y.2
   have z1:=ay.frozenAt (i*2)
   have z2:=ay.frozenAt (i*2+1)
   rw [hcl] at d0 hcap1
   have HA:=hid (Vm n k N ps i (by omega))
   have HH:=hid (Ue n k N ps i (by omega))
   have hM:=ac9 n k N ps hk hf hN (i+1)
   have hx:=(hf i).1
   have hS:=(hf i).2
   have Z4:=hid htr
   have oG:=hid hcl
   clear ha y ay htr hcl
   generalize (aU n k N (ps.drop (i+1))).2=M at *
   obtain ⟨b0,b1,b2⟩:wr.cell? ⟨w.heap.size,0,none⟩=some (.int .u8 n.op)∧wr.cell? ⟨w.heap.size,1,none⟩=some (.int .i64 n.l)∧wr.cell? ⟨w.heap.size,2,none⟩=some (.int .i64 n.r):=by
    refine ⟨?_,?_,?_⟩ <;> (rw [cell_of_row wr _ _ _ _ _ Iz];rfl)
   have hlx:=bO Iz
   generalize bN ps i=X at *
   generalize ax ps i=S at *
   have LW:=fun W=>QS n k X S M W hl hr hk hx hS hM
   unfold uG at LW
   have ei:(((i+1:Nat):Int) - 1)=(i:Int):=by omega
   simp only [ei]
   clear ei
   go_wp2_with fail
   refine (LW _).mono ?_
   rintro e w2 ⟨rfl,hb2⟩
   have HNH:Hid (qR S k (aK n.op X (S.testBit n.l) (S.testBit n.r) (M.testBit k) (M.testBit n.l))=qA n k (X,S) M):=hid rfl
   clear LW
   generalize aK n.op X (S.testBit n.l) (S.testBit n.r) (M.testBit k) (M.testBit n.l)=v at *
   have hw2:=hb2.size
   simp only [World.size_alloc] at hw2
   have h0:=(hb2.cell (p:=⟨wr.heap.size,0,none⟩) (by simp)).trans (World.cell?_alloc_new wr _ _ 0)
   have h1:=(hb2.cell (p:=⟨wr.heap.size,1,none⟩) (by simp)).trans (World.cell?_alloc_new wr _ _ 1)
   have q1:=(hb2.frozen (p:=⟨wr.heap.size,1,none⟩) (by simp)).trans (World.frozen?_alloc_new wr _ _ 1)
   simp at h0 h1
   go_wp2_with fail
   refine (Eb S k v w2 hS hk).mono ?_
   rintro e w3 ⟨rfl,rfl⟩
   have hbw:Below wr.heap.size wr w3:=((Below.refl _ _).alloc (Nat.le_refl _) _).trans (hb2.mono (by simp))
   have d2:=(hbw.cell (p:=⟨T,0,none⟩) (by show T<wr.heap.size;omega)).trans d0
   have y3:=(hbw.cell (p:=⟨g1,i*2,none⟩) hg1).trans y1
   have y4:=(hbw.cell (p:=⟨g1,i*2+1,none⟩) hg1).trans y2
   have z3:=(hbw.frozen (p:=⟨g1,i*2,none⟩) hg1).trans z1
   have z4:=(hbw.frozen (p:=⟨g1,i*2+1,none⟩) hg1).trans z2
   have uN:=hid hbw
   have PH:=hid Iz
   clear Iz hbw hb2 d0 y1 y2 z1 z2 b0 b1 b2 hw2
   generalize qR S k v=S2 at *
   go_wp2_with fail
   go_region
   all_goals go_wp2_with fail
   all_goals go_roundw
   case rel=>
    have hbx:Below wr.heap.size wr (w3.setCell ⟨wr.heap.size,1,none⟩ (.int .i64 S2)):=uN.out.setCell (p:=⟨wr.heap.size,1,none⟩) (Nat.le_refl _) _
    obtain ⟨t1,t2,t3⟩:=adP (i:=i) (x:=X) (S:=S2) (Z4.out.below hbx) (by rw [oG.out];omega) oG.out (cap:=cap1) (g:=g1) ((World.cell?_setCell_other _ _ _ _ (fun e=>by have:=congrArg Addr.block e;simp at this;omega)).trans d2)
    rw [HNH.out,HA.out,←HNH.out] at t1
    have hk3:=hkr.trans ((lV.of_below hbx).trans t2)
    refine ⟨i,by omega,rfl,by rw [HH.out,←HNH.out],t1.drewN _,?_,hk3,?_⟩
    ·exact below_drewN ((hbr.trans (hbx.mono (by omega))).trans (t3.mono (Nat.le_succ _))) _
    ·exact (lV.of_below hbx |>.trans t2) _ _ _ _ PH.out (by decide)
   case measure=>simp [intOf]
theorem Uk (ps:List (Nat × Nat)) (i:Nat) (hi:i<ps.length) (S:Nat):(ib ps).set (i*2+1) (.int .i64 S)=ib (ps.set i (bN ps i,S)):=by
 have h:=Kj ps i hi (bN ps i) S
 rw [←h]
 have e:=(uk ps i hi).1
 obtain ⟨hlt,e2⟩:=List.getElem?_eq_some_iff.1 e
 rw [show (ib ps).set (i*2) (.int .i64 (bN ps i))=ib ps from by rw [←e2];exact List.set_getElem_self hlt]
theorem Jn (T back k:Nat) (n:Nd) (ps:List (Nat × Nat)) (w:World) (ht:Tb w T back ps) (hf:kR ps) (hb:back<ps.length) (hlen:ps.length≤80) (hk:k<8) (hl:n.l<8) (hr:n.r<8) :
  Calls Tryz.prog 147 #[.pointer (some ⟨T,0,none⟩),.agg #[.int .u8 n.op,.int .i64 n.l,.int .i64 n.r],.int .i64 k] w fun e w'=>e=.returned (.tuple #[])∧Tb w' T back (aU n k (ax ps back) ps).1∧Below T w w'∧lV w w':=
 Sd _ T back k n ps w rfl ht hf hb hlen hk hl hr
theorem ab2 {w:World} {T back i g cap n S:Nat} {ps:List (Nat × Nat)} (ht:Tb w T back ps) (hi:i<ps.length) (hn:ps.length=n) (hc:w.cell? ⟨T,0,none⟩=some (.slice (some ⟨g,0,none⟩) n cap)) :
  Tb (w.setCell ⟨g,i*2+1,none⟩ (.int .i64 S)) T back (ps.set i (bN ps i,S))∧lV w (w.setCell ⟨g,i*2+1,none⟩ (.int .i64 S))∧Below (T+1) w (w.setCell ⟨g,i*2+1,none⟩ (.int .i64 S)):=by
 subst hn
 obtain ⟨g',cap',c,own,Nq,_,_⟩:=ht.row (by omega)
 rw [hc] at c
 cases c
 have o2:=(own.stored (i*2+1) (.int .i64 S)).1
 rw [Uk ps i hi] at o2
 have ne:∀ j k,(⟨g,j,none⟩:Addr)≠⟨T,k,none⟩:=fun j k e=>by have:=congrArg Addr.block e;simp at this;omega
 have hrow:∃ c z,w.heap[g]?=some (.cells c 232 z):=by
  rcases own.2 with ⟨e,_⟩ | ⟨g',cap',cur,e,_,hh,_⟩
  ·cases e
  ·cases e;exact ⟨_,_,hh⟩
 refine ⟨⟨⟨some ⟨g,0,none⟩,cap,?_,?_⟩,?_,?_⟩,?_,?_⟩
 ·rw [World.cell?_setCell_other _ _ _ _ (ne _ _),List.length_set];exact hc
 ·rw [List.length_set];exact o2
 ·rw [World.cell?_setCell_other _ _ _ _ (ne _ _)];exact ht.c1
 ·rw [World.frozen?_setCell];exact ht.f0
 ·exact (lV.refl w).set (Or.inr hrow) _ _
 ·exact (Below.refl _ _).setCell (p:=⟨g,i*2+1,none⟩) Nq _
theorem Si (n:Nd) (k:Nat) (ps:List (Nat × Nat)) (j:Nat) (hj:j<ps.length) :
  ((bH n k ps).take j++ps.drop j).set j (bN ps j,qR (ax ps j) k (jM n.op))=(bH n k ps).take (j+1)++ps.drop (j+1):=by
 have h1:bN ps j=ps[j].1:=by simp [bN,List.getD,List.getElem?_eq_getElem hj]
 have h2:ax ps j=ps[j].2:=by simp [ax,List.getD,List.getElem?_eq_getElem hj]
 have hl:=ji n k ps
 rw [h1,h2,List.drop_eq_getElem_cons hj,List.take_succ_eq_append_getElem (by omega),List.append_assoc,List.set_append_right _ _ (by simp;omega)]
 simp [bH,show min j ps.length=j by omega]
 rw [List.drop_eq_getElem_cons hj]
 rfl
theorem Va (n:Nd) (k:Nat) (ps:List (Nat × Nat)) (j:Nat) (hj:j<ps.length):bN ((bH n k ps).take j++ps.drop j) j=bN ps j∧ax ((bH n k ps).take j++ps.drop j) j=ax ps j:=by
 have hl:=ji n k ps
 simp only [bN,ax,List.getD]
 rw [List.getElem?_append_right (by simp;omega)]
 simp [show min j ps.length=j by omega,hl]
theorem Mg (n:Nd) (k:Nat) (ps:List (Nat × Nat)) (j:Nat) (hj:j≤ps.length):((bH n k ps).take j++ps.drop j).length=ps.length:=by
 have hl:=ji n k ps
 simp;omega
theorem aas (T back k:Nat) (n:Nd) (ps:List (Nat × Nat)) (w:World) (ht:Tb w T back ps) (hf:kR ps) (hb:back<ps.length) (hlen:ps.length≤80) (hk:k<8) (hl:n.l<8) (hr:n.r<8) :
  Calls Tryz.prog 138 #[.pointer (some ⟨T,0,none⟩),.agg #[.int .u8 n.op,.int .i64 n.l,.int .i64 n.r],.int .i64 k] w fun e w'=>e=.returned (.tuple #[])∧Tb w' T back (pY n k back ps)∧Below T w w'∧lV w w':=by
 have hT:=ht.lt
 have LA:=fun W=>JV n W
 unfold uG at LA
 go_enter Tryz.func138,Tryz.ntmps138
 go_wp2_with fail
 refine (LA _).mono ?_
 rintro e w1 ⟨rfl,hb1⟩
 clear LA
 have hb0:Below w.heap.size w w1:=((Below.refl _ _).alloc (Nat.le_refl _) _).trans (hb1.mono (by simp))
 have Iz:w1.heap[w.heap.size]?=some (.cells #[.int .u8 n.op,.int .i64 n.l,.int .i64 n.r] 109):=by
  rw [hb1.block _ (by simp)];exact heap_alloc_new _ _
 have ht1:=ht.below hb0
 have hk1:=lV.of_below hb0
 obtain ⟨g,cap,c0,own,Nq,hg,hcap⟩:=ht1.row (by omega)
 have HT1:=hid ht1
 have Pv:=hid hk1
 have HB0:=hid hb0
 clear hb1 own ht1 hk1 hb0
 go_wp2_with fail
 clear c0
 go_loopw [15] (fun i wr=>∃ j:Nat,j≤ps.length∧i=.int .i64 j∧Tb wr T back ((bH n k ps).take j++ps.drop j)∧Below T w wr∧lV w wr∧wr.heap[w.heap.size]?=some (.cells #[.int .u8 n.op,.int .i64 n.l,.int .i64 n.r] 109)) (fun i _=>ps.length - (intOf i).toNat)
 case atStart=>
  exact ⟨0,Nat.zero_le _,rfl,by simpa using HT1.out,HB0.out.mono (by omega),Pv.out,Iz⟩
 case round=>
  obtain ⟨j,hj,rfl,htr,hbr,hkr,hbx⟩:=hrel
  have hcl:=Mg n k ps j hj
  by_cases hlt:j<ps.length
  ·obtain ⟨g1,cap1,d0,ay,hTg1,hg1,hcap1⟩:=htr.row (by omega)
   have ha:=Va n k ps j hlt
   have y:=uk _ j (show j<((bH n k ps).take j++ps.drop j).length by omega)
   rw [ha.1,ha.2] at y
   have y2:=(ay.cellAt (j*2+1) (by omega)).trans y.2
   have z2:=ay.frozenAt (j*2+1)
   rw [hcl] at d0 hcap1
   have HA:=hid (Si n k ps j hlt)
   have qQ:=hid ha.1
   have hS:=(hf j).2
   have Z4:=hid htr
   have oG:=hid hcl
   have hTw:=htr.lt
   clear ha y ay htr hcl
   generalize ax ps j=S at *
   generalize jM n.op=v at *
   go_wp2_with fail
   go_region_with (go_at_call 115;refine (Eb S k v _ hS hk).mono ?_;rintro e w' ⟨rfl,rfl⟩)
   all_goals
    go_wp2_with fail
    go_roundw
    case rel=>
     obtain ⟨t1,t2,t3⟩:=ab2 (i:=j) (S:=qR S k v) Z4.out (by rw [oG.out];omega) oG.out (cap:=cap1) (g:=g1) d0
     rw [qQ.out,HA.out] at t1
     refine ⟨j+1,by omega,by go_num,t1.drewN _,?_,hkr.trans t2,t2 _ _ _ _ hbx (by decide)⟩
     exact below_drewN (hbr.trans (t3.mono (Nat.le_succ _))) _
    case measure=>simp [intOf];omega
  ·have hj2:j=ps.length:=by omega
   subst hj2
   have e1:(bH n k ps).take ps.length++ps.drop ps.length=bH n k ps:=by
    rw [List.drop_length,List.append_nil,List.take_of_length_le (by rw [ji];exact Nat.le_refl _)]
   rw [e1] at htr
   obtain ⟨b0,b1,b2⟩:wr.cell? ⟨w.heap.size,0,none⟩=some (.int .u8 n.op)∧wr.cell? ⟨w.heap.size,1,none⟩=some (.int .i64 n.l)∧wr.cell? ⟨w.heap.size,2,none⟩=some (.int .i64 n.r):=by
    refine ⟨?_,?_,?_⟩ <;> (rw [cell_of_row wr _ _ _ _ _ hbx];rfl)
   have sl:=ji n k ps
   have S1:=fun W h=>Jn T back k n (bH n k ps) W h (oK hk hf) (by omega) (by omega) hk hl hr
   have sl2:=ma n k (ax (bH n k ps) back) (bH n k ps)
   have S2:=fun W h=>Jn T back k n (aU n k (ax (bH n k ps) back) (bH n k ps)).1 W h (ny hk (oK hk hf)) (by omega) (by omega) hk hl hr
   clear e1 sl sl2 hcl
   have yX:=hid htr
   clear htr
   go_wp2_with fail
   refine (S1 _ yX.out).mono ?_
   rintro e w2 ⟨rfl,ht2,hb2,hk2⟩
   have ai9:=hk2 _ _ _ _ hbx (by decide)
   have HT2:=hid ht2
   clear b0 b1 b2 ht2
   obtain ⟨b0,b1,b2⟩:w2.cell? ⟨w.heap.size,0,none⟩=some (.int .u8 n.op)∧w2.cell? ⟨w.heap.size,1,none⟩=some (.int .i64 n.l)∧w2.cell? ⟨w.heap.size,2,none⟩=some (.int .i64 n.r):=by
    refine ⟨?_,?_,?_⟩ <;> (rw [cell_of_row w2 _ _ _ _ _ ai9];rfl)
   go_wp2_with fail
   refine (S2 _ HT2.out).mono ?_
   rintro e w4 ⟨rfl,ht4,hb4,hk4⟩
   clear b0 b1 b2
   go_wp2_with fail
   go_end0
   exact ⟨rfl,ht4,(hbr.trans hb2).trans hb4,(hkr.trans hk2).trans hk4⟩
def fO (ns:List Nd):Prop:=∀ (i:Nat) (n:Nd),ns[i]?=some n→(aP n.op=true∧n.l=0∧n.r=0)∨(dB n.op=true∧n.l<i∧n.r=0)∨(bz n.op=true∧n.l<i∧n.r<i)
theorem fO.snoc {ns:List Nd} (h:fO ns) (n:Nd) (hn:(aP n.op=true∧n.l=0∧n.r=0)∨(dB n.op=true∧n.l<ns.length∧n.r=0)∨(bz n.op=true∧n.l<ns.length∧n.r<ns.length)):fO (ns++[n]):=by
 intro i m hm
 by_cases hi:i<ns.length
 ·rw [List.getElem?_append_left hi] at hm
  exact h i m hm
 ·rw [List.getElem?_append_right (by omega)] at hm
  have:i=ns.length:=by
   have:=(List.getElem?_eq_some_iff.1 hm).1
   simp at this;omega
  subst this
  simp at hm
  subst hm
  exact hn
theorem FD:∀ (k:Nat) (s:ByteArray) (a:Nat) (ns:List Nd) (a':Nat) (ns':List Nd),ps k s a ns=some (a',ns')→fO ns→fO ns'∧∃ ms,ns'=ns++ms
 | 0,_,_,_,_,_,h,_=>by simp [ps] at h
 | k+1,s,a,ns,a',ns',h,hw=>by
  by_cases b1:aP (bt s a)=true
  ·rw [nA b1] at h
   simp only [Option.some.injEq,Prod.mk.injEq] at h
   obtain ⟨rfl,rfl⟩:=h
   exact ⟨hw.snoc _ (Or.inl ⟨b1,rfl,rfl⟩),_,rfl⟩
  ·rw [Bool.not_eq_true] at b1
   by_cases b2:dB (bt s a)=true
   ·rw [qY b2] at h
    unfold tY at h
    cases e:ps k s (a+1) ns with
    | none=>rw [e] at h;simp at h
    | some x=>
     obtain ⟨a1,n1⟩:=x
     rw [e] at h
     simp only [Option.some.injEq,Prod.mk.injEq] at h
     obtain ⟨rfl,rfl⟩:=h
     have g:=dJ k s _ _ _ _ e
     obtain ⟨h1,ms,h2⟩:=FD k s _ _ _ _ e hw
     exact ⟨h1.snoc _ (Or.inr (Or.inl ⟨b2,by simp only;omega,rfl⟩)),_,by rw [h2,List.append_assoc]⟩
   ·rw [Bool.not_eq_true] at b2
    by_cases b3:bt s a=40
    ·rw [nS b3] at h
     unfold ps2 at h
     cases e:ps k s (a+1) ns with
     | none=>rw [e] at h;simp at h
     | some x=>
      obtain ⟨a1,n1⟩:=x
      rw [e] at h
      simp only at h
      by_cases b4:bz (bt s a1)=true
      ·rw [if_pos b4] at h
       cases e2:ps k s (a1+1) n1 with
       | none=>rw [e2] at h;simp at h
       | some x=>
        obtain ⟨a2,n2⟩:=x
        rw [e2] at h
        simp only at h
        by_cases b5:bt s a2=41
        ·rw [if_pos b5] at h
         simp only [Option.some.injEq,Prod.mk.injEq] at h
         obtain ⟨rfl,rfl⟩:=h
         have g1:=dJ k s _ _ _ _ e
         have g2:=dJ k s _ _ _ _ e2
         obtain ⟨h1,ms1,q1⟩:=FD k s _ _ _ _ e hw
         obtain ⟨h2,ms2,q2⟩:=FD k s _ _ _ _ e2 h1
         exact ⟨h2.snoc _ (Or.inr (Or.inr ⟨b4,by simp only;omega,by simp only;omega⟩)),_,by rw [q2,q1,List.append_assoc,List.append_assoc]⟩
        ·rw [if_neg b5] at h;simp at h
      ·rw [if_neg b4] at h;simp at h
    ·rw [CL b1 b2 b3] at h;simp at h
structure Good (ns:List Nd):Prop where
 pos:0<ns.length
 le:ns.length≤8
 wf:fO ns
theorem fV {s:ByteArray} (h:(af s).1=0):Good (af s).2:=by
 unfold af at h ⊢
 split at h
 ·simp at h
 ·rename_i h1
  rw [if_neg h1]
  cases e:ps 25 s 0 [] with
  | none=>rw [e] at h;simp at h
  | some x=>
   obtain ⟨a,ns⟩:=x
   rw [e] at h
   simp only at h ⊢
   split at h
   ·rename_i h2
    rw [if_pos h2]
    split at h
    ·simp at h
    ·rename_i h3
     rw [if_neg h3]
     have g:=dJ _ _ _ _ _ _ e
     have w:=(FD _ _ _ _ _ _ e (by intro i n h;simp at h)).1
     have g2:=g.2.2.2
     simp at g2
     exact ⟨g2,Nat.not_lt.1 h3,w⟩
   ·simp at h
theorem fO.small {ns:List Nd} (h:fO ns) (hl:ns.length≤8) {i:Nat} {n:Nd} (hn:ns[i]?=some n):n.l<8∧n.r<8:=by
 have hi:=(List.getElem?_eq_some_iff.1 hn).1
 rcases h i n hn with ⟨_,h1,h2⟩ | ⟨_,h1,h2⟩ | ⟨_,h1,h2⟩ <;> omega
def ai (ns:List Nd) (k:Nat):Nd:=ns.getD k ⟨0,0,0⟩
def nI (back:Nat) (ns:List Nd) (ps:List (Nat × Nat)):Nat→List (Nat × Nat)
 | 0=>ps
 | k+1=>pY (ai ns k) k back (nI back ns ps k)
theorem Jm (back:Nat) (ns:List Nd) (ps:List (Nat × Nat)) (k:Nat):(nI back ns ps k).length=ps.length:=by
 induction k with
 | zero=>rfl
 | succ k ih=>simp only [nI];rw [Kl,ih]
theorem E9 {back:Nat} {ns:List Nd} {ps:List (Nat × Nat)} (hf:kR ps) (k:Nat) (hk:k≤8):kR (nI back ns ps k):=by
 induction k with
 | zero=>exact hf
 | succ k ih=>exact Kk (by omega) (ih (by omega))
theorem PX {back:Nat} {ns:List Nd} {ps:List (Nat × Nat)} {lt:Nat→Nat} (hb:back<ps.length) (hf:kR ps) (hl:∀ i,i<ps.length→bN ps i=lt i) (hg:fO ns) (h8:ns.length≤8) (k:Nat) (hk:k≤ns.length) :
  Ux ps.length back lt (ns.take k) (nI back ns ps k):=by
 induction k with
 | zero=>exact ⟨rfl,hf,hl,fun i hi j hj=>by simp at hj⟩
 | succ k ih=>
  have h1:=ih (by omega)
  have e:ns.take (k+1)=ns.take k++[ai ns k]:=by
   rw [List.take_succ_eq_append_getElem (by omega)]
   simp [ai,List.getD,List.getElem?_eq_getElem (show k<ns.length by omega)]
  have hn:ns[k]?=some (ai ns k):=by simp [ai,List.getD,List.getElem?_eq_getElem (show k<ns.length by omega)]
  have hlen:(ns.take k).length=k:=by simp;omega
  rw [e]
  have key:=Sc hb h1 (ai ns k) (by omega)
  rw [hlen] at key
  refine key ?_ ?_ ?_
  ·intro h2
   rcases hg k _ hn with ⟨h3,_⟩ | ⟨_,h3,_⟩ | ⟨_,h3,_⟩
   ·rw [h2] at h3;simp at h3
   ·exact h3
   ·exact h3
  ·intro h2
   rcases hg k _ hn with ⟨h3,_⟩ | ⟨h3,_⟩ | ⟨_,_,h3⟩
   ·rw [ru h3] at h2;simp at h2
   ·rw [jX h3] at h2;simp at h2
   ·exact h3
  ·rcases hg k _ hn with ⟨h3,_⟩ | ⟨h3,_⟩ | ⟨h3,_⟩
   ·exact Or.inl h3
   ·exact Or.inr (Or.inl h3)
   ·exact Or.inr (Or.inr h3)
def mX (back:Nat) (ns:List Nd) (xs:List Nat):Bool:=(ax (nI back ns (xs.map fun x=>(x,0)) ns.length) 0).testBit (ns.length - 1)
def ltOf (xs:List Nat) (i:Nat):Nat:=xs.getD i 0
theorem zS {back:Nat} {ns:List Nd} {xs:List Nat} (hg:Good ns) (hb:back<xs.length) (hx:∀ x∈xs,x<8):mX back ns xs=true↔dz (aG xs.length back) (ltOf xs) ns (ns.length - 1) 0:=by
 have hf:kR (xs.map fun x=>(x,0)):=Q7 (by intro p hp;simp at hp;obtain ⟨x,hm,rfl⟩:=hp;exact ⟨hx x hm,by show 0<256;decide⟩)
 have ht:=PX (back:=back) (ns:=ns) (ps:=xs.map fun x=>(x,0)) (lt:=ltOf xs) (by simpa using hb) hf (by
  intro i hi
  simp at hi
  simp [bN,ltOf,List.getD,List.getElem?_eq_getElem hi]) hg.wf hg.le ns.length (Nat.le_refl _)
 rw [List.take_length,List.length_map] at ht
 have:=ht.2.2.2 0 (by omega) (ns.length - 1) (by have:=hg.pos;omega)
 exact this
theorem Tryz.WG:(Tryz.prog.info? 232).map (fun i=>(i.zero,i.size,i.bytes))=some (some (.agg #[.int .i64 0,.int .i64 0]),2,16):=by kernel_rfl
def bD (xs:List Nat):List Value:=xs.map fun x=>Value.int .i64 (x:Nat)
theorem flat_get (ns:List Nd) (i:Nat) (hi:i<ns.length):(flat ns)[i*3]?=some (.int .u8 (ai ns i).op)∧(flat ns)[i*3+1]?=some (.int .i64 (ai ns i).l)∧(flat ns)[i*3+2]?=some (.int .i64 (ai ns i).r):=by
 induction ns generalizing i with
 | nil=>simp at hi
 | cons p ps ih=>
  cases i with
  | zero=>simp [flat,ai]
  | succ i=>
   have:=ih i (by simpa using hi)
   rw [show ai (p::ps) (i+1)=ai ps i by simp [ai],show flat (p::ps)=[.int .u8 p.op,.int .i64 p.l,.int .i64 p.r]++flat ps by simp [flat]]
   rw [List.getElem?_append_right (by simp;omega),List.getElem?_append_right (by simp;omega),List.getElem?_append_right (by simp;omega)]
   simpa [show (i+1)*3 - 3=i*3 by omega,show (i+1)*3+1 - 3=i*3+1 by omega,show (i+1)*3+2 - 3=i*3+2 by omega] using this
def kX (xs:List Nat) (j:Nat):List (Nat × Nat):=(xs.take j).map fun x=>(x,0)
theorem Tp {xs:List Nat} {j:Nat} (h:j≤xs.length):(kX xs j).length=j:=by simp [kX];omega
theorem Qd {xs:List Nat} {j:Nat} (h:j<xs.length):kX xs (j+1)=kX xs j++[(ltOf xs j,0)]:=by
 unfold kX
 rw [List.take_succ_eq_append_getElem h,List.map_append]
 simp [ltOf,List.getD,List.getElem?_eq_getElem h]
theorem Tq (xs:List Nat):kX xs xs.length=xs.map fun x=>(x,0):=by unfold kX;rw [List.take_length]
theorem pu {w:World} {B e size n cap:Nat} {ao:Option Addr} {xs:List Value} (h:w.ownsRow B e size (.slice ao n cap) n xs) (hn:0<n):∃ g,ao=some ⟨g,0,none⟩∧B≤g∧g<w.heap.size∧n≤cap:=by
 rcases h.2 with ⟨e,h0⟩ | ⟨g,cap',cur,e,hb,hh,hc,_⟩
 ·omega
 ·cases e
  exact ⟨g,rfl,hb,bO hh,hc⟩
theorem adQ (w:World) (back:Nat):Tb (w.alloc (.cells #[.slice none 0 0,.int .i64 back] 230)) w.heap.size back []:=
 ⟨⟨none,0,by simp,World.ownsRow_nil _ _ _ _⟩,by simp,by simp⟩
theorem ab3 {w w':World} {T back:Nat} {ps:List (Nat × Nat)} (h:Tb w T back ps) (hb:Below (T+1) w w') (p:Nat × Nat) (ao:Option Addr) (cap:Nat) (n:Nat) (hn:n=ps.length+1)
  (ho:w'.ownsRow (T+1) 232 2 (.slice ao n cap) n (ib (ps++[p]))):Tb (w'.setCell ⟨T,0,none⟩ (.slice ao n cap)) T back (ps++[p]):=by
 subst hn
 have hR:T<T+1:=Nat.lt_succ_self _
 obtain ⟨_,_,hc,_⟩:=h.c0
 refine ⟨⟨ao,cap,?_,?_⟩,?_,?_⟩
 ·rw [List.length_append,List.length_singleton]
  exact World.cell?_setCell_same _ _ _ ((hb.cell (p:=⟨T,0,none⟩) hR).trans hc)
 ·rw [List.length_append,List.length_singleton]
  exact ownsRow_setCell_below ho (by simp) _
 ·rw [World.cell?_setCell_other _ _ _ _ (by simp),hb.cell hR];exact h.c1
 ·rw [World.frozen?_setCell,hb.frozen hR];exact h.f0
theorem Un (B1 B2 g n cap back m ncap:Nat) (ao:Option Addr) (xs:List Nat) (ns:List Nd) (w:World)
  (hx:w.ownsRow B1 3 1 (.slice (some ⟨g,0,none⟩) n cap) n (bD xs)) (hns:w.ownsRow B2 109 3 (.slice ao m ncap) m (flat ns))
  (hg:Good ns) (hlm:ns.length=m) (hlx:xs.length=n) (hb:back<n) (hn:n≤80) (h8:∀ x∈xs,x<8) :
  Calls Tryz.prog 101 #[.agg #[.slice (some ⟨g,0,none⟩) n cap,.int .i64 back],.slice ao m ncap] w fun e w'=>e=.returned (.bool (mX back ns xs))∧Below w.heap.size w w':=by
 have hpos:=hg.pos
 have hle:=hg.le
 obtain ⟨gn,rfl,hgn0,hgn,hncap⟩:=pu hns (by omega)
 obtain ⟨g',e,hg0,hgg,hcap⟩:=pu hx (by omega)
 cases e
 have X:∀ i,i<n→w.cell? ⟨g,i,none⟩=some (.int .i64 (ltOf xs i:Nat)):=fun i hi=>by
  rw [hx.cellAt i (by omega)];simp [bD,ltOf,List.getD,List.getElem?_eq_getElem (show i<xs.length by omega)]
 have N0:∀ i,i<m→w.cell? ⟨gn,i*3,none⟩=some (.int .u8 (ai ns i).op):=fun i hi=>(hns.cellAt (i*3) (by omega)).trans (flat_get ns i (by omega)).1
 have N1:∀ i,i<m→w.cell? ⟨gn,i*3+1,none⟩=some (.int .i64 (ai ns i).l):=fun i hi=>(hns.cellAt (i*3+1) (by omega)).trans (flat_get ns i (by omega)).2.1
 have N2:∀ i,i<m→w.cell? ⟨gn,i*3+2,none⟩=some (.int .i64 (ai ns i).r):=fun i hi=>(hns.cellAt (i*3+2) (by omega)).trans (flat_get ns i (by omega)).2.2
 obtain ⟨i0,hi,hz0,hz1,hz2⟩:=info_parts Tryz.WG
 have HX:=hid X
 have Yl:=hid N0
 have HN1:=hid N1
 have uM:=hid N2
 clear X N0 N1 N2 hx hns
 go_enter Tryz.func101,Tryz.ntmps101
 go_wp2_with fail
 go_loopw [16] (fun i wr=>∃ j:Nat,j≤n∧i=.int .i64 j∧Tb wr (w.heap.size+1) back (kX xs j)∧Below w.heap.size w wr) (fun i _=>n - (intOf i).toNat)
 case atStart=>
  refine ⟨0,Nat.zero_le _,rfl,?_,((Below.refl _ _).alloc (Nat.le_refl _) _).alloc (by simp) _⟩
  have:=adQ (w.alloc (.cells #[.slice (some ⟨g,0,none⟩) n cap,.int .i64 back] 180)) back
  simpa [kX] using this
 case round=>
  obtain ⟨j,hj,rfl,htr,hbr⟩:=hrel
  by_cases hlt:j<n
  ·have c:=(hbr.cell (p:=⟨g,j,none⟩) hgg).trans (HX.out j hlt)
   obtain ⟨ao,tcap,d0,own⟩:=htr.c0
   have q0:=htr.f0
   have hl:(kX xs j).length=j:=Tp (by omega)
   rw [hl] at d0 own
   have hTw:=htr.lt
   have HT:=hid htr
   have HS:=hid (Qd (xs:=xs) (j:=j) (by omega))
   have HL:=hid hl
   clear htr hl
   generalize ltOf xs j=x at *
   go_wp2_with (at_builtin;go_must (refine wpList_append_own _ rfl (.tmp 21) (.tmp 24) 228 rfl (w.heap.size+1+1) 232 i0 (.agg #[.int .i64 0,.int .i64 0]) 2 16 Tryz.underlying228 hi hz0 hz1 hz2 rfl (by decide) _ _ _ rfl (own.alloc _) ⟨wr.heap.size,0,none⟩ 1 1 [.int .i64 x,.int .i64 0] rfl rfl ?c1 ?c2 ?c3 ?c4 ?c5 ?_))
   case c1=>exact cell_two_new _ _ _ _
   case c2=>intro u hu;simp at hu;rcases hu with rfl | rfl <;> rfl
   case c3=>unfold maxLen;omega
   case c4=>omega
   case c5=>simp;omega
   intro v' w1 hown hgrow _
   have hbel:Below (w.heap.size+1+1) wr w1:=((Below.refl _ _).alloc (by omega) _).grown hgrow (by simp;omega) (fun k h=>(own.lt k h).1)
   have e2:ib (kX xs j)++[.int .i64 (x:Nat),.int .i64 0]=ib (kX xs j++[(x,0)]):=(Uj (kX xs j) (x,0)).symm
   rw [e2] at hown
   clear e2
   obtain ⟨ao',cap',hv⟩:∃ ao' cap',v'=.slice ao' (j+1) cap':=by
    rcases hown.2 with ⟨h,h0⟩ | ⟨g,cap',_,h,_⟩
    ·omega
    ·exact ⟨_,cap',h⟩
   subst hv
   have P1:=hid (ab3 HT.out hbel (x,0) ao' cap' (j+1) (by rw [HL.out]) hown)
   have k2:=(hbel.cell (p:=⟨w.heap.size+1,0,none⟩) (Nat.lt_succ_self _)).trans d0
   have g2:=(hbel.frozen (p:=⟨w.heap.size+1,0,none⟩) (Nat.lt_succ_self _)).trans q0
   have B1:=hid ((hbr.trans (hbel.mono (by omega))).setCell (p:=⟨w.heap.size+1,0,none⟩) (by show w.heap.size≤w.heap.size+1;omega) (.slice ao' (j+1) cap'))
   clear hown hgrow hbel own d0 q0 c
   go_wp2_with fail
   go_roundw
   case rel=>exact ⟨j+1,by omega,by go_num,by rw [HS.out];exact P1.out,B1.out⟩
   case measure=>simp [intOf];omega
  ·have hj2:j=n:=by omega
   have hps:kX xs j=xs.map fun x=>(x,0):=by rw [hj2,←hlx];exact Tq xs
   rw [hps] at htr
   have hf:kR (xs.map fun x=>(x,0)):=Q7 (by intro p hp;simp at hp;obtain ⟨x,hm,rfl⟩:=hp;exact ⟨h8 x hm,by show 0<256;decide⟩)
   have hpl:(xs.map fun x=>(x,0)).length=n:=by rw [List.length_map];exact hlx
   have HB:Hid (mX back ns xs=(ax (nI back ns (xs.map fun x=>(x,0)) ns.length) 0).testBit (ns.length - 1)):=hid rfl
   have HW:=hid hg.wf
   generalize (xs.map fun x=>(x,0))=ps at *
   clear hps HX h8 hj2 hj
   have yX:=hid htr
   clear htr
   go_wp2_with fail
   go_loopw [30] (fun i wr=>∃ k:Nat,k≤m∧i=.int .i64 k∧Tb wr (w.heap.size+1) back (nI back ns ps k)∧Below w.heap.size w wr) (fun i _=>m - (intOf i).toNat)
   case atStart=>exact ⟨0,Nat.zero_le _,rfl,yX.out,hbr⟩
   case round=>
    obtain ⟨k,hk,rfl,htk,hbk⟩:=hrel
    have tl:=Jm back ns ps k
    by_cases hlk:k<m
    ·have c0:=(hbk.cell (p:=⟨gn,k*3,none⟩) hgn).trans (Yl.out k hlk)
     have c1:=(hbk.cell (p:=⟨gn,k*3+1,none⟩) hgn).trans (HN1.out k hlk)
     have c2:=(hbk.cell (p:=⟨gn,k*3+2,none⟩) hgn).trans (uM.out k hlk)
     have hsm:=HW.out.small hle (i:=k) (n:=ai ns k) (by simp [ai,List.getD,List.getElem?_eq_getElem (show k<ns.length by omega)])
     have F:=fun W h=>aas (w.heap.size+1) back k (ai ns k) (nI back ns ps k) W h (E9 hf k (by omega)) (by omega) (by omega) (by omega) hsm.1 hsm.2
     have HS:Hid (nI back ns ps (k+1)=pY (ai ns k) k back (nI back ns ps k)):=hid rfl
     have HT:=hid htk
     have hTw:=htk.lt
     clear htk hsm
     generalize nI back ns ps k=pk at *
     generalize ai ns k=nd at *
     go_wp2_with fail
     refine (F _ (HT.out.below ((Below.refl _ _).alloc (Nat.le_refl _) _))).mono ?_
     rintro e w2 ⟨rfl,ht2,hb2,hk2⟩
     clear F c0 c1 c2
     have B2:=hid ((hbk.trans ((Below.refl _ _).alloc (by omega) _)).trans (hb2.mono (by omega)))
     have T2:=hid ht2
     clear hb2 ht2 hk2
     go_wp2_with fail
     go_roundw
     case rel=>exact ⟨k+1,by omega,by go_num,by rw [HS.out];exact T2.out,B2.out⟩
     case measure=>simp [intOf];omega
    ·have JX:k=m:=by omega
     rw [JX,←hlm] at htk
     have tl2:(nI back ns ps ns.length).length=n:=by rw [Jm];exact hpl
     obtain ⟨gp,pcap,d0,own,_,hgp,hpcap⟩:=htk.row (by omega)
     have y:=(own.cellAt 1 (by omega)).trans (uk _ 0 (by omega)).2
     have hS:=(E9 (back:=back) (ns:=ns) hf ns.length hle 0).2
     rw [tl2] at d0 hpcap
     generalize ax (nI back ns ps ns.length) 0=S at *
     have kz:((n:Int)==0)=false:=beq_eq_false_iff_ne.2 (by omega)
     clear own tl
     go_wp2_with fail
     rw [show ((m:Int) - 1)=((m - 1:Nat):Int) from by omega]
     refine (aX S (m - 1) _ hS (by omega)).mono ?_
     rintro e w2 ⟨rfl,rfl⟩
     go_wp2_with fail
     go_ret
     refine ⟨?_,hbk⟩
     rw [HB.out,hlm]
     rfl
end Go.Proofs.YtjagijohfkffiabGreat
