import Derived.Test.YtjagijohfkffiabGreatALLM01
import Derived.Test.YtjagijohfkffiabGreatALLM28
import Derived.Test.YtjagijohfkffiabGreatALLM29
set_option maxHeartbeats 16000000
set_option maxRecDepth 100000
namespace Go.Proofs.YtjagijohfkffiabGreat
set_option linter.unusedVariables false
def aL (xs:List Nat):Nat→Nat→Nat:=fun i l=>xs.getD (8*i+l) 0
theorem ug (xs:List Nat) (p:Nat):aL xs (p / 8) (p % 8)=xs.getD p 0:=by unfold aL;rw [show 8*(p / 8)+p % 8=p by omega]
theorem dU {xs:List Nat} {x p:Nat} (h:p<xs.length):(xs++[x]).getD p 0=xs.getD p 0:=by simp [List.getD,List.getElem?_append_left h]
theorem di (xs:List Nat) (x:Nat):(xs++[x]).getD xs.length 0=x:=by simp [List.getD]
theorem mo {xs:List Nat} {x:Nat}:∀ p,p≤xs.length→met (aL (xs++[x])) p=met (aL xs) p
 | 0,_=>rfl
 | p+1,h=>by rw [met,met,mo p (by omega),ug,ug,dU (by omega)]
section
variable (ns:List Nd) (aa aA:Nat→Bool)
structure eX (us:List (List Nat)) (xs:List Nat):Prop where
 first:us[0]?=some []
 wE:∀ u∈us,∀ x∈u,x<8
 BZ:(us.map fun u=>gv (cZ ns aa aA u)).Nodup
 ok:∀ p,p<xs.length→∃ u0 u1,us[p / 8]?=some u0∧us[xs.getD p 0]?=some u1∧geq (cZ ns aa aA u1) (stepG ns aa (cZ ns aa aA u0) (p % 8))=true
 num:us.length=met (aL xs) xs.length
 Ep:∀ p,p<xs.length→p / 8<met (aL xs) p∧xs.getD p 0≤met (aL xs) p
end
variable {ns:List Nd} {aa aA:Nat→Bool} {us:List (List Nat)} {xs:List Nat}
theorem Gi:eX ns aa aA [[]] []:=by
 refine ⟨rfl,fun u hu x hx=>?_,by simp,fun p hp=>by simp at hp,rfl,fun p hp=>by simp at hp⟩
 simp at hu
 subst hu
 simp at hx
theorem Ob (h:eX ns aa aA us xs) {u0 u1:List Nat} {j:Nat} (h0:us[xs.length / 8]?=some u0) (h1:us[j]?=some u1) (hq:geq (cZ ns aa aA u1) (stepG ns aa (cZ ns aa aA u0) (xs.length % 8))=true):eX ns aa aA us (xs++[j]):=by
 have hj:=(List.getElem?_eq_some_iff.1 h1).1
 have hi:=(List.getElem?_eq_some_iff.1 h0).1
 have hn:=h.num
 refine ⟨h.first,h.wE,h.BZ,fun p hp=>?_,?_,fun p hp=>?_⟩
 ·rw [List.length_append,List.length_singleton] at hp
  by_cases e:p=xs.length
  ·subst e;rw [di];exact ⟨u0,u1,h0,h1,hq⟩
  ·rw [dU (by omega)];exact h.ok p (by omega)
 ·rw [List.length_append,List.length_singleton,met,mo _ (Nat.le_refl _),ug,di,←h.num]
  omega
 ·rw [List.length_append,List.length_singleton] at hp
  rw [mo p (by omega)]
  by_cases e:p=xs.length
  ·subst e;rw [di,←h.num];exact ⟨hi,by omega⟩
  ·rw [dU (by omega)];exact h.Ep p (by omega)
theorem aeQ {g k:Nat→Bool} (h:geq g k=false):gv g≠gv k:=fun e=>by
 have:geq g k=true:=iN.2 (aeP e)
 rw [h] at this
 cases this
theorem Oc (h:eX ns aa aA us xs) {u0:List Nat} (h0:us[xs.length / 8]?=some u0) (hall:∀ u∈us,geq (cZ ns aa aA u) (stepG ns aa (cZ ns aa aA u0) (xs.length % 8))=false):eX ns aa aA (us++[u0++[xs.length % 8]]) (xs++[us.length]):=by
 have hi:=(List.getElem?_eq_some_iff.1 h0).1
 have hn:=h.num
 have old:∀ {i:Nat} {u:List Nat},us[i]?=some u→(us++[u0++[xs.length % 8]])[i]?=some u:=fun {i u} hu=>by
  rw [List.getElem?_append_left (List.getElem?_eq_some_iff.1 hu).1];exact hu
 refine ⟨old h.first,fun u hu=>?_,?_,fun p hp=>?_,?_,fun p hp=>?_⟩
 ·rcases List.mem_append.1 hu with hu | hu
  ·exact h.wE u hu
  ·simp at hu
   subst hu
   intro x hx
   rcases List.mem_append.1 hx with hx | hx
   ·exact h.wE u0 (List.mem_of_getElem? h0) x hx
   ·simp at hx;omega
 ·rw [List.map_append,List.nodup_append]
  refine ⟨h.BZ,by simp,fun a ha b hb=>?_⟩
  simp at hb
  subst hb
  obtain ⟨u,hu,rfl⟩:=List.mem_map.1 ha
  rw [nR]
  exact aeQ (hall u hu)
 ·rw [List.length_append,List.length_singleton] at hp
  by_cases e:p=xs.length
  ·subst e
   rw [di]
   refine ⟨u0,u0++[xs.length % 8],old h0,by simp,?_⟩
   rw [nR]
   exact iN.2 fun j _=>rfl
  ·rw [dU (by omega)]
   obtain ⟨a,b,h1,h2,h3⟩:=h.ok p (by omega)
   exact ⟨a,b,old h1,old h2,h3⟩
 ·rw [List.length_append,List.length_singleton,List.length_append,List.length_singleton,met,mo _ (Nat.le_refl _),ug,di,←h.num]
  omega
 ·rw [List.length_append,List.length_singleton] at hp
  rw [mo p (by omega)]
  by_cases e:p=xs.length
  ·subst e;rw [di,←h.num];exact ⟨hi,by omega⟩
  ·rw [dU (by omega)];exact h.Ep p (by omega)
theorem wL (hg:Good ns) (ht:Seg 0 ns) (hl:gW ns (aI ns ns.length) aa) (h:eX ns aa (aB ns aa) us xs):us.length≤796594185:=few hg ht hl us h.wE h.BZ
theorem AU (h:eX ns aa aA us xs) (he:xs.length=8*us.length):iL us.length (aL xs):=by
 refine ⟨fun p hp=>?_,?_⟩
 ·rw [ug];exact h.Ep p (by omega)
 ·rw [←he,←h.num]
open Go.RowKit
theorem aN.num {w w':World} {T b o:Nat} {row:Option Nat} {g:Nat→Bool} (h:aN w b o g) (n:rU w w' T row) (h1:b≠T) (h2:row≠some b):aN w' b o g:=
 ⟨fun j hj=>(n.cell (p:=⟨b,o+j,none⟩) h.lt h1 (fun e=>h2 e.symm)).trans (h.c j hj),fun j hj=>(n.frozen (p:=⟨b,o+j,none⟩) h.lt h1 (fun e=>h2 e.symm)).trans (h.f j hj)⟩
theorem acJ {w w':World} {T B e s n:Nat} {row:Option Nat} {v:Value} {xs:List Value} (h:w.ownsRow B e s v n xs) (f:rU w w' T row) (h1:v.ownBlock≠some T) (h2:v.ownBlock=none∨v.ownBlock≠row):w'.ownsRow B e s v n xs:=by
 refine ⟨h.1,?_⟩
 rcases h.2 with h0 | ⟨g,cap,cur,ev,hb,hg,r⟩
 ·exact Or.inl h0
 ·subst ev
  refine Or.inr ⟨g,cap,cur,rfl,hb,?_,r⟩
  rw [f.block g (bO hg) (fun e=>h1 (by rw [←e];rfl)) (fun e=>by
   rcases h2 with h2 | h2
   ·simp [Value.ownBlock] at h2
   ·exact h2 (by rw [←e];rfl))]
  exact hg
theorem XP {B0:Nat} {a w w':World} {T:Nat} {row:Option Nat} (h:Below B0 a w) (f:rU w w' T row) (hB:B0≤w.heap.size) (h1:B0≤T) (h2:∀ k,row=some k→B0≤k):Below B0 a w':=
 ⟨f.os.trans h.os,f.tape.trans h.tape,f.output.trans h.output,Nat.le_trans h.size f.size,fun k hk=>(f.block k (by omega) (by omega) (fun e=>by have:=h2 k e.symm;omega)).trans (h.block k hk)⟩
theorem QM {w:World} {cs:Array Value} {t n size:Nat} (hs:cs.size=n*size) (hn:n≤maxLen):(w.alloc (.cells cs t)).ownsRow w.heap.size t size (.slice (some ⟨w.heap.size,0,none⟩) n n) n cs.toList:=by
 refine ⟨by simpa using hs,Or.inr ⟨w.heap.size,n,cs,rfl,Nat.le_refl _,heap_alloc_last w _,Nat.le_refl _,hn,hs,?_⟩⟩
 rw [List.take_of_length_le (by simp;omega)]
def yw (ns:List Nd) (aa aA:Nat→Bool) (us:List (List Nat)) (xs:List Nat) (SS:List St):Prop:=∀ i s,SS[i]?=some s→∃ u,us[i]?=some u∧8*i+8≤xs.length∧s=⟨oJ aa (cZ ns aa aA u),(List.range 8).map fun l=>((xs.getD (8*i+l) 0:Nat):Int)⟩
theorem Jo {ns:List Nd} {aa aA:Nat→Bool} {us vs:List (List Nat)} {xs ys:List Nat} {SS:List St} (h:yw ns aa aA us xs SS):yw ns aa aA (us++vs) (xs++ys) SS:=fun i s hi=>by
 obtain ⟨u,h1,h2,h3⟩:=h i s hi
 refine ⟨u,by rw [List.getElem?_append_left (List.getElem?_eq_some_iff.1 h1).1];exact h1,by rw [List.length_append];omega,?_⟩
 rw [h3]
 congr 1
 refine List.map_congr_left fun l hl=>?_
 have:l<8:=by simpa using hl
 simp [List.getD,List.getElem?_append_left (show 8*i+l<xs.length by omega)]
theorem Sl {ns:List Nd} {aa aA:Nat→Bool} {us:List (List Nat)} {xs:List Nat} {SS:List St} (h:yw ns aa aA us xs SS):iM SS:=fun s hs=>by
 obtain ⟨i,hi,e⟩:=List.getElem_of_mem hs
 obtain ⟨u,_,_,h3⟩:=h i s (by rw [List.getElem?_eq_getElem hi,e])
 rw [h3];simp
theorem Tryz.Ir:(Tryz.prog.info? 119).map (fun i=>(i.zero,i.size,i.bytes))=some (some (.agg #[.int .i64 0,.int .i64 0,.int .i64 0,.int .i64 0,.int .i64 0,.int .i64 0,.int .i64 0,.int .i64 0,.int .i64 0]),9,72):=by kernel_rfl
structure mJ (w:World) (b:Nat) (o:Nat) (xs:List Nat):Prop where
 c0:w.cell? ⟨b,0,none⟩=some (.int .i64 (o:Nat))
 c:∀ m,m<8→w.cell? ⟨b,1+m,none⟩=some (.int .i64 (xs.getD m 0:Nat))
 f:∀ m,m<9→w.frozen? ⟨b,m,none⟩=false
theorem mJ.lt {w:World} {b o:Nat} {xs:List Nat} (h:mJ w b o xs):b<w.heap.size:=World.block_lt_of_cell? w ⟨b,0,none⟩ h.c0
theorem mJ.below {w w':World} {b o:Nat} {xs:List Nat} (h:mJ w b o xs) (hb:Below w.heap.size w w'):mJ w' b o xs:=
 ⟨(hb.cell (p:=⟨b,0,none⟩) h.lt).trans h.c0,fun m hm=>(hb.cell (p:=⟨b,1+m,none⟩) h.lt).trans (h.c m hm),fun m hm=>(hb.frozen (p:=⟨b,m,none⟩) h.lt).trans (h.f m hm)⟩
theorem mJ.num {w w':World} {T b o:Nat} {row:Option Nat} {xs:List Nat} (h:mJ w b o xs) (n:rU w w' T row) (h1:b≠T) (h2:row≠some b):mJ w' b o xs:=
 ⟨(n.cell (p:=⟨b,0,none⟩) h.lt h1 (fun e=>h2 e.symm)).trans h.c0,fun m hm=>(n.cell (p:=⟨b,1+m,none⟩) h.lt h1 (fun e=>h2 e.symm)).trans (h.c m hm),fun m hm=>(n.frozen (p:=⟨b,m,none⟩) h.lt h1 (fun e=>h2 e.symm)).trans (h.f m hm)⟩
theorem mJ.set {w:World} {b o:Nat} {xs:List Nat} (h:mJ w b o xs) {j:Nat} (hl:xs.length<8):mJ (w.setCell ⟨b,1+xs.length,none⟩ (.int .i64 (j:Nat))) b o (xs++[j]):=by
 refine ⟨?_,fun m hm=>?_,fun m hm=>by rw [World.frozen?_setCell];exact h.f m hm⟩
 ·rw [World.cell?_setCell_other _ ⟨b,1+xs.length,none⟩ ⟨b,0,none⟩ _ (fun q=>by have:=congrArg Addr.off q;simp at this)];exact h.c0
 ·by_cases e:m=xs.length
  ·subst e
   rw [World.cell?_setCell_same _ _ _ (h.c _ hm),di]
  ·rw [World.cell?_setCell_other _ ⟨b,1+xs.length,none⟩ ⟨b,1+m,none⟩ _ (fun q=>e (by have:=congrArg Addr.off q;simp at this;omega)),h.c m hm]
   by_cases h2:m<xs.length
   ·rw [dU h2]
   ·have:(xs++[j]).getD m 0=0:=by simp [List.getD,List.getElem?_eq_none (show (xs++[j]).length≤m by simp;omega)]
    rw [this]
    simp [List.getD,List.getElem?_eq_none (show xs.length≤m by omega)]
theorem MS (w:World) (o:Nat) (t:TypeId):mJ (w.alloc (.cells #[.int .i64 (o:Nat),.int .i64 0,.int .i64 0,.int .i64 0,.int .i64 0,.int .i64 0,.int .i64 0,.int .i64 0,.int .i64 0] t)) w.heap.size o []:=by
 refine ⟨by simp,fun m hm=>?_,fun m hm=>by simp⟩
 have:m=0∨m=1∨m=2∨m=3∨m=4∨m=5∨m=6∨m=7:=by omega
 rcases this with rfl | rfl | rfl | rfl | rfl | rfl | rfl | rfl <;> simp
theorem sF.set {w:World} {B T:Nat} {v:Value} {gs:List (Nat→Bool)} (h:sF w B T v gs) (p:Addr) (u:Value) (h1:p.block≠T) (h2:v.ownBlock≠some p.block):sF (w.setCell p u) B T v gs:=
 ⟨by rw [World.cell?_setCell_other _ p ⟨T,0,none⟩ _ (fun q=>h1 (congrArg Addr.block q))];exact h.c,by rw [World.frozen?_setCell];exact h.f,
  h.own.kept (row:=some p.block) ⟨rfl,rfl,rfl,by rw [World.size_setCell];exact Nat.le_refl _,fun q hq hne=>Below.heap_setCell _ _ _ _ (fun e=>hne (by rw [e]))⟩ (Or.inr h2),h.ne⟩
theorem Zx {w:World} {B e s n:Nat} {v:Value} {xs:List Value} (h:w.ownsRow B e s v n xs) (p:Addr) (u:Value) (h2:v.ownBlock≠some p.block):(w.setCell p u).ownsRow B e s v n xs:=
 h.kept (row:=some p.block) ⟨rfl,rfl,rfl,by rw [World.size_setCell];exact Nat.le_refl _,fun q hq hne=>Below.heap_setCell _ _ _ _ (fun e=>hne (by rw [e]))⟩ (Or.inr h2)
theorem sF.grown {w w':World} {B T:Nat} {v:Value} {gs:List (Nat→Bool)} {row:Option Nat} (h:sF w B T v gs) (hg:w.grownBy w' row) (h1:row≠some T) (h2:v.ownBlock=none∨v.ownBlock≠row):sF w' B T v gs:=
 ⟨hg.cell h.c (fun e=>h1 e.symm),(World.frozen?_of_block (a:=⟨T,0,none⟩) (hg.block T h.lt (fun e=>h1 e.symm))).trans h.f,h.own.kept hg h2,h.ne⟩
theorem Um {l:List Nat} (h:l.length=8):∃ a0 a1 a2 a3 a4 a5 a6 a7,l=[a0,a1,a2,a3,a4,a5,a6,a7]:=by
 match l,h with
 | [a0,a1,a2,a3,a4,a5,a6,a7],_=>exact ⟨_,_,_,_,_,_,_,_,rfl⟩
theorem XF (w:World) (cs:List Value) (t:TypeId):∀ j u,cs[j]?=some u→(w.alloc (.cells cs.toArray t)).cell? ((⟨w.heap.size,0,none⟩:Addr).add j)=some u:=fun j u hj=>by
 rw [Addr.add_mid,cell_of_row (w.alloc (.cells cs.toArray t)) w.heap.size (0+j) cs.toArray t (0,0) (heap_alloc_last w _)]
 simpa using hj
def Am (ns:List Nd) (aa aA:Nat→Bool) (w:World) (e:Ending) (w':World):Prop:=
 ∃ us xs SS v,e=.returned v∧eX ns aa aA us xs∧xs.length=8*us.length∧SS.length=us.length∧yw ns aa aA us xs SS∧w'.ownsRow w.heap.size 119 9 v us.length (dY SS)∧Below w.heap.size w w'
theorem Fe (P:Nat) (ns:List Nd) (aa aA:Nat→Bool) (w:World) (h8:ns.length≤8) (hfew:∀ us xs,eX ns aa aA us xs→us.length≤796594185) (ho:rR w P ns aa aA) :
  Calls Tryz.prog 32 #[.pointer (some ⟨P,0,none⟩)] w (Am ns aa aA w):=by
 have hP:=ho.lt
 have HO:=hid ho
 have oF:=hid hfew
 obtain ⟨i0,hi,hz0,hz1,hz2⟩:=info_parts Tryz.Ir
 clear ho hfew
 unfold Am
 go_enter Tryz.func32,Tryz.ntmps32
 go_wp2_with fail
 refine (Kv P aA _ HO.out.aA).mono ?_
 rintro e w1 ⟨rfl,hb1⟩
 have hs1:=hb1.size
 go_wp2_with (refine aW rfl (.tmp 3) (.tmp 12) rfl w1.heap.size 0 aA rfl rfl (fw w1).there ?_)
 intro w2 S2
 have G3:=hid S2.at_
 have HB2:Hid (Below w.heap.size w w2):=hid (S2.aO _ _ hs1 (hb1.alloc hs1 _))
 have hs2:w.heap.size<w2.heap.size:=by rw [S2.size,size_alloc];omega
 clear S2 hb1
 have EX0:Hid (sF ((w2.alloc (.cells (gv aA).toArray 61)).alloc (.cells #[.slice (some ⟨w2.heap.size,0,none⟩) 1 1] 115)) w2.heap.size (w2.heap.size+1) (.slice (some ⟨w2.heap.size,0,none⟩) 1 1) ([[]].map (cZ ns aa aA))):=hid ⟨by simp,by simp,by
   have:=(QM (w:=w2) (cs:=(gv aA).toArray) (t:=61) (n:=1) (size:=256) (by simp [jN]) (by unfold maxLen;omega)).alloc (.cells #[.slice (some ⟨w2.heap.size,0,none⟩) 1 1] 115)
   simpa [mE,cZ] using this,by simp [Value.ownBlock]⟩
 have dm:=hid ((HB2.out.alloc (by omega) (.cells (gv aA).toArray 61)).alloc (by simp;omega) (.cells #[.slice (some ⟨w2.heap.size,0,none⟩) 1 1] 115))
 go_wp2_with (first | (refine aC rfl (.tmp 3) rfl w1.heap.size 0 aA rfl G3.out ?_) | (refine vQ rfl (.tmp 13) rfl aA rfl ?_))
 generalize hBE:w2.heap.size=B at *
 go_loopw [5,6] (fun vs i wq=>∃ (k:Nat) (us:List (List Nat)) (xs:List Nat) (v:Value) (SS:List St),i=.int .i64 k∧k≤us.length∧xs.length=8*k∧SS.length=k∧Hid (eX ns aa aA us xs)∧Hid (yw ns aa aA us xs SS)∧Hid (sF wq B (B+1) v (us.map (cZ ns aa aA)))∧Hid (wq.ownsRow w.heap.size 119 9 vs k (dY SS))∧Hid (vs.ownBlock≠some (B+1))∧Hid (Below w.heap.size w wq)∧B+1<wq.heap.size) (fun _ i _=>796594190 - (intOf i).toNat)
 case atStart=>exact ⟨0,[[]],[],_,[],rfl,by simp,rfl,rfl,hid Gi,hid (fun i s h=>by simp at h),EX0,hid (World.ownsRow_nil _ _ _ _),hid (by simp [Value.ownBlock]),dm,by simp;omega⟩
 case round=>
  obtain ⟨k,us,xs,v,SS,rfl,hk,hxl,lm,HE,HS,HX,gN,HNV,HB,hsz⟩:=hrel
  rename World=>W0
  have hfw:=oF.out us xs HE.out
  have cT:=HX.out.c
  obtain ⟨ao,cp,rfl⟩:=ag HX.out.own
  rw [List.length_map] at *
  by_cases hlk:k<us.length
  ·obtain ⟨u0,hu0⟩:∃ u0,us[k]?=some u0:=⟨us[k],List.getElem?_eq_getElem hlk⟩
   obtain ⟨ao2,cap2,e2,hgc⟩:=Ce HX.out.own
   simp only [Value.slice.injEq,List.length_map] at e2
   obtain ⟨rfl,_,rfl⟩:=e2
   obtain ⟨gc,e3,hgcl,hgrp⟩:=hgc (by rw [List.length_map];omega)
   subst e3
   have GK:=hid (hgrp k (cZ ns aa aA u0) (by rw [List.getElem?_map,hu0];rfl))
   have rW:=hid hu0
   clear hgrp hgc hu0
   have yV:=hid (fun q (h:(Value.slice (some ⟨gc,0,none⟩) us.length cp).ownBlock=some q)=>(HX.out.own.lt q h).2)
   have HSB:=hid (fun q h=>(gN.out.lt q h).2)
   go_wp2_with (first | (refine aC rfl (.tmp 26) rfl gc (k*256) _ rfl GK.out ?_) | (refine aW rfl (.tmp 7) (.tmp 27) rfl W0.heap.size 0 (cZ ns aa aA u0) rfl rfl (fw W0).there ?_))
   intro w2' S2
   have aZ:Below W0.heap.size W0 w2':=S2.aO _ _ (Nat.le_refl _) ((Below.refl _ _).alloc (Nat.le_refl _) _)
   have A7:=hid S2.at_
   have Cs:=hid (HX.out.below aZ)
   have afH:=hid (ae gN.out aZ)
   have aa2:=hid (HB.out.trans (aZ.mono (by omega)))
   have hsz2:w2'.heap.size=W0.heap.size+1:=by rw [S2.size,size_alloc]
   clear S2 aZ GK HX gN HB
   go_wp2_with (refine aC rfl (.tmp 7) rfl W0.heap.size 0 _ rfl A7.out ?_)
   refine (Dh P ns aa aA _ w2' (HO.out.below aa2.out hP)).mono ?_
   rintro e w3 ⟨rfl,hb3⟩
   have A7:=hid (A7.out.below hb3 (by omega))
   have Pg:=hid (Cs.out.below hb3)
   have afG:=hid (ae afH.out hb3)
   have HB3:=hid (aa2.out.trans (hb3.mono (by omega)))
   have hs3:=hb3.size
   clear hb3 Cs afH aa2
   generalize hout:oJ aa (cZ ns aa aA u0)=out at *
   have ajv:=hid hout
   clear hout
   have ba:=(Below.refl w3.heap.size w3).alloc (Nat.le_refl _) (.cells #[.int .i64 (out:Nat),.int .i64 0,.int .i64 0,.int .i64 0,.int .i64 0,.int .i64 0,.int .i64 0,.int .i64 0,.int .i64 0] 119)
   have N4:=hid (MS w3 out 119)
   have A74:=hid (A7.out.below ba (by omega))
   have Pf:=hid (Pg.out.below ba)
   have ajw:=hid (ae afG.out ba)
   have PL:=hid (HB3.out.trans (ba.mono (by omega)))
   clear ba A7 Pg afG HB3
   go_wp2_with fail
   go_loopw [9] (fun i wq=>∃ (l:Nat) (us:List (List Nat)) (xs:List Nat) (v:Value),i=.int .i64 l∧l≤8∧xs.length=8*k+l∧Hid (us[k]?=some u0)∧Hid (eX ns aa aA us xs)∧Hid (yw ns aa aA us xs SS)∧Hid (sF wq B (B+1) v (us.map (cZ ns aa aA)))∧Hid (v.ownBlock≠some W0.heap.size)∧Hid (v.ownBlock≠some w3.heap.size)∧Hid (aN wq W0.heap.size 0 (cZ ns aa aA u0))∧Hid (mJ wq w3.heap.size out (xs.drop (8*k)))∧Hid (wq.ownsRow w.heap.size 119 9 u5 k (dY SS))∧Hid (Below w.heap.size w wq)∧w3.heap.size<wq.heap.size) (fun i _=>8 - (intOf i).toNat)
   case atStart=>exact ⟨0,us,xs,_,rfl,by omega,by omega,rW,HE,HS,Pf,hid (fun e=>by have:=yV.out _ e;omega),hid (fun e=>by have:=yV.out _ e;omega),A74,by rw [List.drop_of_length_le (by omega)];exact N4,ajw,PL,by simp⟩
   case round=>
    obtain ⟨l,us,xs,v,rfl,hl8,hxl,rW,HE,HS,HX,HV7,HV8,H7,HN,gN,HB,iP⟩:=hrel
    rename World=>W3
    by_cases hll:l<8
    ·have ST:=fun W (h:rR W P ns aa aA)=>Me P l ns aa aA (cZ ns aa aA u0) W hll h8 h
     go_wp2_with (refine aC rfl (.tmp 7) rfl W0.heap.size 0 _ rfl H7.out ?_)
     refine (ST _ (HO.out.below HB.out hP)).mono ?_
     rintro e w5 ⟨rfl,hb5⟩
     have hs5:=hb5.size
     clear ST
     go_wp2_with (refine aW rfl (.tmp 10) (.tmp 39) rfl w5.heap.size 0 (stepG ns aa (cZ ns aa aA u0) l) rfl rfl (fw w5).there ?_)
     intro w6 S6
     have Ri:Below W3.heap.size W3 w6:=S6.aO _ _ hs5 (hb5.alloc hs5 _)
     have A10:=hid S6.at_
     have hs6:w6.heap.size=w5.heap.size+1:=by rw [S6.size,size_alloc]
     have Cr:=hid (HX.out.below Ri)
     have H76:=hid (H7.out.below Ri (by omega))
     have HN6:=hid (HN.out.below Ri)
     have aaW:=hid (ae gN.out Ri)
     have iQ:=hid (HB.out.trans (Ri.mono (by omega)))
     have aiS:=hid (fun q (h:v.ownBlock=some q)=>(HX.out.own.lt q h))
     clear S6 Ri hb5 HX H7 HN gN HB
     have hfw:=oF.out us xs HE.out
     go_wp2_with (refine aC rfl (.tmp 10) rfl w5.heap.size 0 _ rfl A10.out ?_)
     refine (Tz B (B+1) v (us.map (cZ ns aa aA)) (stepG ns aa (cZ ns aa aA u0) l) w6 Cr.out (by omega) (by rw [List.length_map];omega)).mono ?_
     rintro e w7 ⟨j,v7,gs7,rfl,hEX,hNF,hcase⟩
     have hpk:xs.length / 8=k∧xs.length % 8=l:=by omega
     obtain ⟨us7,rfl,hE7,hU7,hS7,hv7⟩:∃ us7,gs7=us7.map (cZ ns aa aA)∧eX ns aa aA us7 (xs++[j])∧us7[k]?=some u0∧yw ns aa aA us7 (xs++[j]) SS∧(v7.ownBlock=v.ownBlock∨∃ q,v7.ownBlock=some q∧w6.heap.size≤q):=by
      rcases hcase with ⟨rfl,rfl,g0,h1,h2⟩ | ⟨rfl,rfl,h1,h2⟩
      ·rw [List.getElem?_map,Option.map_eq_some_iff] at h1
       obtain ⟨u1,h3,rfl⟩:=h1
       have h4:=Jo (vs:=[]) (ys:=[j]) HS.out
       rw [List.append_nil] at h4
       exact ⟨us,rfl,Ob HE.out (by rw [hpk.1];exact rW.out) h3 (by rw [hpk.2];exact h2),rW.out,h4,Or.inl rfl⟩
      ·refine ⟨us++[u0++[l]],by rw [List.map_append,List.map_singleton,nR],?_,?_,Jo HS.out,h1⟩
       ·have:=Oc HE.out (u0:=u0) (by rw [hpk.1];exact rW.out) (fun u hu=>by rw [hpk.2];exact h2 _ (List.mem_map.2 ⟨u,hu,rfl⟩))
        rw [hpk.2] at this
        rw [List.length_map]
        exact this
       ·rw [List.getElem?_append_left (List.getElem?_eq_some_iff.1 rW.out).1];exact rW.out
     have hrow:∀ q,v.ownBlock=some q→B≤q:=fun q h=>(aiS.out q h).1
     have H77:=hid (H76.out.num hNF (by omega) HV7.out)
     have HN7:=hid (HN6.out.num hNF (by omega) HV8.out)
     have aeB:u5.ownBlock≠some w3.heap.size:=fun e=>by have:=HSB.out _ e;omega
     have afF:=hid (acJ aaW.out hNF HNV.out (aD aaW.out Cr.out.own (by decide)))
     have fI:=hid (XP iQ.out hNF (by omega) (by omega) (fun q h=>by have:=hrow q h;omega))
     have hs7:=hNF.size
     have aex:v7.ownBlock≠some W0.heap.size:=by
      rcases hv7 with h | ⟨q,h,hq⟩
      ·rw [h];exact HV7.out
      ·rw [h];intro e;cases e;omega
     have Z0:v7.ownBlock≠some w3.heap.size:=by
      rcases hv7 with h | ⟨q,h,hq⟩
      ·rw [h];exact HV8.out
      ·rw [h];intro e;cases e;omega
     have hdl:(xs.drop (8*k)).length=l:=by rw [List.length_drop];omega
     have n1:=HN7.out.c l hll
     have n2:=HN7.out.f (1+l) (by omega)
     have D8:=hid (HN7.out.set (j:=j) (by rw [hdl];exact hll))
     rw [hdl,show xs.drop (8*k)++[j]=(xs++[j]).drop (8*k) by rw [List.drop_append_of_le_length (by omega)]] at D8
     have D7:=hid (H77.out.other ⟨w3.heap.size,1+l,none⟩ (.int .i64 (j:Nat)) (Or.inl (by show w3.heap.size≠W0.heap.size;omega)))
     have DX:=hid (hEX.set ⟨w3.heap.size,1+l,none⟩ (.int .i64 (j:Nat)) (by show w3.heap.size≠B+1;omega) Z0)
     have DOS:=hid (Zx afF.out ⟨w3.heap.size,1+l,none⟩ (.int .i64 (j:Nat)) aeB)
     have DB:=hid (fI.out.setCell (p:=⟨w3.heap.size,1+l,none⟩) (by show w.heap.size≤w3.heap.size;omega) (.int .i64 (j:Nat)))
     have ajm:=hid aex
     have ajl:=hid Z0
     have HE7:=hid hE7
     have HU7:=hid hU7
     have Ye:=hid hS7
     clear hcase hEX hNF hv7 aex Z0 hE7 hU7 hS7 hrow aeB H76 HN6 aaW iQ Cr H77 HN7 afF fI HE rW HS HV7 HV8 A10
     generalize (xs.drop (8*k)).getD l 0=ov at *
     go_wp2_with fail
     go_roundw
     case rel=>exact ⟨l+1,us7,xs++[j],v7,by go_num,by omega,by rw [List.length_append,List.length_singleton];omega,HU7,HE7,Ye,DX,ajm,ajl,D7,D8,DOS,DB,by simp;omega⟩
     case measure=>simp [intOf];omega
    ·obtain rfl:l=8:=by omega
     obtain ⟨y0,y1,y2,y3,y4,y5,y6,y7,hys⟩:=Um (show (xs.drop (8*k)).length=8 by rw [List.length_drop];omega)
     have hgd:∀ l,xs.getD (8*k+l) 0=(xs.drop (8*k)).getD l 0:=fun l=>by simp [List.getD,List.getElem?_drop]
     have KO:Hid (yw ns aa aA us xs (SS++[⟨(out:Nat),[(y0:Int),y1,y2,y3,y4,y5,y6,y7]⟩])):=hid (fun i s hi=>by
      by_cases e:i<SS.length
      ·rw [List.getElem?_append_left e] at hi
       exact HS.out i s hi
      ·rw [List.getElem?_append_right (by omega)] at hi
       have e2:i=k:=by
        have:=(List.getElem?_eq_some_iff.1 hi).1
        simp at this;omega
       subst e2
       rw [lm,Nat.sub_self] at hi
       simp at hi
       refine ⟨u0,rW.out,by omega,?_⟩
       rw [←hi,ajv.out]
       congr 1
       rw [show (fun l=>((xs.getD (8*i+l) 0:Nat):Int))=fun l=>(([y0,y1,y2,y3,y4,y5,y6,y7].getD l 0:Nat):Int) by funext l;rw [hgd,hys]]
       rfl)
     have HN:=HN.out
     rw [hys] at HN
     have q0:=HN.c0
     have q1:W3.cell? ⟨w3.heap.size,1,none⟩=some (.int .i64 (y0:Nat)):=HN.c 0 (by omega)
     have q2:W3.cell? ⟨w3.heap.size,2,none⟩=some (.int .i64 (y1:Nat)):=HN.c 1 (by omega)
     have q3:W3.cell? ⟨w3.heap.size,3,none⟩=some (.int .i64 (y2:Nat)):=HN.c 2 (by omega)
     have q4:W3.cell? ⟨w3.heap.size,4,none⟩=some (.int .i64 (y3:Nat)):=HN.c 3 (by omega)
     have q5:W3.cell? ⟨w3.heap.size,5,none⟩=some (.int .i64 (y4:Nat)):=HN.c 4 (by omega)
     have q6:W3.cell? ⟨w3.heap.size,6,none⟩=some (.int .i64 (y5:Nat)):=HN.c 5 (by omega)
     have q7:W3.cell? ⟨w3.heap.size,7,none⟩=some (.int .i64 (y6:Nat)):=HN.c 6 (by omega)
     have q8:W3.cell? ⟨w3.heap.size,8,none⟩=some (.int .i64 (y7:Nat)):=HN.c 7 (by omega)
     have hfw:=oF.out us xs HE.out
     have Np:=(List.getElem?_eq_some_iff.1 rW.out).1
     clear HN hgd hys
     go_wp2_with (at_builtin;go_must (refine wpList_append_lies _ rfl (.tmp 45) (.tmp 47) 65 rfl w.heap.size 119 i0 (.agg #[.int .i64 0,.int .i64 0,.int .i64 0,.int .i64 0,.int .i64 0,.int .i64 0,.int .i64 0,.int .i64 0,.int .i64 0]) 9 72 Tryz.underlying65 hi hz0 hz1 hz2 rfl (by decide) _ k (dY SS) rfl (gN.out.alloc _) ⟨W3.heap.size,0,none⟩ 1 1 [.int .i64 (out:Nat),.int .i64 (y0:Nat),.int .i64 (y1:Nat),.int .i64 (y2:Nat),.int .i64 (y3:Nat),.int .i64 (y4:Nat),.int .i64 (y5:Nat),.int .i64 (y6:Nat),.int .i64 (y7:Nat)] rfl rfl (XF W3 _ _) (by intro y hy;simp at hy;rcases hy with rfl | rfl | rfl | rfl | rfl | rfl | rfl | rfl | rfl <;> rfl) (by decide) (by unfold maxLen;omega) (by omega) (by simp;omega) (W3.heap.size+1) (by simp) ?_))
     intro gg cc w9 hown hgrow hat hlt9
     have AX:=hid ((HX.out.below ((Below.refl W3.heap.size W3).alloc (Nat.le_refl _) (.cells #[.int .i64 (out:Nat),.int .i64 (y0:Nat),.int .i64 (y1:Nat),.int .i64 (y2:Nat),.int .i64 (y3:Nat),.int .i64 (y4:Nat),.int .i64 (y5:Nat),.int .i64 (y6:Nat),.int .i64 (y7:Nat)] 119))).grown hgrow HNV.out (aD HX.out.own gN.out (by decide)))
     have KY:=hid ((HB.out.alloc (by omega) (.cells #[.int .i64 (out:Nat),.int .i64 (y0:Nat),.int .i64 (y1:Nat),.int .i64 (y2:Nat),.int .i64 (y3:Nat),.int .i64 (y4:Nat),.int .i64 (y5:Nat),.int .i64 (y6:Nat),.int .i64 (y7:Nat)] 119)).grown hgrow (by simp;omega) (fun q h=>(gN.out.lt q h).1))
     have HO9:Hid (w9.ownsRow w.heap.size 119 9 (.slice (some ⟨gg,0,none⟩) (k+1) cc) (k+1) (dY (SS++[⟨(out:Nat),[(y0:Int),y1,y2,y3,y4,y5,y6,y7]⟩]))):=hid (by
      rw [rE]
      exact hown)
     have ajz:Hid ((Value.slice (some ⟨gg,0,none⟩) (k+1) cc).ownBlock≠some (B+1)):=hid (by
      rcases hat with h | h
      ·have h2:=HNV.out
       rw [h] at h2
       exact h2
      ·subst h
       simp [Value.ownBlock];omega)
     have hs9:W3.heap.size<w9.heap.size:=by
      have h4:=hgrow.size
      simp at h4
      omega
     clear hown hgrow hat q0 q1 q2 q3 q4 q5 q6 q7 q8
     go_wp2_with fail
     go_roundw
     case rel=>exact ⟨k+1,us,xs,v,_,by go_num,by omega,by omega,by simp [lm],HE,KO,AX,HO9,ajz,KY,by omega⟩
     case measure=>simp [intOf];omega
  ·obtain rfl:k=us.length:=by omega
   go_wp2_with fail
   go_ret
   exact ⟨us,xs,SS,_,rfl,HE.out,hxl,lm,HS.out,gN.out,HB.out⟩
structure OZ (w:World) (g n:Nat) (out:Nat→Nat) (nx:Nat→Nat→Nat):Prop where
 lt:g<w.heap.size
 c0:∀ i,i<n→w.cell? ⟨g,i*9,none⟩=some (.int .i64 (out i:Nat))
 c:∀ i m,i<n→m<8→w.cell? ⟨g,i*9+1+m,none⟩=some (.int .i64 (nx i m:Nat))
theorem OZ.below {B:Nat} {w w':World} {g n:Nat} {out:Nat→Nat} {nx:Nat→Nat→Nat} (h:OZ w g n out nx) (hb:Below B w w') (hB:g<B):OZ w' g n out nx:=
 ⟨Nat.lt_of_lt_of_le h.lt hb.size,fun i hi=>(hb.cell (p:=⟨g,i*9,none⟩) hB).trans (h.c0 i hi),fun i m hi hm=>(hb.cell (p:=⟨g,i*9+1+m,none⟩) hB).trans (h.c i m hi hm)⟩
theorem UZ (g n cap vd:Nat) (out:Nat→Nat) (nx:Nat→Nat→Nat) (w:World) (hn:n≤8589934592) (h:OZ w g n out nx) :
  Calls Tryz.prog 141 #[.slice (some ⟨g,0,none⟩) n cap,.int .i64 (vd:Nat)] w fun e w'=>∃ b:Bool,e=.returned (.bool b)∧(b=true↔∃ i,i<n∧out i=vd)∧Below w.heap.size w w':=by
 have HR:=hid h
 have hg:=h.lt
 clear h
 go_enter Tryz.func141,Tryz.ntmps141
 go_wp2_with fail
 go_loopw [9] (fun i wq=>∃ k:Nat,k≤n∧i=.int .i64 k∧Hid (∀ i,i<k→out i≠vd)∧Hid (Below w.heap.size w wq)) (fun i _=>n - (intOf i).toNat)
 case atStart=>exact ⟨0,Nat.zero_le _,rfl,hid (fun i hi=>by omega),hid (Below.refl _ _)⟩
 case round=>
  obtain ⟨k,hk,rfl,HA,HB⟩:=hrel
  rename World=>W0
  by_cases hlk:k<n
  ·have r:=HR.out.below HB.out hg
   have q0:=r.c0 k hlk
   have q1:W0.cell? ⟨g,k*9+1,none⟩=some (.int .i64 (nx k 0:Nat)):=r.c k 0 hlk (by omega)
   have q2:W0.cell? ⟨g,k*9+2,none⟩=some (.int .i64 (nx k 1:Nat)):=r.c k 1 hlk (by omega)
   have q3:W0.cell? ⟨g,k*9+3,none⟩=some (.int .i64 (nx k 2:Nat)):=r.c k 2 hlk (by omega)
   have q4:W0.cell? ⟨g,k*9+4,none⟩=some (.int .i64 (nx k 3:Nat)):=r.c k 3 hlk (by omega)
   have q5:W0.cell? ⟨g,k*9+5,none⟩=some (.int .i64 (nx k 4:Nat)):=r.c k 4 hlk (by omega)
   have q6:W0.cell? ⟨g,k*9+6,none⟩=some (.int .i64 (nx k 5:Nat)):=r.c k 5 hlk (by omega)
   have q7:W0.cell? ⟨g,k*9+7,none⟩=some (.int .i64 (nx k 6:Nat)):=r.c k 6 hlk (by omega)
   have q8:W0.cell? ⟨g,k*9+8,none⟩=some (.int .i64 (nx k 7:Nat)):=r.c k 7 hlk (by omega)
   have hs:=HB.out.size
   clear r
   by_cases he:out k=vd
   ·have ke:((out k:Int)==(vd:Int))=true:=by rw [beq_iff_eq];omega
    have HE:=hid he
    clear he
    go_wp2_with fail
    go_ret
    exact ⟨true,rfl,⟨fun _=>⟨k,hlk,HE.out⟩,fun _=>rfl⟩,HB.out.alloc hs _⟩
   ·have ke:((out k:Int)==(vd:Int))=false:=beq_eq_false_iff_ne.2 (by omega)
    have HE:=hid he
    clear he
    go_wp2_with fail
    go_roundw
    case rel=>
     refine ⟨k+1,by omega,by go_num,hid (fun i hi=>?_),hid (HB.out.alloc hs _)⟩
     by_cases e:i=k
     ·subst e;exact HE.out
     ·exact HA.out i (by omega)
    case measure=>simp [intOf];omega
  ·obtain rfl:k=n:=by omega
   go_wp2_with fail
   go_ret
   exact ⟨false,rfl,⟨fun h=>(by cases h),fun ⟨i,hi,h⟩=>absurd h (HA.out i hi)⟩,HB.out⟩
structure yO (out:Nat→Nat) (nx:Nat→Nat→Nat) (vd i l:Nat) (tl:Nat→List (Nat × Nat)):Prop where
 mem:∀ t st,st∈tl t↔(8*st.1+st.2<8*i+l∧st.2<8)∧nx st.1 st.2=t∧out t≠vd
 len:∀ t,(tl t).length≤8*i+l
theorem YD (out:Nat→Nat) (nx:Nat→Nat→Nat) (vd:Nat):yO out nx vd 0 0 (fun _=>[]):=⟨fun t st=>by simp,fun t=>by simp⟩
theorem abV {out:Nat→Nat} {nx:Nat→Nat→Nat} {vd i:Nat} {tl:Nat→List (Nat × Nat)} (h:yO out nx vd i 8 tl):yO out nx vd (i+1) 0 tl:=
 ⟨fun t st=>by rw [h.mem];constructor <;> rintro ⟨⟨a,b⟩,c⟩ <;> exact ⟨⟨by omega,b⟩,c⟩,fun t=>by have:=h.len t;omega⟩
theorem abU {out:Nat→Nat} {nx:Nat→Nat→Nat} {vd i l:Nat} {tl:Nat→List (Nat × Nat)} (h:yO out nx vd i l tl) (hl:l<8) (hs:out (nx i l)=vd):yO out nx vd i (l+1) tl:=by
 refine ⟨fun t st=>?_,fun t=>by have:=h.len t;omega⟩
 rw [h.mem]
 constructor
 ·rintro ⟨⟨a,b⟩,c⟩;exact ⟨⟨by omega,b⟩,c⟩
 ·rintro ⟨⟨a,b⟩,c,d⟩
  refine ⟨⟨?_,b⟩,c,d⟩
  by_cases e:8*st.1+st.2=8*i+l
  ·have e1:st.1=i:=by omega
   have e2:st.2=l:=by omega
   rw [e1,e2] at c
   rw [←c] at d
   exact absurd hs d
  ·omega
theorem adG {out:Nat→Nat} {nx:Nat→Nat→Nat} {vd i l:Nat} {tl:Nat→List (Nat × Nat)} (h:yO out nx vd i l tl) (hl:l<8) (hs:out (nx i l)≠vd):yO out nx vd i (l+1) (uy tl (nx i l) (tl (nx i l)++[(i,l)])):=by
 refine ⟨fun t st=>?_,fun t=>?_⟩
 ·unfold uy
  by_cases e:t=nx i l
  ·rw [if_pos e,List.mem_append,h.mem]
   constructor
   ·rintro (⟨⟨a,b⟩,c,d⟩ | h2)
    ·exact ⟨⟨by omega,b⟩,by rw [e];exact c,by rw [e];exact d⟩
    ·simp at h2
     subst h2
     exact ⟨⟨by simp only;omega,hl⟩,e.symm,by rw [e];exact hs⟩
   ·rintro ⟨⟨a,b⟩,c,d⟩
    by_cases e2:8*st.1+st.2=8*i+l
    ·right
     have e3:st=(i,l):=Prod.ext (by simp only;omega) (by simp only;omega)
     simp [e3]
    ·left
     exact ⟨⟨by omega,b⟩,by rw [←e];exact c,by rw [←e];exact d⟩
  ·rw [if_neg e,h.mem]
   constructor
   ·rintro ⟨⟨a,b⟩,c⟩;exact ⟨⟨by omega,b⟩,c⟩
   ·rintro ⟨⟨a,b⟩,c,d⟩
    refine ⟨⟨?_,b⟩,c,d⟩
    by_cases e2:8*st.1+st.2=8*i+l
    ·have e3:st.1=i:=by omega
     have e4:st.2=l:=by omega
     rw [e3,e4] at c
     exact absurd c.symm e
    ·omega
 ·unfold uy
  have:=h.len t
  by_cases e:t=nx i l
  ·rw [if_pos e,List.length_append,List.length_singleton,←e];omega
  ·rw [if_neg e];omega
end Go.Proofs.YtjagijohfkffiabGreat
