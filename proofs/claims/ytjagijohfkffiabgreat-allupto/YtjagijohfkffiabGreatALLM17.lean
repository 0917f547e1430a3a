import Derived.Test.YtjagijohfkffiabGreatALLM13
import Derived.Test.YtjagijohfkffiabGreatALLM15
import Derived.Test.YtjagijohfkffiabGreatALLM16
set_option maxHeartbeats 16000000
set_option maxRecDepth 100000
namespace Go.Proofs.YtjagijohfkffiabGreat
open Go.RowKit
set_option linter.unusedVariables false
theorem Tryz.kG:(Tryz.prog.info? 3).map (fun i=>(i.zero,i.size,i.bytes))=some (some (.int .i64 0),1,8):=by kernel_rfl
theorem Tryz.sQ:(Tryz.prog.info? 22).map (fun i=>(i.zero,i.size,i.bytes))=some (some (.slice none 0 0),1,24):=by kernel_rfl
theorem Tryz.xB:(Tryz.prog.info? 132).map (fun i=>(i.zero,i.size,i.bytes))=some (some (.slice none 0 0),1,24):=by kernel_rfl
def au (l:List Nat):List Value:=l.map fun x=>Value.int .i64 (x:Nat)
def NR (w:World) (v:Value) (l:List Nat):Prop:=
 ∃ ao cap,v=.slice ao l.length cap∧l.length≤cap∧(0<l.length→∃ g,ao=some ⟨g,0,none⟩∧g<w.heap.size∧∀ i,i<l.length→w.cell? ⟨g,i,none⟩=some (.int .i64 (bG l i:Nat)))
theorem NR.below {w w':World} {v:Value} {l:List Nat} (h:NR w v l) (hb:Below w.heap.size w w'):NR w' v l:=by
 obtain ⟨ao,cap,e,hc,h⟩:=h
 refine ⟨ao,cap,e,hc,fun h0=>?_⟩
 obtain ⟨g,e2,hg,hcell⟩:=h h0
 exact ⟨g,e2,Nat.lt_of_lt_of_le hg hb.size,fun i hi=>(hb.cell (p:=⟨g,i,none⟩) hg).trans (hcell i hi)⟩
theorem yI {w:World} {B:Nat} {v:Value} {l:List Nat} (h:w.ownsRow B 3 1 v l.length (au l)):NR w v l:=by
 rcases h.2 with ⟨rfl,h0⟩ | ⟨g,cap,cur,rfl,hb,hh,hc,hm,_⟩
 ·exact ⟨none,0,by rw [h0],by omega,fun h=>by omega⟩
 ·refine ⟨_,cap,rfl,hc,fun _=>⟨g,rfl,bO hh,fun i hi=>?_⟩⟩
  rw [h.cellAt i (by omega)]
  simp [au,bG,List.getD,List.getElem?_eq_getElem hi]
def GQ (w:World) (v:Value) (N:Nat) (to:Nat→List Nat):Prop:=
 ∃ ao cap,v=.slice ao N cap∧N≤cap∧(0<N→∃ g,ao=some ⟨g,0,none⟩∧g<w.heap.size∧∀ i,i<N→∃ r,w.cell? ⟨g,i,none⟩=some r∧NR w r (to i))
def KZ (w:World) (v:Value) (K N:Nat) (kp:Nat→Nat→Bool):Prop:=
 ∃ ao cap,v=.slice ao K cap∧K≤cap∧(0<K→∃ g,ao=some ⟨g,0,none⟩∧g<w.heap.size∧∀ i,i<K→∃ b,w.cell? ⟨g,i,none⟩=some (.slice (some ⟨b,0,none⟩) N N)∧Rb w b N (kp i))
def RQ (w:World) (v:Value) (K N:Nat) (kp:Nat→Nat→Bool):Prop:=
 ∃ ao cap,v=.slice ao K cap∧K≤cap∧(0<K→∃ g,ao=some ⟨g,0,none⟩∧g<w.heap.size∧∀ i,i<K→∃ b c,w.cell? ⟨g,i,none⟩=some (.slice (some ⟨b,0,none⟩) N c)∧N≤c∧Rb w b N (kp i))
theorem KZ.brc {w:World} {v:Value} {K N:Nat} {kp:Nat→Nat→Bool} (h:KZ w v K N kp):RQ w v K N kp:=by
 obtain ⟨ao,cap,e,hc,h⟩:=h
 refine ⟨ao,cap,e,hc,fun h0=>?_⟩
 obtain ⟨g,e2,hg,hcell⟩:=h h0
 refine ⟨g,e2,hg,fun i hi=>?_⟩
 obtain ⟨b,h1,h2⟩:=hcell i hi
 exact ⟨b,N,h1,Nat.le_refl _,h2⟩
theorem RQ.below {w w':World} {v:Value} {K N:Nat} {kp:Nat→Nat→Bool} (h:RQ w v K N kp) (hb:Below w.heap.size w w'):RQ w' v K N kp:=by
 obtain ⟨ao,cap,e,hc,h⟩:=h
 refine ⟨ao,cap,e,hc,fun h0=>?_⟩
 obtain ⟨g,e2,hg,hcell⟩:=h h0
 refine ⟨g,e2,Nat.lt_of_lt_of_le hg hb.size,fun i hi=>?_⟩
 obtain ⟨b,c,hr,hk,hn⟩:=hcell i hi
 exact ⟨b,c,(hb.cell (p:=⟨g,i,none⟩) hg).trans hr,hk,hn.below hb⟩
theorem GQ.below {w w':World} {v:Value} {N:Nat} {to:Nat→List Nat} (h:GQ w v N to) (hb:Below w.heap.size w w'):GQ w' v N to:=by
 obtain ⟨ao,cap,e,hc,h⟩:=h
 refine ⟨ao,cap,e,hc,fun h0=>?_⟩
 obtain ⟨g,e2,hg,hcell⟩:=h h0
 refine ⟨g,e2,Nat.lt_of_lt_of_le hg hb.size,fun i hi=>?_⟩
 obtain ⟨r,hr,hn⟩:=hcell i hi
 exact ⟨r,(hb.cell (p:=⟨g,i,none⟩) hg).trans hr,hn.below hb⟩
theorem KZ.below {w w':World} {v:Value} {K N:Nat} {kp:Nat→Nat→Bool} (h:KZ w v K N kp) (hb:Below w.heap.size w w'):KZ w' v K N kp:=by
 obtain ⟨ao,cap,e,hc,h⟩:=h
 refine ⟨ao,cap,e,hc,fun h0=>?_⟩
 obtain ⟨g,e2,hg,hcell⟩:=h h0
 refine ⟨g,e2,Nat.lt_of_lt_of_le hg hb.size,fun i hi=>?_⟩
 obtain ⟨b,hr,hn⟩:=hcell i hi
 exact ⟨b,(hb.cell (p:=⟨g,i,none⟩) hg).trans hr,hn.below hb⟩
structure mK (w:World) (P N:Nat) (to:Nat→List Nat) (K:Nat) (kp:Nat→Nat→Bool):Prop where
 lt:P<w.heap.size
 c0:∃ v,w.cell? ⟨P,0,none⟩=some v∧GQ w v N to
 c1:∃ v,w.cell? ⟨P,1,none⟩=some v∧RQ w v K N kp
theorem mK.below {w w':World} {P N K:Nat} {to:Nat→List Nat} {kp:Nat→Nat→Bool} (h:mK w P N to K kp) (hb:Below w.heap.size w w'):mK w' P N to K kp:=by
 obtain ⟨v0,a0,b0⟩:=h.c0
 obtain ⟨v1,a1,b1⟩:=h.c1
 exact ⟨Nat.lt_of_lt_of_le h.lt hb.size,⟨v0,(hb.cell (p:=⟨P,0,none⟩) h.lt).trans a0,b0.below hb⟩,⟨v1,(hb.cell (p:=⟨P,1,none⟩) h.lt).trans a1,b1.below hb⟩⟩
structure eD (w:World) (B e e':Nat) (v:Value) (j:Nat) (V:Nat→Value) (xs:Nat→List Value):Prop where
 out:w.ownsRow B e 1 v j ((List.range j).map V)
 row:∀ i,i<j→w.ownsRow B e' 1 (V i) (xs i).length (xs i)
theorem qx (w:World) (B e e':Nat) (V:Nat→Value) (xs:Nat→List Value):eD w B e e' (.slice none 0 0) 0 V xs:=⟨World.ownsRow_nil _ _ _ _,fun i h=>by omega⟩
theorem eD.keeps {w w':World} {B e e' j:Nat} {v:Value} {V:Nat→Value} {xs:Nat→List Value} (h:eD w B e e' v j V xs) (hb:Below w.heap.size w w'):eD w' B e e' v j V xs:=⟨ae h.out hb,fun i hi=>ae (h.row i hi) hb⟩
theorem eD.set {w:World} {B e e' j:Nat} {v:Value} {V:Nat→Value} {xs:Nat→List Value} (h:eD w B e e' v j V xs) {k:Nat} (hk:k<B) (o:Nat) (u:Value):eD (w.setCell ⟨k,o,none⟩ u) B e e' v j V xs:=⟨ak h.out hk o u,fun i hi=>ak (h.row i hi) hk o u⟩
theorem eD.grown {w w':World} {B e e' j:Nat} {v:Value} {V:Nat→Value} {xs:Nat→List Value} (h:eD w B e e' v j V xs) {B2 e2 s2 n2:Nat} {v2:Value} {ys:List Value} (h2:w.ownsRow B2 e2 s2 v2 n2 ys) (hg:w.grownBy w' v2.ownBlock) (h1:e≠e2) (h3:e'≠e2):eD w' B e e' v j V xs:=
 ⟨h.out.kept hg (aD h.out h2 h1),fun i hi=>(h.row i hi).kept hg (aD (h.row i hi) h2 h3)⟩
theorem kC {w w1:World} {B e e' j:Nat} {v v':Value} {V:Nat→Value} {xs:Nat→List Value} {x:Value} (h:eD w B e e' v j V xs) (hx:w.ownsRow B e' 1 x (xs j).length (xs j)) (hne:e'≠e) (hg:w.grownBy w1 v.ownBlock)
  (hown:w1.ownsRow B e 1 v' (j+1) ((List.range j).map V++[x])):eD w1 B e e' v' (j+1) (fun i=>if i=j then x else V i) xs:=by
 refine ⟨?_,fun i hi=>?_⟩
 ·rw [List.range_succ,List.map_append]
  rw [show (List.range j).map (fun i=>if i=j then x else V i)=(List.range j).map V from List.map_congr_left (fun i hi=>by rw [List.mem_range] at hi;rw [if_neg (by omega)])]
  simpa using hown
 ·by_cases e:i=j
  ·subst e;simp only [if_true];exact hx.kept hg (aD hx h.out hne)
  ·simp only [if_neg e];exact (h.row i (by omega)).kept hg (aD (h.row i (by omega)) h.out hne)
theorem zN:∀ (n:Nat) (l:List Nat),l.Nodup→(∀ b∈l,b<n)→l.length≤n
 | 0,l,_,h=>by
  cases l with
  | nil=>exact Nat.le_refl _
  | cons b l=>exact absurd (h b (List.mem_cons_self ..)) (by omega)
 | n+1,l,hd,h=>by
  have h1:=zN n (l.erase n) (hd.erase n) (fun b hb=>by
   have hb2:=(List.Nodup.mem_erase_iff hd).1 hb
   have:=h b hb2.2
   omega)
  have h2:l.length≤(l.erase n).length+1:=by rw [List.length_erase];split <;> omega
  omega
def upd (f:Nat→Bool) (b:Nat) (v:Bool):Nat→Bool:=fun i=>if i=b then v else f i
structure Ea (E:Nat→Nat→Prop) (n at0:Nat) (todo:List Nat) (seen:Nat→Bool):Prop where
 parts:∃ rest,todo=at0::rest∧rest.Nodup∧(∀ b,seen b=true↔b∈rest)∧∀ b∈rest,reach E at0 b∧b<n
theorem XO (E:Nat→Nat→Prop) (n at0:Nat):Ea E n at0 [at0] (fun _=>false):=⟨[],rfl,List.nodup_nil,fun b=>by simp,fun b hb=>by simp at hb⟩
theorem Ea.len {E:Nat→Nat→Prop} {n at0:Nat} {todo:List Nat} {seen:Nat→Bool} (h:Ea E n at0 todo seen):todo.length≤n+1:=by
 obtain ⟨rest,rfl,h1,_,h3⟩:=h.parts
 have:=zN n rest h1 (fun b hb=>(h3 b hb).2)
 simp;omega
theorem Ea.mem {E:Nat→Nat→Prop} {n at0:Nat} {todo:List Nat} {seen:Nat→Bool} (h:Ea E n at0 todo seen) {a:Nat} (ha:a∈todo):a=at0∨(reach E at0 a∧a<n):=by
 obtain ⟨rest,rfl,_,_,h3⟩:=h.parts
 rcases List.mem_cons.1 ha with rfl | ha
 ·exact Or.inl rfl
 ·exact Or.inr (h3 a ha)
theorem ado {E:Nat→Nat→Prop} {n at0:Nat} {todo:List Nat} {seen:Nat→Bool} (h:Ea E n at0 todo seen) {a b:Nat} (ha:a∈todo) (he:E a b) (hb:b<n) (hs:seen b=false):Ea E n at0 (todo++[b]) (upd seen b true):=by
 have hm:=h.mem ha
 obtain ⟨rest,rfl,h1,h2,h3⟩:=h.parts
 have hnb:b ∉ rest:=fun hx=>by rw [(h2 b).2 hx] at hs;simp at hs
 have hr:reach E at0 b:=by
  rcases hm with rfl | ⟨hm,_⟩
  ·exact jS he
  ·exact dA hm (jS he)
 refine ⟨rest++[b],rfl,?_,fun c=>?_,fun c hc=>?_⟩
 ·rw [List.nodup_append]
  refine ⟨h1,by simp,fun x hx y hy e=>?_⟩
  simp at hy
  subst hy
  subst e
  exact hnb hx
 ·unfold upd
  by_cases e:c=b
  ·subst e;simp
  ·rw [if_neg e,h2 c];simp [e]
 ·rcases List.mem_append.1 hc with hc | hc
  ·exact h3 c hc
  ·simp at hc
   subst hc
   exact ⟨hr,hb⟩
theorem aaK {E:Nat→Nat→Prop} {n at0:Nat} {todo:List Nat} {seen:Nat→Bool} (h:Ea E n at0 todo seen) (hall:∀ a∈todo,∀ b,E a b→seen b=true) (b:Nat):seen b=true↔reach E at0 b:=by
 obtain ⟨rest,rfl,h1,h2,h3⟩:=h.parts
 constructor
 ·intro hb;exact (h3 b ((h2 b).1 hb)).1
 ·rintro ⟨L,hL⟩
  have key:∀ L a,a∈at0::rest→pq E (L+1) a b→seen b=true:=by
   intro L
   induction L with
   | zero=>
    rintro a ha ⟨c,he,hc⟩
    cases hc
    exact hall a ha _ he
   | succ L ih=>
    rintro a ha ⟨c,he,hc⟩
    have hs:=hall a ha c he
    exact ih c (List.mem_cons_of_mem _ ((h2 c).1 hs)) hc
  exact key L at0 (List.mem_cons_self ..) hL
theorem ww {E:Nat→Nat→Prop} {a b:Nat}:reach (fun x y=>E y x) a b↔reach E b a:=by
 have key:∀ (E:Nat→Nat→Prop) L a b,pq E L a b→pq (fun x y=>E y x) L b a:=by
  intro E L
  induction L with
  | zero=>intro a b h;exact h.symm
  | succ L ih=>
   rintro a b ⟨c,he,hc⟩
   have h1:=ih c b hc
   exact zI L 1 b c a h1 ⟨a,he,rfl⟩
 exact ⟨fun ⟨L,h⟩=>⟨L,key _ _ _ _ h⟩,fun ⟨L,h⟩=>⟨L,key _ _ _ _ h⟩⟩
theorem VB {E:Nat→Nat→Prop} {c:Nat} (h:reach E c c):(∃ d,E c d∧reach E d d)∧∃ d,E d c∧reach E d d:=by
 have one:∀ {E:Nat→Nat→Prop} {c:Nat},reach E c c→∃ d,E c d∧reach E d d:=by
  rintro E c ⟨L,d,he,hd⟩
  refine ⟨d,he,?_⟩
  cases L with
  | zero=>cases hd;exact jS he
  | succ L=>exact dA ⟨L,hd⟩ (jS he)
 refine ⟨one h,?_⟩
 obtain ⟨d,h1,h2⟩:=one (ww.2 h)
 exact ⟨d,h1,ww.1 h2⟩
theorem Nv {E:Nat→Nat→Prop} {K:Nat→Nat→Prop} {m c i:Nat} (h1:reach E c i) (h2:reach E i c) (h:vB E K m c):vB E K m i:=by
 refine ⟨dA h2 h1,fun k hk=>?_⟩
 obtain ⟨j,a,b,d⟩:=h.2 k hk
 exact ⟨j,dA h2 a,dA b h1,d⟩
def Ed (N:Nat) (to:Nat→List Nat) (a b:Nat):Prop:=a<N∧b∈to a
theorem xx (f:Nat→Bool) (N b:Nat) (v:Bool):(aj f N N).set b (.bool v)=aj (upd f b v) N N:=by
 unfold aj
 apply List.ext_getElem
 ·simp
 ·intro i h1 h2
  simp at h1
  rw [List.getElem_set]
  simp only [List.getElem_map,List.getElem_range,upd,h1,if_true]
  by_cases e:b=i
  ·rw [if_pos e,if_pos e.symm]
  ·rw [if_neg e,if_neg (fun h=>e h.symm)]
theorem pE {f g:Nat→Bool} {N:Nat} (h:∀ i,i<N→f i=g i):aj f N N=aj g N N:=by
 unfold aj
 apply List.map_congr_left
 intro i hi
 rw [List.mem_range] at hi
 simp [hi,h i hi]
theorem lT {l:List Nat} {i:Nat} (h:i<l.length):bG l i∈l:=by simp [bG,List.getD,List.getElem?_eq_getElem h]
theorem vD {l:List Nat} {x:Nat} (h:x∈l):∃ i,i<l.length∧bG l i=x:=by
 obtain ⟨i,hi,e⟩:=List.getElem_of_mem h
 exact ⟨i,hi,by simp [bG,List.getD,List.getElem?_eq_getElem hi,e]⟩
theorem Oz {l:List Nat} {i x:Nat} (h:i<l.length):bG (l++[x]) i=bG l i:=by simp [bG,List.getD,List.getElem?_append_left h]
def Done (N:Nat) (to:Nat→List Nat) (todo:List Nat) (seen:Nat→Bool) (i:Nat):Prop:=∀ q,q<i→∀ b,b∈to (bG todo q)→seen b=true
theorem Xt {N:Nat} {to:Nat→List Nat} {td:List Nat} {sn:Nat→Bool} {q b:Nat} (h:Done N to td sn q) (hq:q≤td.length):Done N to (td++[b]) (upd sn b true) q:=fun x hx c hc=>by
 rw [Oz (by omega)] at hc
 unfold upd
 by_cases e:c=b
 ·rw [if_pos e]
 ·rw [if_neg e];exact h x hx c hc
theorem EF (P N K at0:Nat) (to:Nat→List Nat) (kp:Nat→Nat→Bool) (w:World) (hn:mK w P N to K kp) (hto:∀ a,a<N→∀ b∈to a,b<N) (hlen:∀ a,a<N→(to a).length≤4398046511104) (ha:at0<N) (hN:N≤1099511627776) :
  Calls Tryz.prog 124 #[.pointer (some ⟨P,0,none⟩),.int .i64 at0] w fun e w'=>∃ g seen,e=.returned (.slice (some ⟨g,0,none⟩) N N)∧w.heap.size≤g∧w'.ownsRow w.heap.size 4 1 (.slice (some ⟨g,0,none⟩) N N) N (aj seen N N)∧(∀ b,seen b=true↔reach (Ed N to) at0 b)∧Below w.heap.size w w':=by
 obtain ⟨v0,c0,ao,cap,rfl,hcap,hrow⟩:=hn.c0
 obtain ⟨g,rfl,hg,hcell⟩:=hrow (by omega)
 have hP:=hn.lt
 have HC:=hid hcell
 obtain ⟨i0,hi,hz0,hz1,hz2⟩:=info_parts Tryz.dw
 obtain ⟨i1,hi1,hz01,hz11,hz21⟩:=info_parts Tryz.kG
 have xN:=hid hto
 clear hcell hrow hn hto
 go_enter Tryz.func124,Tryz.ntmps124
 go_wp2_with (at_make;go_must (refine wpList_make_full _ rfl (.tmp 14) (.tmp 14) 132 rfl w.heap.size 4 i0 (.bool false) 1 Tryz.underlying132 hi hz0 hz1 .i64 .i64 N N N rfl rfl rfl rfl ?m2 ?m3 (Nat.le_refl _) ?_))
 case m2=>rw [hz2];omega
 case m3=>unfold maxLen;omega
 intro w1 ay grow1
 have eo:(madeCells #[Value.bool false] N).toList=List.replicate N (.bool false):=toList_madeCells_one _ _
 rw [eo,←bJ (fun _=>false),show aj (fun _=>false) N 0=aj (fun _=>false) N N by simp [aj]] at ay
 have hb1:Below w.heap.size w w1:=(Below.refl _ _).grown grow1 (Nat.le_refl _) (fun k h=>by cases h)
 have hs1:w.heap.size<w1.heap.size:=(ay.lt _ rfl).2
 have O1:=hid ay
 have HB1:=hid hb1
 clear ay grow1 eo hb1
 go_wp2_with fail
 go_loopw [7,6] (fun i v wr=>∃ (q:Nat) (todo:List Nat) (seen:Nat→Bool),i=.int .i64 q∧q≤todo.length∧Hid (Ea (Ed N to) N at0 todo seen)∧Hid (Done N to todo seen q)∧Hid (wr.ownsRow (w.heap.size+1) 3 1 v todo.length (au todo)) ∧
   Hid (wr.ownsRow w.heap.size 4 1 (.slice (some ⟨w.heap.size,0,none⟩) N N) N (aj seen N N))∧Below w.heap.size w wr) (fun i _ _=>N+1 - (intOf i).toNat)
 case atStart=>
  refine ⟨0,[at0],fun _=>false,rfl,Nat.zero_le _,hid (XO _ _ _),hid (fun q hq=>by omega),hid ?_,hid (O1.out.alloc _),HB1.out.alloc HB1.out.size _⟩
  exact ⟨rfl,Or.inr ⟨w1.heap.size,1,#[.int .i64 at0],rfl,by omega,by show (w1.heap.push _)[w1.heap.size]?=_;simp,Nat.le_refl _,by unfold maxLen;omega,rfl,rfl⟩⟩
 case round=>
  obtain ⟨q,todo,seen,rfl,hq,Hu,HD,HT,HS,hb⟩:=hrel
  rename World=>W0
  obtain ⟨aot,tcap,hv⟩:=ag HT.out
  subst hv
  have htl:=Hu.out.len
  have c0':=(hb.cell (p:=⟨P,0,none⟩) hP).trans c0
  by_cases hlt:q<todo.length
  ·obtain ⟨gt,e,hgt0,hgt,htc⟩:=dH HT.out (by omega)
   subst e
   have ct:W0.cell? ⟨gt,q,none⟩=some (.int .i64 (bG todo q:Nat)):=by
    rw [HT.out.cellAt q (by omega)]
    simp [au,bG,List.getD,List.getElem?_eq_getElem hlt]
   have haN:bG todo q<N:=by
    rcases Hu.out.mem (lT hlt) with e | e
    ·rw [e];exact ha
    ·exact e.2
   obtain ⟨r,cr,hnr⟩:=HC.out (bG todo q) haN
   have Xx:=(hb.cell (p:=⟨g,bG todo q,none⟩) hg).trans cr
   obtain ⟨aor,nE,rfl,hrc,hrr⟩:=hnr
   have HRR:=hid hrr
   have HQ:Hid (bG todo q∈todo):=hid (lT hlt)
   have HTA:=hid (xN.out (bG todo q) haN)
   have hll:=hlen (bG todo q) haN
   generalize hA:bG todo q=a at *
   have HAQ:=hid hA
   generalize hlnE:(to a).length=ln at *
   have bg:=hid hlnE
   generalize htnE:todo.length=tn at *
   have Yb:=hid htnE
   clear hrr cr hlnE hA htnE
   have kd:decide ((q:Int)<(tn:Int))=true:=by simp;omega
   go_wp2_with fail
   go_quiet (fail)
   have PK:=hid (below_drewN hb nq)
   have HT2:=hid (ae HT.out (below_drewN (Below.refl W0.heap.size W0) nq))
   have HS2:=hid (ae HS.out (below_drewN (Below.refl W0.heap.size W0) nq))
   clear HT HS c0' Xx ct hgt kd hb
   generalize W0.drewN nq=W1 at *
   go_wp2_with fail
   go_loopw [9,6] (fun i v wr=>∃ (k:Nat) (td:List Nat) (sn:Nat→Bool),k≤ln∧i=.int .i64 k∧Hid (Ea (Ed N to) N at0 td sn)∧Hid (q<td.length∧bG td q=a)∧Hid (Done N to td sn q)∧Hid (∀ x,x<k→sn (bG (to a) x)=true)∧Hid (wr.ownsRow (w.heap.size+1) 3 1 v td.length (au td)) ∧
     Hid (wr.ownsRow w.heap.size 4 1 (.slice (some ⟨w.heap.size,0,none⟩) N N) N (aj sn N N))∧Below w.heap.size w wr) (fun i _ _=>ln - (intOf i).toNat)
   case atStart=>exact ⟨0,todo,seen,Nat.zero_le _,rfl,Hu,hid ⟨by rw [Yb.out];exact hlt,HAQ.out⟩,HD,hid (fun x hx=>by omega),by rw [Yb.out];exact HT2,HS2,PK.out⟩
   case round=>
    obtain ⟨k,td,sn,hk,rfl,HBF2,yY,HD2,HK,HT3,uK,hbr⟩:=hrel
    obtain ⟨aot,tcap,hv⟩:=ag HT3.out
    subst hv
    have Ua:=HBF2.out.len
    have hsz:=hbr.size
    by_cases hlk:k<ln
    ·obtain ⟨gr,e,hgr,crr⟩:=HRR.out (by omega)
     subst e
     have cb:=(hbr.cell (p:=⟨gr,k,none⟩) hgr).trans (crr k hlk)
     have hbN:bG (to a) k<N:=HTA.out _ (lT (by rw [bg.out];exact hlk))
     have AZ:Hid (Ed N to a (bG (to a) k)):=hid ⟨haN,lT (by rw [bg.out];exact hlk)⟩
     have sb:wr.cell? ⟨w.heap.size,bG (to a) k,none⟩=some (.bool (sn (bG (to a) k))):=by
      rw [uK.out.cellAt _ (by omega)]
      exact jv sn N _ hbN
     have sf:=uK.out.frozenAt (bG (to a) k)
     have HKS:Hid (sn (bG (to a) k)=true→∀ x,x<k+1→sn (bG (to a) x)=true):=hid (fun h x hx=>by
      by_cases e:x<k
      ·exact HK.out x e
      ·rw [show x=k by omega];exact h)
     have HKU:Hid (∀ x,x<k+1→upd sn (bG (to a) k) true (bG (to a) x)=true):=hid (fun x hx=>by
      unfold upd
      by_cases e:bG (to a) x=bG (to a) k
      ·rw [if_pos e]
      ·rw [if_neg e]
       by_cases e2:x<k
       ·exact HK.out x e2
       ·exact absurd (by rw [show x=k by omega]) e)
     have HST:=hid (uK.out.stored (bG (to a) k) (.bool true))
     generalize hbb:bG (to a) k=b at *
     have uO:=hid hbb
     clear hbb crr
     cases hsv:sn b with
     | true=>
      rw [hsv] at sb
      have HSV:=hid hsv
      clear hsv
      go_wp2_with fail
      go_roundw
      case rel=>exact ⟨k+1,td,sn,by omega,by go_num,HBF2,yY,HD2,hid (HKS.out HSV.out),HT3,uK,hbr⟩
      case measure=>simp [intOf];omega
     | false=>
      rw [hsv] at sb
      have HSV:=hid hsv
      clear hsv
      have BA:=hid (ado HBF2.out (by rw [←yY.out.2];exact lT yY.out.1) AZ.out hbN HSV.out)
      have hst:=HST.out
      rw [xx] at hst
      have Hf:=hid hst.1
      have dV:=hid (hbr.setCell (p:=⟨w.heap.size,b,none⟩) (Nat.le_refl _) (.bool true))
      have t5:=ak HT3.out (k:=w.heap.size) (Nat.lt_succ_self _) b (.bool true)
      have cb5:(wr.setCell ⟨w.heap.size,b,none⟩ (.bool true)).cell? ⟨gr,k,none⟩=some (.int .i64 (b:Nat)):=by
       rw [World.cell?_setCell_other _ _ _ _ (fun e=>by have:=congrArg Addr.block e;simp at this;omega)]
       exact cb
      have hs5:(wr.setCell ⟨w.heap.size,b,none⟩ (.bool true)).heap.size=wr.heap.size:=World.size_setCell _ _ _
      have HDP:=hid (Xt (b:=b) HD2.out (by have:=yY.out.1;omega))
      have HQP:Hid (q<(td++[b]).length∧bG (td++[b]) q=a):=hid ⟨by have:=yY.out.1;rw [List.length_append];omega,by rw [Oz yY.out.1];exact yY.out.2⟩
      have wV:Hid (au td++[.int .i64 (b:Nat)]=au (td++[b])∧td.length+1=(td++[b]).length):=hid ⟨by simp [au],by simp⟩
      clear hst HST uK HT3 HBF2 HD2 yY
      have hl5:td.length≤N+1:=Ua
      go_wp2_with (at_builtin;go_must (refine wpList_append_own _ rfl (.tmp 54) (.tmp 59) 22 rfl (w.heap.size+1) 3 i1 (.int .i64 0) 1 8 Tryz.underlying22 hi1 hz01 hz11 hz21 rfl (by decide) _ _ _ rfl (t5.alloc _) ⟨wr.heap.size,0,none⟩ 1 1 [.int .i64 b] rfl rfl ?c1 ?c2 ?c3 ?c4 ?c5 ?_))
      case c1=>exact fun z u hz=>by have:=World.cell?_alloc_here (wr.setCell ⟨w.heap.size,b,none⟩ (.bool true)) #[.int .i64 (b:Nat)] 3 wr.heap.size z hs5.symm;rw [qN,Nat.zero_add,this];simpa using hz
      case c2=>intro u hu;simp at hu;subst hu;rfl
      case c3=>unfold maxLen;omega
      case c4=>omega
      case c5=>simp;omega
      intro v' w2 hown hgrow _
      have B6:=hid ((dV.out.alloc (by rw [hs5];exact hsz) _).grown hgrow (by rw [World.size_alloc,hs5];omega) (fun k h=>Nat.le_trans (Nat.le_succ _) (t5.lt k h).1))
      have S6:=hid ((Hf.out.alloc (.cells #[.int .i64 (b:Nat)] 3)).kept hgrow (aD (Hf.out.alloc (.cells #[.int .i64 (b:Nat)] 3)) (t5.alloc (.cells #[.int .i64 (b:Nat)] 3)) (by decide)))
      rw [wV.out.1,wV.out.2] at hown
      have O6:=hid hown
      clear hown hgrow t5 cb5 dV Hf sb sf cb
      go_wp2_with fail
      go_roundw
      case rel=>exact ⟨k+1,td++[b],upd sn b true,by omega,by go_num,BA,HQP,HDP,HKU,O6,S6,B6.out⟩
      case measure=>simp [intOf];omega
    ·obtain rfl:k=ln:=by omega
     have Yu:Hid (Done N to td sn (q+1)):=hid (fun x hx c hc=>by
      by_cases e:x<q
      ·exact HD2.out x e c hc
      ·rw [show x=q by omega,yY.out.2] at hc
       obtain ⟨y,hy,rfl⟩:=vD hc
       exact HK.out y (by rw [bg.out] at hy;exact hy))
     have hq1:q+1≤td.length:=yY.out.1
     go_wp2_with fail
     go_roundw
     case rel=>exact ⟨q+1,td,sn,by go_num,hq1,HBF2,Yu,HT3,uK,hbr⟩
     case measure=>simp [intOf];omega
  ·have aj0:Hid (∀ b,seen b=true↔reach (Ed N to) at0 b):=hid (aaK Hu.out (fun a hm b he=>by
    obtain ⟨x,hx,rfl⟩:=vD hm
    exact HD.out x (by omega) b he.2))
   generalize todo.length=tn at *
   have kd:decide ((q:Int)<(tn:Int))=false:=by simp;omega
   go_wp2_with fail
   go_ret
   exact ⟨w.heap.size,seen,rfl,Nat.le_refl _,HS.out,aj0.out,hb⟩
def BO (w:World) (B g N:Nat) (f:Nat→Bool):Prop:=w.ownsRow B 4 1 (.slice (some ⟨g,0,none⟩) N N) N (aj f N N)
theorem BO.get {w:World} {B g N:Nat} {f:Nat→Bool} (h:BO w B g N f) {i:Nat} (hi:i<N):w.cell? ⟨g,i,none⟩=some (.bool (f i)):=by
 rw [World.ownsRow.cellAt h i (by omega)]
 exact jv f N i hi
theorem BO.fz {w:World} {B g N:Nat} {f:Nat→Bool} (h:BO w B g N f) (i:Nat):w.frozen? ⟨g,i,none⟩=false:=World.ownsRow.frozenAt h i
theorem BO.set {w:World} {B g N:Nat} {f:Nat→Bool} (h:BO w B g N f) (b:Nat) (v:Bool):BO (w.setCell ⟨g,b,none⟩ (.bool v)) B g N (upd f b v):=by
 have:=(World.ownsRow.stored h b (.bool v)).1
 rw [xx] at this
 exact this
theorem BO.other {w:World} {B B2 g g2 N N2:Nat} {f f2:Nat→Bool} (h:BO w B g N f) (h2:BO w B2 g2 N2 f2) (hne:g≠g2) (b:Nat) (u:Value):BO (w.setCell ⟨g2,b,none⟩ u) B g N f:=
 World.ownsRow.kept h (World.ownsRow.stored h2 b u).2 (Or.inr (by simpa [Value.ownBlock] using hne))
theorem BO.grown {w w':World} {B g N:Nat} {f:Nat→Bool} (h:BO w B g N f) (hg:w.grownBy w' none):BO w' B g N f:=World.ownsRow.kept h hg (Or.inr (by simp [Value.ownBlock]))
theorem BO.blk {w:World} {B g N:Nat} {f:Nat→Bool} (h:BO w B g N f):B≤g∧g<w.heap.size:=World.ownsRow.lt h _ rfl
def cnt (f:Nat→Bool):Nat→Nat
 | 0=>0
 | n+1=>cnt f n+(if f n=true then 1 else 0)
theorem Kr {f g:Nat→Bool}:∀ n,(∀ i,i<n→f i=g i)→cnt f n=cnt g n
 | 0,_=>rfl
 | n+1,h=>by rw [cnt,cnt,Kr n (fun i hi=>h i (by omega)),h n (by omega)]
theorem Ra {f:Nat→Bool} {b:Nat} (hf:f b=true):∀ n,b<n→cnt (upd f b false) n+1=cnt f n
 | 0,h=>by omega
 | n+1,h=>by
  by_cases e:b=n
  ·subst e
   rw [cnt,cnt,Kr (f:=upd f b false) (g:=f) b (fun i hi=>by unfold upd;rw [if_neg (by omega)])]
   simp [upd,hf]
  ·rw [cnt,cnt]
   have:=Ra hf n (by omega)
   have e2:upd f b false n=f n:=by unfold upd;rw [if_neg (fun h=>e h.symm)]
   rw [e2]
   omega
def Lu (w:World) (g:Nat):Nat→Nat
 | 0=>0
 | n+1=>Lu w g n+(match w.cell? ⟨g,n,none⟩ with | some (.bool true)=>1 | _=>0)
theorem Ef {w:World} {B g N:Nat} {f:Nat→Bool} (h:BO w B g N f):∀ n,n≤N→Lu w g n=cnt f n
 | 0,_=>rfl
 | n+1,hn=>by
  rw [Lu,cnt,Ef h n (by omega),h.get (by omega)]
  cases f n <;> simp
def q9:Value→Nat
 | .bool true=>1
 | _=>0
def Pd (N:Nat) (to:Nat→List Nat) (out:Nat→Bool):Prop:=∀ c,reach (Ed N to) c c→out c=true
def GY (to:Nat→List Nat) (out inn ah:Nat→Bool) (q k:Nat):Prop:=∀ i x,(i<q∧x<(to i).length∨i=q∧x<k)→out i=true→inn (bG (to i) x)=true∧(out (bG (to i) x)=true→ah i=true)
theorem ZY (to:Nat→List Nat) (out inn ah:Nat→Bool):GY to out inn ah 0 0:=fun i x h=>by omega
theorem zq {f:Nat→Bool} {b y:Nat} {v:Bool} (h:f y=true) (hv:f b=true→v=true):upd f b v y=true:=by
 unfold upd
 by_cases e:y=b
 ·rw [if_pos e];exact hv (e ▸ h)
 ·rw [if_neg e];exact h
theorem vR (f:Nat→Bool) (b:Nat) (v:Bool):upd f b v b=v:=by simp [upd]
theorem ac7 {to:Nat→List Nat} {out inn ah:Nat→Bool} {q k:Nat} (h:GY to out inn ah q k):GY to out (upd inn (bG (to q) k) true) (upd ah q (ah q||out (bG (to q) k))) q (k+1):=fun i x hx ho=>by
 by_cases e:i=q∧x=k
 ·obtain ⟨rfl,rfl⟩:=e
  exact ⟨vR _ _ _,fun hb=>by rw [vR,hb];simp⟩
 ·obtain ⟨h1,h2⟩:=h i x (by omega) ho
  exact ⟨zq h1 (fun _=>rfl),fun hb=>zq (h2 hb) (fun h=>by rw [h];rfl)⟩
theorem QW {to:Nat→List Nat} {out inn ah:Nat→Bool} {q k:Nat} (h:GY to out inn ah q k) (hk:k=(to q).length∨out q=false):GY to out inn ah (q+1) 0:=fun i x hx ho=>by
 rcases hk with hk | hk
 ·by_cases e:i=q
  ·subst e;exact h i x (by omega) ho
  ·exact h i x (by omega) ho
 ·by_cases e:i=q
  ·subst e;rw [hk] at ho;cases ho
  ·exact h i x (by omega) ho
theorem aeu {N:Nat} {to:Nat→List Nat} {out inn ah:Nat→Bool} (h:GY to out inn ah N 0) (hl:Pd N to out) {c:Nat} (hc:reach (Ed N to) c c):inn c=true∧ah c=true:=by
 obtain ⟨⟨d,hd,hdd⟩,e,he,hee⟩:=VB hc
 obtain ⟨x,hx,ex⟩:=vD hd.2
 obtain ⟨y,hy,ey⟩:=vD he.2
 have a1:=h c x (Or.inl ⟨hd.1,hx⟩) (hl c hc)
 have a2:=h e y (Or.inl ⟨he.1,hy⟩) (hl e hee)
 rw [ex] at a1
 rw [ey] at a2
 exact ⟨a2.1,a1.2 (hl d hdd)⟩
theorem acW {N:Nat} {to:Nat→List Nat} {out inn ah o2:Nat→Bool} (h:GY to out inn ah N 0) (hl:Pd N to out) (h2:Pd N to o2) {q:Nat} (hq:inn q=false∨ah q=false):Pd N to (upd o2 q false):=fun c hc=>by
 unfold upd
 by_cases e:c=q
 ·subst e
  obtain ⟨h3,h4⟩:=aeu h hl hc
  rcases hq with hq | hq
  ·rw [hq] at h3;cases h3
  ·rw [hq] at h4;cases h4
 ·rw [if_neg e];exact h2 c hc
theorem ZN (P N K:Nat) (to:Nat→List Nat) (kp:Nat→Nat→Bool) (w:World) (hn:mK w P N to K kp) (hto:∀ a,a<N→∀ b∈to a,b<N) (hlen:∀ a,a<N→(to a).length≤4398046511104) (hN:N≤1099511627776) :
  Calls Tryz.prog 144 #[.pointer (some ⟨P,0,none⟩)] w fun e w'=>∃ g out,e=.returned (.slice (some ⟨g,0,none⟩) N N)∧w.heap.size≤g∧BO w' w.heap.size g N out∧Pd N to out∧Below w.heap.size w w':=by
 obtain ⟨v0,c0,ao,cap,rfl,hcap,hrow⟩:=hn.c0
 have hP:=hn.lt
 have ER:=hid hrow
 obtain ⟨i0,hi,hz0,hz1,hz2⟩:=info_parts Tryz.dw
 have xN:=hid hto
 have Ho:=hid hlen
 clear hrow hn hto hlen
 go_enter Tryz.func144,Tryz.ntmps144
 go_wp2_with (at_make;go_must (refine wpList_make_full _ rfl (.tmp 18) (.tmp 18) 132 rfl w.heap.size 4 i0 (.bool false) 1 Tryz.underlying132 hi hz0 hz1 .i64 .i64 N N N rfl rfl rfl rfl ?m2 ?m3 (Nat.le_refl _) ?_))
 case m2=>rw [hz2];omega
 case m3=>unfold maxLen;omega
 intro w1 ay grow1
 have eo:(madeCells #[Value.bool false] N).toList=List.replicate N (.bool false):=toList_madeCells_one _ _
 rw [eo,←bJ (fun _=>true)] at ay
 have hb1:Below w.heap.size w w1:=(Below.refl _ _).grown grow1 (Nat.le_refl _) (fun k h=>by cases h)
 have OS:=hid ay
 have HB1:=hid hb1
 clear ay grow1 eo hb1
 go_wp2_with fail
 go_loopw [5] (fun i wq=>∃ k:Nat,k≤N∧i=.int .i64 k∧Hid (wq.ownsRow w.heap.size 4 1 (.slice (some ⟨w.heap.size,0,none⟩) N N) N (aj (fun _=>true) N k))∧Below w.heap.size w wq) (fun i _=>N - (intOf i).toNat)
 case atStart=>exact ⟨0,Nat.zero_le _,rfl,OS,HB1.out⟩
 case round=>
  obtain ⟨k,hk,rfl,HO,hbq⟩:=hrel
  rename World=>Wa
  by_cases hlk:k<N
  ·have own:=HO.out
   have q0:=own.frozenAt k
   have q1:(Wa.cell? ⟨w.heap.size,k,none⟩).isSome=true:=by
    rw [own.cellAt k (by omega)]
    simp [aj,hlk]
   obtain ⟨qv,q2⟩:=Option.isSome_iff_exists.1 q1
   have hO:=own.stored k (.bool true)
   rw [dX (fun _=>true)] at hO
   have lg:=hid hO.1
   have HB2:=hid (hbq.setCell (p:=⟨w.heap.size,k,none⟩) (Nat.le_refl _) (.bool true))
   clear hO q1 own HO
   go_wp2_with fail
   go_roundw
   case rel=>exact ⟨k+1,by omega,by go_num,lg,HB2.out⟩
   case measure=>simp [intOf];omega
  ·obtain rfl:k=N:=by omega
   have HB0:Hid (BO Wa w.heap.size w.heap.size k (fun _=>true)):=HO
   clear HO OS
   go_wp2_with fail
   go_loopw [6] (fun m wq=>∃ (mb:Bool) (out:Nat→Bool),m=.bool mb∧Hid (Pd k to out)∧Hid (BO wq w.heap.size w.heap.size k out)∧Below w.heap.size w wq) (fun m wq=>Lu wq w.heap.size k+q9 m)
   case atStart=>exact ⟨true,fun _=>true,rfl,hid (fun _ _=>rfl),HB0,hbq⟩
   case round=>
    obtain ⟨mb,out,rfl,HL,HO,hb⟩:=hrel
    rename World=>W0
    cases mb with
    | false=>
     go_wp2_with fail
     go_ret
     exact ⟨w.heap.size,out,rfl,Nat.le_refl _,HO.out,HL.out,hb⟩
    | true=>
     have hsz:=hb.size
     go_wp2_with (at_make;go_must (refine wpList_make_full _ rfl (.tmp 29) (.tmp 29) 132 rfl w.heap.size 4 i0 (.bool false) 1 Tryz.underlying132 hi hz0 hz1 .i64 .i64 k k k rfl rfl rfl rfl ?m2 ?m3 hsz ?_))
     case m2=>rw [hz2];omega
     case m3=>unfold maxLen;omega
     intro w2 eG grow2
     have eo:(madeCells #[Value.bool false] k).toList=List.replicate k (.bool false):=toList_madeCells_one _ _
     rw [eo,←bJ (fun _=>false),show aj (fun _=>false) k 0=aj (fun _=>false) k k by simp [aj]] at eG
     have hb2:Below w.heap.size w w2:=hb.grown grow2 hsz (fun k h=>by cases h)
     have OI:Hid (BO w2 w.heap.size W0.heap.size k (fun _=>false)):=hid eG
     have OO:=hid (HO.out.grown grow2)
     have HB2:=hid hb2
     have hsz2:=hb2.size
     have hlt2:=OI.out.blk.2
     have Z8:=HO.out.blk.2
     clear eG grow2 eo hb2
     go_wp2_with (at_make;go_must (refine wpList_make_full _ rfl (.tmp 31) (.tmp 31) 132 rfl w.heap.size 4 i0 (.bool false) 1 Tryz.underlying132 hi hz0 hz1 .i64 .i64 k k k rfl rfl rfl rfl ?m2 ?m3 hsz2 ?_))
     case m2=>rw [hz2];omega
     case m3=>unfold maxLen;omega
     intro w3 own3 grow3
     have eo:(madeCells #[Value.bool false] k).toList=List.replicate k (.bool false):=toList_madeCells_one _ _
     rw [eo,←bJ (fun _=>false),show aj (fun _=>false) k 0=aj (fun _=>false) k k by simp [aj]] at own3
     have OA:Hid (BO w3 w.heap.size w2.heap.size k (fun _=>false)):=hid own3
     have OI3:=hid (OI.out.grown grow3)
     have OO3:=hid (OO.out.grown grow3)
     have HB3:=hid (HB2.out.grown grow3 hsz2 (fun k h=>by cases h))
     have yX:=hid (Ef HO.out k (Nat.le_refl _))
     clear own3 grow3 eo OI OO HO HB0
     generalize hgi:W0.heap.size=gi at *
     generalize hga:w2.heap.size=ga at *
     go_wp2_with fail
     go_loopw [9] (fun i wq=>∃ (q:Nat) (inn ah:Nat→Bool),q≤k∧i=.int .i64 q∧Hid (GY to out inn ah q 0)∧Hid (BO wq w.heap.size w.heap.size k out)∧Hid (BO wq w.heap.size gi k inn)∧Hid (BO wq w.heap.size ga k ah)∧Below w.heap.size w wq) (fun i _=>k - (intOf i).toNat)
     case atStart=>exact ⟨0,_,_,Nat.zero_le _,rfl,hid (ZY _ _ _ _),OO3,OI3,OA,HB3.out⟩
     case round=>
      obtain ⟨q,inn,ah,hq,rfl,HI,yZ,lg,HO3,hb4⟩:=hrel
      rename World=>W4
      by_cases hlq:q<k
      ·obtain ⟨g,e,hg,hcell⟩:=ER.out (by omega)
       subst e
       obtain ⟨r,cr,aor,nE,rfl,hrc,hrr⟩:=hcell q hlq
       have HRR:=hid hrr
       have xQ:=hid cr
       have hll:=Ho.out q hlq
       have HTQ:=hid (xN.out q hlq)
       generalize hlnE:(to q).length=ln at *
       have bg:=hid hlnE
       clear hrr hlnE cr hcell
       go_wp2_with fail
       go_loopw [10] (fun i wq=>∃ (y:Nat) (inn ah:Nat→Bool),y≤ln∧i=.int .i64 y∧Hid (GY to out inn ah q y)∧Hid (BO wq w.heap.size w.heap.size k out)∧Hid (BO wq w.heap.size gi k inn)∧Hid (BO wq w.heap.size ga k ah)∧Below w.heap.size w wq) (fun i _=>ln - (intOf i).toNat)
       case atStart=>exact ⟨0,inn,ah,Nat.zero_le _,rfl,HI,yZ,lg,HO3,hb4⟩
       case round=>
        obtain ⟨y,inn,ah,hy,rfl,HI,yZ,lg,HO3,hb5⟩:=hrel
        have c05:=(hb5.cell (p:=⟨P,0,none⟩) hP).trans c0
        have cr5:=(hb5.cell (p:=⟨g,q,none⟩) hg).trans xQ.out
        by_cases hly:y<ln
        ·have co:=yZ.out.get hlq
         cases hoq:out q with
         | false=>
          rw [hoq] at co
          have uu:=hid (QW HI.out (Or.inr hoq))
          clear hoq
          go_wp2_with fail
          go_roundw
          case rel=>exact ⟨q+1,inn,ah,by omega,by go_num,uu,yZ,lg,HO3,hb5⟩
          case measure=>simp [intOf];omega
         | true=>
          rw [hoq] at co
          obtain ⟨gr,e,hgr,crr⟩:=HRR.out (by omega)
          subst e
          have cb:=(hb5.cell (p:=⟨gr,y,none⟩) hgr).trans (crr y hly)
          have hbN:bG (to q) y<k:=HTQ.out _ (lT (by rw [bg.out];exact hly))
          have HST:=hid (ac7 HI.out)
          have n1:w.heap.size≠gi:=by omega
          have n2:w.heap.size≠ga:=by omega
          have n3:ga≠gi:=by omega
          generalize bG (to q) y=b at *
          have s1:=lg.out.fz b
          have s2:=lg.out.get hbN
          have A1:=yZ.out.other lg.out n1 b (.bool true)
          have A2:=lg.out.set b true
          have A3:=HO3.out.other lg.out n3 b (.bool true)
          have t1:=A3.fz q
          have t2:=A3.get hlq
          have t3:=A1.get hbN
          have D1:=hid (A1.other A3 n2 q (.bool (ah q||out b)))
          have D2:=hid (A2.other A3 n3.symm q (.bool (ah q||out b)))
          have D3:=hid (A3.set q (ah q||out b))
          have iQ:=hid ((hb5.setCell (p:=⟨gi,b,none⟩) (by show w.heap.size≤gi;omega) (.bool true)).setCell (p:=⟨ga,q,none⟩) (by show w.heap.size≤ga;omega) (.bool (ah q||out b)))
          clear A1 A2 A3 crr hoq yZ lg HO3 HI
          generalize inn b=iv at *
          generalize hav:ah q=av at *
          generalize hov:out b=ov at *
          clear hav hov
          cases av with
          | true=>
           go_wp2_with fail
           go_roundw
           case rel=>exact ⟨y+1,_,_,by omega,by go_num,HST,D1,D2,D3,iQ.out⟩
           case measure=>simp [intOf];omega
          | false=>
           rw [Bool.false_or] at HST D1 D2 D3 iQ
           go_wp2_with fail
           go_roundw
           case rel=>exact ⟨y+1,_,_,by omega,by go_num,HST,D1,D2,D3,iQ.out⟩
           case measure=>simp [intOf];omega
        ·obtain rfl:y=ln:=by omega
         have uu:=hid (QW HI.out (Or.inl bg.out.symm))
         go_wp2_with fail
         go_roundw
         case rel=>exact ⟨q+1,inn,ah,by omega,by go_num,uu,yZ,lg,HO3,hb5⟩
         case measure=>simp [intOf];omega
      ·obtain rfl:q=k:=by omega
       go_wp2_with fail
       go_loopw [12,6] (fun i m wq=>∃ (x:Nat) (mb:Bool) (o2:Nat→Bool),x≤q∧i=.int .i64 x∧m=.bool mb∧Hid (Pd q to o2)∧Hid (cnt o2 q+q9 (.bool mb)≤cnt out q)∧Hid (BO wq w.heap.size w.heap.size q o2)∧Hid (BO wq w.heap.size gi q inn)∧Hid (BO wq w.heap.size ga q ah)∧Below w.heap.size w wq) (fun i _ _=>q - (intOf i).toNat)
       case atStart=>exact ⟨0,false,out,Nat.zero_le _,rfl,rfl,HL,hid (by simp [q9]),yZ,lg,HO3,hb4⟩
       case round=>
        obtain ⟨x,mb,o2,hx,rfl,rfl,HL2,HC,HP1,HP2,HP3,hb5⟩:=hrel
        by_cases hlx:x<q
        ·have s1:=HP1.out.get hlx
         have s2:=HP2.out.get hlx
         have s3:=HP3.out.get hlx
         have s4:=HP1.out.fz x
         have n1:gi≠w.heap.size:=by omega
         have n2:ga≠w.heap.size:=by omega
         have D1:=hid (HP1.out.set x false)
         have D2:=hid (HP2.out.other HP1.out n1 x (.bool false))
         have D3:=hid (HP3.out.other HP1.out n2 x (.bool false))
         have iQ:=hid (hb5.setCell (p:=⟨w.heap.size,x,none⟩) (Nat.le_refl _) (.bool false))
         have HDR:=hid (fun h=>acW HI.out HL.out HL2.out (q:=x) h)
         have Yv:Hid (o2 x=true→cnt (upd o2 x false) q+q9 (.bool true)≤cnt out q):=hid (fun h=>by have:=Ra h q hlx;have:=HC.out;simp [q9] at *;omega)
         generalize o2 x=ov at *
         generalize inn x=iv at *
         generalize ah x=av at *
         cases ov with
         | false=>
          go_wp2_with fail
          go_roundw
          case rel=>exact ⟨x+1,mb,o2,by omega,by go_num,rfl,HL2,HC,HP1,HP2,HP3,hb5⟩
          case measure=>simp [intOf];omega
         | true=>
          have PG:=hid (Yv.out rfl)
          clear Yv
          cases iv with
          | false=>
           have ll:=hid (HDR.out (Or.inl rfl))
           clear HDR
           go_wp2_with fail
           go_roundw
           case rel=>exact ⟨x+1,true,_,by omega,by go_num,rfl,ll,PG,D1,D2,D3,iQ.out⟩
           case measure=>simp [intOf];omega
          | true=>
           cases av with
           | false=>
            have ll:=hid (HDR.out (Or.inr rfl))
            clear HDR
            go_wp2_with fail
            go_roundw
            case rel=>exact ⟨x+1,true,_,by omega,by go_num,rfl,ll,PG,D1,D2,D3,iQ.out⟩
            case measure=>simp [intOf];omega
           | true=>
            clear HDR
            go_wp2_with fail
            go_roundw
            case rel=>exact ⟨x+1,mb,o2,by omega,by go_num,rfl,HL2,HC,HP1,HP2,HP3,hb5⟩
            case measure=>simp [intOf];omega
        ·obtain rfl:x=q:=by omega
         go_wp2_with fail
         go_roundw
         case rel=>exact ⟨mb,o2,rfl,HL2,HP1,hb5⟩
         case measure=>
          have h1:=Ef HP1.out x (Nat.le_refl _)
          have h2:=HC.out
          have h3:=yX.out
          simp only [q9] at *
          omega
end Go.Proofs.YtjagijohfkffiabGreat
