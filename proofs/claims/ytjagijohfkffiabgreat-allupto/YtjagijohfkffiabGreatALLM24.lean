import Derived.Test.YtjagijohfkffiabGreatALLM20
import Derived.Test.YtjagijohfkffiabGreatALLM23
import Derived.Deep.AppendLies
import Derived.BigQuiet
set_option maxHeartbeats 16000000
set_option maxRecDepth 100000
namespace Go.Proofs.YtjagijohfkffiabGreat
open Go.RowKit
set_option linter.unusedVariables false
def tC (w:World) (P:Nat) (ns:List Nd):Prop:=∀ x N,x<8→N<256→w.cell? ⟨P,x*256+N,none⟩=some (.int .u8 (eT ns x N:Nat))
theorem tC.below {B:Nat} {w w':World} {P:Nat} {ns:List Nd} (h:tC w P ns) (hb:Below B w w') (hlt:P<B):tC w' P ns:=fun x N hx hN=>(hb.cell (p:=⟨P,x*256+N,none⟩) hlt).trans (h x N hx hN)
structure mI (w:World) (gi n:Nat) (into:Nat→List (Nat × Nat)):Prop where
 lt:gi<w.heap.size
 row:∀ t,t<n→∃ ao cap,w.cell? ⟨gi,t,none⟩=some (.slice ao (into t).length cap)∧(0<(into t).length→∃ gr,ao=some ⟨gr,0,none⟩∧gr<w.heap.size ∧
  ∀ j st,(into t)[j]?=some st→w.cell? ⟨gr,j*2,none⟩=some (.int .i64 (st.1:Nat))∧w.cell? ⟨gr,j*2+1,none⟩=some (.int .i64 (st.2:Nat)))
theorem mI.below {w w':World} {gi n:Nat} {into:Nat→List (Nat × Nat)} (h:mI w gi n into) (hb:Below w.heap.size w w'):mI w' gi n into:=by
 refine ⟨Nat.lt_of_lt_of_le h.lt hb.size,fun t ht=>?_⟩
 obtain ⟨ao,cap,h1,h2⟩:=h.row t ht
 refine ⟨ao,cap,(hb.cell (p:=⟨gi,t,none⟩) h.lt).trans h1,fun h0=>?_⟩
 obtain ⟨gr,h3,h4,h5⟩:=h2 h0
 refine ⟨gr,h3,Nat.lt_of_lt_of_le h4 hb.size,fun j st hj=>?_⟩
 obtain ⟨h6,h7⟩:=h5 j st hj
 exact ⟨(hb.cell (p:=⟨gr,j*2,none⟩) h4).trans h6,(hb.cell (p:=⟨gr,j*2+1,none⟩) h4).trans h7⟩
structure rP (n:Nat) (into:Nat→List (Nat × Nat)):Prop where
 le:n≤8589934592
 st:∀ t,t<n→∀ st∈into t,st.1<n∧st.2<8
 len:∀ t,t<n→(into t).length≤1099511627776
def Ew (n:Nat) (ns:List Nd) (into:Nat→List (Nat × Nat)) (y a:Nat):Prop:=a<n*256∧∃ st∈into (a / 256),y=st.1*256+eT ns st.2 (a % 256)
theorem abm {n:Nat} {ns:List Nd} {into:Nat→List (Nat × Nat)} (a b:Nat) (h:Ew n ns into a b):b<n*256:=h.1
theorem IU {n:Nat} {ns:List Nd} {into:Nat→List (Nat × Nat)} (h8:ns.length≤8) (hp:rP n into) {y a:Nat} (h:Ew n ns into y a):y<n*256:=by
 obtain ⟨ha,st,hs,rfl⟩:=h
 have h1:=(hp.st (a / 256) (by omega) st hs).1
 have h2:=rJ h8 st.2 (a % 256)
 omega
theorem aba {f:Nat→Bool} {b y:Nat} (h:f y=true):upd f b true y=true:=by unfold upd;split <;> first | rfl | exact h
theorem upd_same (f:Nat→Bool) (b:Nat) (v:Bool):upd f b v b=v:=by simp [upd]
def uw (n:Nat) (ns:List Nd) (into:Nat→List (Nat × Nat)) (rl:List Nat) (found:Nat→Bool) (i:Nat):Prop:=∀ j a,j<i→rl[j]?=some a→∀ y,Ew n ns into y a→found y=true
theorem uw.add {n:Nat} {ns:List Nd} {into:Nat→List (Nat × Nat)} {rl:List Nat} {found:Nat→Bool} {i:Nat} (h:uw n ns into rl found i) (hi:i<rl.length) (y:Nat):uw n ns into (rl++[y]) (upd found y true) i:=fun j a hj ha z hz=>by
 rw [List.getElem?_append_left (by omega)] at ha
 exact aba (h j a hj ha z hz)
def rY (ns:List Nd) (ws:List (Nat × Nat)) (u:Nat) (found:Nat→Bool) (j:Nat):Prop:=∀ x st,x<j→ws[x]?=some st→found (st.1*256+eT ns st.2 u)=true
theorem rY.step {ns:List Nd} {ws:List (Nat × Nat)} {u j:Nat} {found:Nat→Bool} (h:rY ns ws u found j) {st:Nat × Nat} (hj:ws[j]?=some st) (hf:found (st.1*256+eT ns st.2 u)=true):rY ns ws u found (j+1):=fun x s2 hx hs=>by
 by_cases e:x=j
 ·subst e;rw [hj] at hs;cases hs;exact hf
 ·exact h x s2 (by omega) hs
theorem rY.add {ns:List Nd} {ws:List (Nat × Nat)} {u j:Nat} {found:Nat→Bool} (h:rY ns ws u found j) (y:Nat):rY ns ws u (upd found y true) j:=fun x s2 hx hs=>aba (h x s2 hx hs)
theorem Xu {n:Nat} {ns:List Nd} {into:Nat→List (Nat × Nat)} {rl:List Nat} {found:Nat→Bool} {k s u:Nat} (h:uw n ns into rl found k) (hk:rl[k]?=some (s*256+u)) (hu:u<256) (hi:rY ns (into s) u found (into s).length):uw n ns into rl found (k+1):=fun j a hj ha y hy=>by
 by_cases e:j=k
 ·subst e
  rw [hk] at ha
  cases ha
  obtain ⟨_,st,hs,rfl⟩:=hy
  rw [show (s*256+u) / 256=s by omega] at hs
  rw [show (s*256+u) % 256=u by omega]
  obtain ⟨x,hx,ex⟩:=List.getElem_of_mem hs
  exact hi x st hx (by rw [List.getElem?_eq_getElem hx,ex])
 ·exact h j a (by omega) ha y hy
/-! ### What seek has found -/
structure oO (E:Nat→Nat→Prop) (N:Nat) (goal:Nat→Bool) (ls:List (Nat × Nat)) (found:Nat→Bool):Prop where
 lead:GV E N goal (ls.map Prod.fst) found
 gl:(az goal N).length≤ls.length
 pre:∀ (i x:Nat),(az goal N)[i]?=some x→ls[i]?=some (x,i)
 link:∀ (i a t:Nat),(az goal N).length≤i→ls[i]?=some (a,t)→t<i∧found a=true∧∃ b t':Nat,ls[t]?=some (b,t')∧E a b
 in_:∀ x,found x=true→∃ i t:Nat,(az goal N).length≤i∧ls[i]?=some (x,t)
def rq (gs:List Nat) (k:Nat):List (Nat × Nat):=(List.range k).map fun i=>(gs.getD i 0,i)
theorem V9 (gs:List Nat) (k:Nat):rq gs (k+1)=rq gs k++[(gs.getD k 0,k)]:=by simp [rq,List.range_succ]
theorem Er (gs:List Nat) (k:Nat):(rq gs k).length=k:=by simp [rq]
theorem ZL (gs:List Nat):(rq gs gs.length).map Prod.fst=gs:=by
 apply List.ext_getElem
 ·simp [rq]
 ·intro i h1 h2
  simp [rq,List.getD,List.getElem?_eq_getElem h2]
theorem Sr (E:Nat→Nat→Prop) (N:Nat) (goal:Nat→Bool):oO E N goal (rq (az goal N) (az goal N).length) (fun _=>false):=by
 refine ⟨by rw [ZL];exact TP E N goal,by rw [Er];exact Nat.le_refl _,fun i x h=>?_,fun i a t h1 h2=>?_,fun x h=>(by cases h)⟩
 ·have hi:=(List.getElem?_eq_some_iff.1 h).1
  have e:(az goal N)[i]=x:=by rw [List.getElem?_eq_getElem hi] at h;exact Option.some.inj h
  simp [rq,List.getD,hi,e]
 ·have:=(List.getElem?_eq_some_iff.1 h2).1
  rw [Er] at this
  omega
theorem Zd {E:Nat→Nat→Prop} {N:Nat} {goal found:Nat→Bool} {ls:List (Nat × Nat)} (h:oO E N goal ls found) {k a t y:Nat} (ha:ls[k]?=some (a,t)) (he:E y a) (hy:y<N) (hf:found y=false):oO E N goal (ls++[(y,k)]) (upd found y true):=by
 have hk:=(List.getElem?_eq_some_iff.1 ha).1
 have hu:∀ x,found x=true→upd found y true x=true:=fun x hx=>by unfold upd;split <;> first | rfl | exact hx
 have old:∀ {i:Nat} {p:Nat × Nat},ls[i]?=some p→(ls++[(y,k)])[i]?=some p:=fun {i p} hp=>by
  rw [List.getElem?_append_left (List.getElem?_eq_some_iff.1 hp).1];exact hp
 refine ⟨?_,by rw [List.length_append];have:=h.gl;omega,fun i x hi=>old (h.pre i x hi),fun i b s h1 h2=>?_,fun x hx=>?_⟩
 ·rw [List.map_append]
  exact ZP h.lead (List.mem_map.2 ⟨(a,t),List.mem_of_getElem? ha,rfl⟩) he hy hf
 ·by_cases c:i<ls.length
  ·rw [List.getElem?_append_left c] at h2
   obtain ⟨h3,h4,b2,t2,h5,h6⟩:=h.link i b s h1 h2
   exact ⟨h3,hu _ h4,b2,t2,old h5,h6⟩
  ·have c2:=(List.getElem?_eq_some_iff.1 h2).1
   simp at c2
   have e:i=ls.length:=by omega
   subst e
   simp at h2
   obtain ⟨rfl,rfl⟩:=h2
   exact ⟨hk,by simp [upd],a,t,old ha,he⟩
 ·by_cases e:x=y
  ·subst e
   exact ⟨ls.length,k,h.gl,by simp⟩
  ·obtain ⟨i,s,h1,h2⟩:=h.in_ x (by unfold upd at hx;rw [if_neg e] at hx;exact hx)
   exact ⟨i,s,h1,old h2⟩
theorem mg {E:Nat→Nat→Prop} {N:Nat} {goal found:Nat→Bool} {ls:List (Nat × Nat)} (h:oO E N goal ls found):ls.length≤(az goal N).length+N:=by
 have h1:=h.lead.len
 have h2:=yN found N
 rw [List.length_map] at h1
 rw [pJ]
 omega
def iJ (ls:List (Nat × Nat)):List Value:=ls.flatMap fun p=>[.int .i64 (p.1 / 256:Nat),.int .u8 (p.1 % 256:Nat),.int .i64 (p.2:Nat)]
theorem Dr (ls:List (Nat × Nat)) (p:Nat × Nat):iJ (ls++[p])=iJ ls++[.int .i64 (p.1 / 256:Nat),.int .u8 (p.1 % 256:Nat),.int .i64 (p.2:Nat)]:=by simp [iJ]
theorem Ab {ls:List (Nat × Nat)} {i:Nat} {p:Nat × Nat} (h:ls[i]?=some p):(iJ ls)[i*3]?=some (.int .i64 (p.1 / 256:Nat))∧(iJ ls)[i*3+1]?=some (.int .u8 (p.1 % 256:Nat))∧(iJ ls)[i*3+2]?=some (.int .i64 (p.2:Nat)):=by
 induction ls generalizing i with
 | nil=>simp at h
 | cons q qs ih=>
  cases i with
  | zero=>simp at h;subst h;simp [iJ]
  | succ i=>
   have:=ih (by simpa using h)
   rw [show iJ (q::qs)=[.int .i64 (q.1 / 256:Nat),.int .u8 (q.1 % 256:Nat),.int .i64 (q.2:Nat)]++iJ qs by simp [iJ]]
   rw [List.getElem?_append_right (by simp;omega),List.getElem?_append_right (by simp;omega),List.getElem?_append_right (by simp;omega)]
   simpa [show (i+1)*3 - 3=i*3 by omega,show (i+1)*3+1 - 3=i*3+1 by omega,show (i+1)*3+2 - 3=i*3+2 by omega] using this
theorem Tryz.ZX:(Tryz.prog.info? 221).map (fun i=>(i.zero,i.size,i.bytes))=some (some (.agg #[.int .i64 0,.int .u8 0,.int .i64 0]),3,24):=by kernel_rfl
theorem uo (w:World) (cs:List Value) (t:TypeId):∀ j u,cs[j]?=some u→(w.alloc (.cells cs.toArray t)).cell? ((⟨w.heap.size,0,none⟩:Addr).add j)=some u:=fun j u hj=>by
 rw [Addr.add_mid,cell_of_row (w.alloc (.cells cs.toArray t)) w.heap.size (0+j) cs.toArray t (0,0) (heap_alloc_last w _)]
 simpa using hj
theorem tX {fn:Func} {p b:Nat} {ty:TypeId} {d:TypeDesc} {cs:List Value} {a:Act} {w:World} {R:Ending→World→Prop} (h:fn.results=#[.cell p ty]) (hd:a.defers=[]) (hp:a.tmps.getD p undef=.pointer (some ⟨b,0,none⟩))
  (hg:w.rangeAt b 0 cs) (hu:Tryz.prog.underlying ty=some d) (hr:d.isRow=true) (hs:(Tryz.prog.info? ty).map (·.size)=some cs.length) (hR:R (.returned (.agg cs.toArray)) w):bodyPost Tryz.prog fn R .ret a w:=by
 refine bodyPost_ret (v:=.agg cs.toArray) ?_ hd hR
 rw [mi h,hp]
 simp only [asAddr,Sem.run_pure,Result.andThen_ok]
 exact run_loadVar_mid w b 0 _ cs d hg hu hr hs
theorem nO {w:World} {b:Nat} {x0 x1 x2:Value} (d0:w.cell? ⟨b,0,none⟩=some x0) (d1:w.cell? ⟨b,1,none⟩=some x1) (d2:w.cell? ⟨b,2,none⟩=some x2) (y0 y1 y2:Value) :
  (((w.setCell ⟨b,0,none⟩ y0).setCell ⟨b,1,none⟩ y1).setCell ⟨b,2,none⟩ y2).rangeAt b 0 [y0,y1,y2]:=by
 have o:∀ (w:World) (i j:Nat) (u:Value),i≠j→(w.setCell ⟨b,i,none⟩ u).cell? ⟨b,j,none⟩=w.cell? ⟨b,j,none⟩:=fun w i j u h=>World.cell?_setCell_other _ _ _ _ (fun q=>h (by have:=congrArg Addr.off q;simpa using this))
 intro j v hj
 rw [Nat.zero_add]
 cases j with
 | zero=>
  simp at hj
  subst hj
  rw [o _ 2 0 _ (by omega),o _ 1 0 _ (by omega)]
  exact World.cell?_setCell_same _ _ _ d0
 | succ j=>cases j with
  | zero=>
   simp at hj
   subst hj
   rw [o _ 2 1 _ (by omega)]
   exact World.cell?_setCell_same _ _ _ (by rw [o _ 0 1 _ (by omega)];exact d1)
  | succ j=>cases j with
   | zero=>
    simp at hj
    subst hj
    exact World.cell?_setCell_same _ _ _ (by rw [o _ 1 2 _ (by omega),o _ 0 2 _ (by omega)];exact d2)
   | succ j=>simp at hj
theorem Tryz.Su:(Tryz.prog.info? 171).map (·.size)=some 3:=by kernel_rfl
def ae8 (n:Nat) (ns:List Nd) (into:Nat→List (Nat × Nat)) (goal:Nat→Bool) (w:World) (e:Ending) (w':World):Prop:=
 ∃ g' found ls v,e=.returned (.agg #[.slice (some ⟨g',0,none⟩) n n,v,.int .i64 ((az goal (n*256)).length:Nat)])∧w.heap.size≤g'∧g'<w'.heap.size∧bC w' g' (n*256) found∧(∀ x,found x=true↔eu (Ew n ns into) (fun y=>goal y=true) x) ∧
  oO (Ew n ns into) (n*256) goal ls found∧w'.ownsRow w.heap.size 221 3 v ls.length (iJ ls)∧Below w.heap.size w w'
theorem wh (P gi n icap g cap:Nat) (ns:List Nd) (into:Nat→List (Nat × Nat)) (goal:Nat→Bool) (w:World) (h8:ns.length≤8) (hp:rP n into) (hbm:tC w P ns) (hP:P<w.heap.size) (hw:mI w gi n into) (hgl:bC w g (n*256) goal) (hg:g<w.heap.size) :
  Calls Tryz.prog 95 #[.pointer (some ⟨P,0,none⟩),.agg #[.slice (some ⟨gi,0,none⟩) n icap],.slice (some ⟨g,0,none⟩) n cap] w (ae8 n ns into goal w):=by
 have hn:=hp.le
 have HP:=hid hp
 have HM:=hid hbm
 have HW:=hid hw
 have HG:=hid hgl
 have hgi:=hw.lt
 obtain ⟨i0,hi,hz0,hz1,hz2⟩:=info_parts Tryz.ZX
 clear hp hbm hw hgl
 go_enter Tryz.func95,Tryz.ntmps95
 go_wp2_with (at_make;go_must (refine iq _ rfl (.tmp 17) rfl n rfl (by omega) ?_))
 intro w1 F1 hlt1 hb1
 have c4:Hid (w1.cell? ⟨w.heap.size,0,none⟩=some (.slice (some ⟨gi,0,none⟩) n icap)):=hid ((hb1.cell (p:=⟨w.heap.size,0,none⟩) (by show w.heap.size<w.heap.size+1+1;omega)).trans (by simp))
 have F7:=hid F1
 have hs1:=hb1.size
 have T61:=hid ((bK (w.alloc (.cells #[.slice (some ⟨gi,0,none⟩) n icap] 159)) (.slice none 0 0) (.slice none 0 0) (.int .i64 0) 171).below hb1 (by first | omega | (simp only [World.size_alloc];omega)))
 have HB1:=hid ((((Below.refl w.heap.size w).alloc (Nat.le_refl _) (.cells #[.slice (some ⟨gi,0,none⟩) n icap] 159)).alloc (by first | omega | (simp only [World.size_alloc];omega)) (.cells #[.slice none 0 0,.slice none 0 0,.int .i64 0] 171)).trans (hb1.mono (by first | omega | (simp only [World.size_alloc];omega))))
 clear F1 hb1
 go_wp2_with fail
 have ba:=(Below.refl w1.heap.size w1).alloc (Nat.le_refl _) (.cells #[.slice (some ⟨w.heap.size+1+1,0,none⟩) n n,.slice none 0 0,.int .i64 0] 171)
 refine (Nb g n cap goal _ (by omega) ((HG.out.below HB1.out hg).below ba (by omega)) (by simp;omega)).mono ?_
 rintro e w2 ⟨v0,rfl,eG,hb2⟩
 simp only [World.size_alloc] at eG hb2 hs1 hlt1
 have TS2:=hid ((bK w1 (.slice (some ⟨w.heap.size+1+1,0,none⟩) n n) (.slice none 0 0) (.int .i64 0) 171).below hb2 (by omega))
 have bb:=ba.trans (hb2.mono (show w1.heap.size≤w1.heap.size+1 by omega))
 have F2:=hid (F7.out.below bb (by omega))
 have c42:Hid (w2.cell? ⟨w.heap.size,0,none⟩=some (.slice (some ⟨gi,0,none⟩) n icap)):=hid ((bb.cell (p:=⟨w.heap.size,0,none⟩) (by show w.heap.size<w1.heap.size;omega)).trans c4.out)
 have T62:=hid (T61.out.below bb (by simp;omega))
 have HB2:=hid (HB1.out.trans (bb.mono (by omega)))
 have O2:=hid eG
 have hs2:=hb2.size
 simp only [World.size_alloc] at hs2
 clear eG hb2 ba bb HB1 F7 c4 T61
 have hgs:=Ny goal (n*256)
 generalize hgE:az goal (n*256)=gs at *
 generalize hSE:w1.heap.size=S at *
 obtain ⟨aog,gcap,rfl⟩:=ag O2.out
 simp only [World.size_alloc] at T62
 go_wp2_with fail
 go_loopw [23] (fun i wq=>∃ (k:Nat) (v:Value),k≤gs.length∧i=.int .i64 k∧Hid (Three wq S (.slice (some ⟨w.heap.size+1+1,0,none⟩) n n) v (.int .i64 0))∧Hid (wq.ownsRow (S+1) 221 3 v k (iJ (rq gs k)))∧Hid (wq.ownsRow (S+1) 166 2 (.slice aog gs.length gcap) gs.length (bM gs))∧Hid (bC wq (w.heap.size+1+1) (n*256) (fun _=>false))∧Hid (wq.cell? ⟨w.heap.size,0,none⟩=some (.slice (some ⟨gi,0,none⟩) n icap))∧Hid (Three wq (w.heap.size+1) (.slice none 0 0) (.slice none 0 0) (.int .i64 0))∧Hid (Below w.heap.size w wq)∧S+1≤wq.heap.size) (fun i _=>gs.length - (intOf i).toNat)
 case atStart=>exact ⟨0,_,Nat.zero_le _,rfl,TS2,hid (World.ownsRow_nil _ _ _ _),O2,F2,c42,T62,HB2,hs2⟩
 case round=>
  obtain ⟨k,v,hk,rfl,HT,HO,HL,HF,HC,H6,HB,hsz⟩:=hrel
  rename World=>W0
  have ts1:=HT.out.c1
  have ts2:=HT.out.c2
  have tf1:=HT.out.fz 1 (by omega)
  by_cases hlk:k<gs.length
  ·obtain ⟨g1,rfl,hg1,hg1s,hcp⟩:=dH HL.out (by omega)
   obtain ⟨x,hx⟩:∃ x,gs[k]?=some x:=⟨gs[k],List.getElem?_eq_getElem hlk⟩
   have y0:W0.cell? ⟨g1,k*2,none⟩=some (.int .i64 (x / 256:Nat)):=by rw [HL.out.cellAt (k*2) (by omega),(uX hx).1]
   have y1:W0.cell? ⟨g1,k*2+1,none⟩=some (.int .u8 (x % 256:Nat)):=by rw [HL.out.cellAt (k*2+1) (by omega),(uX hx).2]
   have HX:=hid hx
   clear hx
   generalize hs:x / 256=s at *
   generalize hu:x % 256=u at *
   have DJ:=hid (show s=x / 256∧u=x % 256 from ⟨hs.symm,hu.symm⟩)
   clear hs hu
   obtain ⟨aov,cpv,rfl⟩:=ag HO.out
   have lm:S<W0.heap.size:=by omega
   have PK:=hid (fun q h=>(HO.out.lt q h).1)
   go_wp2_with (at_builtin;go_must (refine wpList_append_lies _ rfl (.tmp 29) (.tmp 33) 169 rfl (S+1) 221 i0 (.agg #[.int .i64 0,.int .u8 0,.int .i64 0]) 3 24 Tryz.underlying169 hi hz0 hz1 hz2 rfl (by decide) _ k (iJ (rq gs k)) rfl ((HO.out.alloc _).alloc _) ⟨W0.heap.size+1,0,none⟩ 1 1 [.int .i64 (s:Nat),.int .u8 (u:Nat),.int .i64 (k:Nat)] rfl rfl ?c1 ?c2 (by decide) ?c3 ?c4 ?c5 (W0.heap.size+2) ?c6 ?_))
   case c1=>exact (by simpa using uo (W0.alloc (.cells #[.int .i64 (s:Nat),.int .u8 (u:Nat)] 166)) [.int .i64 (s:Nat),.int .u8 (u:Nat),.int .i64 (k:Nat)] 221)
   case c2=>intro y hy;simp at hy;rcases hy with rfl | rfl | rfl <;> rfl
   case c3=>unfold maxLen;omega
   case c4=>omega
   case c5=>simp;omega
   case c6=>simp
   intro gg cc w5 hown hgrow hat hlt5
   have bd:=((Below.refl W0.heap.size W0).alloc (Nat.le_refl _) (.cells #[.int .i64 (s:Nat),.int .u8 (u:Nat)] 166)).alloc (by simp) (.cells #[.int .i64 (s:Nat),.int .u8 (u:Nat),.int .i64 (k:Nat)] 221)
   have bs:Below (S+1) W0 w5:=(bd.mono (by omega)).grown hgrow (by simp;omega) (fun q h=>PK.out q h)
   have T5:=hid (HT.out.below bs (by omega))
   have t51:=T5.out.c1
   have tf5:=T5.out.fz 1 (by omega)
   have D1:=hid (T5.out.set1 (.slice (some ⟨gg,0,none⟩) (k+1) cc))
   have D2:Hid ((w5.setCell ⟨S,1,none⟩ (.slice (some ⟨gg,0,none⟩) (k+1) cc)).ownsRow (S+1) 221 3 (.slice (some ⟨gg,0,none⟩) (k+1) cc) (k+1) (iJ (rq gs (k+1)))):=hid (ak (by
    rw [V9,Dr,show gs.getD k 0=x by simp [List.getD,HX.out],←DJ.out.1,←DJ.out.2]
    exact hown) (by omega) _ _)
   have HL5:=((HL.out.alloc (.cells #[.int .i64 (s:Nat),.int .u8 (u:Nat)] 166)).alloc (.cells #[.int .i64 (s:Nat),.int .u8 (u:Nat),.int .i64 (k:Nat)] 221)).kept hgrow (aD ((HL.out.alloc (.cells #[.int .i64 (s:Nat),.int .u8 (u:Nat)] 166)).alloc (.cells #[.int .i64 (s:Nat),.int .u8 (u:Nat),.int .i64 (k:Nat)] 221)) ((HO.out.alloc _).alloc _) (by decide))
   have D3:=hid (ak HL5 (show S<S+1 by omega) 1 (.slice (some ⟨gg,0,none⟩) (k+1) cc))
   have D4:=hid ((HF.out.below bs (by omega)).other ⟨S,1,none⟩ (.slice (some ⟨gg,0,none⟩) (k+1) cc) (by show S≠w.heap.size+1+1;omega))
   have D5:Hid ((w5.setCell ⟨S,1,none⟩ (.slice (some ⟨gg,0,none⟩) (k+1) cc)).cell? ⟨w.heap.size,0,none⟩=some (.slice (some ⟨gi,0,none⟩) n icap)):=hid (by
    rw [World.cell?_setCell_other _ _ _ _ (fun e=>by have:=congrArg Addr.block e;simp at this;omega)]
    exact (bs.cell (p:=⟨w.heap.size,0,none⟩) (by show w.heap.size<S+1;omega)).trans HC.out)
   have D6:=hid ((H6.out.below bs (by omega)).other (k:=S) (o:=1) (by omega) (.slice (some ⟨gg,0,none⟩) (k+1) cc))
   have D7:=hid ((HB.out.trans (bs.mono (by omega))).setCell (p:=⟨S,1,none⟩) (by show w.heap.size≤S;omega) (.slice (some ⟨gg,0,none⟩) (k+1) cc))
   have hz5:S+1≤w5.heap.size:=Nat.le_trans hsz bs.size
   clear hown hgrow hat bs bd HL5 T5 HT HO HL HF HC H6 HB y0 y1 ts1 ts2 tf1
   go_wp2_with fail
   go_roundw
   case rel=>exact ⟨k+1,_,by omega,by go_num,D1,D2,D3,D4,D5,D6,D7,by simp;omega⟩
   case measure=>simp [intOf];omega
  ·obtain rfl:k=gs.length:=by omega
   have tf2:=HT.out.fz 2 (by omega)
   obtain ⟨aov,cpv,rfl⟩:=ag HO.out
   have E1:=hid (HT.out.set2 (.int .i64 (gs.length:Nat)))
   have E2:=hid (ak HO.out (show S<S+1 by omega) 2 (.int .i64 (gs.length:Nat)))
   have E4:=hid (HF.out.other ⟨S,2,none⟩ (.int .i64 (gs.length:Nat)) (by show S≠w.heap.size+1+1;omega))
   have E5:Hid ((W0.setCell ⟨S,2,none⟩ (.int .i64 (gs.length:Nat))).cell? ⟨w.heap.size,0,none⟩=some (.slice (some ⟨gi,0,none⟩) n icap)):=hid (by
    rw [World.cell?_setCell_other _ _ _ _ (fun e=>by have:=congrArg Addr.block e;simp at this;omega)]
    exact HC.out)
   have E6:=hid (H6.out.other (k:=S) (o:=2) (by omega) (.int .i64 (gs.length:Nat)))
   have E7:=hid (HB.out.setCell (p:=⟨S,2,none⟩) (by show w.heap.size≤S;omega) (.int .i64 (gs.length:Nat)))
   have HI0:Hid (oO (Ew n ns into) (n*256) goal (rq gs gs.length) (fun _=>false)):=hid (by rw [←hgE];exact Sr _ _ _)
   clear HT HO HL HF HC H6 HB
   go_wp2_with fail
   go_loopw [10] (fun i wq=>∃ (k:Nat) (ls:List (Nat × Nat)) (found:Nat→Bool) (v:Value),k≤ls.length∧i=.int .i64 k∧Hid (oO (Ew n ns into) (n*256) goal ls found)∧Hid (uw n ns into (ls.map Prod.fst) found k)∧Hid (Three wq S (.slice (some ⟨w.heap.size+1+1,0,none⟩) n n) v (.int .i64 (gs.length:Nat)))∧Hid (wq.ownsRow (S+1) 221 3 v ls.length (iJ ls))∧Hid (bC wq (w.heap.size+1+1) (n*256) found)∧Hid (wq.cell? ⟨w.heap.size,0,none⟩=some (.slice (some ⟨gi,0,none⟩) n icap))∧Hid (Three wq (w.heap.size+1) (.slice none 0 0) (.slice none 0 0) (.int .i64 0))∧Hid (Below w.heap.size w wq)∧S+1≤wq.heap.size) (fun i _=>2*(n*256) - (intOf i).toNat)
   case atStart=>exact ⟨0,_,_,_,Nat.zero_le _,rfl,HI0,hid (fun j a hj=>by omega),E1,by rw [Er];exact E2,E4,E5,E6,E7,by simp;omega⟩
   case round=>
    obtain ⟨k,ls,found,v,hk,rfl,HI,HD,HT,HO,HF,HC,H6,HB,hsz⟩:=hrel
    rename World=>W0
    clear E1 E2 E4 E5 E6 E7 HI0 ts1 ts2 tf1 tf2
    have hrl:=mg HI.out
    rw [hgE] at hrl
    have t0:=HT.out.c0
    have t1:=HT.out.c1
    have t2:=HT.out.c2
    obtain ⟨ao,cp,rfl⟩:=ag HO.out
    by_cases hlk:k<ls.length
    ·obtain ⟨g1,rfl,hg1,hg1s,hcp⟩:=dH HO.out (by omega)
     obtain ⟨s,u,tw,hs,hu,hlsk⟩:∃ s u tw,s<n∧u<256∧ls[k]?=some (s*256+u,tw):=by
      have h1:=(HI.out.lead.sound ls[k].1 (List.mem_map.2 ⟨ls[k],List.getElem_mem hlk,rfl⟩)).1
      refine ⟨ls[k].1 / 256,ls[k].1 % 256,ls[k].2,by omega,by omega,?_⟩
      rw [List.getElem?_eq_getElem hlk,show ls[k].1 / 256*256+ls[k].1 % 256=ls[k].1 by omega]
     have y0:W0.cell? ⟨g1,k*3,none⟩=some (.int .i64 (s:Nat)):=by
      rw [HO.out.cellAt (k*3) (by omega),(Ab hlsk).1];simp only;rw [show (s*256+u) / 256=s by omega]
     have y1:W0.cell? ⟨g1,k*3+1,none⟩=some (.int .u8 (u:Nat)):=by
      rw [HO.out.cellAt (k*3+1) (by omega),(Ab hlsk).2.1];simp only;rw [show (s*256+u) % 256=u by omega]
     have hc:=HC.out
     obtain ⟨aor,nE,r1,r2⟩:=HW.out.row s hs
     have r1':=(HB.out.cell (p:=⟨gi,s,none⟩) hgi).trans r1
     have HR2:=hid r2
     have hln:=HP.out.len s hs
     have HST:=hid (HP.out.st s hs)
     have Hm:=hid hlsk
     clear r1 r2 hlsk
     generalize hlnE:(into s).length=ln at *
     have bg:=hid hlnE
     clear hlnE
     have x1:w.heap.size<W0.heap.size:=by omega
     have x2:gi<W0.heap.size:=by omega
     have x3:P<W0.heap.size:=by omega
     have x4:w.heap.size+1+1<W0.heap.size:=by omega
     have x5:S<W0.heap.size:=by omega
     have dk:decide (n≤s)=false:=by simp;omega
     have b0:=(Below.refl W0.heap.size W0).alloc (Nat.le_refl _) (.cells #[.int .i64 (s:Nat),.int .u8 (u:Nat)] 166)
     have A1:=hid (HT.out.below b0 x5)
     have A2:=hid (HF.out.below b0 x4)
     have A3:Hid ((W0.alloc (.cells #[.int .i64 (s:Nat),.int .u8 (u:Nat)] 166)).cell? ⟨w.heap.size,0,none⟩=some (.slice (some ⟨gi,0,none⟩) n icap)):=hid ((b0.cell (p:=⟨w.heap.size,0,none⟩) x1).trans HC.out)
     have A4:=hid (H6.out.below b0 (by omega))
     have A5:=hid (HB.out.alloc (by omega) (.cells #[.int .i64 (s:Nat),.int .u8 (u:Nat)] 166))
     have A6:=hid (HO.out.alloc (.cells #[.int .i64 (s:Nat),.int .u8 (u:Nat)] 166))
     clear b0 HT HF HC H6 HB HO
     go_wp2_with fail
     go_loopw [67] (fun i wq=>∃ (j:Nat) (ls:List (Nat × Nat)) (found:Nat→Bool) (v:Value),j≤ln∧i=.int .i64 j∧k<ls.length∧Hid (ls[k]?=some (s*256+u,tw))∧Hid (oO (Ew n ns into) (n*256) goal ls found)∧Hid (uw n ns into (ls.map Prod.fst) found k)∧Hid (rY ns (into s) u found j)∧Hid (Three wq S (.slice (some ⟨w.heap.size+1+1,0,none⟩) n n) v (.int .i64 (gs.length:Nat)))∧Hid (wq.ownsRow (S+1) 221 3 v ls.length (iJ ls))∧Hid (v.ownBlock≠some W0.heap.size)∧Hid (bC wq (w.heap.size+1+1) (n*256) found)∧Hid (wq.cell? ⟨w.heap.size,0,none⟩=some (.slice (some ⟨gi,0,none⟩) n icap))∧Hid (Three wq (w.heap.size+1) (.slice none 0 0) (.slice none 0 0) (.int .i64 0))∧Hid (wq.cell? ⟨W0.heap.size,1,none⟩=some (.int .u8 (u:Nat)))∧Hid (Below w.heap.size w wq)∧W0.heap.size<wq.heap.size) (fun i _=>ln - (intOf i).toNat)
     case atStart=>
      exact ⟨0,ls,found,_,Nat.zero_le _,rfl,hlk,Hm,HI,HD,hid (fun x st hx=>by omega),A1,A6,hid (by simp [Value.ownBlock];omega),A2,A3,A4,hid (by simp),A5,by simp⟩
     case round=>
      obtain ⟨j,ls,found,v,hj,rfl,hlk,Hm,HI,HD,HN,HT,HO,HV,HF,HC,H6,HU,HB,iP⟩:=hrel
      rename World=>W3
      clear A1 A2 A3 A4 A5 A6
      by_cases hlj:j<ln
      ·obtain ⟨gr,e,hgr,hcr⟩:=HR2.out (by omega)
       subst e
       obtain ⟨⟨fr,l⟩,hst⟩:∃ st,(into s)[j]?=some st:=⟨(into s)[j]'(by rw [bg.out];exact hlj),List.getElem?_eq_getElem (by rw [bg.out];exact hlj)⟩
       obtain ⟨hfr,hl⟩:=HST.out _ (List.mem_of_getElem? hst)
       have z:=hcr j _ hst
       have z0:=(HB.out.cell (p:=⟨gr,j*2,none⟩) hgr).trans z.1
       have z1:=(HB.out.cell (p:=⟨gr,j*2+1,none⟩) hgr).trans z.2
       dsimp only at hfr hl z0 z1
       have bm:=(HM.out.below HB.out hP) l u hl hu
       have hbv:=rJ h8 l u
       have fc:=HF.out.c (fr*256+eT ns l u) (by omega)
       have ff:=HF.out.f (fr*256+eT ns l u) (by omega)
       have hcu:=HU.out
       have t0:=HT.out.c0
       have t1:=HT.out.c1
       have HEW:Hid (Ew n ns into (fr*256+eT ns l u) (s*256+u)):=hid ⟨by omega,(fr,l),by rw [show (s*256+u) / 256=s by omega];exact List.mem_of_getElem? hst,by rw [show (s*256+u) % 256=u by omega]⟩
       have Da:=hid (fun (f2:Nat→Bool) (k:rY ns (into s) u f2 j) (hf:f2 (fr*256+eT ns l u)=true)=>k.step hst hf)
       have hN:=IU h8 HP.out HEW.out
       have x5:P<W3.heap.size:=by omega
       have x6:w.heap.size+1+1<W3.heap.size:=by omega
       have x7:gr<W3.heap.size:=by omega
       have x8:S<W3.heap.size:=by omega
       have hrl2:=mg HI.out
       rw [hgE] at hrl2
       have bw:=hid (((Below.refl W3.heap.size W3).alloc (Nat.le_refl _) (.cells #[.int .i64 (fr:Nat),.int .i64 (l:Nat)] 224)))
       obtain ⟨ao,cp,rfl⟩:=ag HO.out
       clear z hst hcr
       generalize eT ns l u=bv at *
       cases JZ:found (fr*256+bv) with
       | true=>
        have uM:=hid (Da.out found HN.out JZ)
        rw [JZ] at fc
        clear JZ Da
        go_wp2_with fail
        go_quiet (fail)
        go_wp2_with fail
        go_roundw
        case rel=>
         have bd:=below_drewN bw.out nq
         exact ⟨j+1,ls,found,_,by omega,by go_num,hlk,Hm,HI,HD,uM,hid (HT.out.below bd x8),hid (ae HO.out bd),HV,hid (HF.out.below bd x6),hid ((bd.cell (p:=⟨w.heap.size,0,none⟩) (by show w.heap.size<_;omega)).trans HC.out),hid (H6.out.below bd (by omega)),hid ((bd.cell (p:=⟨W0.heap.size,1,none⟩) iP).trans HU.out),hid (HB.out.trans (bd.mono (by omega))),Nat.lt_of_lt_of_le iP bd.size⟩
        case measure=>simp [intOf];omega
       | false=>
        rw [JZ] at fc
        go_wp2_with fail
        go_quiet (fail)
        go_wp2_with (at_builtin;go_must (refine wpList_append_lies _ rfl (.tmp 98) (.tmp 105) 169 rfl (S+1) 221 i0 (.agg #[.int .i64 0,.int .u8 0,.int .i64 0]) 3 24 Tryz.underlying169 hi hz0 hz1 hz2 rfl (by decide) _ _ _ rfl ((ak (ae HO.out (below_drewN bw.out nq)) (k:=w.heap.size+1+1) (by omega) (fr*256+bv) (.bool true)).alloc _) ⟨W3.heap.size+1,0,none⟩ 1 1 [.int .i64 (fr:Nat),.int .u8 (bv:Nat),.int .i64 (k:Nat)] rfl rfl ?c1 ?c2 (by decide) ?c3 ?c4 ?c5 (W3.heap.size+2) ?c6 ?_))
        case c1=>exact (by simpa using uo (((W3.alloc (.cells #[.int .i64 (fr:Nat),.int .i64 (l:Nat)] 224)).drewN nq).setCell ⟨w.heap.size+1+1,fr*256+bv,none⟩ (.bool true)) [.int .i64 (fr:Nat),.int .u8 (bv:Nat),.int .i64 (k:Nat)] 221)
        case c2=>intro y hy;simp at hy;rcases hy with rfl | rfl | rfl <;> rfl
        case c3=>unfold maxLen;omega
        case c4=>omega
        case c5=>simp;omega
        case c6=>simp
        intro gg cc w5 hown hgrow hat hlt5
        have bd:=below_drewN bw.out nq
        generalize hWd:(W3.alloc (.cells #[.int .i64 (fr:Nat),.int .i64 (l:Nat)] 224)).drewN nq=Wd at *
        have hsd:Wd.heap.size=W3.heap.size+1:=by rw [←hWd];simp
        clear hWd
        have FSt:=(HF.out.below bd x6).set (fr*256+bv) true
        have bs:Below (S+1) (Wd.setCell ⟨w.heap.size+1+1,fr*256+bv,none⟩ (.bool true)) w5:=((Below.refl (S+1) _).alloc (by simp;omega) _).grown hgrow (by simp;omega) (fun k h=>(HO.out.lt k h).1)
        have F5:=(FSt.below bs (by omega))
        have C5:w5.cell? ⟨w.heap.size,0,none⟩=some (.slice (some ⟨gi,0,none⟩) n icap):=by
         rw [bs.cell (p:=⟨w.heap.size,0,none⟩) (by show w.heap.size<S+1;omega),World.cell?_setCell_other _ _ _ _ (fun e=>by have:=congrArg Addr.block e;simp at this;omega)]
         exact (bd.cell (p:=⟨w.heap.size,0,none⟩) (by show w.heap.size<_;omega)).trans HC.out
        have U5:w5.cell? ⟨W0.heap.size,1,none⟩=some (.int .u8 (u:Nat)):=by
         refine hgrow.cell ?_ (fun e=>HV.out e.symm)
         rw [World.cell?_alloc_lt _ _ _ (by simp;omega),World.cell?_setCell_other _ _ _ _ (fun e=>by have:=congrArg Addr.block e;simp at this;omega)]
         exact (bd.cell (p:=⟨W0.heap.size,1,none⟩) iP).trans HU.out
        have T5:=((HT.out.below bd x8).other (k:=w.heap.size+1+1) (o:=fr*256+bv) (by omega) (.bool true)).below bs (by omega)
        have S5:=((H6.out.below bd (by omega)).other (k:=w.heap.size+1+1) (o:=fr*256+bv) (by omega) (.bool true)).below bs (by omega)
        have B5:=(((HB.out.trans (bd.mono (by omega))).setCell (p:=⟨w.heap.size+1+1,fr*256+bv,none⟩) (by show w.heap.size≤w.heap.size+1+1;omega) (.bool true)).trans (bs.mono (by omega)))
        have V5:Hid ((Value.slice (some ⟨gg,0,none⟩) (ls.length+1) cc).ownBlock≠some W0.heap.size):=hid (by
         rcases hat with h | h
         ·have h2:=HV.out
          rw [h] at h2
          exact h2
         ·subst h
          simp [Value.ownBlock];omega)
        have hz5:W0.heap.size<w5.heap.size:=by
         have:=hgrow.size
         simp at this
         omega
        have q1:=T5.c1
        have q2:=T5.fz 1 (by omega)
        have D1:=hid (T5.set1 (.slice (some ⟨gg,0,none⟩) (ls.length+1) cc))
        have D2:Hid ((w5.setCell ⟨S,1,none⟩ (.slice (some ⟨gg,0,none⟩) (ls.length+1) cc)).ownsRow (S+1) 221 3 (.slice (some ⟨gg,0,none⟩) (ls.length+1) cc) (ls++[(fr*256+bv,k)]).length (iJ (ls++[(fr*256+bv,k)]))):=hid (ak (by
         rw [List.length_append,Dr]
         simp only
         rw [show (fr*256+bv) / 256=fr by omega,show (fr*256+bv) % 256=bv by omega]
         exact hown) (by omega) _ _)
        have D4:=hid (F5.other ⟨S,1,none⟩ (.slice (some ⟨gg,0,none⟩) (ls.length+1) cc) (by show S≠w.heap.size+1+1;omega))
        have D5:Hid ((w5.setCell ⟨S,1,none⟩ (.slice (some ⟨gg,0,none⟩) (ls.length+1) cc)).cell? ⟨w.heap.size,0,none⟩=some (.slice (some ⟨gi,0,none⟩) n icap)):=hid (by
         rw [World.cell?_setCell_other _ _ _ _ (fun e=>by have:=congrArg Addr.block e;simp at this;omega)]
         exact C5)
        have D6:=hid (S5.other (k:=S) (o:=1) (by omega) (.slice (some ⟨gg,0,none⟩) (ls.length+1) cc))
        have D7:=hid (B5.setCell (p:=⟨S,1,none⟩) (by show w.heap.size≤S;omega) (.slice (some ⟨gg,0,none⟩) (ls.length+1) cc))
        have D8:Hid ((w5.setCell ⟨S,1,none⟩ (.slice (some ⟨gg,0,none⟩) (ls.length+1) cc)).cell? ⟨W0.heap.size,1,none⟩=some (.int .u8 (u:Nat))):=hid (by
         rw [World.cell?_setCell_other _ _ _ _ (fun e=>by have:=congrArg Addr.block e;simp at this;omega)]
         exact U5)
        have HI5:=hid (Zd HI.out Hm.out HEW.out hN JZ)
        have HD5:Hid (uw n ns into ((ls++[(fr*256+bv,k)]).map Prod.fst) (upd found (fr*256+bv) true) k):=hid (by
         rw [List.map_append]
         exact HD.out.add (by rw [List.length_map];exact hlk) (fr*256+bv))
        have HN5:=hid (Da.out _ (HN.out.add (fr*256+bv)) (upd_same _ _ _))
        have Yg:Hid ((ls++[(fr*256+bv,k)])[k]?=some (s*256+u,tw)):=hid (by rw [List.getElem?_append_left hlk];exact Hm.out)
        clear hown hgrow hat bs bd FSt JZ Da fc ff hcu z0 z1 bm T5 S5 F5 C5 U5 B5 HT HO HF HC H6 HB HI HD HN t0 t1
        go_wp2_with fail
        go_roundw
        case rel=>exact ⟨j+1,ls++[(fr*256+bv,k)],upd found (fr*256+bv) true,_,by omega,by go_num,by simp;omega,Yg,HI5,HD5,HN5,D1,D2,V5,D4,D5,D6,D8,D7,by simp;omega⟩
        case measure=>simp [intOf];omega
      ·obtain rfl:j=ln:=by omega
       have HD2:=hid (Xu HD.out (by rw [List.getElem?_map,Hm.out];rfl) hu (by rw [bg.out];exact HN.out))
       go_wp2_with fail
       go_roundw
       case rel=>exact ⟨k+1,ls,found,_,by omega,by go_num,HI,HD2,HT,HO,HF,HC,H6,HB,by omega⟩
       case measure=>have h9:=mg HI.out;rw [hgE] at h9;simp [intOf];omega
    ·obtain rfl:k=ls.length:=by omega
     have HR:=hid (Wn (fun a b h=>abm a b h) HI.out.lead (fun a ha y hy=>by
      obtain ⟨j,hj,e⟩:=List.getElem_of_mem ha
      exact HD.out j a (by rw [List.length_map] at hj;exact hj) (by rw [List.getElem?_eq_getElem hj,e]) y hy))
     have q0:=H6.out.c0
     have q1:=H6.out.c1
     have q2:=H6.out.c2
     have f0:=H6.out.fz 0 (by omega)
     have f1:=H6.out.fz 1 (by omega)
     have f2:=H6.out.fz 2 (by omega)
     go_wp2_with fail
     have y1:=hid (H6.out.set0 (.slice (some ⟨w.heap.size+1+1,0,none⟩) n n) |>.set1 (.slice ao ls.length cp) |>.set2 (.int .i64 (gs.length:Nat)))
     refine tX rfl rfl rfl (nO q0 q1 q2 _ _ _) Tryz.underlying171 rfl Tryz.Su ?_
     refine ⟨w.heap.size+1+1,found,ls,.slice ao ls.length cp,by rw [hgE],by omega,by simp;omega,?_,HR.out,HI.out,?_,?_⟩
     ·exact ((HF.out.other ⟨w.heap.size+1,0,none⟩ _ (by simp)).other ⟨w.heap.size+1,1,none⟩ _ (by simp)).other ⟨w.heap.size+1,2,none⟩ _ (by simp)
     ·have h1:=ak (ak (ak HO.out (show w.heap.size+1<S+1 by omega) 0 (.slice (some ⟨w.heap.size+1+1,0,none⟩) n n)) (show w.heap.size+1<S+1 by omega) 1 (.slice ao ls.length cp)) (show w.heap.size+1<S+1 by omega) 2 (.int .i64 (gs.length:Nat))
      exact aY h1 (by omega)
     ·exact ((HB.out.setCell (p:=⟨w.heap.size+1,0,none⟩) (by show w.heap.size≤w.heap.size+1;omega) _).setCell (p:=⟨w.heap.size+1,1,none⟩) (by show w.heap.size≤w.heap.size+1;omega) _).setCell (p:=⟨w.heap.size+1,2,none⟩) (by show w.heap.size≤w.heap.size+1;omega) _
theorem JR (P gi n icap g cap:Nat) (ns:List Nd) (into:Nat→List (Nat × Nat)) (goal:Nat→Bool) (w:World) (h8:ns.length≤8) (hp:rP n into) (hbm:tC w P ns) (hP:P<w.heap.size) (hw:mI w gi n into) (hgl:bC w g (n*256) goal) (hg:g<w.heap.size) :
  Calls Tryz.prog 146 #[.pointer (some ⟨P,0,none⟩),.agg #[.slice (some ⟨gi,0,none⟩) n icap],.slice (some ⟨g,0,none⟩) n cap] w fun e w'=>∃ g' found,e=.returned (.slice (some ⟨g',0,none⟩) n n)∧w.heap.size≤g'∧g'<w'.heap.size∧bC w' g' (n*256) found∧(∀ x,found x=true↔eu (Ew n ns into) (fun y=>goal y=true) x)∧Below w.heap.size w w':=by
 have HP:=hid hp
 have HM:=hid hbm
 have HW:=hid hw
 have HG:=hid hgl
 clear hp hbm hw hgl
 go_enter Tryz.func146,Tryz.ntmps146
 go_wp2_with fail
 have ba:=(Below.refl w.heap.size w).alloc (Nat.le_refl _) (.cells #[.slice (some ⟨gi,0,none⟩) n icap] 159)
 refine (wh P gi n icap g cap ns into goal _ h8 HP.out (HM.out.below ba hP) (by simp;omega) (HW.out.below ba) (HG.out.below ba hg) (by simp;omega)).mono ?_
 rintro e w1 ⟨g',found,ls,v,rfl,hg',hgs,hF,hL,_,hO,hb⟩
 simp only [World.size_alloc] at hg' hb
 obtain ⟨ao,cp,rfl⟩:=ag hO
 have HF:=hid hF
 have HL:=hid hL
 have HB:=hid (ba.trans (hb.mono (by omega)))
 have hs:=hb.size
 clear hF hL hO hb ba
 go_wp2_with fail
 go_ret
 have bb:=(Below.refl w1.heap.size w1).alloc (Nat.le_refl _) (.cells #[.slice (some ⟨g',0,none⟩) n n,.slice ao ls.length cp,.int .i64 ((az goal (n*256)).length:Nat)] 171)
 exact ⟨g',found,rfl,by omega,by simp;omega,HF.out.below bb hgs,HL.out,HB.out.trans (bb.mono (by omega))⟩
end Go.Proofs.YtjagijohfkffiabGreat
