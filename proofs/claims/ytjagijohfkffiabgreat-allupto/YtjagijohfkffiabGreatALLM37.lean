import Derived.Test.YtjagijohfkffiabGreatALLM32
import Derived.Test.YtjagijohfkffiabGreatALLM36
set_option maxHeartbeats 16000000
set_option maxRecDepth 100000
namespace Go.Proofs.YtjagijohfkffiabGreat
open Go.RowKit
set_option linter.unusedVariables false
theorem rG {f g:Nat→Nat}:∀ m,(∀ i,i<m→f i=g i)→aR f m=aR g m
 | 0,_=>rfl
 | m+1,h=>by rw [aR,aR,rG m (fun i hi=>h i (by omega)),h m (by omega)]
def dS (kds:List Nat):Nat→Nat:=fun i=>kds.getD i 0
structure yT (sh:Nat→St) (k:Nat) (kds:List Nat) (ss:List St):Prop where
 len:kds.length=k
 at_:∀ i,i<k→ss[dS kds i]?=some (sh i)
 nd:ss.Pairwise (fun a b=>a≠b)
 fo:Fo (dS kds) k
 cnt:ss.length=aR (dS kds) k
theorem Zp (sh:Nat→St):yT sh 0 [] []:=⟨rfl,fun i h=>by omega,by simp,fun i h=>by omega,rfl⟩
theorem QT {kds:List Nat} {j i:Nat} (h:i<kds.length):dS (kds++[j]) i=dS kds i:=dU h
theorem QU (kds:List Nat) (j:Nat):dS (kds++[j]) kds.length=j:=di kds j
theorem adZ {sh:Nat→St} {k j:Nat} {kds:List Nat} {ss:List St} (h:yT sh k kds ss) (hj:ss[j]?=some (sh k)):yT sh (k+1) (kds++[j]) ss:=by
 have hl:=h.len
 have hjl:=(List.getElem?_eq_some_iff.1 hj).1
 have e:∀ i,i<k→dS (kds++[j]) i=dS kds i:=fun i hi=>QT (by omega)
 have e2:dS (kds++[j]) k=j:=by rw [←hl];exact QU kds j
 refine ⟨by simp [hl],fun i hi=>?_,h.nd,fun i hi=>?_,?_⟩
 ·by_cases c:i=k
  ·subst c;rw [e2];exact hj
  ·rw [e i (by omega)];exact h.at_ i (by omega)
 ·rw [rG i (fun q hq=>e q (by omega))]
  by_cases c:i=k
  ·subst c;rw [e2,←h.cnt];omega
  ·rw [e i (by omega)];exact h.fo i (by omega)
 ·rw [aR,rG k e,e2,←h.cnt];omega
theorem ad1 {sh:Nat→St} {k:Nat} {kds:List Nat} {ss:List St} (h:yT sh k kds ss) (hn:∀ s∈ss,s≠sh k):yT sh (k+1) (kds++[ss.length]) (ss++[sh k]):=by
 have hl:=h.len
 have e:∀ i,i<k→dS (kds++[ss.length]) i=dS kds i:=fun i hi=>QT (by omega)
 have e2:dS (kds++[ss.length]) k=ss.length:=by rw [←hl];exact QU kds _
 refine ⟨by simp [hl],fun i hi=>?_,?_,fun i hi=>?_,?_⟩
 ·by_cases c:i=k
  ·subst c;rw [e2];simp
  ·rw [e i (by omega)]
   have h1:=h.at_ i (by omega)
   rw [List.getElem?_append_left (List.getElem?_eq_some_iff.1 h1).1]
   exact h1
 ·rw [List.pairwise_append]
  refine ⟨h.nd,by simp,fun a ha b hb=>?_⟩
  simp at hb
  subst hb
  exact hn a ha
 ·rw [rG i (fun q hq=>e q (by omega))]
  by_cases c:i=k
  ·subst c;rw [e2,←h.cnt];exact Nat.le_refl _
  ·rw [e i (by omega)];exact h.fo i (by omega)
 ·rw [aR,rG k e,e2,←h.cnt];simp
theorem VE {sh:Nat→St} {k:Nat} {kds:List Nat} {ss:List St} (h:yT sh k kds ss) {i j:Nat} (hi:i<k) (hj:j<k):dS kds i=dS kds j↔sh i=sh j:=by
 have h1:=h.at_ i hi
 have h2:=h.at_ j hj
 constructor
 ·intro e
  rw [e,h2] at h1
  exact (Option.some.inj h1).symm
 ·intro e
  rw [e] at h1
  obtain ⟨l1,e1⟩:=List.getElem?_eq_some_iff.1 h1
  obtain ⟨l2,e2⟩:=List.getElem?_eq_some_iff.1 h2
  have hd:=List.pairwise_iff_getElem.1 h.nd
  rcases Nat.lt_trichotomy (dS kds i) (dS kds j) with c | c | c
  ·exact absurd (e1.trans e2.symm) (hd _ _ l1 l2 c)
  ·exact c
  ·exact absurd (e2.trans e1.symm) (hd _ _ l2 l1 c)
def uE (o:Nat) (f:Nat→Nat):St:=⟨(o:Int),[(f 0:Int),f 1,f 2,f 3,f 4,f 5,f 6,f 7]⟩
theorem Ic {o o':Nat} {f f':Nat→Nat}:uE o f=uE o' f'↔o=o'∧∀ a,a<8→f a=f' a:=by
 constructor
 ·intro h
  simp only [uE,St.mk.injEq,List.cons.injEq,and_true,Int.ofNat_inj] at h
  obtain ⟨h0,h1,h2,h3,h4,h5,h6,h7,h8⟩:=h
  refine ⟨h0,fun a ha=>?_⟩
  have:a=0∨a=1∨a=2∨a=3∨a=4∨a=5∨a=6∨a=7:=by omega
  rcases this with rfl | rfl | rfl | rfl | rfl | rfl | rfl | rfl <;> assumption
 ·rintro ⟨rfl,h⟩
  simp only [uE,h 0 (by omega),h 1 (by omega),h 2 (by omega),h 3 (by omega),h 4 (by omega),h 5 (by omega),h 6 (by omega),h 7 (by omega)]
def Jt (out:Nat→Nat) (nx:Nat→Nat→Nat) (kd:Nat→Nat) (i:Nat):St:=uE (out i) (fun a=>kd (nx i a))
theorem VD {out:Nat→Nat} {nx:Nat→Nat→Nat} {kd:Nat→Nat} {K:Nat} {kds:List Nat} {ss:List St} (h:yT (Jt out nx kd) K kds ss):XY K out nx kd (dS kds):=fun i j hi hj=>by
 rw [VE h hi hj]
 exact Ic
theorem sH {w:World} {b:Nat} {x0 x1:Value} (d0:w.cell? ⟨b,0,none⟩=some x0) (d1:w.cell? ⟨b,1,none⟩=some x1) (y0 y1:Value) :
  ((w.setCell ⟨b,0,none⟩ y0).setCell ⟨b,1,none⟩ y1).rangeAt b 0 [y0,y1]:=by
 have o:∀ (w:World) (i j:Nat) (u:Value),i≠j→(w.setCell ⟨b,i,none⟩ u).cell? ⟨b,j,none⟩=w.cell? ⟨b,j,none⟩:=fun w i j u h=>World.cell?_setCell_other _ _ _ _ (fun q=>h (by have:=congrArg Addr.off q;simpa using this))
 intro j v hj
 rw [Nat.zero_add]
 cases j with
 | zero=>
  simp at hj
  subst hj
  rw [o _ 1 0 _ (by omega)]
  exact World.cell?_setCell_same _ _ _ d0
 | succ j=>cases j with
  | zero=>
   simp at hj
   subst hj
   exact World.cell?_setCell_same _ _ _ (by rw [o _ 0 1 _ (by omega)];exact d1)
  | succ j=>simp at hj
theorem Tryz.YU:(Tryz.prog.info? 122).map (·.size)=some 2:=by kernel_rfl
def adD (K:Nat) (sh:Nat→St) (w:World) (e:Ending) (w':World):Prop:=
 ∃ vK vH kds ss,e=.returned (.agg #[vK,vH])∧yT sh K kds ss∧iM ss∧w'.ownsRow w.heap.size 3 1 vK kds.length (au kds)∧w'.ownsRow w.heap.size 119 9 vH ss.length (dY ss)∧Below w.heap.size w w'
theorem ad2 {sh:Nat→St} {k:Nat} {kds:List Nat} {ss:List St} (h:yT sh k kds ss):ss.length≤k:=by
 rw [h.cnt];exact Xz h.fo k (Nat.le_refl _)
theorem Qg {w:World} {b o:Nat} {f:Nat→Nat} (h:mJ w b o ((List.range 8).map f)):w.cell? ⟨b,0,none⟩=some (.int .i64 (o:Nat))∧∀ m,m<8→w.cell? ⟨b,1+m,none⟩=some (.int .i64 (f m:Nat)):=
 ⟨h.c0,fun m hm=>by rw [h.c m hm];simp [List.getD,hm]⟩
theorem Tf (K g cap B0:Nat) (out:Nat→Nat) (nx:Nat→Nat→Nat) (kd0:List Nat) (vK0 vH0:Value) (w:World) (hK:K≤796594185) (hr:w.ownsRow B0 119 9 (.slice (some ⟨g,0,none⟩) K cap) K (dY ((List.range K).map fun i=>uE (out i) (nx i)))) (hg:g<w.heap.size) (hkd:NR w vK0 kd0) (hkl:kd0.length=K) (hH:∃ a l c,vH0=.slice a l c) (hc:∀ i a,i<K→a<8→nx i a<K) :
  Calls Tryz.prog 71 #[.agg #[vK0,vH0],.slice (some ⟨g,0,none⟩) K cap] w (adD K (Jt out nx (dS kd0)) w):=by
 obtain ⟨aoK0,cpK0,rfl,hcpK0,hkrow⟩:=hkd
 obtain ⟨aH,lH,cH,rfl⟩:=hH
 rw [hkl] at hcpK0 hkrow
 rw [hkl]
 have HR:=hid hr
 have HKR:=hid hkrow
 have oG:=hid hc
 clear hr hkrow hc
 have b1:=(Below.refl w.heap.size w).alloc (Nat.le_refl _) (.cells #[.slice aoK0 K cpK0,.slice aH lH cH] 122)
 have b2:=b1.alloc (by simp) (.cells #[.slice none 0 0,.slice none 0 0] 122)
 have b3:=hid (b2.alloc (by simp;omega) (.cells #[.slice none 0 0,.slice none 0 0] 122))
 go_enter Tryz.func71,Tryz.ntmps71
 go_wp2_with fail
 have e2:((w.alloc (.cells #[.slice aoK0 K cpK0,.slice aH lH cH] 122)).alloc (.cells #[.slice none 0 0,.slice none 0 0] 122)).heap.size=w.heap.size+2:=by simp
 have e1:(w.alloc (.cells #[.slice aoK0 K cpK0,.slice aH lH cH] 122)).heap.size=w.heap.size+1:=by simp
 have S0:=bF ((w.alloc (.cells #[.slice aoK0 K cpK0,.slice aH lH cH] 122)).alloc (.cells #[.slice none 0 0,.slice none 0 0] 122)) (.slice none 0 0) (.slice none 0 0) 122
 rw [e2] at S0
 have A4:=(bF (w.alloc (.cells #[.slice aoK0 K cpK0,.slice aH lH cH] 122)) (.slice none 0 0) (.slice none 0 0) 122).below ((Below.refl (w.heap.size+2) _).alloc (by simp) (.cells #[.slice none 0 0,.slice none 0 0] 122)) (by simp)
 rw [e1] at A4
 have A2:=((bF w (.slice aoK0 K cpK0) (.slice aH lH cH) 122).below ((Below.refl (w.heap.size+1) _).alloc (by simp) (.cells #[.slice none 0 0,.slice none 0 0] 122)) (by simp)).below ((Below.refl (w.heap.size+2) _).alloc (by simp) (.cells #[.slice none 0 0,.slice none 0 0] 122)) (by simp)
 have S0:=hid S0
 have A4:=hid A4
 have A2:=hid A2
 clear b1 b2 e1 e2
 go_loopw [14] (fun i wq=>∃ (k:Nat) (kds:List Nat) (ss:List St) (vK vH:Value),k≤K∧i=.int .i64 k∧Hid (yT (Jt out nx (dS kd0)) k kds ss)∧Hid (Ro wq (w.heap.size+3) (w.heap.size+2) vK vH kds ss)∧Hid (Two wq w.heap.size (.slice aoK0 K cpK0) (.slice aH lH cH))∧Hid (Two wq (w.heap.size+1) (.slice none 0 0) (.slice none 0 0))∧Hid (Below w.heap.size w wq)∧w.heap.size+3≤wq.heap.size) (fun i _=>K - (intOf i).toNat)
 case atStart=>exact ⟨0,[],[],_,_,Nat.zero_le _,rfl,hid (Zp _),hid ⟨S0.out,by omega,World.ownsRow_nil _ _ _ _,World.ownsRow_nil _ _ _ _,fun s hs=>by simp at hs⟩,A2,A4,b3,by simp⟩
 case round=>
  obtain ⟨k,kds,ss,vK,vH,hk,rfl,HI,HS,H2,H4,HB,hsz⟩:=hrel
  rename World=>W0
  clear S0 A2 A4 b3
  have aiV:=ad2 HI.out
  have ai6:=HI.out.len
  by_cases hlk:k<K
  ·have hown:=ae HR.out HB.out
   have h8:iM ((List.range K).map fun i=>uE (out i) (nx i)):=fun s hs=>by
    obtain ⟨i,_,rfl⟩:=List.mem_map.1 hs
    rfl
   have hat:aM ((List.range K).map fun i=>uE (out i) (nx i)) k=uE (out k) (nx k):=by simp [aM,List.getD,hlk]
   have cl:∀ j u,j<9→(fH (uE (out k) (nx k)))[j]?=some u→W0.cell? ⟨g,k*9+j,none⟩=some u:=fun j u hj hu=>by
    rw [hown.cellAt (k*9+j) (by omega),uj h8 (by simpa using hlk) hj,hat,hu]
   have y0:W0.cell? ⟨g,k*9,none⟩=some (.int .i64 (out k:Nat)):=cl 0 _ (by omega) rfl
   have y1:W0.cell? ⟨g,k*9+1,none⟩=some (.int .i64 (nx k 0:Nat)):=cl 1 _ (by omega) rfl
   have y2:W0.cell? ⟨g,k*9+2,none⟩=some (.int .i64 (nx k 1:Nat)):=cl 2 _ (by omega) rfl
   have y3:W0.cell? ⟨g,k*9+3,none⟩=some (.int .i64 (nx k 2:Nat)):=cl 3 _ (by omega) rfl
   have y4:W0.cell? ⟨g,k*9+4,none⟩=some (.int .i64 (nx k 3:Nat)):=cl 4 _ (by omega) rfl
   have y5:W0.cell? ⟨g,k*9+5,none⟩=some (.int .i64 (nx k 4:Nat)):=cl 5 _ (by omega) rfl
   have y6:W0.cell? ⟨g,k*9+6,none⟩=some (.int .i64 (nx k 5:Nat)):=cl 6 _ (by omega) rfl
   have y7:W0.cell? ⟨g,k*9+7,none⟩=some (.int .i64 (nx k 6:Nat)):=cl 7 _ (by omega) rfl
   have y8:W0.cell? ⟨g,k*9+8,none⟩=some (.int .i64 (nx k 7:Nat)):=cl 8 _ (by omega) rfl
   have HX:Hid (∀ j,j<8→(#[Value.int .i64 (nx k 0:Nat),.int .i64 (nx k 1:Nat),.int .i64 (nx k 2:Nat),.int .i64 (nx k 3:Nat),.int .i64 (nx k 4:Nat),.int .i64 (nx k 5:Nat),.int .i64 (nx k 6:Nat),.int .i64 (nx k 7:Nat)]:Array Value)[j]?=some (.int .i64 (nx k j:Nat))):=hid (fun j hj=>by
    have:j=0∨j=1∨j=2∨j=3∨j=4∨j=5∨j=6∨j=7:=by omega
    rcases this with rfl | rfl | rfl | rfl | rfl | rfl | rfl | rfl <;> rfl)
   have uu:=hid (fun a (ha:a<8)=>oG.out k a hlk ha)
   clear cl hat h8 hown
   have bA:=(Below.refl W0.heap.size W0).alloc (Nat.le_refl _) (.cells #[.int .i64 (out k:Nat),.int .i64 (nx k 0:Nat),.int .i64 (nx k 1:Nat),.int .i64 (nx k 2:Nat),.int .i64 (nx k 3:Nat),.int .i64 (nx k 4:Nat),.int .i64 (nx k 5:Nat),.int .i64 (nx k 6:Nat),.int .i64 (nx k 7:Nat)] 119)
   have bB:=bA.alloc (by simp) (.cells #[.int .i64 (out k:Nat),.int .i64 0,.int .i64 0,.int .i64 0,.int .i64 0,.int .i64 0,.int .i64 0,.int .i64 0,.int .i64 0] 119)
   have N0:=MS (W0.alloc (.cells #[.int .i64 (out k:Nat),.int .i64 (nx k 0:Nat),.int .i64 (nx k 1:Nat),.int .i64 (nx k 2:Nat),.int .i64 (nx k 3:Nat),.int .i64 (nx k 4:Nat),.int .i64 (nx k 5:Nat),.int .i64 (nx k 6:Nat),.int .i64 (nx k 7:Nat)] 119)) (out k) 119
   rw [show (W0.alloc (.cells #[.int .i64 (out k:Nat),.int .i64 (nx k 0:Nat),.int .i64 (nx k 1:Nat),.int .i64 (nx k 2:Nat),.int .i64 (nx k 3:Nat),.int .i64 (nx k 4:Nat),.int .i64 (nx k 5:Nat),.int .i64 (nx k 6:Nat),.int .i64 (nx k 7:Nat)] 119)).heap.size=W0.heap.size+1 by simp] at N0
   have N0:=hid N0
   have BB:=hid bB
   clear bA bB
   go_wp2_with fail
   clear y0 y1 y2 y3 y4 y5 y6 y7 y8
   go_loopw [23] (fun i wq=>∃ l:Nat,l≤8∧i=.int .i64 l∧Hid (mJ wq (W0.heap.size+1) (out k) ((List.range l).map fun a=>dS kd0 (nx k a)))∧Hid (Below W0.heap.size W0 wq)∧W0.heap.size+1<wq.heap.size) (fun i _=>8 - (intOf i).toNat)
   case atStart=>exact ⟨0,by omega,rfl,N0,BB,by simp⟩
   case round=>
    obtain ⟨l,hl,rfl,HN,HBI,hszI⟩:=hrel
    rename World=>W1
    clear N0 BB
    by_cases hll:l<8
    ·have IX:=fun W=>gY (P:=Tryz.prog) W Tryz.underlying117 (jG Tryz.underlying3) (by kernel_rfl) hll (HX.out l hll)
     have hto:=uu.out l hll
     obtain ⟨gK,eK,hgK,hkc⟩:=HKR.out (by omega)
     subst eK
     have z0:=(HBI.out.cell (p:=⟨w.heap.size,0,none⟩) H2.out.lt).trans H2.out.c0
     have zc:W1.cell? ⟨gK,nx k l,none⟩=some (.int .i64 (dS kd0 (nx k l):Nat)):=(HBI.out.cell (p:=⟨gK,nx k l,none⟩) (by show gK<W0.heap.size;omega)).trans ((HB.out.cell (p:=⟨gK,nx k l,none⟩) hgK).trans (hkc _ hto))
     have hdl:((List.range l).map fun a=>dS kd0 (nx k a)).length=l:=by simp
     have n1:=HN.out.c l hll
     have n2:=HN.out.f (1+l) (by omega)
     have D8:=HN.out.set (j:=dS kd0 (nx k l)) (by rw [hdl];exact hll)
     rw [hdl,show ((List.range l).map fun a=>dS kd0 (nx k a))++[dS kd0 (nx k l)]=(List.range (l+1)).map fun a=>dS kd0 (nx k a) by rw [List.range_succ,List.map_append];rfl] at D8
     have D8:=hid D8
     have DB:=hid (HBI.out.setCell (p:=⟨W0.heap.size+1,1+l,none⟩) (by show W0.heap.size≤W0.heap.size+1;omega) (.int .i64 (dS kd0 (nx k l):Nat)))
     clear hkc hdl
     generalize ((List.range l).map fun a=>dS kd0 (nx k a)).getD l 0=ov at *
     generalize dS kd0 (nx k l)=kv at *
     generalize nx k l=to at *
     go_wp2_with fail
     go_roundw
     case rel=>exact ⟨l+1,by omega,by go_num,D8,DB,by simp;omega⟩
     case measure=>simp [intOf];omega
    ·obtain rfl:l=8:=by omega
     obtain ⟨q0,qc⟩:=Qg HN.out
     have q1:W1.cell? ⟨W0.heap.size+1,1,none⟩=_:=qc 0 (by omega)
     have q2:W1.cell? ⟨W0.heap.size+1,2,none⟩=_:=qc 1 (by omega)
     have q3:W1.cell? ⟨W0.heap.size+1,3,none⟩=_:=qc 2 (by omega)
     have q4:W1.cell? ⟨W0.heap.size+1,4,none⟩=_:=qc 3 (by omega)
     have q5:W1.cell? ⟨W0.heap.size+1,5,none⟩=_:=qc 4 (by omega)
     have q6:W1.cell? ⟨W0.heap.size+1,6,none⟩=_:=qc 5 (by omega)
     have q7:W1.cell? ⟨W0.heap.size+1,7,none⟩=_:=qc 6 (by omega)
     have q8:W1.cell? ⟨W0.heap.size+1,8,none⟩=_:=qc 7 (by omega)
     have S1:=hid (HS.out.below HBI.out)
     have amV:=HBI.out.size
     clear qc
     go_wp2_with fail
     refine (Zh W1 _ _ _ _ kds ss _ _ _ _ _ _ _ _ _ S1.out (by omega) (by omega) (by omega)).mono ?_
     rintro e w5 ⟨rfl,j,vK5,vH5,ss5,M5,K5,hcase⟩
     have R5:Hid (yT (Jt out nx (dS kd0)) (k+1) (kds++[j]) ss5):=hid (by
      rcases hcase with ⟨rfl,h1⟩ | ⟨rfl,rfl,h1⟩
      ·exact adZ HI.out h1
      ·exact ad1 HI.out h1)
     have nb:∀ b,b<w.heap.size+3→b≠w.heap.size+2→w5.heap[b]?=W1.heap[b]?:=fun b hb hne=>K5.block b (by omega) hne (fun e=>by have:=(S1.out.kd.lt b e.symm).1;omega) (fun e=>by have:=(S1.out.sh.lt b e.symm).1;omega)
     have tw:∀ b x y,b<w.heap.size+3→b≠w.heap.size+2→Two W1 b x y→Two w5 b x y:=fun b x y hb hne h=>⟨(World.cell?_of_block (a:=⟨b,0,none⟩) (nb b hb hne)).trans h.c0,(World.cell?_of_block (a:=⟨b,1,none⟩) (nb b hb hne)).trans h.c1,(World.frozen?_of_block (a:=⟨b,0,none⟩) (nb b hb hne)).trans h.f0,(World.frozen?_of_block (a:=⟨b,1,none⟩) (nb b hb hne)).trans h.f1⟩
     have D2:=hid (tw _ _ _ (by omega) (by omega) (H2.out.below HBI.out H2.out.lt))
     have D4:=hid (tw _ _ _ (by omega) (by omega) (H4.out.below HBI.out H4.out.lt))
     have DB:=hid (EK (HB.out.trans (HBI.out.mono HB.out.size)) K5 (by omega) (by omega) (fun q h=>by have:=(S1.out.kd.lt q h).1;omega) (fun q h=>by have:=(S1.out.sh.lt q h).1;omega))
     have M5:=hid M5
     have hs5:=K5.size
     clear hcase K5 nb tw S1 q0 q1 q2 q3 q4 q5 q6 q7 q8
     go_wp2_with fail
     go_roundw
     case rel=>exact ⟨k+1,kds++[j],ss5,vK5,vH5,by omega,by go_num,R5,M5,D2,D4,DB,by omega⟩
     case measure=>simp [intOf];omega
  ·obtain rfl:k=K:=by omega
   clear ai6 aiV
   obtain ⟨aoK,cpK,rfl⟩:=ag HS.out.kd
   obtain ⟨aoH,cpH,rfl⟩:=ag HS.out.sh
   have s0:=HS.out.t.c0
   have s1:=HS.out.t.c1
   have d0:=H4.out.c0
   have d1:=H4.out.c1
   have f0:=H4.out.f0
   have f1:=H4.out.f1
   go_wp2_with fail
   refine tX (cs:=[.slice aoK kds.length cpK,.slice aoH ss.length cpH]) (b:=w.heap.size+1) Tryz.results71 ?_ ?_ ?_ Tryz.underlying122 rfl Tryz.YU ?_
   ·rfl
   ·rfl
   ·exact sH d0 d1 _ _
   ·refine ⟨_,_,kds,ss,rfl,HI.out,HS.out.e8,?_,?_,(HB.out.setCell (p:=⟨w.heap.size+1,0,none⟩) (by show w.heap.size≤w.heap.size+1;omega) _).setCell (p:=⟨w.heap.size+1,1,none⟩) (by show w.heap.size≤w.heap.size+1;omega) _⟩
    ·exact aY (ak (ak HS.out.kd (show w.heap.size+1<w.heap.size+3 by omega) 0 _) (show w.heap.size+1<w.heap.size+3 by omega) 1 _) (by omega)
    ·exact aY (ak (ak HS.out.sh (show w.heap.size+1<w.heap.size+3 by omega) 0 _) (show w.heap.size+1<w.heap.size+3 by omega) 1 _) (by omega)
end Go.Proofs.YtjagijohfkffiabGreat
