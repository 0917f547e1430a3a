import Derived.Test.YtjagijohfkffiabGreatALLM01
import Derived.Test.YtjagijohfkffiabGreatALLM21
import Derived.Test.YtjagijohfkffiabGreatALLM22
import Derived.Test.YtjagijohfkffiabGreatALLM25
import Derived.Deep.RegionHeld3
set_option maxHeartbeats 16000000
set_option maxRecDepth 100000
namespace Go.Proofs.YtjagijohfkffiabGreat
open Go.RowKit
set_option linter.unusedVariables false
def gW (ns:List Nd) (cs:List (Nat→Bool)) (aa:Nat→Bool):Prop:=∀ v,aa v=true↔gu (Ew 1 ns (d9 8)) (spreads cs) v
theorem IR (P:Nat) (ns:List Nd) (cs:List (Nat→Bool)) (w:World) (h8:ns.length≤8) (hbm:tC w P ns) (hP:P<w.heap.size) (hcm:mO w P cs) (hcl:cs.length≤8) :
  Calls Tryz.prog 65 #[.pointer (some ⟨P,0,none⟩)] w fun e w'=>∃ aa,e=.returned (.agg (gv aa).toArray)∧gW ns cs aa∧Below w.heap.size w w':=by
 have HM:=hid hbm
 have HC:=hid hcm
 clear hbm hcm
 go_enter Tryz.func65,Tryz.ntmps65
 go_wp2_with fail
 refine (Uv _).mono ?_
 rintro e w1 ⟨g,rfl,hw,hb1⟩
 simp only [World.size_alloc] at hb1
 have G2:=hid ((fw w).below hb1 (by omega))
 have HB1:=hid (((Below.refl w.heap.size w).alloc (Nat.le_refl _) (.cells Tryz.zeroCells61 61)).trans (hb1.mono (by omega)))
 have hs1:w.heap.size<w1.heap.size:=by have:=hb1.size;simp at this;omega
 have HW:=hid (hw.below ((Below.refl w1.heap.size w1).alloc (Nat.le_refl _) (.cells #[.slice (some ⟨g,0,none⟩) 1 1] 159)))
 clear hw hb1
 have HB2:=hid (HB1.out.alloc (by omega) (.cells #[.slice (some ⟨g,0,none⟩) 1 1] 159))
 have G2:=hid (G2.out.alloc (.cells #[.slice (some ⟨g,0,none⟩) 1 1] 159))
 go_wp2_with fail
 refine (x9 P g 1 1 ns (d9 8) cs _ h8 OH (HM.out.below HB2.out hP) (by simp;omega) (HC.out.below HB2.out hP) hcl HW.out).mono ?_
 rintro e w3 ⟨g3,f,rfl,hg3,hg3s,F3,HL,hb3⟩
 simp only [World.size_alloc] at hb3 hg3
 have G2:=hid (G2.out.below hb3 (by omega))
 have HB3:=hid (HB2.out.trans (hb3.mono (by omega)))
 have F3:=hid (F3.wI (t:=0) (by omega))
 have kK:=hid HL
 clear hb3 HL
 go_wp2_with (first | (refine aC rfl (.tmp 14) rfl g3 0 f rfl (by simpa using F3.out) ?_) | (refine aW rfl (.tmp 2) (.tmp 15) rfl w.heap.size 0 f rfl rfl G2.out.there ?_))
 intro w4 S4
 go_wp2_with fail
 refine xq Tryz.results65 ?_ ?_ S4.at_ ?_
 ·rfl
 ·rfl
 ·exact ⟨f,rfl,kK.out,S4.aO _ _ (Nat.le_refl _) HB3.out⟩
structure rR (w:World) (P:Nat) (ns:List Nd) (aa aA:Nat→Bool):Prop where
 eT:∀ x N,x<8→N<256→w.cell? ⟨P,x*256+N,none⟩=some (.int .u8 (eT ns x N:Nat))
 aa:aN w P 2049 aa
 aA:aN w P 2305 aA
theorem rR.lt {w:World} {P:Nat} {ns:List Nd} {aa aA:Nat→Bool} (h:rR w P ns aa aA):P<w.heap.size:=h.aa.lt
theorem rR.below {B:Nat} {w w':World} {P:Nat} {ns:List Nd} {aa aA:Nat→Bool} (h:rR w P ns aa aA) (hb:Below B w w') (hlt:P<B):rR w' P ns aa aA:=
 ⟨fun x N hx hN=>(hb.cell (p:=⟨P,x*256+N,none⟩) hlt).trans (h.eT x N hx hN),h.aa.below hb hlt,h.aA.below hb hlt⟩
def stepG (ns:List Nd) (aa fr:Nat→Bool) (x:Nat):Nat→Bool:=fun N=>aa N&&fr (eT ns x N)
theorem Me (P x:Nat) (ns:List Nd) (aa aA fr:Nat→Bool) (w:World) (hx:x<8) (h8:ns.length≤8) (ho:rR w P ns aa aA) :
  Calls Tryz.prog 69 #[.pointer (some ⟨P,0,none⟩),.agg (gv fr).toArray,.int .i64 x] w fun e w'=>e=.returned (.agg (gv (stepG ns aa fr x)).toArray)∧Below w.heap.size w w':=by
 have HZ:=hid Tryz.rD
 have hP:=ho.lt
 have HO:=hid ho
 have k1:((x:Int)<0)=False:=by simp
 clear ho
 go_enter Tryz.func69,Tryz.ntmps69
 go_wp2_with (refine aW rfl (.tmp 7) (.tmp 9) rfl (w.heap.size+1+1) 0 (fun _=>false) rfl (congrArg Value.agg HZ.out) ?t1 ?_)
 case t1=>
  have:=(fw ((w.alloc (.cells (gv fr).toArray 61)).alloc (.cells Tryz.zeroCells61 61))).there
  simpa using this
 intro w1 S1
 have G7:=hid S1.at_
 have G6:Hid (aN w1 (w.heap.size+1) 0 (fun _=>false)):=by
  have z:=(fw (w.alloc (.cells (gv fr).toArray 61))).alloc (.cells Tryz.zeroCells61 61)
  rw [size_alloc] at z
  exact hid (S1.wI z (Or.inl (by omega)))
 have G4:Hid (aN w1 w.heap.size 0 fr):=hid (S1.wI (((sS w fr 61).alloc _).alloc _) (Or.inl (by omega)))
 have HB1:Hid (Below w.heap.size w w1):=hid (S1.aO _ _ (by omega) ((((Below.refl _ _).alloc (Nat.le_refl _) _).alloc (by simp) _).alloc (by simp;omega) _))
 clear S1
 go_wp2_with fail
 go_loopw [17] (fun i wq=>∃ j:Nat,j≤256∧i=.int .i64 j∧Hid (aN wq (w.heap.size+1+1) 0 (upTo (stepG ns aa fr x) j))∧Hid (aN wq (w.heap.size+1) 0 (fun _=>false))∧Hid (aN wq w.heap.size 0 fr)∧Hid (Below w.heap.size w wq)) (fun i _=>256 - (intOf i).toNat)
 case atStart=>exact ⟨0,by omega,rfl,by rw [qm];exact G7,G6,G4,HB1⟩
 case round=>
  obtain ⟨j,hj,rfl,H7,H6,H4,HB⟩:=hrel
  rename World=>W0
  by_cases hlj:j<256
  ·have q0:W0.frozen? ⟨w.heap.size+1+1,j,none⟩=false:=by have:=H7.out.f j hlj;rwa [Nat.zero_add] at this
   have q1:W0.cell? ⟨w.heap.size+1+1,j,none⟩=some (.bool (upTo (stepG ns aa fr x) j j)):=by have:=H7.out.c j hlj;rwa [Nat.zero_add] at this
   have o:=HO.out.below HB.out hP
   have c1:=o.aa.c j hlj
   have c2:=o.eT x j hx hlj
   have hbl:=rJ h8 x j
   have c3:W0.cell? ⟨w.heap.size,eT ns x j,none⟩=some (.bool (fr (eT ns x j))):=by have:=H4.out.c _ hbl;rwa [Nat.zero_add] at this
   have D7:=hid (H7.out.set hlj (stepG ns aa fr x j))
   have D6:=hid (H6.out.other ⟨w.heap.size+1+1,j,none⟩ (.bool (stepG ns aa fr x j)) (Or.inl (by simp)))
   have D4:=hid (H4.out.other ⟨w.heap.size+1+1,j,none⟩ (.bool (stepG ns aa fr x j)) (Or.inl (by simp;omega)))
   have DB:=hid (HB.out.setCell (p:=⟨w.heap.size+1+1,j,none⟩) (by show w.heap.size≤w.heap.size+1+1;omega) (.bool (stepG ns aa fr x j)))
   rw [qo,Nat.zero_add] at D7
   have e0:stepG ns aa fr x j=(aa j&&fr (eT ns x j)):=rfl
   generalize upTo (stepG ns aa fr x) j j=ov at *
   generalize stepG ns aa fr x j=sv at *
   generalize eT ns x j=bv at *
   generalize aa j=lv at *
   generalize fr bv=fv at *
   clear o
   subst e0
   cases lv with
   | false=>
    simp only [Bool.false_and] at D7 D6 D4 DB
    go_wp2_with fail
    go_roundw
    case rel=>exact ⟨j+1,by omega,by go_num,D7,D6,D4,DB⟩
    case measure=>simp [intOf];omega
   | true=>
    simp only [Bool.true_and] at D7 D6 D4 DB
    go_wp2_with fail
    go_roundw
    case rel=>exact ⟨j+1,by omega,by go_num,D7,D6,D4,DB⟩
    case measure=>simp [intOf];omega
  ·obtain rfl:j=256:=by omega
   have G:=hid (H7.out.congr (fun j hj=>Ec (stepG ns aa fr x) hj))
   go_wp2_with (first | (refine aC rfl (.tmp 7) rfl (w.heap.size+1+1) 0 _ rfl G.out ?_) | (refine aW rfl (.tmp 6) (.tmp 41) rfl (w.heap.size+1) 0 (stepG ns aa fr x) rfl rfl H6.out.there ?_))
   intro w5 S5
   go_wp2_with fail
   refine xq Tryz.results69 ?_ ?_ S5.at_ ?_
   ·rfl
   ·rfl
   ·exact ⟨rfl,S5.aO _ _ (by omega) HB.out⟩
def oJ (aa g:Nat→Bool):Nat:=if geq g aa=true then 1 else if geq g (fun _=>false)=true then 2 else 0
theorem Dh (P:Nat) (ns:List Nd) (aa aA g:Nat→Bool) (w:World) (ho:rR w P ns aa aA) :
  Calls Tryz.prog 68 #[.pointer (some ⟨P,0,none⟩),.agg (gv g).toArray] w fun e w'=>e=.returned (.int .i64 (oJ aa g:Nat))∧Below w.heap.size w w':=by
 have HZ:=hid Tryz.rD
 have HO:=hid ho
 have G3:=hid (sS w g 61)
 have GL:=hid (ho.aa.alloc (.cells (gv g).toArray 61))
 have EQ:=fun g h W=>mQ 9998 g h W
 have EZ:∀ W,(Op.equalIn 10000 61 (.agg (gv g).toArray) (.agg Tryz.zeroCells61)).run Tryz.prog W=.ok (geq g fun _=>false) W:=fun W=>by rw [Tryz.rD];exact mQ 9998 g _ W
 clear ho
 go_enter Tryz.func68,Tryz.ntmps68
 go_wp2_with fail
 refine wp_region_held_drew (S:=fun W=>aN W w.heap.size 0 g∧aN W P 2049 aa) (by kernel_rfl) ⟨G3.out.drew,GL.out.drew⟩ (fun hHeld=>?_)
 refine wpAnyH_take (i:=0) (oi:={ dst:=some 5,op:=Op.load 61 (.tmp 3),type:=_,pos:=_,after:=_,guard:=none }) (v:=(Value.agg (gv g).toArray)) rfl (by kernel_rfl) (by kernel_rfl) (by kernel_rfl) (fun _ _ _ h=>h) (yieldsIf_load_mid (by rfl) 61 (.tmp 3) rfl w.heap.size 0 rfl (gv g) _ (fun W h=>h.1.r9) Tryz.iH rfl (Tryz.nC g)) (by assumption) ?_
 simp only [Act.put,List.setIfInBounds_toArray,List.set_cons_zero,List.set_cons_succ]
 refine wpAnyH_take (i:=1) (oi:={ dst:=some 6,op:=Op.move (.tmp 0),type:=_,pos:=_,after:=_,guard:=none }) (v:=(Value.pointer (some ⟨P,0,none⟩))) rfl (by kernel_rfl) (by kernel_rfl) (by kernel_rfl) (fun _ _ _ h=>h) (Or.inl ⟨by rfl,by intro w' hSw;(try dsimp only at hSw);go_simp⟩) (by assumption) ?_
 simp only [Act.put,List.setIfInBounds_toArray,List.set_cons_zero,List.set_cons_succ]
 refine wpAnyH_take (i:=2) (oi:={ dst:=some 7,op:=Op.nilCheck (.tmp 6),type:=_,pos:=_,after:=_,guard:=none }) (v:=(Value.pointer (some ⟨P,0,none⟩))) rfl (by kernel_rfl) (by kernel_rfl) (by kernel_rfl) (fun _ _ _ h=>h) (Or.inl ⟨by rfl,by intro w' hSw;(try dsimp only at hSw);go_simp⟩) (by assumption) ?_
 simp only [Act.put,List.setIfInBounds_toArray,List.set_cons_zero,List.set_cons_succ]
 refine wpAnyH_take (i:=3) (oi:={ dst:=some 8,op:=Op.fieldAddr _ (.tmp 7) 2,type:=_,pos:=_,after:=_,guard:=none }) (v:=(Value.pointer (some ⟨P,2049,none⟩))) rfl (by kernel_rfl) (by kernel_rfl) (by kernel_rfl) (fun _ _ _ h=>h) (Or.inl ⟨by rfl,by intro w' hSw;(try dsimp only at hSw);go_simp⟩) (by assumption) ?_
 simp only [Act.put,List.setIfInBounds_toArray,List.set_cons_zero,List.set_cons_succ]
 refine wpAnyH_take (i:=4) (oi:={ dst:=some 9,op:=Op.load 61 (.tmp 8),type:=_,pos:=_,after:=_,guard:=none }) (v:=(Value.agg (gv aa).toArray)) rfl (by kernel_rfl) (by kernel_rfl) (by kernel_rfl) (fun _ _ _ h=>h) (yieldsIf_load_mid (by rfl) 61 (.tmp 8) rfl P 2049 rfl (gv aa) _ (fun W h=>h.2.r9) Tryz.iH rfl (Tryz.nC aa)) (by assumption) ?_
 simp only [Act.put,List.setIfInBounds_toArray,List.set_cons_zero,List.set_cons_succ]
 refine wpAnyH_take (i:=5) (oi:={ dst:=some 10,op:=Op.binOp BinOp.eql 61 (.tmp 5) (.tmp 9) 61,type:=_,pos:=_,after:=_,guard:=none }) (v:=(Value.bool (geq g aa))) rfl (by kernel_rfl) (by kernel_rfl) (by kernel_rfl) (fun _ _ _ h=>h) (Or.inl ⟨by rfl,by intro w' hSw;go_simp⟩) (by assumption) ?_
 simp only [Act.put,List.setIfInBounds_toArray,List.set_cons_zero,List.set_cons_succ]
 refine wpAnyH_done (by kernel_rfl) ?_ _
 have HV:Hid (oJ aa g=if geq g aa=true then 1 else if geq g (fun _=>false)=true then 2 else 0):=hid rfl
 have G3:=hid hHeld.1
 clear hHeld GL
 cases e1:geq g aa with
 | true=>
  go_wp2_with fail
  go_ret
  exact ⟨by rw [HV.out,e1];rfl,((Below.refl _ _).alloc (Nat.le_refl _) _).drew⟩
 | false=>
  rw [e1] at HV
  clear e1
  cases e2:geq g (fun _=>false) with
  | true=>
   rw [e2] at EZ
   go_wp2_with (refine aC rfl (.tmp 3) rfl w.heap.size 0 g rfl G3.out ?_)
   go_ret
   exact ⟨by rw [HV.out,e2];rfl,((Below.refl _ _).alloc (Nat.le_refl _) _).drew⟩
  | false=>
   rw [e2] at EZ
   go_wp2_with (refine aC rfl (.tmp 3) rfl w.heap.size 0 g rfl G3.out ?_)
   go_ret
   exact ⟨by rw [HV.out,e2];rfl,((Below.refl _ _).alloc (Nat.le_refl _) _).drew⟩
def cZ (ns:List Nd) (aa:Nat→Bool) (g:Nat→Bool) (us:List Nat):Nat→Bool:=us.foldl (fun g x=>stepG ns aa g x) g
theorem nR (ns:List Nd) (aa g:Nat→Bool) (us:List Nat) (x:Nat):cZ ns aa g (us++[x])=stepG ns aa (cZ ns aa g us) x:=by simp [cZ]
theorem YQ {zs:List Int} {j:Nat} (h:j<zs.length) {x:Nat} (hx:zs.getD j 0=(x:Int)):(zs.map Int.toNat).take (j+1)=(zs.map Int.toNat).take j++[x]:=by
 rw [List.take_succ_eq_append_getElem (by simpa using h)]
 have:zs[j]=(x:Int):=by simpa [List.getD,List.getElem?_eq_getElem h] using hx
 simp [this]
theorem Tw (P:Nat) (ns:List Nd) (aa aA:Nat→Bool) (ao:Option Addr) (len cap:Nat) (zs:List Int) (w:World) (h8:ns.length≤8) (ho:rR w P ns aa aA) (hi:Ints w ao len cap zs) (ha:bI zs=true) :
  Calls Tryz.prog 103 #[.pointer (some ⟨P,0,none⟩),.slice ao len cap] w fun e w'=>e=.returned (.int .i64 (oJ aa (cZ ns aa aA (zs.map Int.toNat)):Nat))∧Below w.heap.size w w':=by
 have hP:=ho.lt
 have HO:=hid ho
 have HI:=hid hi
 have hl:=hi.hlen
 have hc:=hi.hcap
 have hm:=hi.hmax
 have HA:=hid ha
 have HL:=hid hl
 clear ho hi ha hl
 go_enter Tryz.func103,Tryz.ntmps103
 go_wp2_with fail
 refine (Kv P aA _ HO.out.aA).mono ?_
 rintro e w1 ⟨rfl,hb1⟩
 have hs1:=hb1.size
 go_wp2_with (refine aW rfl (.tmp 5) (.tmp 9) rfl w1.heap.size 0 aA rfl rfl (fw w1).there ?_)
 intro w2 S2
 have G5:=hid S2.at_
 have HB2:Hid (Below w.heap.size w w2):=hid (S2.aO _ _ hs1 (hb1.alloc hs1 _))
 clear S2 hb1
 generalize w1.heap.size=gb at *
 go_wp2_with fail
 go_loopw [12] (fun i wq=>∃ j:Nat,j≤len∧i=.int .i64 j∧Hid (aN wq gb 0 (cZ ns aa aA ((zs.map Int.toNat).take j)))∧Hid (Below w.heap.size w wq)) (fun i _=>len - (intOf i).toNat)
 case atStart=>exact ⟨0,Nat.zero_le _,rfl,by simpa [cZ] using G5,HB2⟩
 case round=>
  obtain ⟨j,hj,rfl,H5,HB⟩:=hrel
  rename World=>W0
  by_cases hlt:j<len
  ·obtain ⟨b,off,rfl,hb,hcell⟩:=HI.out.hcell (by omega)
   have c:=(HB.out.cell (p:=⟨b,off+j,none⟩) hb).trans (hcell j hlt)
   have hz:nY (zs.getD j 0)=true:=by
    have h1:=HA.out
    unfold bI at h1
    rw [List.all_eq_true] at h1
    have h2:j<zs.length:=by rw [HL.out];exact hlt
    have h3:zs.getD j 0=zs[j]:=by simp [List.getD,List.getElem?_eq_getElem h2]
    rw [h3]
    exact h1 _ (List.getElem_mem h2)
   obtain ⟨x,hx⟩:∃ x:Nat,zs.getD j 0=(x:Int):=⟨(zs.getD j 0).toNat,by have:=(gQ.1 hz).1;omega⟩
   have AQ:x<8:=by have:=(gQ.1 hz).2;omega
   have HT:=hid (YQ (zs:=zs) (j:=j) (by rw [HL.out];exact hlt) hx)
   rw [hx] at c
   clear hx hz hcell
   have ST:=fun fr W (h:rR W P ns aa aA)=>Me P x ns aa aA fr W AQ h8 h
   have o:=hid (HO.out.below HB.out hP)
   go_wp2_with (refine aC rfl (.tmp 5) rfl gb 0 _ rfl H5.out ?_)
   refine (ST _ _ o.out).mono ?_
   rintro e w3 ⟨rfl,hb3⟩
   have G3:=hid (H5.out.below hb3 H5.out.lt)
   have HB3:=hid (HB.out.trans (hb3.mono HB.out.size))
   clear hb3 ST o
   go_wp2_with (refine aW rfl (.tmp 5) (.tmp 19) rfl gb 0 (stepG ns aa (cZ ns aa aA ((zs.map Int.toNat).take j)) x) rfl rfl G3.out.there ?_)
   intro w4 S4
   have G4:=hid S4.at_
   have dm:=hid (S4.aO _ _ hs1 HB3.out)
   clear S4
   go_wp2_with fail
   go_roundw
   case rel=>exact ⟨j+1,by omega,by go_num,by rw [HT.out,nR];exact G4,dm⟩
   case measure=>simp [intOf];omega
  ·obtain rfl:j=len:=by omega
   have o:=hid (HO.out.below HB.out hP)
   have HE:Hid ((zs.map Int.toNat).take j=zs.map Int.toNat):=hid (List.take_of_length_le (by simp [HL.out]))
   go_wp2_with (refine aC rfl (.tmp 5) rfl gb 0 _ rfl H5.out ?_)
   refine (Dh P ns aa aA _ _ o.out).mono ?_
   rintro e w3 ⟨rfl,hb3⟩
   go_wp2_with fail
   go_ret
   exact ⟨by rw [HE.out];rfl,HB.out.trans (hb3.mono HB.out.size)⟩
def rv (c:Nat→Value) (N:Nat):List Value:=(List.range N).map c
theorem nQ (c:Nat→Value) (N:Nat):(rv c N).length=N:=by simp [rv]
theorem Vs (c:Nat→Value) {N i:Nat} (h:i<N):(rv c N)[i]?=some (c i):=by simp [rv,h]
def One (c:Nat→Value) (N:Nat):Prop:=∀ i,i<N→(c i).oneCell'=true
theorem adV {c:Nat→Value} {N:Nat} (h:One c N):∀ v∈rv c N,v.oneCell'=true:=by
 intro v hv
 simp only [rv,List.mem_map,List.mem_range] at hv
 obtain ⟨j,hj,rfl⟩:=hv
 exact h j hj
structure bW (w:World) (b N:Nat) (c:Nat→Value):Prop where
 c:∀ i,i<N→w.cell? ⟨b,i,none⟩=some (c i)
 f:∀ i,i<N→w.frozen? ⟨b,i,none⟩=false
theorem bW.r9 {w:World} {b N:Nat} {c:Nat→Value} (h:bW w b N c):w.rangeAt b 0 (rv c N):=fun j v hv=>by
 have hj:j<N:=by have:=(List.getElem?_eq_some_iff.1 hv).1;rwa [nQ] at this
 rw [Vs c hj] at hv
 rw [Nat.zero_add,h.c j hj,hv]
theorem bW.there {w:World} {b N:Nat} {c:Nat→Value} (h:bW w b N c) (o n:Nat) (hn:o+n≤N):w.there b o n:=fun j hj=>⟨by rw [h.c (o+j) (by omega)];rfl,h.f (o+j) (by omega)⟩
theorem bW.below {B:Nat} {w w':World} {b N:Nat} {c:Nat→Value} (h:bW w b N c) (hb:Below B w w') (hlt:b<B):bW w' b N c:=
 ⟨fun j hj=>(hb.cell (p:=⟨b,j,none⟩) hlt).trans (h.c j hj),fun j hj=>(hb.frozen (p:=⟨b,j,none⟩) hlt).trans (h.f j hj)⟩
theorem bW.congr {w:World} {b N:Nat} {c d:Nat→Value} (h:bW w b N c) (e:∀ j,j<N→c j=d j):bW w b N d:=⟨fun j hj=>by rw [h.c j hj,e j hj],h.f⟩
def xU (c:Nat→Value) (i:Nat) (v:Value):Nat→Value:=fun j=>if j=i then v else c j
theorem bW.set {w:World} {b N:Nat} {c:Nat→Value} (h:bW w b N c) (i:Nat) (v:Value):bW (w.setCell ⟨b,i,none⟩ v) b N (xU c i v):=by
 refine ⟨fun j hj=>?_,fun j hj=>by rw [World.frozen?_setCell];exact h.f j hj⟩
 by_cases e:j=i
 ·subst e
  rw [World.cell?_setCell_same _ _ _ (h.c j hj)]
  simp [xU]
 ·rw [World.cell?_setCell_other _ ⟨b,i,none⟩ ⟨b,j,none⟩ _ (fun q=>e (by have:=congrArg Addr.off q;simp at this;omega)),h.c j hj]
  simp [xU,e]
theorem bW.other {w:World} {b N:Nat} {c:Nat→Value} (h:bW w b N c) (p:Addr) (v:Value) (hp:p.block≠b):bW (w.setCell p v) b N c:=by
 refine ⟨fun j hj=>?_,fun j hj=>by rw [World.frozen?_setCell];exact h.f j hj⟩
 rw [World.cell?_setCell_other _ p ⟨b,j,none⟩ _ (fun q=>hp (congrArg Addr.block q))]
 exact h.c j hj
theorem kS (w:World) (c:Nat→Value) (N:Nat) (t:TypeId):bW (w.alloc (.cells (rv c N).toArray t)) w.heap.size N c:=by
 refine ⟨fun j hj=>?_,fun j hj=>?_⟩
 ·rw [cell_of_row (w.alloc (.cells (rv c N).toArray t)) w.heap.size j (rv c N).toArray t (0,0) (heap_alloc_last w _)]
  simp [rv,hj]
 ·simp
structure yQ (w:World) (b N:Nat) (c:Nat→Value) (w1:World):Prop where
 at_:bW w1 b N c
 size:w1.heap.size=w.heap.size
 aO:∀ B a,B≤b→Below B a w→Below B a w1
 cell:∀ p:Addr,p.block≠b→w1.cell? p=w.cell? p
 fz:∀ p,w1.frozen? p=w.frozen? p
theorem Ib {w:World} {b N:Nat} (h:w.there b 0 N) (c:Nat→Value):yQ w b N c (w.setCells b 0 (rv c N)):=by
 refine ⟨⟨fun j hj=>?_,fun j hj=>?_⟩,size_setCells _ _ _ _,fun B a hB hb=>below_setCells hB _ _ _ hb,fun p hp=>?_,fun p=>World.frozen?_setCells _ _ _ _ _⟩
 ·have:=World.rangeAt_setCells_same w b 0 (rv c N) (by rw [nQ];exact h) j _ (Vs c hj)
  rwa [Nat.zero_add] at this
 ·rw [World.frozen?_setCells]
  have:=(h j hj).2
  rwa [Nat.zero_add] at this
 ·rw [World.cell?_setCells_out b (rv c N) 0 w p (fun hb _=>absurd hb hp)]
theorem yQ.raw {w w1:World} {b N:Nat} {c:Nat→Value} (h:yQ w b N c w1) {b' N':Nat} {c':Nat→Value} (k:bW w b' N' c') (hp:b'≠b):bW w1 b' N' c':=
 ⟨fun j hj=>by rw [h.cell ⟨b',j,none⟩ hp];exact k.c j hj,fun j hj=>by rw [h.fz];exact k.f j hj⟩
theorem dE {ops:Array Oper} {rest:List Oper} {op:Oper} {a:Act} {w:World} {Q:Exit→Act→World→Prop} (hgd:op.guard=none) (ty:TypeId) (x y:Operand) (ho:op.op=.store ty x y)
  (b N:Nat) (c:Nat→Value) (hx:a.eval x=.pointer (some ⟨b,0,none⟩)) (hy:a.eval y=.agg (rv c N).toArray) (ht:w.there b 0 N) (hs:(Tryz.prog.info? ty).map (·.size)=some N) (h1:One c N)
  (h:∀ w1,yQ w b N c w1→wpList Tryz.prog ops Q rest (a.put op.dst undef) w1):wpList Tryz.prog ops Q (op::rest) a w:=by
 refine wpList_store_mid hgd ty x y ho b 0 (rv c N).toArray hx hy (by simp only [List.size_toArray,nQ];exact ht) (by simp only [List.size_toArray,nQ];exact hs) (all_oneCell_toArray (adV h1)) ?_
 exact h _ (Ib ht c)
theorem nH {ops:Array Oper} {rest:List Oper} {op:Oper} {a:Act} {w:World} {Q:Exit→Act→World→Prop} (hgd:op.guard=none) (ty:TypeId) (x:Operand) (ho:op.op=.load ty x)
  (b N:Nat) (c:Nat→Value) (d:TypeDesc) (hx:a.eval x=.pointer (some ⟨b,0,none⟩)) (hg:bW w b N c) (hu:Tryz.prog.underlying ty=some d) (hd:d.isRow=true) (hs:(Tryz.prog.info? ty).map (·.size)=some N)
  (h:wpList Tryz.prog ops Q rest (a.put op.dst (.agg (rv c N).toArray)) w):wpList Tryz.prog ops Q (op::rest) a w:=
 wpList_load_mid hgd ty x ho b 0 hx (rv c N) d hg.r9 hu hd (by rw [nQ];exact hs) h
def bX (bf:Nat→Nat) (sl:Value) (aa aA:Nat→Bool):Nat→Value:=fun i=>
 if i<2048 then .int .u8 (bf i:Nat) else if i=2048 then sl else if i<2305 then .bool (aa (i - 2049)) else .bool (aA (i - 2305))
theorem Tryz.wC:Tryz.zeroCells63=(rv (bX (fun _=>0) (.slice none 0 0) (fun _=>false) (fun _=>false)) 2561).toArray:=by kernel_rfl
theorem Tryz.qz:(Tryz.prog.info? 63).map (·.size)=some 2561:=by kernel_rfl
theorem sN (bf:Nat→Nat) {sl:Value} (aa aA:Nat→Bool) (h:sl.oneCell'=true):One (bX bf sl aa aA) 2561:=fun i hi=>by
 unfold bX
 split
 ·rfl
 ·split
  ·exact h
  ·split <;> rfl
def RX (f:Nat→Nat) (i v:Nat):Nat→Nat:=fun j=>if j=i then v else f j
theorem ZA (bf:Nat→Nat) (sl:Value) (aa aA:Nat→Bool) {i:Nat} (hi:i<2048) (v:Nat):xU (bX bf sl aa aA) i (.int .u8 (v:Nat))=bX (RX bf i v) sl aa aA:=by
 funext j
 unfold xU bX RX
 by_cases e:j=i
 ·subst e;simp [hi]
 ·simp [e]
theorem acL (bf:Nat→Nat) (sl sl':Value) (aa aA:Nat→Bool):xU (bX bf sl aa aA) 2048 sl'=bX bf sl' aa aA:=by
 funext j
 unfold xU bX
 by_cases e:j=2048
 ·subst e;simp
 ·simp [e]
theorem Zz (bf:Nat→Nat) (sl:Value) (aa aA:Nat→Bool) {i:Nat} (hi:i<256) (v:Bool):xU (bX bf sl aa aA) (2305+i) (.bool v)=bX bf sl aa (upd aA i v):=by
 funext j
 unfold xU bX upd
 by_cases e:j=2305+i
 ·subst e
  rw [if_pos rfl,if_neg (by omega),if_neg (by omega),if_neg (by omega),if_pos (by omega)]
 ·rw [if_neg e]
  by_cases h1:j<2048
  ·rw [if_pos h1,if_pos h1]
  ·rw [if_neg h1,if_neg h1]
   by_cases h2:j=2048
   ·rw [if_pos h2,if_pos h2]
   ·rw [if_neg h2,if_neg h2]
    by_cases h3:j<2305
    ·rw [if_pos h3,if_pos h3]
    ·rw [if_neg h3,if_neg h3,if_neg (by omega)]
theorem acG {w w1:World} {b:Nat} {bf:Nat→Nat} {sl:Value} {aa aA g:Nat→Bool} (h:bW w b 2561 (bX bf sl aa aA)) (s:sZ w b 2049 g w1):bW w1 b 2561 (bX bf sl g aA):=by
 refine ⟨fun i hi=>?_,fun i hi=>by rw [s.fz];exact h.f i hi⟩
 by_cases h1:i<2049
 ·rw [s.cell ⟨b,i,none⟩ (Or.inr (Or.inl h1)),h.c i hi]
  unfold bX
  by_cases h2:i<2048
  ·rw [if_pos h2,if_pos h2]
  ·have h3:i=2048:=by omega
   rw [if_neg h2,if_neg h2,if_pos h3,if_pos h3]
 ·by_cases h2:i<2305
  ·have:=s.at_.c (i - 2049) (by omega)
   rw [show 2049+(i - 2049)=i by omega] at this
   rw [this]
   unfold bX
   rw [if_neg (by omega),if_neg (by omega),if_pos h2]
  ·rw [s.cell ⟨b,i,none⟩ (Or.inr (Or.inr (by show 2049+256≤i;omega))),h.c i hi]
   unfold bX
   rw [if_neg (by omega),if_neg (by omega),if_neg h2,if_neg (by omega),if_neg (by omega),if_neg h2]
theorem JA {w:World} {b:Nat} {bf:Nat→Nat} {sl:Value} {aa aA:Nat→Bool} (h:bW w b 2561 (bX bf sl aa aA)):aN w b 2049 aa:=by
 refine ⟨fun j hj=>?_,fun j hj=>h.f _ (by omega)⟩
 rw [h.c _ (by omega)]
 unfold bX
 rw [if_neg (by omega),if_neg (by omega),if_pos (by omega),show 2049+j - 2049=j by omega]
theorem VH {w:World} {b:Nat} {bf:Nat→Nat} {sl:Value} {aa aA:Nat→Bool} (h:bW w b 2561 (bX bf sl aa aA)):aN w b 2305 aA:=by
 refine ⟨fun j hj=>?_,fun j hj=>h.f _ (by omega)⟩
 rw [h.c _ (by omega)]
 unfold bX
 rw [if_neg (by omega),if_neg (by omega),if_neg (by omega),show 2305+j - 2305=j by omega]
def lS (ns:List Nd):Nat→Nat:=fun i=>eT ns (i / 256) (i % 256)
theorem MC {w:World} {b:Nat} {ns:List Nd} {sl:Value} {aa aA:Nat→Bool} (h:bW w b 2561 (bX (lS ns) sl aa aA)):tC w b ns:=fun x N hx hN=>by
 rw [h.c _ (by omega)]
 unfold bX lS
 rw [if_pos (by omega),show (x*256+N) / 256=x by omega,show (x*256+N) % 256=N by omega]
theorem Bp {w:World} {b:Nat} {bf:Nat→Nat} {sl:Value} {aa aA:Nat→Bool} (h:bW w b 2561 (bX bf sl aa aA)):w.cell? ⟨b,2048,none⟩=some sl:=by
 rw [h.c _ (by omega)]
 simp [bX]
theorem CP {w:World} {b:Nat} {ns:List Nd} {sl:Value} {aa aA:Nat→Bool} (h:bW w b 2561 (bX (lS ns) sl aa aA)):rR w b ns aa aA:=⟨MC h,JA h,VH h⟩
def Aw (w:World) (sl:Value) (cs:List (Nat→Bool)):Prop:=∃ ao cap,sl=.slice ao cs.length cap∧(0<cs.length→∃ gc,ao=some ⟨gc,0,none⟩∧gc<w.heap.size∧∀ k c,cs[k]?=some c→aN w gc (k*256) c)
theorem Aw.below {w w':World} {sl:Value} {cs:List (Nat→Bool)} (h:Aw w sl cs) (hb:Below w.heap.size w w'):Aw w' sl cs:=by
 obtain ⟨ao,cap,h1,h2⟩:=h
 refine ⟨ao,cap,h1,fun h0=>?_⟩
 obtain ⟨gc,h3,h4,h5⟩:=h2 h0
 exact ⟨gc,h3,Nat.lt_of_lt_of_le h4 hb.size,fun k c hk=>(h5 k c hk).below hb h4⟩
theorem aaF {w:World} {b:Nat} {bf:Nat→Nat} {sl:Value} {aa aA:Nat→Bool} {cs:List (Nat→Bool)} (h:bW w b 2561 (bX bf sl aa aA)) (hv:Aw w sl cs):mO w b cs:=by
 obtain ⟨ao,cap,rfl,h2⟩:=hv
 exact ⟨ao,cap,Bp h,h2⟩
def mE (cs:List (Nat→Bool)):List Value:=cs.flatMap gv
theorem Xe {cs:List (Nat→Bool)} {k:Nat} {c:Nat→Bool} (h:cs[k]?=some c) {j:Nat} (hj:j<256):(mE cs)[k*256+j]?=some (.bool (c j)):=by
 induction cs generalizing k with
 | nil=>simp at h
 | cons p ps ih=>
  rw [show mE (p::ps)=gv p++mE ps by simp [mE]]
  cases k with
  | zero=>
   simp at h;subst h
   rw [List.getElem?_append_left (by rw [jN];omega),Nat.zero_mul,Nat.zero_add]
   exact wG p hj
  | succ k=>
   rw [List.getElem?_append_right (by rw [jN];omega),jN,show (k+1)*256+j - 256=k*256+j by omega]
   exact ih (by simpa using h)
theorem Ce {w:World} {B:Nat} {sl:Value} {cs:List (Nat→Bool)} (h:w.ownsRow B 61 256 sl cs.length (mE cs)):Aw w sl cs:=by
 obtain ⟨ao,cap,rfl⟩:=ag h
 refine ⟨ao,cap,rfl,fun h0=>?_⟩
 obtain ⟨gc,rfl,h1,h2,h3⟩:=dH h h0
 refine ⟨gc,rfl,h2,fun k c hk=>⟨fun j hj=>?_,fun j hj=>h.frozenAt _⟩⟩
 have hkl:=(List.getElem?_eq_some_iff.1 hk).1
 rw [h.cellAt (k*256+j) (by have:(k+1)*256≤cs.length*256:=Nat.mul_le_mul_right _ hkl;omega)]
 exact Xe hk hj
theorem fold_size (off:Nat):∀ (xs:List Value) (k:Nat) (base:Array Value),((xs.zipIdx k).foldl (fun cs p=>cs.setIfInBounds (off+p.2) p.1) base).size=base.size
 | [],_,_=>rfl
 | x::xs,k,base=>by
  rw [List.zipIdx_cons,List.foldl_cons,fold_size off xs (k+1)]
  simp
theorem NH:∀ (xs:List Value) (k:Nat) (base:Array Value) (i:Nat),i<base.size →
  ((xs.zipIdx k).foldl (fun cs p=>cs.setIfInBounds (0+p.2) p.1) base)[i]?=if k≤i∧i<k+xs.length then xs[i - k]? else base[i]?
 | [],k,base,i,_=>by simp;intro h1 h2;omega
 | x::xs,k,base,i,hi=>by
  rw [List.zipIdx_cons,List.foldl_cons,NH xs (k+1) _ i (by simpa using hi)]
  by_cases e:i=k
  ·subst e
   rw [if_neg (by omega),if_pos (by simp)]
   simp [hi]
  ·by_cases h:k+1≤i∧i<k+1+xs.length
   ·rw [if_pos h,if_pos (by simp;omega),show i - k=(i - (k+1))+1 by omega]
    simp
   ·rw [if_neg h,if_neg (by simp;omega)]
    simp [Array.getElem?_setIfInBounds]
    intro h2;omega
theorem aaq (c base:Array Value) (n:Nat) (hc:c.size=n) (hb:base.size=n):Instr.fill (fun i=>some (i*n,n)) base [(0,.agg c)]=some c:=by
 have h1:(Value.agg c).cells=c:=rfl
 simp only [Instr.fill,h1,Nat.zero_mul,Nat.zero_add,hc,hb,ne_eq,not_true,decide_false,Bool.false_or,gt_iff_lt,Nat.lt_irrefl,decide_false,Bool.false_eq_true,if_false]
 congr 1
 apply Array.ext_getElem?
 intro i
 rw [←Array.foldl_toList,Array.toList_zipIdx]
 by_cases hi:i<n
 ·have:=NH c.toList 0 base i (by omega)
  simp only [Nat.zero_add] at this
  rw [this,if_pos (by simp;omega)]
  simp
 ·have hs:=fold_size 0 c.toList 0 base
  simp only [Nat.zero_add] at hs
  rw [Array.getElem?_eq_none (by rw [hs];omega),Array.getElem?_eq_none (by omega)]
theorem tV (g:Nat→Bool) (w:World):(Instr.buildSlice 59 1 #[(0,.agg (gv g).toArray)]).run Tryz.prog w=.ok (.slice (some ⟨w.heap.size,0,none⟩) 1 1) (w.alloc (.cells (gv g).toArray 61)):=by
 have hf:=aaq (gv g).toArray ((Array.range 256).map fun x=>(Value.agg Tryz.zeroCells61).cells[x % (Value.agg Tryz.zeroCells61).cells.size]!) 256 (by simp [jN]) (by simp)
 simp [Instr.buildSlice,Tryz.runUnderlying59,Tryz.sizeOf61,Tryz.zeroValue61,newRow]
 rw [hf]
 simp
theorem vQ {ops:Array Oper} {rest:List Oper} {op:Oper} {a:Act} {w:World} {Q:Exit→Act→World→Prop} (hgd:op.guard=none) (x:Operand) (ho:op.op=.buildSlice 59 1 #[(0,x)])
  (g:Nat→Bool) (hx:a.eval x=.agg (gv g).toArray)
  (h:wpList Tryz.prog ops Q rest (a.put op.dst (.slice (some ⟨w.heap.size,0,none⟩) 1 1)) (w.alloc (.cells (gv g).toArray 61))):wpList Tryz.prog ops Q (op::rest) a w:=
 wpList_plain hgd fun _ hK=>by
  unfold Oper.wp execOp
  have:=tV g w
  simp only [ho,hx,List.map_toArray,List.map_cons,List.map_nil,Sem.run_bind,this,Result.andThen_ok,Sem.run_pure]
  exact hK _ _ h
end Go.Proofs.YtjagijohfkffiabGreat
