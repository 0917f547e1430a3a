import Derived.Test.YtjagijohfkffiabGreatALLM35
import Derived.Deep.RegionHeld3
set_option maxHeartbeats 16000000
set_option maxRecDepth 100000
namespace Go.Proofs.YtjagijohfkffiabGreat
open Go.RowKit
set_option linter.unusedVariables false
structure Ro (w:World) (B S:Nat) (vK vH:Value) (kds:List Nat) (ss:List St):Prop where
 t:Two w S vK vH
 tB:S<B
 kd:w.ownsRow B 3 1 vK kds.length (au kds)
 sh:w.ownsRow B 119 9 vH ss.length (dY ss)
 e8:iM ss
theorem Ro.below {w w':World} {B S:Nat} {vK vH:Value} {kds:List Nat} {ss:List St} (h:Ro w B S vK vH kds ss) (hb:Below w.heap.size w w'):Ro w' B S vK vH kds ss:=
 ⟨h.t.below hb h.t.lt,h.tB,ae h.kd hb,ae h.sh hb,h.e8⟩
def rZ (w:World) (o a0 a1 a2 a3 a4 a5 a6 a7:Int) (W:World):Prop:=W.cell? ⟨w.heap.size,0,none⟩=some (.int .i64 o)∧W.cell? ⟨w.heap.size,1,none⟩=some (.int .i64 a0)∧W.cell? ⟨w.heap.size,2,none⟩=some (.int .i64 a1)∧W.cell? ⟨w.heap.size,3,none⟩=some (.int .i64 a2)∧W.cell? ⟨w.heap.size,4,none⟩=some (.int .i64 a3)∧W.cell? ⟨w.heap.size,5,none⟩=some (.int .i64 a4)∧W.cell? ⟨w.heap.size,6,none⟩=some (.int .i64 a5)∧W.cell? ⟨w.heap.size,7,none⟩=some (.int .i64 a6)∧W.cell? ⟨w.heap.size,8,none⟩=some (.int .i64 a7)
theorem Us (w:World) (o a0 a1 a2 a3 a4 a5 a6 a7:Int) (t:TypeId):rZ w o a0 a1 a2 a3 a4 a5 a6 a7 (w.alloc (.cells #[Value.int .i64 o,Value.int .i64 a0,Value.int .i64 a1,Value.int .i64 a2,Value.int .i64 a3,Value.int .i64 a4,Value.int .i64 a5,Value.int .i64 a6,Value.int .i64 a7] t)):=by
 have al:∀ j u,[Value.int .i64 o,Value.int .i64 a0,Value.int .i64 a1,Value.int .i64 a2,Value.int .i64 a3,Value.int .i64 a4,Value.int .i64 a5,Value.int .i64 a6,Value.int .i64 a7][j]?=some u→(w.alloc (.cells #[Value.int .i64 o,Value.int .i64 a0,Value.int .i64 a1,Value.int .i64 a2,Value.int .i64 a3,Value.int .i64 a4,Value.int .i64 a5,Value.int .i64 a6,Value.int .i64 a7] t)).cell? ⟨w.heap.size,j,none⟩=some u:=fun j u hu=>by
  have:=bE w [Value.int .i64 o,Value.int .i64 a0,Value.int .i64 a1,Value.int .i64 a2,Value.int .i64 a3,Value.int .i64 a4,Value.int .i64 a5,Value.int .i64 a6,Value.int .i64 a7] t j u hu
  rwa [Addr.add_mid,Nat.zero_add] at this
 exact ⟨al 0 _ rfl,al 1 _ rfl,al 2 _ rfl,al 3 _ rfl,al 4 _ rfl,al 5 _ rfl,al 6 _ rfl,al 7 _ rfl,al 8 _ rfl⟩
theorem rZ.of {w W W':World} {o a0 a1 a2 a3 a4 a5 a6 a7:Int} (h:rZ w o a0 a1 a2 a3 a4 a5 a6 a7 W) (hc:∀ j,W'.cell? ⟨w.heap.size,j,none⟩=W.cell? ⟨w.heap.size,j,none⟩):rZ w o a0 a1 a2 a3 a4 a5 a6 a7 W':=
 ⟨(hc 0).trans h.1,(hc 1).trans h.2.1,(hc 2).trans h.2.2.1,(hc 3).trans h.2.2.2.1,(hc 4).trans h.2.2.2.2.1,(hc 5).trans h.2.2.2.2.2.1,(hc 6).trans h.2.2.2.2.2.2.1,(hc 7).trans h.2.2.2.2.2.2.2.1,(hc 8).trans h.2.2.2.2.2.2.2.2⟩
def agO (w:World) (B S:Nat) (vK vH:Value) (kds:List Nat) (ss:List St) (x:St) (e:Ending) (w':World):Prop:=
 e=.returned (.tuple #[])∧∃ j vK' vH' ss',Ro w' B S vK' vH' (kds++[j]) ss'∧KB w w' S vK.ownBlock vH.ownBlock∧((ss'=ss∧ss[j]?=some x)∨(j=ss.length∧ss'=ss++[x]∧∀ s∈ss,s≠x))
theorem Zh (w:World) (B S:Nat) (vK vH:Value) (kds:List Nat) (ss:List St) (o a0 a1 a2 a3 a4 a5 a6 a7:Int) (hm:Ro w B S vK vH kds ss) (hB:B≤w.heap.size) (hn:ss.length≤8589934592) (hk:kds.length≤8589934592) :
  Calls Tryz.prog 119 #[.pointer (some ⟨S,0,none⟩),.agg #[Value.int .i64 o,Value.int .i64 a0,Value.int .i64 a1,Value.int .i64 a2,Value.int .i64 a3,Value.int .i64 a4,Value.int .i64 a5,Value.int .i64 a6,Value.int .i64 a7]] w (agO w B S vK vH kds ss (⟨o,[a0,a1,a2,a3,a4,a5,a6,a7]⟩:St)):=by
 have hS:=hm.t.lt
 have hSB:=hm.tB
 have HM:=hid hm
 obtain ⟨aoK,cpK,rfl⟩:=ag hm.kd
 obtain ⟨aoH,cpH,rfl⟩:=ag hm.sh
 obtain ⟨i0,hi,hz0,hz1,hz2⟩:=info_parts Tryz.Ir
 obtain ⟨i1,hi1,hz01,hz11,hz21⟩:=info_parts Tryz.kG
 clear hm
 have ba:=(Below.refl w.heap.size w).alloc (Nat.le_refl _) (.cells #[Value.int .i64 o,Value.int .i64 a0,Value.int .i64 a1,Value.int .i64 a2,Value.int .i64 a3,Value.int .i64 a4,Value.int .i64 a5,Value.int .i64 a6,Value.int .i64 a7] 119)
 have X1:=hid (Us w o a0 a1 a2 a3 a4 a5 a6 a7 119)
 have M1:=HM.out.below ba
 go_enter Tryz.func119,Tryz.ntmps119
 go_wp2_with fail
 refine (aap S B _ _ ss o a0 a1 a2 a3 a4 a5 a6 a7 _ M1.t M1.sh M1.e8 hn).mono ?_
 rintro e W0 ⟨j,rfl,hcase,hb2⟩
 simp only [World.size_alloc] at hb2
 have HB:=hid (ba.trans (hb2.mono (by omega)))
 have hsz:w.heap.size<W0.heap.size:=by have:=hb2.size;simp at this;omega
 have XH:=hid (X1.out.of (fun j=>hb2.cell (p:=⟨w.heap.size,j,none⟩) (by show w.heap.size<w.heap.size+1;omega)))
 have dW:=hid (HM.out.below HB.out)
 have cT:=dW.out.t.c1
 clear ba M1 hb2 X1
 rcases hcase with hin | ⟨hj,hnot⟩
 ·have hjl:j<ss.length:=(List.getElem?_eq_some_iff.1 hin).1
  have jn:¬ ((j:Int)=(ss.length:Int)):=by omega
  have HIN:=hid hin
  clear hin
  have D1:=hid dW.out.t
  have D2:=hid dW.out.sh
  have D3:=hid dW.out.kd
  have nM:=hid (KB.of_below (T:=S) (r1:=(Value.slice aoH ss.length cpH).ownBlock) (r2:=none) HB.out)
  have hszW:w.heap.size<W0.heap.size:=hsz
  have E8:=hid dW.out.e8
  have uA:(Value.slice aoK kds.length cpK).ownBlock≠some S:=fun e=>by have:=(dW.out.kd.lt _ e).1;omega
  clear dW
  have BK:(Value.slice aoH ss.length cpH).ownBlock≠some S:=fun e=>by have:=(HM.out.sh.lt _ e).1;omega
  have e0:=D1.out.c0
  have e2:=D1.out.f0
  go_wp2_with (at_builtin;go_must (refine wpList_append_lies _ rfl (.tmp 29) (.tmp 31) 22 rfl B 3 i1 (.int .i64 0) 1 8 Tryz.underlying22 hi1 hz01 hz11 hz21 rfl (by decide) _ kds.length (au kds) rfl (D3.out.alloc _) ⟨W0.heap.size,0,none⟩ 1 1 [.int .i64 (j:Nat)] rfl rfl (bE W0 [.int .i64 (j:Nat)] _) (by intro y hy;simp at hy;rcases hy with rfl;rfl) (by decide) (by unfold maxLen;omega) (by omega) (by simp;omega) (W0.heap.size+1) (by simp) ?_))
  intro go co w6 hownO hgrowO hatO hltO
  have zR:W0.heap.size≤w6.heap.size:=by
   have h4:=hgrowO.size
   simp at h4
   omega
  have zV:go≠S:=by
   rcases hatO with h | h
   ·exact fun e=>uA (by rw [←e];exact h)
   ·omega
  have jh:KB W0 w6 S (Value.slice aoK kds.length cpK).ownBlock none:=⟨hgrowO.os,hgrowO.tape,hgrowO.output,zR,fun q hq h1 h2 _=>by
   rw [hgrowO.block q (by rw [World.size_alloc];omega) h2,Below.heap_alloc _ _ _ (by omega)]⟩
  have rA:=hgrowO.block S (by rw [World.size_alloc];omega) (fun e=>uA e.symm)
  have hc:∀ o,w6.cell? ⟨S,o,none⟩=W0.cell? ⟨S,o,none⟩:=fun o=>by
   rw [World.cell?_of_block (a:=⟨S,o,none⟩) rA]
   exact World.cell?_alloc_lt _ _ _ (by show S<W0.heap.size;omega)
  have hf:∀ o,w6.frozen? ⟨S,o,none⟩=W0.frozen? ⟨S,o,none⟩:=fun o=>by
   rw [World.frozen?_of_block (a:=⟨S,o,none⟩) rA]
   exact World.frozen?_alloc_past _ _ _ (by show S<W0.heap.size;omega)
  have T6:Two w6 S _ _:=⟨(hc 0).trans D1.out.c0,(hc 1).trans D1.out.c1,(hf 0).trans D1.out.f0,(hf 1).trans D1.out.f1⟩
  have q0:=T6.c0
  have q2:=T6.f0
  have E1:=hid (T6.set0 (.slice (some ⟨go,0,none⟩) (kds.length+1) co))
  have E2:=hid (aQ (fB D2.out jh BK (aD D2.out D3.out (by decide)) (by cases (Value.ownBlock _) <;> simp)) ⟨S,0,none⟩ (.slice (some ⟨go,0,none⟩) (kds.length+1) co) BK)
  have E3:=hid (aQ hownO ⟨S,0,none⟩ (.slice (some ⟨go,0,none⟩) (kds.length+1) co) (by simpa [Value.ownBlock] using zV))
  have GX:Hid (KB w (w6.setCell ⟨S,0,none⟩ (.slice (some ⟨go,0,none⟩) (kds.length+1) co)) S (Value.slice aoK kds.length cpK).ownBlock (Value.slice aoH ss.length cpH).ownBlock):=hid ⟨jh.os.trans nM.out.os,jh.tape.trans nM.out.tape,jh.output.trans nM.out.output,by rw [World.size_setCell];omega,fun q hq h1 h2 h3=>by
   rw [Below.heap_setCell _ _ _ _ h1,jh.block q (by omega) h1 h2 (by simp),nM.out.block q hq h1 h3 (by simp)]⟩
  clear hownO hgrowO hatO jh T6 rA hc hf D1 D2 D3 e0 e2
  go_wp2_with fail
  go_end0
  refine ⟨rfl,j,_,_,ss,⟨E1.out,hSB,?_,?_,E8.out⟩,GX.out,Or.inl ⟨rfl,HIN.out⟩⟩
  ·rw [List.length_append,show au (kds++[j])=au kds++[.int .i64 (j:Nat)] by simp [au]]
   exact E3.out
  ·exact E2.out
 ·subst hj
  have UC:=hid hnot
  clear hnot
  have jn:((ss.length:Int)==(ss.length:Int))=true:=by simp
  go_wp2_with fail
  have fT:=dW.out.t.f1
  have rC:S<W0.heap.size:=by omega
  have OW:=hid dW.out.sh
  have Je:Hid (∀ q,(Value.slice aoH ss.length cpH).ownBlock=some q→q<w.heap.size∧B≤q):=hid (fun q h=>⟨(HM.out.sh.lt q h).2,(HM.out.sh.lt q h).1⟩)
  have zT:(Value.slice aoH ss.length cpH).ownBlock≠some S:=fun e=>by have:=(Je.out _ e).2;omega
  refine wp_region_held_drew (S:=rZ w o a0 a1 a2 a3 a4 a5 a6 a7) (by kernel_rfl) (XH.out.of (fun _=>rfl)) (fun hHeld=>?_)
  refine wpAnyH_take (i:=0) (oi:={ dst:=some 15,op:=Op.move (.tmp 0),type:=_,pos:=_,after:=_,guard:=none }) (v:=(Value.pointer (some ⟨S,0,none⟩))) rfl (by kernel_rfl) (by kernel_rfl) (by kernel_rfl) (fun _ _ _ h=>h) (Or.inl ⟨by rfl,by intro w' hSw;(try dsimp only at hSw);go_simp⟩) (by assumption) ?_
  simp only [Act.put,List.setIfInBounds_toArray,List.set_cons_zero,List.set_cons_succ]
  refine wpAnyH_take (i:=1) (oi:={ dst:=some 16,op:=Op.move (.tmp 0),type:=_,pos:=_,after:=_,guard:=none }) (v:=(Value.pointer (some ⟨S,0,none⟩))) rfl (by kernel_rfl) (by kernel_rfl) (by kernel_rfl) (fun _ _ _ h=>h) (Or.inl ⟨by rfl,by intro w' hSw;(try dsimp only at hSw);go_simp⟩) (by assumption) ?_
  simp only [Act.put,List.setIfInBounds_toArray,List.set_cons_zero,List.set_cons_succ]
  refine wpAnyH_take (i:=2) (oi:={ dst:=some 17,op:=Op.nilCheck (.tmp 16),type:=_,pos:=_,after:=_,guard:=none }) (v:=(Value.pointer (some ⟨S,0,none⟩))) rfl (by kernel_rfl) (by kernel_rfl) (by kernel_rfl) (fun _ _ _ h=>h) (Or.inl ⟨by rfl,by intro w' hSw;(try dsimp only at hSw);go_simp⟩) (by assumption) ?_
  simp only [Act.put,List.setIfInBounds_toArray,List.set_cons_zero,List.set_cons_succ]
  refine wpAnyH_take (i:=3) (oi:={ dst:=some 18,op:=Op.fieldAddr _ (.tmp 17) 1,type:=_,pos:=_,after:=_,guard:=none }) (v:=(Value.pointer (some ⟨S,1,none⟩))) rfl (by kernel_rfl) (by kernel_rfl) (by kernel_rfl) (fun _ _ _ h=>h) (Or.inl ⟨by rfl,by intro w' hSw;(try dsimp only at hSw);go_simp⟩) (by assumption) ?_
  simp only [Act.put,List.setIfInBounds_toArray,List.set_cons_zero,List.set_cons_succ]
  refine wpAnyH_take (i:=5) (oi:={ dst:=some 20,op:=Op.load 119 (.tmp 3),type:=_,pos:=_,after:=_,guard:=none }) (v:=(Value.agg #[Value.int .i64 o,Value.int .i64 a0,Value.int .i64 a1,Value.int .i64 a2,Value.int .i64 a3,Value.int .i64 a4,Value.int .i64 a5,Value.int .i64 a6,Value.int .i64 a7])) rfl (by kernel_rfl) (by kernel_rfl) (by kernel_rfl) (fun _ _ _ h=>h) (Or.inl ⟨by rfl,by intro w' hSw;obtain ⟨s0,s1,s2,s3,s4,s5,s6,s7,s8⟩:=hSw;go_simp⟩) (by assumption) ?_
  simp only [Act.put,List.setIfInBounds_toArray,List.set_cons_zero,List.set_cons_succ]
  refine wpAnyH_ready (rs:=[4,6]) (by kernel_rfl) (by simp) ?_
  refine AllReadyH.cons rfl (fun K hK=>?_) (AllReadyH.cons rfl (fun K hK=>?_) AllReadyH.nil)
  ·go_simp
   refine hK.out _ _ (by assumption) (fun hHeld=>?_)
   clear hK K
   refine wpAnyH_ready (rs:=[6]) (by kernel_rfl) (by simp) ?_
   refine AllReadyH.cons rfl (fun K hK=>?_) AllReadyH.nil
   go_simp
   refine hK.out _ _ (XH.out.of (fun j=>by show (W0.alloc _).cell? _=_;exact World.cell?_alloc_lt _ _ _ hsz)) (fun hHeld=>?_)
   clear hK K
   refine wpAnyH_ready (rs:=[7]) (by kernel_rfl) (by simp) ?_
   refine AllReadyH.cons rfl (fun K hK=>?_) AllReadyH.nil
   refine step_append_lies _ (by rfl) (.tmp 19) (.tmp 21) 65 (by rfl) B 119 i0 (.agg #[.int .i64 0,.int .i64 0,.int .i64 0,.int .i64 0,.int .i64 0,.int .i64 0,.int .i64 0,.int .i64 0,.int .i64 0]) 9 72 Tryz.underlying65 hi hz0 hz1 hz2 rfl (by decide) _ ss.length (dY ss) (by rfl) ((OW.out.alloc _).drew) ⟨W0.heap.size,0,none⟩ 1 1 [Value.int .i64 o,Value.int .i64 a0,Value.int .i64 a1,Value.int .i64 a2,Value.int .i64 a3,Value.int .i64 a4,Value.int .i64 a5,Value.int .i64 a6,Value.int .i64 a7] (by rfl) (by rfl) (bE W0 _ _) (by intro y hy;simp at hy;rcases hy with rfl | rfl | rfl | rfl | rfl | rfl | rfl | rfl | rfl <;> rfl) (by decide) (by unfold maxLen;omega) (by omega) (by simp;omega) (W0.heap.size+1) (by simp) ?_
   intro gg cc w2 hown hgrow hat hlt2
   have nG:gg≠S:=by
    rcases hat with h | h
    ·exact fun e=>zT (by rw [←e];exact h)
    ·omega
   have Ey:W0.heap.size+1≤w2.heap.size:=by
    have h4:(W0.drew.alloc (.cells #[Value.int .i64 o,Value.int .i64 a0,Value.int .i64 a1,Value.int .i64 a2,Value.int .i64 a3,Value.int .i64 a4,Value.int .i64 a5,Value.int .i64 a6,Value.int .i64 a7] 119)).heap.size≤w2.heap.size:=hgrow.size
    rw [World.size_alloc] at h4
    exact h4
   have fE:KB W0 w2 S (Value.slice aoH ss.length cpH).ownBlock none:=⟨hgrow.os,hgrow.tape,hgrow.output,by omega,fun q hq h1 h2 _=>by
    rw [hgrow.block q (by show q<(W0.alloc (.cells #[Value.int .i64 o,Value.int .i64 a0,Value.int .i64 a1,Value.int .i64 a2,Value.int .i64 a3,Value.int .i64 a4,Value.int .i64 a5,Value.int .i64 a6,Value.int .i64 a7] 119)).heap.size;rw [World.size_alloc];omega) h2]
    show (W0.alloc (.cells #[Value.int .i64 o,Value.int .i64 a0,Value.int .i64 a1,Value.int .i64 a2,Value.int .i64 a3,Value.int .i64 a4,Value.int .i64 a5,Value.int .i64 a6,Value.int .i64 a7] 119)).heap[q]?=_
    rw [Below.heap_alloc _ _ _ (by omega)]⟩
   have hb:=hgrow.block S (by show S<(W0.alloc (.cells #[Value.int .i64 o,Value.int .i64 a0,Value.int .i64 a1,Value.int .i64 a2,Value.int .i64 a3,Value.int .i64 a4,Value.int .i64 a5,Value.int .i64 a6,Value.int .i64 a7] 119)).heap.size;rw [World.size_alloc];omega) (fun e=>zT e.symm)
   have hc:∀ z,w2.cell? ⟨S,z,none⟩=W0.cell? ⟨S,z,none⟩:=fun z=>by
    rw [World.cell?_of_block (a:=⟨S,z,none⟩) hb]
    show (W0.alloc (.cells #[Value.int .i64 o,Value.int .i64 a0,Value.int .i64 a1,Value.int .i64 a2,Value.int .i64 a3,Value.int .i64 a4,Value.int .i64 a5,Value.int .i64 a6,Value.int .i64 a7] 119)).cell? ⟨S,z,none⟩=_
    exact World.cell?_alloc_lt _ _ _ rC
   have hf:∀ z,w2.frozen? ⟨S,z,none⟩=W0.frozen? ⟨S,z,none⟩:=fun z=>by
    rw [World.frozen?_of_block (a:=⟨S,z,none⟩) hb]
    show (W0.alloc (.cells #[Value.int .i64 o,Value.int .i64 a0,Value.int .i64 a1,Value.int .i64 a2,Value.int .i64 a3,Value.int .i64 a4,Value.int .i64 a5,Value.int .i64 a6,Value.int .i64 a7] 119)).frozen? ⟨S,z,none⟩=_
    exact World.frozen?_alloc_past _ _ _ rC
   have T2:Two w2 S (.slice aoK kds.length cpK) (.slice aoH ss.length cpH):=⟨(hc 0).trans dW.out.t.c0,(hc 1).trans dW.out.t.c1,(hf 0).trans dW.out.t.f0,(hf 1).trans dW.out.t.f1⟩
   have g2:rZ w o a0 a1 a2 a3 a4 a5 a6 a7 w2:=XH.out.of (fun j=>fE.cell (p:=⟨w.heap.size,j,none⟩) hsz (by show w.heap.size≠S;omega) (fun e=>Nat.lt_irrefl _ (Je.out _ e.symm).1) (by simp))
   have D1:=hid (T2.set1 (.slice (some ⟨gg,0,none⟩) (ss.length+1) cc))
   have D2:Hid ((w2.setCell ⟨S,1,none⟩ (.slice (some ⟨gg,0,none⟩) (ss.length+1) cc)).ownsRow B 119 9 (.slice (some ⟨gg,0,none⟩) (ss.length+1) cc) (ss++[(⟨o,[a0,a1,a2,a3,a4,a5,a6,a7]⟩:St)]).length (dY (ss++[(⟨o,[a0,a1,a2,a3,a4,a5,a6,a7]⟩:St)]))):=hid (aQ (by
    rw [List.length_append,rE]
    exact hown) ⟨S,1,none⟩ (.slice (some ⟨gg,0,none⟩) (ss.length+1) cc) (by simpa [Value.ownBlock] using nG))
   have uA:(Value.slice aoK kds.length cpK).ownBlock≠some S:=fun e=>by have:=(dW.out.kd.lt _ e).1;omega
   have D3:=hid (aQ (fB dW.out.kd fE uA (aD dW.out.kd OW.out (by decide)) (by cases (Value.slice aoK kds.length cpK).ownBlock <;> simp)) ⟨S,1,none⟩ (.slice (some ⟨gg,0,none⟩) (ss.length+1) cc) uA)
   have nM:Hid (KB w (w2.setCell ⟨S,1,none⟩ (.slice (some ⟨gg,0,none⟩) (ss.length+1) cc)) S (Value.slice aoH ss.length cpH).ownBlock none):=hid ⟨fE.os.trans HB.out.os,fE.tape.trans HB.out.tape,fE.output.trans HB.out.output,by rw [World.size_setCell];omega,fun q hq h1 h2 h3=>by
    rw [Below.heap_setCell _ _ _ _ h1,fE.block q (by omega) h1 h2 h3]
    exact HB.out.block q hq⟩
   have BK:(Value.slice (some ⟨gg,0,none⟩) (ss.length+1) cc).ownBlock≠some S:=by simpa [Value.ownBlock] using nG
   refine hK.out _ _ g2 (fun hHeld=>?_)
   have iW:Hid (rZ w o a0 a1 a2 a3 a4 a5 a6 a7 (w2.setCell ⟨S,1,none⟩ (.slice (some ⟨gg,0,none⟩) (ss.length+1) cc))):=hid (g2.of (fun j=>World.cell?_setCell_other _ _ _ _ (fun e=>by have:=congrArg Addr.block e;simp at this;omega)))
   have c2:=T2.c1
   have f2:=T2.f1
   have E8:Hid (iM (ss++[(⟨o,[a0,a1,a2,a3,a4,a5,a6,a7]⟩:St)])):=hid (fun s hs=>by
    rcases List.mem_append.1 hs with hs | hs
    ·exact HM.out.e8 s hs
    ·simp at hs
     subst hs
     rfl)
   clear hK K hown hgrow hat g2 fE T2 hb hc hf dW cT fT OW
   simp only [Act.put,List.setIfInBounds_toArray]
   refine wpAnyH_take (i:=8) (oi:={ dst:=some 23,op:=Op.nilCheck (.tmp 15),type:=_,pos:=_,after:=_,guard:=none }) (v:=(Value.pointer (some ⟨S,0,none⟩))) rfl (by kernel_rfl) (by kernel_rfl) (by kernel_rfl) (fun _ _ _ h=>h) (Or.inl ⟨by rfl,by intro w' hSw;(try dsimp only at hSw);go_simp⟩) (by assumption) ?_
   simp only [Act.put]
   refine wpAnyH_take (i:=9) (oi:={ dst:=some 24,op:=Op.fieldAddr _ (.tmp 23) 1,type:=_,pos:=_,after:=_,guard:=none }) (v:=(Value.pointer (some ⟨S,1,none⟩))) rfl (by kernel_rfl) (by kernel_rfl) (by kernel_rfl) (fun _ _ _ h=>h) (Or.inl ⟨by rfl,by intro w' hSw;(try dsimp only at hSw);go_simp⟩) (by assumption) ?_
   simp only [Act.put]
   refine wpAnyH_ready (rs:=[10]) (by kernel_rfl) (by simp) ?_
   refine AllReadyH.cons rfl (fun K hK=>?_) AllReadyH.nil
   go_simp
   refine hK.out _ _ iW.out (fun hHeld=>?_)
   clear hK K
   refine wpAnyH_done (by kernel_rfl) ?_ _
   clear hHeld c2 f2 iW
   have hszW:w.heap.size<(w2.setCell ⟨S,1,none⟩ (.slice (some ⟨gg,0,none⟩) (ss.length+1) cc)).heap.size:=by rw [World.size_setCell];omega
   generalize w2.setCell ⟨S,1,none⟩ (.slice (some ⟨gg,0,none⟩) (ss.length+1) cc)=W5 at *
   have e0:=D1.out.c0
   have e2:=D1.out.f0
   go_wp2_with (at_builtin;go_must (refine wpList_append_lies _ rfl (.tmp 29) (.tmp 31) 22 rfl B 3 i1 (.int .i64 0) 1 8 Tryz.underlying22 hi1 hz01 hz11 hz21 rfl (by decide) _ kds.length (au kds) rfl (D3.out.alloc _) ⟨W5.heap.size,0,none⟩ 1 1 [.int .i64 (ss.length:Nat)] rfl rfl (bE W5 [.int .i64 (ss.length:Nat)] _) (by intro y hy;simp at hy;rcases hy with rfl;rfl) (by decide) (by unfold maxLen;omega) (by omega) (by simp;omega) (W5.heap.size+1) (by simp) ?_))
   intro go co w6 hownO hgrowO hatO hltO
   have zR:W5.heap.size≤w6.heap.size:=by
    have h4:=hgrowO.size
    simp at h4
    omega
   have zV:go≠S:=by
    rcases hatO with h | h
    ·exact fun e=>uA (by rw [←e];exact h)
    ·omega
   have jh:KB W5 w6 S (Value.slice aoK kds.length cpK).ownBlock none:=⟨hgrowO.os,hgrowO.tape,hgrowO.output,zR,fun q hq h1 h2 _=>by
    rw [hgrowO.block q (by rw [World.size_alloc];omega) h2,Below.heap_alloc _ _ _ (by omega)]⟩
   have rA:=hgrowO.block S (by rw [World.size_alloc];omega) (fun e=>uA e.symm)
   have hc:∀ o,w6.cell? ⟨S,o,none⟩=W5.cell? ⟨S,o,none⟩:=fun o=>by
    rw [World.cell?_of_block (a:=⟨S,o,none⟩) rA]
    exact World.cell?_alloc_lt _ _ _ (by show S<W5.heap.size;omega)
   have hf:∀ o,w6.frozen? ⟨S,o,none⟩=W5.frozen? ⟨S,o,none⟩:=fun o=>by
    rw [World.frozen?_of_block (a:=⟨S,o,none⟩) rA]
    exact World.frozen?_alloc_past _ _ _ (by show S<W5.heap.size;omega)
   have T6:Two w6 S _ _:=⟨(hc 0).trans D1.out.c0,(hc 1).trans D1.out.c1,(hf 0).trans D1.out.f0,(hf 1).trans D1.out.f1⟩
   have q0:=T6.c0
   have q2:=T6.f0
   have E1:=hid (T6.set0 (.slice (some ⟨go,0,none⟩) (kds.length+1) co))
   have E2:=hid (aQ (fB D2.out jh BK (aD D2.out D3.out (by decide)) (by cases (Value.ownBlock _) <;> simp)) ⟨S,0,none⟩ (.slice (some ⟨go,0,none⟩) (kds.length+1) co) BK)
   have E3:=hid (aQ hownO ⟨S,0,none⟩ (.slice (some ⟨go,0,none⟩) (kds.length+1) co) (by simpa [Value.ownBlock] using zV))
   have GX:Hid (KB w (w6.setCell ⟨S,0,none⟩ (.slice (some ⟨go,0,none⟩) (kds.length+1) co)) S (Value.slice aoK kds.length cpK).ownBlock (Value.slice aoH ss.length cpH).ownBlock):=hid ⟨jh.os.trans nM.out.os,jh.tape.trans nM.out.tape,jh.output.trans nM.out.output,by rw [World.size_setCell];omega,fun q hq h1 h2 h3=>by
    rw [Below.heap_setCell _ _ _ _ h1,jh.block q (by omega) h1 h2 (by simp),nM.out.block q hq h1 h3 (by simp)]⟩
   clear hownO hgrowO hatO jh T6 rA hc hf D1 D2 D3 e0 e2
   go_wp2_with fail
   go_end0
   refine ⟨rfl,ss.length,_,_,ss++[(⟨o,[a0,a1,a2,a3,a4,a5,a6,a7]⟩:St)],⟨E1.out,hSB,?_,?_,E8.out⟩,GX.out,Or.inr ⟨rfl,rfl,UC.out⟩⟩
   ·rw [List.length_append,show au (kds++[ss.length])=au kds++[.int .i64 (ss.length:Nat)] by simp [au]]
    exact E3.out
   ·exact E2.out
  ·go_simp
   refine hK.out _ _ (XH.out.of (fun j=>by show (W0.alloc _).cell? _=_;exact World.cell?_alloc_lt _ _ _ hsz)) (fun hHeld=>?_)
   clear hK K
   refine wpAnyH_ready (rs:=[4]) (by kernel_rfl) (by simp) ?_
   refine AllReadyH.cons rfl (fun K hK=>?_) AllReadyH.nil
   go_simp
   refine hK.out _ _ (by assumption) (fun hHeld=>?_)
   clear hK K
   refine wpAnyH_ready (rs:=[7]) (by kernel_rfl) (by simp) ?_
   refine AllReadyH.cons rfl (fun K hK=>?_) AllReadyH.nil
   refine step_append_lies _ (by rfl) (.tmp 19) (.tmp 21) 65 (by rfl) B 119 i0 (.agg #[.int .i64 0,.int .i64 0,.int .i64 0,.int .i64 0,.int .i64 0,.int .i64 0,.int .i64 0,.int .i64 0,.int .i64 0]) 9 72 Tryz.underlying65 hi hz0 hz1 hz2 rfl (by decide) _ ss.length (dY ss) (by rfl) ((OW.out.alloc _).drew) ⟨W0.heap.size,0,none⟩ 1 1 [Value.int .i64 o,Value.int .i64 a0,Value.int .i64 a1,Value.int .i64 a2,Value.int .i64 a3,Value.int .i64 a4,Value.int .i64 a5,Value.int .i64 a6,Value.int .i64 a7] (by rfl) (by rfl) (bE W0 _ _) (by intro y hy;simp at hy;rcases hy with rfl | rfl | rfl | rfl | rfl | rfl | rfl | rfl | rfl <;> rfl) (by decide) (by unfold maxLen;omega) (by omega) (by simp;omega) (W0.heap.size+1) (by simp) ?_
   intro gg cc w2 hown hgrow hat hlt2
   have nG:gg≠S:=by
    rcases hat with h | h
    ·exact fun e=>zT (by rw [←e];exact h)
    ·omega
   have Ey:W0.heap.size+1≤w2.heap.size:=by
    have h4:(W0.drew.alloc (.cells #[Value.int .i64 o,Value.int .i64 a0,Value.int .i64 a1,Value.int .i64 a2,Value.int .i64 a3,Value.int .i64 a4,Value.int .i64 a5,Value.int .i64 a6,Value.int .i64 a7] 119)).heap.size≤w2.heap.size:=hgrow.size
    rw [World.size_alloc] at h4
    exact h4
   have fE:KB W0 w2 S (Value.slice aoH ss.length cpH).ownBlock none:=⟨hgrow.os,hgrow.tape,hgrow.output,by omega,fun q hq h1 h2 _=>by
    rw [hgrow.block q (by show q<(W0.alloc (.cells #[Value.int .i64 o,Value.int .i64 a0,Value.int .i64 a1,Value.int .i64 a2,Value.int .i64 a3,Value.int .i64 a4,Value.int .i64 a5,Value.int .i64 a6,Value.int .i64 a7] 119)).heap.size;rw [World.size_alloc];omega) h2]
    show (W0.alloc (.cells #[Value.int .i64 o,Value.int .i64 a0,Value.int .i64 a1,Value.int .i64 a2,Value.int .i64 a3,Value.int .i64 a4,Value.int .i64 a5,Value.int .i64 a6,Value.int .i64 a7] 119)).heap[q]?=_
    rw [Below.heap_alloc _ _ _ (by omega)]⟩
   have hb:=hgrow.block S (by show S<(W0.alloc (.cells #[Value.int .i64 o,Value.int .i64 a0,Value.int .i64 a1,Value.int .i64 a2,Value.int .i64 a3,Value.int .i64 a4,Value.int .i64 a5,Value.int .i64 a6,Value.int .i64 a7] 119)).heap.size;rw [World.size_alloc];omega) (fun e=>zT e.symm)
   have hc:∀ z,w2.cell? ⟨S,z,none⟩=W0.cell? ⟨S,z,none⟩:=fun z=>by
    rw [World.cell?_of_block (a:=⟨S,z,none⟩) hb]
    show (W0.alloc (.cells #[Value.int .i64 o,Value.int .i64 a0,Value.int .i64 a1,Value.int .i64 a2,Value.int .i64 a3,Value.int .i64 a4,Value.int .i64 a5,Value.int .i64 a6,Value.int .i64 a7] 119)).cell? ⟨S,z,none⟩=_
    exact World.cell?_alloc_lt _ _ _ rC
   have hf:∀ z,w2.frozen? ⟨S,z,none⟩=W0.frozen? ⟨S,z,none⟩:=fun z=>by
    rw [World.frozen?_of_block (a:=⟨S,z,none⟩) hb]
    show (W0.alloc (.cells #[Value.int .i64 o,Value.int .i64 a0,Value.int .i64 a1,Value.int .i64 a2,Value.int .i64 a3,Value.int .i64 a4,Value.int .i64 a5,Value.int .i64 a6,Value.int .i64 a7] 119)).frozen? ⟨S,z,none⟩=_
    exact World.frozen?_alloc_past _ _ _ rC
   have T2:Two w2 S (.slice aoK kds.length cpK) (.slice aoH ss.length cpH):=⟨(hc 0).trans dW.out.t.c0,(hc 1).trans dW.out.t.c1,(hf 0).trans dW.out.t.f0,(hf 1).trans dW.out.t.f1⟩
   have g2:rZ w o a0 a1 a2 a3 a4 a5 a6 a7 w2:=XH.out.of (fun j=>fE.cell (p:=⟨w.heap.size,j,none⟩) hsz (by show w.heap.size≠S;omega) (fun e=>Nat.lt_irrefl _ (Je.out _ e.symm).1) (by simp))
   have D1:=hid (T2.set1 (.slice (some ⟨gg,0,none⟩) (ss.length+1) cc))
   have D2:Hid ((w2.setCell ⟨S,1,none⟩ (.slice (some ⟨gg,0,none⟩) (ss.length+1) cc)).ownsRow B 119 9 (.slice (some ⟨gg,0,none⟩) (ss.length+1) cc) (ss++[(⟨o,[a0,a1,a2,a3,a4,a5,a6,a7]⟩:St)]).length (dY (ss++[(⟨o,[a0,a1,a2,a3,a4,a5,a6,a7]⟩:St)]))):=hid (aQ (by
    rw [List.length_append,rE]
    exact hown) ⟨S,1,none⟩ (.slice (some ⟨gg,0,none⟩) (ss.length+1) cc) (by simpa [Value.ownBlock] using nG))
   have uA:(Value.slice aoK kds.length cpK).ownBlock≠some S:=fun e=>by have:=(dW.out.kd.lt _ e).1;omega
   have D3:=hid (aQ (fB dW.out.kd fE uA (aD dW.out.kd OW.out (by decide)) (by cases (Value.slice aoK kds.length cpK).ownBlock <;> simp)) ⟨S,1,none⟩ (.slice (some ⟨gg,0,none⟩) (ss.length+1) cc) uA)
   have nM:Hid (KB w (w2.setCell ⟨S,1,none⟩ (.slice (some ⟨gg,0,none⟩) (ss.length+1) cc)) S (Value.slice aoH ss.length cpH).ownBlock none):=hid ⟨fE.os.trans HB.out.os,fE.tape.trans HB.out.tape,fE.output.trans HB.out.output,by rw [World.size_setCell];omega,fun q hq h1 h2 h3=>by
    rw [Below.heap_setCell _ _ _ _ h1,fE.block q (by omega) h1 h2 h3]
    exact HB.out.block q hq⟩
   have BK:(Value.slice (some ⟨gg,0,none⟩) (ss.length+1) cc).ownBlock≠some S:=by simpa [Value.ownBlock] using nG
   refine hK.out _ _ g2 (fun hHeld=>?_)
   have iW:Hid (rZ w o a0 a1 a2 a3 a4 a5 a6 a7 (w2.setCell ⟨S,1,none⟩ (.slice (some ⟨gg,0,none⟩) (ss.length+1) cc))):=hid (g2.of (fun j=>World.cell?_setCell_other _ _ _ _ (fun e=>by have:=congrArg Addr.block e;simp at this;omega)))
   have c2:=T2.c1
   have f2:=T2.f1
   have E8:Hid (iM (ss++[(⟨o,[a0,a1,a2,a3,a4,a5,a6,a7]⟩:St)])):=hid (fun s hs=>by
    rcases List.mem_append.1 hs with hs | hs
    ·exact HM.out.e8 s hs
    ·simp at hs
     subst hs
     rfl)
   clear hK K hown hgrow hat g2 fE T2 hb hc hf dW cT fT OW
   simp only [Act.put,List.setIfInBounds_toArray]
   refine wpAnyH_take (i:=8) (oi:={ dst:=some 23,op:=Op.nilCheck (.tmp 15),type:=_,pos:=_,after:=_,guard:=none }) (v:=(Value.pointer (some ⟨S,0,none⟩))) rfl (by kernel_rfl) (by kernel_rfl) (by kernel_rfl) (fun _ _ _ h=>h) (Or.inl ⟨by rfl,by intro w' hSw;(try dsimp only at hSw);go_simp⟩) (by assumption) ?_
   simp only [Act.put]
   refine wpAnyH_take (i:=9) (oi:={ dst:=some 24,op:=Op.fieldAddr _ (.tmp 23) 1,type:=_,pos:=_,after:=_,guard:=none }) (v:=(Value.pointer (some ⟨S,1,none⟩))) rfl (by kernel_rfl) (by kernel_rfl) (by kernel_rfl) (fun _ _ _ h=>h) (Or.inl ⟨by rfl,by intro w' hSw;(try dsimp only at hSw);go_simp⟩) (by assumption) ?_
   simp only [Act.put]
   refine wpAnyH_ready (rs:=[10]) (by kernel_rfl) (by simp) ?_
   refine AllReadyH.cons rfl (fun K hK=>?_) AllReadyH.nil
   go_simp
   refine hK.out _ _ iW.out (fun hHeld=>?_)
   clear hK K
   refine wpAnyH_done (by kernel_rfl) ?_ _
   clear hHeld c2 f2 iW
   have hszW:w.heap.size<(w2.setCell ⟨S,1,none⟩ (.slice (some ⟨gg,0,none⟩) (ss.length+1) cc)).heap.size:=by rw [World.size_setCell];omega
   generalize w2.setCell ⟨S,1,none⟩ (.slice (some ⟨gg,0,none⟩) (ss.length+1) cc)=W5 at *
   have e0:=D1.out.c0
   have e2:=D1.out.f0
   go_wp2_with (at_builtin;go_must (refine wpList_append_lies _ rfl (.tmp 29) (.tmp 31) 22 rfl B 3 i1 (.int .i64 0) 1 8 Tryz.underlying22 hi1 hz01 hz11 hz21 rfl (by decide) _ kds.length (au kds) rfl (D3.out.alloc _) ⟨W5.heap.size,0,none⟩ 1 1 [.int .i64 (ss.length:Nat)] rfl rfl (bE W5 [.int .i64 (ss.length:Nat)] _) (by intro y hy;simp at hy;rcases hy with rfl;rfl) (by decide) (by unfold maxLen;omega) (by omega) (by simp;omega) (W5.heap.size+1) (by simp) ?_))
   intro go co w6 hownO hgrowO hatO hltO
   have zR:W5.heap.size≤w6.heap.size:=by
    have h4:=hgrowO.size
    simp at h4
    omega
   have zV:go≠S:=by
    rcases hatO with h | h
    ·exact fun e=>uA (by rw [←e];exact h)
    ·omega
   have jh:KB W5 w6 S (Value.slice aoK kds.length cpK).ownBlock none:=⟨hgrowO.os,hgrowO.tape,hgrowO.output,zR,fun q hq h1 h2 _=>by
    rw [hgrowO.block q (by rw [World.size_alloc];omega) h2,Below.heap_alloc _ _ _ (by omega)]⟩
   have rA:=hgrowO.block S (by rw [World.size_alloc];omega) (fun e=>uA e.symm)
   have hc:∀ o,w6.cell? ⟨S,o,none⟩=W5.cell? ⟨S,o,none⟩:=fun o=>by
    rw [World.cell?_of_block (a:=⟨S,o,none⟩) rA]
    exact World.cell?_alloc_lt _ _ _ (by show S<W5.heap.size;omega)
   have hf:∀ o,w6.frozen? ⟨S,o,none⟩=W5.frozen? ⟨S,o,none⟩:=fun o=>by
    rw [World.frozen?_of_block (a:=⟨S,o,none⟩) rA]
    exact World.frozen?_alloc_past _ _ _ (by show S<W5.heap.size;omega)
   have T6:Two w6 S _ _:=⟨(hc 0).trans D1.out.c0,(hc 1).trans D1.out.c1,(hf 0).trans D1.out.f0,(hf 1).trans D1.out.f1⟩
   have q0:=T6.c0
   have q2:=T6.f0
   have E1:=hid (T6.set0 (.slice (some ⟨go,0,none⟩) (kds.length+1) co))
   have E2:=hid (aQ (fB D2.out jh BK (aD D2.out D3.out (by decide)) (by cases (Value.ownBlock _) <;> simp)) ⟨S,0,none⟩ (.slice (some ⟨go,0,none⟩) (kds.length+1) co) BK)
   have E3:=hid (aQ hownO ⟨S,0,none⟩ (.slice (some ⟨go,0,none⟩) (kds.length+1) co) (by simpa [Value.ownBlock] using zV))
   have GX:Hid (KB w (w6.setCell ⟨S,0,none⟩ (.slice (some ⟨go,0,none⟩) (kds.length+1) co)) S (Value.slice aoK kds.length cpK).ownBlock (Value.slice aoH ss.length cpH).ownBlock):=hid ⟨jh.os.trans nM.out.os,jh.tape.trans nM.out.tape,jh.output.trans nM.out.output,by rw [World.size_setCell];omega,fun q hq h1 h2 h3=>by
    rw [Below.heap_setCell _ _ _ _ h1,jh.block q (by omega) h1 h2 (by simp),nM.out.block q hq h1 h3 (by simp)]⟩
   clear hownO hgrowO hatO jh T6 rA hc hf D1 D2 D3 e0 e2
   go_wp2_with fail
   go_end0
   refine ⟨rfl,ss.length,_,_,ss++[(⟨o,[a0,a1,a2,a3,a4,a5,a6,a7]⟩:St)],⟨E1.out,hSB,?_,?_,E8.out⟩,GX.out,Or.inr ⟨rfl,rfl,UC.out⟩⟩
   ·rw [List.length_append,show au (kds++[ss.length])=au kds++[.int .i64 (ss.length:Nat)] by simp [au]]
    exact E3.out
   ·exact E2.out
end Go.Proofs.YtjagijohfkffiabGreat
