import Derived.Test.YtjagijohfkffiabGreatALLM01
import Derived.Test.YtjagijohfkffiabGreatALLM08
import Derived.Test.YtjagijohfkffiabGreatALLM12
import Derived.Test.YtjagijohfkffiabGreatALLM13
import Derived.Test.YtjagijohfkffiabGreatALLM17
import Derived.Test.YtjagijohfkffiabGreatALLM20
import Derived.Deep.MidRow
set_option maxHeartbeats 16000000
set_option maxRecDepth 100000
namespace Go.Proofs.YtjagijohfkffiabGreat
open Go.RowKit
set_option linter.unusedVariables false
theorem ZF {w:World} {R N:Nat} {x:Option Addr} {v:Value} {to:Nat→List Nat} (h:GQ w v N to) (h0:w.cell? ⟨R,0,none⟩=some (.pointer x)) (u:Value):GQ (w.setCell ⟨R,2,none⟩ u) v N to:=by
 obtain ⟨ao,cap,rfl,hc,h⟩:=h
 refine ⟨ao,cap,rfl,hc,fun hN=>?_⟩
 obtain ⟨g,rfl,hg,hcell⟩:=h hN
 have hne:g≠R:=fun e=>by
  subst e
  obtain ⟨r,hr,a2,c2,e2,_⟩:=hcell 0 hN
  subst e2
  rw [h0] at hr
  cases hr
 refine ⟨g,rfl,by rw [World.size_setCell];exact hg,fun i hi=>?_⟩
 obtain ⟨r,hr,a2,c2,rfl,hc2,hn⟩:=hcell i hi
 refine ⟨_,by rw [World.cell?_setCell_other _ _ _ _ (fun e=>hne (by have:=congrArg Addr.block e;simpa using this.symm))];exact hr,a2,c2,rfl,hc2,fun hl=>?_⟩
 obtain ⟨g2,rfl,hg2,hcell2⟩:=hn hl
 have hne2:g2≠R:=fun e=>by
  subst e
  have:=hcell2 0 hl
  rw [h0] at this
  cases this
 exact ⟨g2,rfl,by rw [World.size_setCell];exact hg2,fun k hk=>by rw [World.cell?_setCell_other _ _ _ _ (fun e=>hne2 (by have:=congrArg Addr.block e;simpa using this.symm))];exact hcell2 k hk⟩
theorem zF (F gp cap:Nat) (ns:List Nd) (bs:List Nat) (w:World) (hf:FR w F gp cap ns bs) (hg:Good ns) :
  Calls Tryz.prog 36 #[.pointer (some ⟨F,0,none⟩)] w fun e w'=>∃ R vs,e=.returned (.pointer (some ⟨R,0,none⟩))∧p9 w' R F gp cap ns bs vs∧eQ ns vs.length (aJ vs)∧vs.length≤256∧Below w.heap.size w w':=by
 have SA:=hid (Y8 F gp cap ns bs w hf hg)
 have NA:=hid (fun (W:World) (vs:List Nat) (Bs:Nat) (v:Value) (h1:Below w.heap.size w W) (h2:uB W Bs v ns.length vs) (h3:vs.length≤256)=>acT F gp cap Bs ns bs vs v W (hf.below h1) hg h2 h3)
 have EA:=hid (fun (W:World) (P:Nat)=>Oe ns hg P W)
 have Cy:Hid (∀ good:Nat→Bool,(∀ i,i<(dn ns (2 ^ ns.length)).length→(good i=true↔chain ns [] (aJ (dn ns (2 ^ ns.length)) i)))→eQ ns (gI (dn ns (2 ^ ns.length)) good (dn ns (2 ^ ns.length)).length).length (aJ (gI (dn ns (2 ^ ns.length)) good (dn ns (2 ^ ns.length)).length))):=hid (fun good h=>We hg.wf (EM hg.wf) h)
 have hle:=QE hg
 have wW:=hid hf
 have hF:=hf.JL
 have hpos:=hg.pos
 obtain ⟨i1,hi1,hz01,hz11,hz21⟩:=info_parts Tryz.QV
 clear hf hg
 generalize dn ns (2 ^ ns.length)=vs at *
 go_enter Tryz.func36,Tryz.ntmps36
 go_wp2_with fail
 refine SA.out.mono ?_
 rintro e w1 ⟨v,rfl,hset,hb1⟩
 have Yd:=hid hset
 have HB1:=hid hb1
 have s1:=hb1.size
 clear SA hset hb1
 go_wp2_with fail
 refine (NA.out w1 vs w.heap.size v HB1.out Yd.out hle).mono ?_
 rintro e w2 ⟨rfl,hnet,hb2⟩
 have fu:=hid hnet
 have HB2:=hid (HB1.out.trans (hb2.mono s1))
 have afu:=hid (Yd.out.keeps hb2)
 have s2:=hb2.size
 clear hnet hb2 Yd
 go_wp2_with fail
 refine (EA.out w2 w1.heap.size fu.out).mono ?_
 rintro e w3 ⟨ge,good,rfl,hge,OG,hgood,hb3⟩
 have HOG:=hid OG
 have Hq:=hid hgood
 have HB3:=hid (HB2.out.trans (hb3.mono (by omega)))
 have aft:=hid (afu.out.keeps hb3)
 have s3:=hb3.size
 have ai8:=OG.blk.2
 clear OG hgood hb3 afu EA fu HB1 HB2
 obtain ⟨bb,so,sr⟩:=aft.out
 obtain ⟨ao,vcap,rfl⟩:=ag so
 have HSO:=hid so
 have KN:=hid sr
 have HPL:=hid (Zu vs good)
 clear aft so sr
 have qQ:=hid (Cy.out good Hq.out)
 clear Cy Hq
 generalize hNE:vs.length=N at *
 have KQ:=hid hNE
 clear hNE
 generalize hnE:ns.length=n at *
 have HnL:=hid hnE
 clear hnE
 go_wp2_with fail
 go_loopw [6] (fun i wq=>∃ (j:Nat) (v1:Value),j≤N∧i=.int .i64 j∧Three wq w3.heap.size (.pointer (some ⟨F,0,none⟩)) v1 (.slice none 0 0)∧Hid (wq.ownsRow (w3.heap.size+1) 138 1 v1 (fF good j).length ((fF good j).map fun q=>fA n (bb q)))∧Below w3.heap.size w3 wq) (fun i _=>N - (intOf i).toNat)
 case atStart=>exact ⟨0,_,Nat.zero_le _,rfl,bK w3 _ _ _ _,hid (World.ownsRow_nil _ _ _ _),(Below.refl _ _).alloc (Nat.le_refl _) _⟩
 case round=>
  obtain ⟨j,v1,hj,rfl,t3,HO,hb3⟩:=hrel
  have hR:=t3.lt
  by_cases hlt:j<N
  ·have og:=(hb3.cell (p:=⟨ge,j,none⟩) ai8).trans (HOG.out.get hlt)
   have hil:(fF good j).length≤j:=by
    have:=HPL.out j
    rw [Iu] at this
    exact this
   cases hgj:good j with
   | false=>
    rw [hgj] at og
    have Rz:Hid (fF good (j+1)=fF good j):=hid (aev hgj)
    clear hgj
    go_wp2_with fail
    go_roundw
    case rel=>exact ⟨j+1,v1,by omega,by go_num,t3,by rw [Rz.out];exact HO,hb3⟩
    case measure=>simp [intOf];omega
   | true=>
    rw [hgj] at og
    have Rz:Hid ((fF good (j+1)).length=(fF good j).length+1∧((fF good (j+1)).map fun q=>fA n (bb q))=((fF good j).map fun q=>fA n (bb q))++[.slice (some ⟨bb j,0,none⟩) n n]):=hid (by rw [ac8 hgj];simp [fA])
    clear hgj
    obtain ⟨gs,e,_,hgs,_⟩:=dH HSO.out (by omega)
    subst e
    have cs:wr.cell? ⟨gs,j,none⟩=some (.slice (some ⟨bb j,0,none⟩) n n):=by
     rw [hb3.cell (p:=⟨gs,j,none⟩) hgs,HSO.out.cellAt j (by omega)]
     simp [List.getElem?_map,List.getElem?_range hlt,fA]
    have own:=HO.out
    have p1:=t3.c1
    have z1:(0:Int)≤(j:Int):=Int.natCast_nonneg _
    have z2:(j:Int)<(N:Int):=by omega
    have yx:gs<wr.heap.size:=by omega
    clear HO
    go_wp2_with fail
    refine wp_region_held_drew (S:=fun w'=>w'.cell? ⟨gs,j,none⟩=some (.slice (some ⟨bb j,0,none⟩) n n)) (by kernel_rfl) cs (fun hHeld=>?_)
    refine wpAnyH_take (i:=0) (oi:={ dst:=some 26,op:=Op.move (.tmp 5),type:=_,pos:=_,after:=_,guard:=none }) (v:=(Value.pointer (some ⟨w3.heap.size,0,none⟩))) rfl (by kernel_rfl) (by kernel_rfl) (by kernel_rfl) (fun _ _ _ h=>h) (Or.inl ⟨by rfl,by intro w' hSw;(try dsimp only at hSw);go_simp⟩) (by assumption) ?_
    simp only [Act.put,List.setIfInBounds_toArray,List.set_cons_zero,List.set_cons_succ]
    refine wpAnyH_take (i:=1) (oi:={ dst:=some 27,op:=Op.move (.tmp 5),type:=_,pos:=_,after:=_,guard:=none }) (v:=(Value.pointer (some ⟨w3.heap.size,0,none⟩))) rfl (by kernel_rfl) (by kernel_rfl) (by kernel_rfl) (fun _ _ _ h=>h) (Or.inl ⟨by rfl,by intro w' hSw;(try dsimp only at hSw);go_simp⟩) (by assumption) ?_
    simp only [Act.put,List.setIfInBounds_toArray,List.set_cons_zero,List.set_cons_succ]
    refine wpAnyH_take (i:=2) (oi:={ dst:=some 28,op:=Op.nilCheck (.tmp 27),type:=_,pos:=_,after:=_,guard:=none }) (v:=(Value.pointer (some ⟨w3.heap.size,0,none⟩))) rfl (by kernel_rfl) (by kernel_rfl) (by kernel_rfl) (fun _ _ _ h=>h) (Or.inl ⟨by rfl,by intro w' hSw;(try dsimp only at hSw);go_simp⟩) (by assumption) ?_
    simp only [Act.put,List.setIfInBounds_toArray,List.set_cons_zero,List.set_cons_succ]
    refine wpAnyH_take (i:=3) (oi:={ dst:=some 29,op:=Op.fieldAddr _ (.tmp 28) 1,type:=_,pos:=_,after:=_,guard:=none }) (v:=(Value.pointer (some ⟨w3.heap.size,1,none⟩))) rfl (by kernel_rfl) (by kernel_rfl) (by kernel_rfl) (fun _ _ _ h=>h) (Or.inl ⟨by rfl,by intro w' hSw;(try dsimp only at hSw);go_simp⟩) (by assumption) ?_
    simp only [Act.put,List.setIfInBounds_toArray,List.set_cons_zero,List.set_cons_succ]
    refine wpAnyH_take (i:=5) (oi:={ dst:=some 31,op:=Op.move (.tmp 3),type:=_,pos:=_,after:=_,guard:=none }) (v:=(Value.slice (some ⟨gs,0,none⟩) N vcap)) rfl (by kernel_rfl) (by kernel_rfl) (by kernel_rfl) (fun _ _ _ h=>h) (Or.inl ⟨by rfl,by intro w' hSw;(try dsimp only at hSw);go_simp⟩) (by assumption) ?_
    simp only [Act.put,List.setIfInBounds_toArray,List.set_cons_zero,List.set_cons_succ]
    refine wpAnyH_take (i:=6) (oi:={ dst:=some 32,op:=Op.move (.tmp 6),type:=_,pos:=_,after:=_,guard:=none }) (v:=(Value.int .i64 (j:Nat))) rfl (by kernel_rfl) (by kernel_rfl) (by kernel_rfl) (fun _ _ _ h=>h) (Or.inl ⟨by rfl,by intro w' hSw;(try dsimp only at hSw);go_simp⟩) (by assumption) ?_
    simp only [Act.put,List.setIfInBounds_toArray,List.set_cons_zero,List.set_cons_succ]
    refine wpAnyH_take (i:=7) (oi:={ dst:=some 33,op:=Op.indexAddr _ (.tmp 31) (.tmp 32),type:=_,pos:=_,after:=_,guard:=none }) (v:=(Value.pointer (some ⟨gs,j,none⟩))) rfl (by kernel_rfl) (by kernel_rfl) (by kernel_rfl) (fun _ _ _ h=>h) (Or.inl ⟨by rfl,by intro w' hSw;(try dsimp only at hSw);go_simp⟩) (by assumption) ?_
    simp only [Act.put,List.setIfInBounds_toArray,List.set_cons_zero,List.set_cons_succ]
    refine wpAnyH_take (i:=8) (oi:={ dst:=some 34,op:=Op.load _ (.tmp 33),type:=_,pos:=_,after:=_,guard:=none }) (v:=(Value.slice (some ⟨bb j,0,none⟩) n n)) rfl (by kernel_rfl) (by kernel_rfl) (by kernel_rfl) (fun _ _ _ h=>h) (Or.inl ⟨by rfl,by intro w' hSw;(try dsimp only at hSw);go_simp⟩) (by assumption) ?_
    simp only [Act.put,List.setIfInBounds_toArray,List.set_cons_zero,List.set_cons_succ]
    refine wpAnyH_ready (rs:=[4,9]) (by kernel_rfl) (by simp) ?_
    refine AllReadyH.cons rfl (fun K hK=>?_) (AllReadyH.cons rfl (fun K hK=>?_) AllReadyH.nil)
    ·go_simp
     refine hK.out _ _ (by assumption) (fun hHeld=>?_)
     clear hK K
     refine wpAnyH_ready (rs:=[9]) (by kernel_rfl) (by simp) ?_
     refine AllReadyH.cons rfl (fun K hK=>?_) AllReadyH.nil
     go_simp
     refine hK.out _ _ ?hs (fun hHeld=>?_)
     case hs=>first | go_keep | simp [*]
     clear hK K
     refine wpAnyH_ready (rs:=[10]) (by kernel_rfl) (by simp) ?_
     refine AllReadyH.cons rfl (fun K hK=>?_) AllReadyH.nil
     refine step_append_lies _ (by rfl) (.tmp 30) (.tmp 35) 130 (by rfl) (w3.heap.size+1) 138 i1 (.slice none 0 0) 1 24 Tryz.underlying130 hi1 hz01 hz11 hz21 rfl (by decide) _ (fF good j).length ((fF good j).map fun q=>fA n (bb q)) (by rfl) ((own.alloc _).drew) ⟨wr.heap.size,0,none⟩ 1 1 [.slice (some ⟨bb j,0,none⟩) n n] (by rfl) (by rfl) (World.news_of_block (cs:=#[.slice (some ⟨bb j,0,none⟩) n n]) (t:=138) (fr:=(0,0)) (heap_alloc_new wr _)) (by simp [Value.oneCell']) (by decide) (by unfold maxLen;omega) (by omega) (by simp;omega) (wr.heap.size+1) (by simp) ?_
     intro gg cc w5 hown hgrow hat hlt2
     have aZ:Below (w3.heap.size+1) wr w5:=(below_drewN ((Below.refl (w3.heap.size+1) wr).alloc (by omega) (.cells #[.slice (some ⟨bb j,0,none⟩) n n] 138)) 1).grown hgrow (by show w3.heap.size+1≤(wr.alloc (.cells #[.slice (some ⟨bb j,0,none⟩) n n] 138)).heap.size;rw [World.size_alloc];omega) (fun x h=>(own.lt x h).1)
     have s1:=t3.below aZ (Nat.lt_succ_self _)
     have T5:=hid (s1.set1 (.slice (some ⟨gg,0,none⟩) ((fF good j).length+1) cc))
     have O5:=hid (ak hown (k:=w3.heap.size) (Nat.lt_succ_self _) 1 (.slice (some ⟨gg,0,none⟩) ((fF good j).length+1) cc))
     have BB:=hid ((hb3.trans (aZ.mono (by omega))).setCell (p:=⟨w3.heap.size,1,none⟩) (Nat.le_refl _) (.slice (some ⟨gg,0,none⟩) ((fF good j).length+1) cc))
     have e1:=(aZ.cell (p:=⟨gs,j,none⟩) (by show gs<w3.heap.size+1;omega)).trans cs
     have d0:=s1.c1
     have d1:=s1.fz 1 (by omega)
     have iW:Hid ((w5.setCell ⟨w3.heap.size,1,none⟩ (.slice (some ⟨gg,0,none⟩) ((fF good j).length+1) cc)).cell? ⟨gs,j,none⟩=some (.slice (some ⟨bb j,0,none⟩) n n)):=hid (by
      rw [World.cell?_setCell_other _ _ _ _ (fun e=>by have:=congrArg Addr.block e;simp at this;omega)]
      exact e1)
     refine hK.out _ _ e1 (fun hHeld=>?_)
     clear hK K aZ hown hgrow hat s1 own
     simp only [Act.put,List.setIfInBounds_toArray]
     refine wpAnyH_take (i:=11) (oi:={ dst:=some 37,op:=Op.nilCheck (.tmp 26),type:=_,pos:=_,after:=_,guard:=none }) (v:=(Value.pointer (some ⟨w3.heap.size,0,none⟩))) rfl (by kernel_rfl) (by kernel_rfl) (by kernel_rfl) (fun _ _ _ h=>h) (Or.inl ⟨by rfl,by intro w' hSw;(try dsimp only at hSw);go_simp⟩) (by assumption) ?_
     simp only [Act.put]
     refine wpAnyH_take (i:=12) (oi:={ dst:=some 38,op:=Op.fieldAddr _ (.tmp 37) 1,type:=_,pos:=_,after:=_,guard:=none }) (v:=(Value.pointer (some ⟨w3.heap.size,1,none⟩))) rfl (by kernel_rfl) (by kernel_rfl) (by kernel_rfl) (fun _ _ _ h=>h) (Or.inl ⟨by rfl,by intro w' hSw;(try dsimp only at hSw);go_simp⟩) (by assumption) ?_
     simp only [Act.put]
     refine wpAnyH_ready (rs:=[13]) (by kernel_rfl) (by simp) ?_
     refine AllReadyH.cons rfl (fun K hK=>?_) AllReadyH.nil
     go_simp
     refine hK.out _ _ iW.out (fun hHeld=>?_)
     clear hK K
     refine wpAnyH_done (by kernel_rfl) ?_ _
     clear hHeld e1 d0 d1
     go_wp2_with fail
     go_roundw
     case rel=>exact ⟨j+1,_,by omega,by go_num,T5.out,by rw [Rz.out.1,Rz.out.2];exact O5,BB.out⟩
     case measure=>simp [intOf];omega
    ·go_simp
     refine hK.out _ _ ?hs (fun hHeld=>?_)
     case hs=>first | go_keep | simp [*]
     clear hK K
     refine wpAnyH_ready (rs:=[4]) (by kernel_rfl) (by simp) ?_
     refine AllReadyH.cons rfl (fun K hK=>?_) AllReadyH.nil
     go_simp
     refine hK.out _ _ (by assumption) (fun hHeld=>?_)
     clear hK K
     refine wpAnyH_ready (rs:=[10]) (by kernel_rfl) (by simp) ?_
     refine AllReadyH.cons rfl (fun K hK=>?_) AllReadyH.nil
     refine step_append_lies _ (by rfl) (.tmp 30) (.tmp 35) 130 (by rfl) (w3.heap.size+1) 138 i1 (.slice none 0 0) 1 24 Tryz.underlying130 hi1 hz01 hz11 hz21 rfl (by decide) _ (fF good j).length ((fF good j).map fun q=>fA n (bb q)) (by rfl) ((own.alloc _).drew) ⟨wr.heap.size,0,none⟩ 1 1 [.slice (some ⟨bb j,0,none⟩) n n] (by rfl) (by rfl) (World.news_of_block (cs:=#[.slice (some ⟨bb j,0,none⟩) n n]) (t:=138) (fr:=(0,0)) (heap_alloc_new wr _)) (by simp [Value.oneCell']) (by decide) (by unfold maxLen;omega) (by omega) (by simp;omega) (wr.heap.size+1) (by simp) ?_
     intro gg cc w5 hown hgrow hat hlt2
     have aZ:Below (w3.heap.size+1) wr w5:=(below_drewN ((Below.refl (w3.heap.size+1) wr).alloc (by omega) (.cells #[.slice (some ⟨bb j,0,none⟩) n n] 138)) 1).grown hgrow (by show w3.heap.size+1≤(wr.alloc (.cells #[.slice (some ⟨bb j,0,none⟩) n n] 138)).heap.size;rw [World.size_alloc];omega) (fun x h=>(own.lt x h).1)
     have s1:=t3.below aZ (Nat.lt_succ_self _)
     have T5:=hid (s1.set1 (.slice (some ⟨gg,0,none⟩) ((fF good j).length+1) cc))
     have O5:=hid (ak hown (k:=w3.heap.size) (Nat.lt_succ_self _) 1 (.slice (some ⟨gg,0,none⟩) ((fF good j).length+1) cc))
     have BB:=hid ((hb3.trans (aZ.mono (by omega))).setCell (p:=⟨w3.heap.size,1,none⟩) (Nat.le_refl _) (.slice (some ⟨gg,0,none⟩) ((fF good j).length+1) cc))
     have e1:=(aZ.cell (p:=⟨gs,j,none⟩) (by show gs<w3.heap.size+1;omega)).trans cs
     have d0:=s1.c1
     have d1:=s1.fz 1 (by omega)
     have iW:Hid ((w5.setCell ⟨w3.heap.size,1,none⟩ (.slice (some ⟨gg,0,none⟩) ((fF good j).length+1) cc)).cell? ⟨gs,j,none⟩=some (.slice (some ⟨bb j,0,none⟩) n n)):=hid (by
      rw [World.cell?_setCell_other _ _ _ _ (fun e=>by have:=congrArg Addr.block e;simp at this;omega)]
      exact e1)
     refine hK.out _ _ e1 (fun hHeld=>?_)
     clear hK K aZ hown hgrow hat s1 own
     simp only [Act.put,List.setIfInBounds_toArray]
     refine wpAnyH_take (i:=11) (oi:={ dst:=some 37,op:=Op.nilCheck (.tmp 26),type:=_,pos:=_,after:=_,guard:=none }) (v:=(Value.pointer (some ⟨w3.heap.size,0,none⟩))) rfl (by kernel_rfl) (by kernel_rfl) (by kernel_rfl) (fun _ _ _ h=>h) (Or.inl ⟨by rfl,by intro w' hSw;(try dsimp only at hSw);go_simp⟩) (by assumption) ?_
     simp only [Act.put]
     refine wpAnyH_take (i:=12) (oi:={ dst:=some 38,op:=Op.fieldAddr _ (.tmp 37) 1,type:=_,pos:=_,after:=_,guard:=none }) (v:=(Value.pointer (some ⟨w3.heap.size,1,none⟩))) rfl (by kernel_rfl) (by kernel_rfl) (by kernel_rfl) (fun _ _ _ h=>h) (Or.inl ⟨by rfl,by intro w' hSw;(try dsimp only at hSw);go_simp⟩) (by assumption) ?_
     simp only [Act.put]
     refine wpAnyH_ready (rs:=[13]) (by kernel_rfl) (by simp) ?_
     refine AllReadyH.cons rfl (fun K hK=>?_) AllReadyH.nil
     go_simp
     refine hK.out _ _ iW.out (fun hHeld=>?_)
     clear hK K
     refine wpAnyH_done (by kernel_rfl) ?_ _
     clear hHeld e1 d0 d1
     go_wp2_with fail
     go_roundw
     case rel=>exact ⟨j+1,_,by omega,by go_num,T5.out,by rw [Rz.out.1,Rz.out.2];exact O5,BB.out⟩
     case measure=>simp [intOf];omega
  ·obtain rfl:j=N:=by omega
   have hbw:=HB3.out.trans (hb3.mono HB3.out.size)
   have SL2:Hid (uB wr w.heap.size v1 n (gI vs good j)):=hid (by
    have h:=JE (w:=wr) (B:=w.heap.size) (B1:=w3.heap.size+1) (B2:=w.heap.size) (v:=v1) (n:=n) (vs:=vs) (good:=good) (bb:=bb) (by omega) (Nat.le_refl _) (by rw [KQ.out];exact HO.out) (fun i hi=>ae (KN.out i (by rw [←KQ.out];exact hi)) hb3)
    rw [KQ.out] at h
    exact h)
   have HPJ:(gI vs good j).length≤256:=Nat.le_trans (HPL.out j) hle
   have p1:=t3.c1
   have CN:=hid (NA.out wr (gI vs good j) w.heap.size v1 hbw SL2.out HPJ)
   have uN:=hid hbw
   have HT3:=hid t3
   clear t3
   go_wp2_with fail
   refine CN.out.mono ?_
   rintro e w5 ⟨rfl,hnet,hb5⟩
   obtain ⟨v2,c20,hnrs⟩:=hnet.c0
   obtain ⟨ao2,cap2,e2⟩:∃ ao2 cap2,v2=.slice ao2 (gI vs good j).length cap2:=by
    obtain ⟨a3,b3,e3,_⟩:=hnrs
    exact ⟨a3,b3,e3⟩
   subst e2
   have s5:=HT3.out.below hb5 hR
   have q2:=s5.c2
   have f2:=s5.fz 2 (by omega)
   have uM:=hid (ZF hnrs s5.c0 (.slice ao2 (gI vs good j).length cap2))
   have T6:=hid (s5.set2 (.slice ao2 (gI vs good j).length cap2))
   have B36:=hid ((hb3.trans (hb5.mono (Nat.le_of_lt hR))).setCell (p:=⟨w3.heap.size,2,none⟩) (Nat.le_refl _) (.slice ao2 (gI vs good j).length cap2))
   have BW6:=hid (HB3.out.trans (B36.out.mono HB3.out.size))
   have O6:=hid (ak (ae HO.out hb5) (k:=w3.heap.size) (Nat.lt_succ_self _) 2 (.slice ao2 (gI vs good j).length cap2))
   have SL6:Hid (uB (w5.setCell ⟨w3.heap.size,2,none⟩ (.slice ao2 (gI vs good j).length cap2)) w.heap.size v1 n (gI vs good j)):=hid (by
    have h:=JE (w:=w5.setCell ⟨w3.heap.size,2,none⟩ (.slice ao2 (gI vs good j).length cap2)) (B:=w.heap.size) (B1:=w3.heap.size+1) (B2:=w.heap.size) (v:=v1) (n:=n) (vs:=vs) (good:=good) (bb:=bb) (by omega) (Nat.le_refl _) (by rw [KQ.out];exact O6.out) (fun i hi=>ae (KN.out i (by rw [←KQ.out];exact hi)) B36.out)
    rw [KQ.out] at h
    exact h)
   have RM:Hid (p9 (w5.setCell ⟨w3.heap.size,2,none⟩ (.slice ao2 (gI vs good j).length cap2)) w3.heap.size F gp cap ns bs (gI vs good j)):=hid ⟨T6.out.lt,wW.out.below BW6.out,T6.out.c0,⟨v1,T6.out.c1,by rw [HnL.out];exact Y9 hpos SL6.out⟩,⟨_,T6.out.c2,uM.out⟩⟩
   clear hnet hb5 hnrs s5 SL6 O6 uM T6 SL2 CN HO HT3
   go_wp2_with fail
   go_ret
   exact ⟨w3.heap.size,_,rfl,RM.out,qQ.out,HPJ,BW6.out⟩
def jH (s:ByteArray) (z:List Int):Nat:=if (af s).1=0 then (if 40<z.length then 5 else if bI z=true then 0 else 6) else (af s).1
theorem VT {z:List Int} (h:bI z=true):∀ x∈dD z,x<8:=fun x hx=>by
 obtain ⟨y,hy,rfl⟩:=List.mem_map.1 hx
 have hl:=gQ.1 (List.all_eq_true.1 h _ hy)
 omega
def lU (s:ByteArray) (z1:List Int) (w:World) (e:Ending) (w':World):Prop:=
 ∃ v:Nat,e=.returned (.tuple #[.int .i64 v,.int .i64 (jH s z1)])∧(jH s z1=0→iC (af s).2 (dD z1) v)∧(jH s z1≠0→v=0)∧Below w.heap.size w w'
theorem EP (ns:List Nd) (vs:List Nat):∀ (u:List Nat) (f:Nat→Bool) (a:Nat),wT ns vs (u++[a]) f=gD ns vs (wT ns vs u f) a vs.length
 | [],f,a=>rfl
 | x::u,f,a=>EP ns vs u _ a
theorem QB {ns:List Nd} (hg:Good ns) {vs:List Nat} (hL:eQ ns vs.length (aJ vs)) (u:List Nat) (hu:∀ x∈u,x<8) :
  iC ns u (zt (iF (wT ns vs u (fun i=>aJ vs i (ns.length - 1)==true)) vs.length) (iF (wT ns vs u (fun i=>aJ vs i (ns.length - 1)==false)) vs.length)):=by
 have h1:=MQ hg hL u hu true
 have h2:=MQ hg hL u hu false
 generalize iF (wT ns vs u (fun i=>aJ vs i (ns.length - 1)==true)) vs.length=y at *
 generalize iF (wT ns vs u (fun i=>aJ vs i (ns.length - 1)==false)) vs.length=n at *
 unfold iC zt
 cases y with
 | true=>exact Or.inl ⟨rfl,fun h=>by have:=h1.2 h;cases this⟩
 | false=>
  cases n with
  | true=>exact Or.inr (Or.inl ⟨rfl,h1.1 rfl,fun h=>by have:=h2.2 h;cases this⟩)
  | false=>exact Or.inr (Or.inr ⟨rfl,h1.1 rfl,h2.1 rfl⟩)
theorem Wl {z:List Int} (h:bI z=true) {k:Nat} (hk:k<z.length):∃ x:Nat,x<8∧z.getD k 0=(x:Int)∧(dD z).take (k+1)=(dD z).take k++[x]:=by
 have hm:z[k]∈z:=List.getElem_mem hk
 have hl:=gQ.1 (List.all_eq_true.1 h _ hm)
 refine ⟨z[k].toNat,by omega,?_,?_⟩
 ·simp [List.getD,List.getElem?_eq_getElem hk];omega
 ·rw [List.take_succ_eq_append_getElem (by simpa [dD] using hk)]
  simp [dD]
section
variable (s:ByteArray) (a1:Option Addr) (l1 c1:Nat) (z1:List Int) (w:World)
theorem Vx (hm:s.size≤maxLen) (h:(af s).1≠0):Calls Tryz.prog 54 #[.string s,.slice a1 l1 c1] w (lU s z1 w):=by
 have E:Hid (jH s z1=(af s).1):=hid (by unfold jH;rw [if_neg h])
 have C:=dK s w hm
 unfold bU at C
 unfold lU
 rw [E.out]
 generalize af s=p at *
 have k:((p.1:Int)!=0)=true:=by rw [bne_iff_ne];omega
 go_enter Tryz.func54,Tryz.ntmps54
 go_wp2_with fail
 refine C.mono ?_
 rintro e w1 ⟨hb,⟨_,rfl⟩ | ⟨h0,_⟩⟩
 ·go_wp2_with fail
  go_ret2
  exact ⟨0,rfl,fun h1=>absurd h1 h,fun _=>rfl,hb⟩
 ·exact absurd h0 h
theorem Ta (hm:s.size≤maxLen) (h:(af s).1=0) (h1:Ints w a1 l1 c1 z1):Calls Tryz.prog 54 #[.string s,.slice a1 l1 c1] w (lU s z1 w):=by
 have E:Hid (jH s z1=if 40<z1.length then 5 else if bI z1=true then 0 else 6):=hid (by unfold jH;rw [if_pos h])
 have C:=dK s w hm
 unfold bU at C
 have G:=hid (fV h)
 have m1:=h1.hmax
 have m3:=h1.hcap
 have L1:=h1.hlen
 have R1:=fun W (b:Below w.heap.size w W)=>qy a1 l1 c1 z1 W (h1.below b)
 unfold lU
 rw [E.out]
 generalize af s=p at *
 obtain ⟨p1,ns⟩:=p
 dsimp only at *
 subst h
 rw [L1]
 by_cases q1:40<l1
 ·rw [if_pos q1]
  have k1:(40:Int)<(l1:Int):=by omega
  go_enter Tryz.func54,Tryz.ntmps54
  go_wp2_with fail
  refine C.mono ?_
  rintro e w1 ⟨hb,⟨h0,_⟩ | ⟨_,bs,rfl,hf⟩⟩
  ·exact absurd rfl h0
  go_wp2_with fail
  refine (R1 _ hb).mono ?_
  rintro e w2 ⟨rfl,rfl⟩
  go_wp2_with fail
  go_ret2
  exact ⟨0,rfl,fun h1=>(by cases h1),fun _=>rfl,hb⟩
 rw [if_neg q1]
 have k1:¬ (40:Int)<(l1:Int):=by omega
 cases hal:bI z1 with
 | false=>
  rw [hal] at R1
  rw [if_neg (by simp)]
  clear hal
  go_enter Tryz.func54,Tryz.ntmps54
  go_wp2_with fail
  refine C.mono ?_
  rintro e w1 ⟨hb,⟨h0,_⟩ | ⟨_,bs,rfl,hf⟩⟩
  ·exact absurd rfl h0
  go_wp2_with fail
  refine (R1 _ hb).mono ?_
  rintro e w2 ⟨rfl,rfl⟩
  go_wp2_with fail
  go_ret2
  exact ⟨0,rfl,fun h1=>(by cases h1),fun _=>rfl,hb⟩
 | true=>
  rw [hal] at R1
  rw [if_pos rfl]
  have qQ:=hid hal
  have H1:=hid h1
  clear hal h1
  go_enter Tryz.func54,Tryz.ntmps54
  go_wp2_with fail
  refine C.mono ?_
  rintro e w1 ⟨hb,⟨h0,_⟩ | ⟨_,bs,rfl,hf⟩⟩
  ·exact absurd rfl h0
  have HB1:=hid hb
  have HF:=hid hf
  clear C hf
  go_wp2_with fail
  refine (R1 _ hb).mono ?_
  rintro e w2 ⟨rfl,rfl⟩
  clear R1 hb
  obtain ⟨gp,cap,hfr⟩:=LB HF.out G.out.pos
  have RW:=hid (zF w.heap.size gp cap ns bs w2 hfr G.out)
  clear HF hfr
  go_wp2_with fail
  refine RW.out.mono ?_
  rintro e w3 ⟨R,vs,rfl,hRM,hLS,hM,hb3⟩
  have s1:=HB1.out.size
  have HB3:=hid (HB1.out.trans (hb3.mono s1))
  have WT:=hid (fun (W:World) (b:Below w3.heap.size w3 W) (hd:Bool)=>Bd R w.heap.size gp cap ns bs vs hd W (hRM.below b) G.out hM)
  have ON:=hid (fun (W:World) (b:Below w3.heap.size w3 W) (gl x:Nat) (f:Nat→Bool) (hx:x<8) (hf:Rb W gl vs.length f)=>ad7 R w.heap.size gp cap gl x ns bs vs f W (hRM.below b) G.out hM hx hf)
  have HTI:=hid (QB G.out hLS (dD z1) (VT qQ.out))
  have KO:=hid (fun u f x=>EP ns vs u f x)
  clear hRM hLS RW hb3
  go_wp2_with fail
  refine (WT.out w3 (Below.refl _ _) true).mono ?_
  rintro e w4 ⟨gy,rfl,hy,hgy,hb4⟩
  have HY4:=hid hy
  have dm:=hid hb4
  clear hy hb4
  go_wp2_with fail
  refine (WT.out w4 dm.out false).mono ?_
  rintro e w5 ⟨gn,rfl,hn,hgn,hb5⟩
  have HY:=hid (HY4.out.below hb5)
  have HN:=hid hn
  have dV:=hid (dm.out.trans (hb5.mono dm.out.size))
  clear hn hb5 HY4 dm WT
  generalize vs.length=M at *
  go_wp2_with fail
  go_loopw [12,10,11] (fun i y n wq=>∃ (k gy gn:Nat),k≤l1∧i=.int .i64 k∧y=.slice (some ⟨gy,0,none⟩) M M∧n=.slice (some ⟨gn,0,none⟩) M M∧Hid (Rb wq gy M (wT ns vs ((dD z1).take k) (fun i=>aJ vs i (ns.length - 1)==true)))∧Hid (Rb wq gn M (wT ns vs ((dD z1).take k) (fun i=>aJ vs i (ns.length - 1)==false)))∧Below w3.heap.size w3 wq) (fun i _ _ _=>l1 - (intOf i).toNat)
  case atStart=>exact ⟨0,gy,gn,Nat.zero_le _,rfl,rfl,rfl,HY,HN,dV.out⟩
  case round=>
   obtain ⟨k,gy,gn,hk,rfl,rfl,rfl,HY,HN,hb⟩:=hrel
   have BW:=hid (HB3.out.trans (hb.mono HB3.out.size))
   by_cases hlk:k<l1
   ·obtain ⟨bk,off,e,hbb,hc⟩:=H1.out.hcell (by omega)
    subst e
    have cz:=(BW.out.cell (p:=⟨bk,off+k,none⟩) hbb).trans (hc k hlk)
    obtain ⟨x,AQ,ex,htk⟩:=Wl qQ.out (k:=k) (by rw [L1];exact hlk)
    rw [ex] at cz
    have DI:=hid htk
    have PI:=hid hb
    clear hc ex htk hb
    go_wp2_with fail
    refine (ON.out wr PI.out gy x _ AQ HY.out).mono ?_
    rintro e w6 ⟨g1,rfl,r1,_,hb6⟩
    have cz6:=(hb6.cell (p:=⟨bk,off+k,none⟩) (World.block_lt_of_cell? wr ⟨bk,off+k,none⟩ cz)).trans cz
    have eF:=hid (PI.out.trans (hb6.mono PI.out.size))
    have HR1:=hid r1
    have HN6:=hid (HN.out.below hb6)
    clear cz r1 hb6
    go_wp2_with fail
    refine (ON.out w6 eF.out gn x _ AQ HN6.out).mono ?_
    rintro e w7 ⟨g2,rfl,r2,_,lM⟩
    have HR2:=hid r2
    have HR3:=hid (HR1.out.below lM)
    have HBT:=hid (eF.out.trans (lM.mono eF.out.size))
    clear r2 lM cz6 HR1
    go_wp2_with fail
    go_roundw
    case rel=>exact ⟨k+1,g1,g2,by omega,by go_num,rfl,rfl,by rw [DI.out,KO.out];exact HR3,by rw [DI.out,KO.out];exact HR2,HBT.out⟩
    case measure=>simp [intOf];omega
   ·obtain rfl:k=l1:=by omega
    have htk:(dD z1).take k=dD z1:=List.take_of_length_le (by simp [dD,L1])
    rw [htk] at HY HN
    clear htk hb
    go_wp2_with fail
    refine (LY gy gn M _ _ wr HY.out HN.out (by omega)).mono ?_
    rintro e w6 ⟨rfl,rfl⟩
    go_wp2_with fail
    go_ret2
    exact ⟨_,rfl,fun _=>by simpa using HTI.out,fun h=>absurd rfl h,BW.out⟩
theorem Tc (hm:s.size≤maxLen) (h1:Ints w a1 l1 c1 z1):Calls Tryz.prog 54 #[.string s,.slice a1 l1 c1] w (lU s z1 w):=by
 by_cases h:(af s).1=0
 ·exact Ta s a1 l1 c1 z1 w hm h h1
 ·exact Vx s a1 l1 c1 z1 w hm h
end
def gv (g:Nat→Bool):List Value:=(List.range 256).map fun j=>.bool (g j)
theorem jN (g:Nat→Bool):(gv g).length=256:=by simp [gv]
theorem wG (g:Nat→Bool) {j:Nat} (h:j<256):(gv g)[j]?=some (.bool (g j)):=by simp [gv,h]
theorem BM (g:Nat→Bool):∀ v∈gv g,v.oneCell'=true:=by
 intro v hv
 simp only [gv,List.mem_map] at hv
 obtain ⟨j,_,rfl⟩:=hv
 rfl
theorem Nu {g h:Nat→Bool} (e:∀ j,j<256→g j=h j):gv g=gv h:=by
 unfold gv
 refine List.map_congr_left fun j hj=>?_
 rw [e j (by simpa using hj)]
theorem aeP {g h:Nat→Bool} (e:gv g=gv h):∀ j,j<256→g j=h j:=fun j hj=>by
 have:=wG g hj
 rw [e,wG h hj] at this
 simpa using this.symm
structure aN (w:World) (b o:Nat) (g:Nat→Bool):Prop where
 c:∀ j,j<256→w.cell? ⟨b,o+j,none⟩=some (.bool (g j))
 f:∀ j,j<256→w.frozen? ⟨b,o+j,none⟩=false
theorem aN.r9 {w:World} {b o:Nat} {g:Nat→Bool} (h:aN w b o g):w.rangeAt b o (gv g):=fun j v hv=>by
 have hj:j<256:=by have:=(List.getElem?_eq_some_iff.1 hv).1;rwa [jN] at this
 rw [wG g hj] at hv
 rw [h.c j hj,hv]
theorem aN.there {w:World} {b o:Nat} {g:Nat→Bool} (h:aN w b o g):w.there b o 256:=fun j hj=>⟨by rw [h.c j hj];rfl,h.f j hj⟩
theorem aN.lt {w:World} {b o:Nat} {g:Nat→Bool} (h:aN w b o g):b<w.heap.size:=World.block_lt_of_cell? w ⟨b,o+0,none⟩ (h.c 0 (by omega))
theorem aN.below {B:Nat} {w w':World} {b o:Nat} {g:Nat→Bool} (h:aN w b o g) (hb:Below B w w') (hlt:b<B):aN w' b o g:=
 ⟨fun j hj=>(hb.cell (p:=⟨b,o+j,none⟩) hlt).trans (h.c j hj),fun j hj=>(hb.frozen (p:=⟨b,o+j,none⟩) hlt).trans (h.f j hj)⟩
theorem aN.alloc {w:World} {b o:Nat} {g:Nat→Bool} (h:aN w b o g) (ob:Obj):aN (w.alloc ob) b o g:=by
 have hl:=h.lt
 refine ⟨fun j hj=>?_,fun j hj=>?_⟩
 ·rw [World.cell?_alloc_lt _ _ _ hl];exact h.c j hj
 ·rw [World.frozen?_alloc_past _ _ _ hl];exact h.f j hj
theorem aN.drew {w:World} {b o:Nat} {g:Nat→Bool} (h:aN w b o g):aN w.drew b o g:=⟨h.c,h.f⟩
theorem aN.congr {w:World} {b o:Nat} {g g':Nat→Bool} (h:aN w b o g) (e:∀ j,j<256→g j=g' j):aN w b o g':=
 ⟨fun j hj=>by rw [h.c j hj,e j hj],h.f⟩
theorem aN.set {w:World} {b o:Nat} {g:Nat→Bool} (h:aN w b o g) {i:Nat} (hi:i<256) (v:Bool):aN (w.setCell ⟨b,o+i,none⟩ (.bool v)) b o (upd g i v):=by
 refine ⟨fun j hj=>?_,fun j hj=>by rw [World.frozen?_setCell];exact h.f j hj⟩
 by_cases e:j=i
 ·subst e
  rw [World.cell?_setCell_same _ _ _ (h.c j hj)]
  simp [upd]
 ·rw [World.cell?_setCell_other _ ⟨b,o+i,none⟩ ⟨b,o+j,none⟩ _ (fun q=>e (by have:=congrArg Addr.off q;simp at this;omega)),h.c j hj]
  simp [upd,e]
theorem aN.other {w:World} {b o:Nat} {g:Nat→Bool} (h:aN w b o g) (p:Addr) (v:Value) (hp:p.block≠b∨p.off<o∨o+256≤p.off):aN (w.setCell p v) b o g:=by
 refine ⟨fun j hj=>?_,fun j hj=>by rw [World.frozen?_setCell];exact h.f j hj⟩
 rw [World.cell?_setCell_other _ _ _ _ (fun e=>by subst e;simp at hp;omega)]
 exact h.c j hj
theorem Ga {w:World} {b o:Nat} (h:w.there b o 256) (g:Nat→Bool):aN (w.setCells b o (gv g)) b o g:=by
 have h1:=World.rangeAt_setCells_same w b o (gv g) (by rw [jN];exact h)
 refine ⟨fun j hj=>h1 j _ (wG g hj),fun j hj=>by rw [World.frozen?_setCells];exact (h j hj).2⟩
theorem sS (w:World) (g:Nat→Bool) (t:TypeId):aN (w.alloc (.cells (gv g).toArray t)) w.heap.size 0 g:=by
 refine ⟨fun j hj=>?_,fun j hj=>?_⟩
 ·have:=cell_of_row (w.alloc (.cells (gv g).toArray t)) w.heap.size (0+j) (gv g).toArray t (0,0) (heap_alloc_last w _)
  rw [this]
  simp [gv,hj]
 ·simp
theorem Tryz.rD:Tryz.zeroCells61=(gv fun _=>false).toArray:=by kernel_rfl
theorem Tryz.WS:(Tryz.prog.info? 61).map (·.size)=some 256:=by kernel_rfl
theorem Tryz.iH:Tryz.prog.underlying 61=some (.array 256 4):=Tryz.underlying61
theorem Tryz.nC (g:Nat→Bool):(Tryz.prog.info? 61).map (·.size)=some (gv g).length:=by rw [jN];exact Tryz.WS
theorem Tryz.Q5 (g:Nat→Bool):(Tryz.prog.info? 61).map (·.size)=some (gv g).toArray.size:=by simp only [List.size_toArray];exact Tryz.nC g
theorem aN.adN {w:World} {b o:Nat} {g:Nat→Bool} (h:aN w b o g) (g':Nat→Bool):w.there b o (gv g').toArray.size:=by simp only [List.size_toArray,jN];exact h.there
theorem fw (w:World):aN (w.alloc (.cells Tryz.zeroCells61 61)) w.heap.size 0 (fun _=>false):=by rw [Tryz.rD];exact sS w _ _
theorem below_setCells {B:Nat} {a:World} {b:Nat} (hb:B≤b):∀ (vs:List Value) (o:Nat) (w:World),Below B a w→Below B a (w.setCells b o vs)
 | [],_,_,h=>h
 | v::r,o,w,h=>by
  rw [World.setCells]
  exact below_setCells hb r (o+1) _ (h.setCell (p:=⟨b,o,none⟩) hb v)
theorem size_setCells (b:Nat):∀ (vs:List Value) (o:Nat) (w:World),(w.setCells b o vs).heap.size=w.heap.size
 | [],_,_=>rfl
 | v::r,o,w=>by
  rw [World.setCells,size_setCells b r (o+1) _]
  simp [World.setCell]
theorem mi {fn:Func} {p:Tmp} {ty:TypeId} (h:fn.results=#[.cell p ty]) (tmps:Array Value) (P:Program) (w:World) :
  (results fn tmps).run P w=((asAddr (tmps.getD p undef)).run P w).andThen fun a w₁=>(loadVar ty a).run P w₁:=by
 simp only [results,h]
 simp [Sem.run_bind,Result.andThen]
theorem xq {fn:Func} {c b o:Nat} {g:Nat→Bool} {a:Act} {w:World} {R:Ending→World→Prop} (h:fn.results=#[.cell c 61]) (hd:a.defers=[]) (hp:a.tmps.getD c undef=.pointer (some ⟨b,o,none⟩))
  (hg:aN w b o g) (hR:R (.returned (.agg (gv g).toArray)) w):bodyPost Tryz.prog fn R .ret a w:=by
 refine bodyPost_ret (v:=.agg (gv g).toArray) ?_ hd hR
 rw [mi h,hp]
 simp only [asAddr,Sem.run_pure,Result.andThen_ok]
 exact run_loadVar_mid w b o _ (gv g) _ hg.r9 Tryz.iH rfl (Tryz.nC g)
structure sZ (w:World) (b o:Nat) (g:Nat→Bool) (w1:World):Prop where
 at_:aN w1 b o g
 size:w1.heap.size=w.heap.size
 aO:∀ B a,B≤b→Below B a w→Below B a w1
 cell:∀ p:Addr,(p.block≠b∨p.off<o∨o+256≤p.off)→w1.cell? p=w.cell? p
 fz:∀ p,w1.frozen? p=w.frozen? p
theorem ab7 {w:World} {b o:Nat} (h:w.there b o 256) (g:Nat→Bool):sZ w b o g (w.setCells b o (gv g)):=by
 refine ⟨Ga h g,size_setCells _ _ _ _,fun B a hB hb=>below_setCells hB _ _ _ hb,fun p hp=>?_,fun p=>World.frozen?_setCells _ _ _ _ _⟩
 rw [World.cell?_setCells_out b (gv g) o w p (fun hb _=>by rw [jN];omega)]
theorem sZ.wI {w w1:World} {b o:Nat} {g:Nat→Bool} (h:sZ w b o g w1) {b' o':Nat} {g':Nat→Bool} (k:aN w b' o' g') (hp:b'≠b∨o'+256≤o∨o+256≤o'):aN w1 b' o' g':=
 ⟨fun j hj=>by rw [h.cell ⟨b',o'+j,none⟩ (by simp;omega)];exact k.c j hj,fun j hj=>by rw [h.fz];exact k.f j hj⟩
theorem aW {ops:Array Oper} {rest:List Oper} {op:Oper} {a:Act} {w:World} {Q:Exit→Act→World→Prop} (hgd:op.guard=none) (x y:Operand) (ho:op.op=.store 61 x y)
  (b o:Nat) (g:Nat→Bool) (hx:a.eval x=.pointer (some ⟨b,o,none⟩)) (hy:a.eval y=.agg (gv g).toArray) (ht:w.there b o 256)
  (h:∀ w1,sZ w b o g w1→wpList Tryz.prog ops Q rest (a.put op.dst undef) w1):wpList Tryz.prog ops Q (op::rest) a w:=by
 refine wpList_store_mid hgd 61 x y ho b o (gv g).toArray hx hy (by simp only [List.size_toArray,jN];exact ht) (Tryz.Q5 g) (all_oneCell_toArray (BM g)) ?_
 exact h _ (ab7 ht g)
theorem aC {ops:Array Oper} {rest:List Oper} {op:Oper} {a:Act} {w:World} {Q:Exit→Act→World→Prop} (hgd:op.guard=none) (x:Operand) (ho:op.op=.load 61 x)
  (b o:Nat) (g:Nat→Bool) (hx:a.eval x=.pointer (some ⟨b,o,none⟩)) (hg:aN w b o g)
  (h:wpList Tryz.prog ops Q rest (a.put op.dst (.agg (gv g).toArray)) w):wpList Tryz.prog ops Q (op::rest) a w:=
 wpList_load_mid hgd 61 x ho b o hx (gv g) _ hg.r9 Tryz.iH rfl (Tryz.nC g) h
theorem Kv (P:Nat) (g:Nat→Bool) (w:World) (h:aN w P 2305 g):Calls Tryz.prog 67 #[.pointer (some ⟨P,0,none⟩)] w fun e w'=>e=.returned (.agg (gv g).toArray)∧Below w.heap.size w w':=by
 have H0:=hid (fw w)
 have H1:=hid (h.alloc (.cells Tryz.zeroCells61 61))
 clear h
 go_enter Tryz.func67,Tryz.ntmps67
 go_wp2_with (first | (refine wpList_load_mid rfl 61 (.tmp 5) rfl P 2305 rfl (gv g) _ H1.out.r9 Tryz.iH rfl (Tryz.nC g) ?_) | (refine wpList_store_mid rfl 61 (.tmp 2) (.tmp 6) rfl w.heap.size 0 (gv g).toArray rfl rfl (H0.out.adN g) (Tryz.Q5 g) (all_oneCell_toArray (BM g)) ?_))
 exact xq Tryz.results67 rfl rfl (Ga H0.out.there g) ⟨rfl,below_setCells (Nat.le_refl _) _ _ _ ((Below.refl _ _).alloc (Nat.le_refl _) _)⟩
end Go.Proofs.YtjagijohfkffiabGreat
