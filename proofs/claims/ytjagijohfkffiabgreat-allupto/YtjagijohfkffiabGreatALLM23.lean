import Derived.Test.YtjagijohfkffiabGreatALLM02
import Derived.Test.YtjagijohfkffiabGreatALLM22
set_option maxHeartbeats 16000000
set_option maxRecDepth 100000
namespace Go.Proofs.YtjagijohfkffiabGreat
open Go.RowKit
set_option linter.unusedVariables false
theorem Zf (g1 g2 n c1 c2:Nat) (f h:Nat→Bool) (w:World) (hn:n≤1099511627776) (hf:bC w g1 (n*256) f) (hh:bC w g2 (n*256) h) (hg1:g1<w.heap.size) (hg2:g2<w.heap.size) :
  Calls Tryz.prog 132 #[.slice (some ⟨g1,0,none⟩) n c1,.slice (some ⟨g2,0,none⟩) n c2] w fun e w'=>∃ b:Bool,e=.returned (.bool b)∧(b=true↔∀ i,i<n*256→f i=h i)∧Below w.heap.size w w':=by
 have HF:=hid hf
 have HH:=hid hh
 have EQ:=fun g h W=>mQ 9998 g h W
 clear hf hh
 go_enter Tryz.func132,Tryz.ntmps132
 go_wp2_with fail
 go_loopw [14] (fun i wq=>∃ t:Nat,t≤n∧i=.int .i64 t∧Hid (∀ i,i<t*256→f i=h i)∧Hid (Below w.heap.size w wq)) (fun i _=>n - (intOf i).toNat)
 case atStart=>exact ⟨0,Nat.zero_le _,rfl,hid (fun i hi=>by omega),hid (Below.refl _ _)⟩
 case round=>
  obtain ⟨t,ht,rfl,HA,HB⟩:=hrel
  rename World=>W0
  by_cases hlt:t<n
  ·have hsz:=HB.out.size
   have GF:=hid ((HF.out.below HB.out hg1).wI (t:=t) (by omega))
   have GH:=hid ((HH.out.below HB.out hg2).wI (t:=t) (by omega))
   go_wp2_with (first | (refine aC rfl (.tmp 17) rfl g1 (t*256) _ rfl GF.out ?_) | (refine aW rfl (.tmp 6) (.tmp 18) rfl W0.heap.size 0 (fun j=>f (t*256+j)) rfl rfl (fw W0).there ?_))
   intro w2 S2
   have A6:=hid S2.at_
   have A2:=hid (S2.wI (GH.out.alloc (.cells Tryz.zeroCells61 61)) (Or.inl (by omega)))
   have AB:=hid (S2.aO _ _ (by omega) (HB.out.alloc (by omega) (.cells Tryz.zeroCells61 61)))
   clear S2 GF GH
   go_wp2_with fail
   refine wp_region_held_drew (S:=fun W=>aN W W0.heap.size 0 (fun j=>f (t*256+j))∧aN W g2 (t*256) (fun j=>h (t*256+j))) (by kernel_rfl) ⟨A6.out.drew,A2.out.drew⟩ (fun hHeld=>?_)
   refine wpAnyH_take (i:=0) (oi:={ dst:=some 19,op:=Op.load 61 (.tmp 6),type:=_,pos:=_,after:=_,guard:=none }) (v:=(Value.agg (gv (fun j=>f (t*256+j))).toArray)) rfl (by kernel_rfl) (by kernel_rfl) (by kernel_rfl) (fun _ _ _ h=>h) (yieldsIf_load_mid (by rfl) 61 (.tmp 6) rfl W0.heap.size 0 rfl (gv (fun j=>f (t*256+j))) _ (fun W h=>h.1.r9) Tryz.iH rfl (Tryz.nC _)) (by assumption) ?_
   simp only [Act.put,List.setIfInBounds_toArray,List.set_cons_zero,List.set_cons_succ]
   refine wpAnyH_take (i:=1) (oi:={ dst:=some 20,op:=Op.move (.tmp 1),type:=_,pos:=_,after:=_,guard:=none }) (v:=(Value.slice (some ⟨g2,0,none⟩) n c2)) rfl (by kernel_rfl) (by kernel_rfl) (by kernel_rfl) (fun _ _ _ h=>h) (Or.inl ⟨by rfl,by intro w' hSw;(try dsimp only at hSw);go_simp⟩) (by assumption) ?_
   simp only [Act.put,List.setIfInBounds_toArray,List.set_cons_zero,List.set_cons_succ]
   refine wpAnyH_take (i:=2) (oi:={ dst:=some 21,op:=Op.move (.tmp 5),type:=_,pos:=_,after:=_,guard:=none }) (v:=(Value.int .i64 (t:Nat))) rfl (by kernel_rfl) (by kernel_rfl) (by kernel_rfl) (fun _ _ _ h=>h) (Or.inl ⟨by rfl,by intro w' hSw;(try dsimp only at hSw);go_simp⟩) (by assumption) ?_
   simp only [Act.put,List.setIfInBounds_toArray,List.set_cons_zero,List.set_cons_succ]
   refine wpAnyH_take (i:=3) (oi:={ dst:=some 22,op:=Op.indexAddr _ (.tmp 20) (.tmp 21),type:=_,pos:=_,after:=_,guard:=none }) (v:=(Value.pointer (some ⟨g2,t*256,none⟩))) rfl (by kernel_rfl) (by kernel_rfl) (by kernel_rfl) (fun _ _ _ h=>h) (Or.inl ⟨by rfl,by intro w' hSw;(try dsimp only at hSw);go_simp⟩) (by assumption) ?_
   simp only [Act.put,List.setIfInBounds_toArray,List.set_cons_zero,List.set_cons_succ]
   refine wpAnyH_take (i:=4) (oi:={ dst:=some 23,op:=Op.load 61 (.tmp 22),type:=_,pos:=_,after:=_,guard:=none }) (v:=(Value.agg (gv (fun j=>h (t*256+j))).toArray)) rfl (by kernel_rfl) (by kernel_rfl) (by kernel_rfl) (fun _ _ _ h=>h) (yieldsIf_load_mid (by rfl) 61 (.tmp 22) rfl g2 (t*256) rfl (gv (fun j=>h (t*256+j))) _ (fun W h=>h.2.r9) Tryz.iH rfl (Tryz.nC _)) (by assumption) ?_
   simp only [Act.put,List.setIfInBounds_toArray,List.set_cons_zero,List.set_cons_succ]
   refine wpAnyH_take (i:=5) (oi:={ dst:=some 24,op:=Op.binOp BinOp.neq 61 (.tmp 19) (.tmp 23) 61,type:=_,pos:=_,after:=_,guard:=none }) (v:=(Value.bool (!geq (fun j=>f (t*256+j)) (fun j=>h (t*256+j))))) rfl (by kernel_rfl) (by kernel_rfl) (by kernel_rfl) (fun _ _ _ h=>h) (Or.inl ⟨by rfl,by intro w' hSw;go_simp⟩) (by assumption) ?_
   simp only [Act.put,List.setIfInBounds_toArray,List.set_cons_zero,List.set_cons_succ]
   refine wpAnyH_done (by kernel_rfl) ?_ _
   clear hHeld
   cases eq:geq (fun j=>f (t*256+j)) (fun j=>h (t*256+j)) with
   | true=>
    have HQ:=hid (iN.1 eq)
    clear eq
    go_wp2_with fail
    go_roundw
    case rel=>
     refine ⟨t+1,by omega,by go_num,hid (fun i hi=>?_),hid AB.out.drew⟩
     by_cases hi2:i<t*256
     ·exact HA.out i hi2
     ·have:=HQ.out (i - t*256) (by omega)
      rwa [show t*256+(i - t*256)=i by omega] at this
    case measure=>simp [intOf];omega
   | false=>
    have HN:Hid (¬ ∀ i,i<n*256→f i=h i):=hid (fun k=>by
     have:geq (fun j=>f (t*256+j)) (fun j=>h (t*256+j))=true:=iN.2 fun j hj=>k _ (by omega)
     rw [eq] at this
     cases this)
    clear eq
    go_wp2_with fail
    go_ret
    exact ⟨false,rfl,by simpa using HN.out,AB.out.drew⟩
  ·obtain rfl:t=n:=by omega
   go_wp2_with fail
   go_ret
   exact ⟨true,rfl,by simpa using HA.out,HB.out⟩
def bM (xs:List Nat):List Value:=xs.flatMap fun x=>[.int .i64 (x / 256:Nat),.int .u8 (x % 256:Nat)]
theorem Dp (xs:List Nat) (x:Nat):bM (xs++[x])=bM xs++[.int .i64 (x / 256:Nat),.int .u8 (x % 256:Nat)]:=by simp [bM]
theorem uX {xs:List Nat} {i x:Nat} (h:xs[i]?=some x):(bM xs)[i*2]?=some (.int .i64 (x / 256:Nat))∧(bM xs)[i*2+1]?=some (.int .u8 (x % 256:Nat)):=by
 induction xs generalizing i with
 | nil=>simp at h
 | cons p ps ih=>
  cases i with
  | zero=>simp at h;subst h;simp [bM]
  | succ i=>
   have:=ih (by simpa using h)
   rw [show bM (p::ps)=[.int .i64 (p / 256:Nat),.int .u8 (p % 256:Nat)]++bM ps by simp [bM]]
   rw [List.getElem?_append_right (by simp;omega),List.getElem?_append_right (by simp;omega)]
   simpa [show (i+1)*2 - 2=i*2 by omega,show (i+1)*2+1 - 2=i*2+1 by omega] using this
theorem Tryz.BI:(Tryz.prog.info? 166).map (fun i=>(i.zero,i.size,i.bytes))=some (some (.agg #[.int .i64 0,.int .u8 0]),2,16):=by kernel_rfl
theorem Ny (f:Nat→Bool) (n:Nat):(az f n).length≤n:=by rw [pJ];exact yN f n
theorem Nb (g n cap:Nat) (f:Nat→Bool) (w:World) (hn:n≤17179869184) (hf:bC w g (n*256) f) (hg:g<w.heap.size) :
  Calls Tryz.prog 92 #[.slice (some ⟨g,0,none⟩) n cap] w fun e w'=>∃ v,e=.returned v∧w'.ownsRow w.heap.size 166 2 v (az f (n*256)).length (bM (az f (n*256)))∧Below w.heap.size w w':=by
 have HF:=hid hf
 clear hf
 obtain ⟨i0,hi,hz0,hz1,hz2⟩:=info_parts Tryz.BI
 go_enter Tryz.func92,Tryz.ntmps92
 go_wp2_with fail
 go_loopw [3,10] (fun v i wq=>∃ t:Nat,t≤n∧i=.int .i64 t∧Hid (wq.ownsRow w.heap.size 166 2 v (az f (t*256)).length (bM (az f (t*256))))∧Hid (Below w.heap.size w wq)) (fun _ i _=>n - (intOf i).toNat)
 case atStart=>exact ⟨0,Nat.zero_le _,rfl,hid (World.ownsRow_nil _ _ _ _),hid (Below.refl _ _)⟩
 case round=>
  obtain ⟨t,ht,rfl,HO,HB⟩:=hrel
  rename World=>W0
  rename Value=>v0
  by_cases hlt:t<n
  ·have hsz:=HB.out.size
   have GF:=hid ((HF.out.below HB.out hg).wI (t:=t) (by omega))
   go_wp2_with (first | (refine aC rfl (.tmp 13) rfl g (t*256) _ rfl GF.out ?_) | (refine aW rfl (.tmp 5) (.tmp 14) rfl W0.heap.size 0 (fun j=>f (t*256+j)) rfl rfl (fw W0).there ?_))
   intro w2 S2
   have A5:=hid S2.at_
   have AB:=hid (S2.aO _ _ (by omega) (HB.out.alloc (by omega) (.cells Tryz.zeroCells61 61)))
   have AO:=hid (ae HO.out (S2.aO W0.heap.size W0 (Nat.le_refl _) ((Below.refl _ _).alloc (Nat.le_refl _) (.cells Tryz.zeroCells61 61))))
   clear S2 GF
   go_wp2_with (refine aC rfl (.tmp 5) rfl W0.heap.size 0 _ rfl A5.out ?_)
   clear A5
   go_loopw [3,16] (fun v i wq=>∃ j:Nat,j≤256∧i=.int .i64 j∧Hid (wq.ownsRow w.heap.size 166 2 v (az f (t*256+j)).length (bM (az f (t*256+j))))∧Hid (Below w.heap.size w wq)) (fun _ i _=>256 - (intOf i).toNat)
   case atStart=>exact ⟨0,by omega,rfl,AO,AB⟩
   case round=>
    obtain ⟨j,hj,rfl,HO,HB⟩:=hrel
    rename World=>W3
    rename Value=>v3
    by_cases hlj:j<256
    ·have ix:=fun W=>pU (fun j=>f (t*256+j)) hlj W
     have hgl:=Ny f (t*256+j)
     have HS:=hid (BP f (t*256+j))
     have d1:Hid ((t*256+j) / 256=t):=hid (by omega)
     have d2:Hid ((t*256+j) % 256=j):=hid (by omega)
     have wr0:IntKind.u8.wrap (j:Int)=j:=by rw [IntKind.wrap_u8];omega
     have hsz:=HB.out.size
     generalize az f (t*256+j)=xs at *
     generalize f (t*256+j)=fv at *
     cases fv with
     | false=>
      go_wp2_with fail
      go_roundw
      case rel=>exact ⟨j+1,by omega,by go_num,by rw [show t*256+(j+1)=t*256+j+1 by omega,HS.out];simpa using HO,HB⟩
      case measure=>simp [intOf];omega
     | true=>
      go_wp2_with (at_builtin;go_must (refine wpList_append_own _ rfl (.tmp 21) (.tmp 26) 163 rfl w.heap.size 166 i0 (.agg #[.int .i64 0,.int .u8 0]) 2 16 Tryz.underlying163 hi hz0 hz1 hz2 rfl (by decide) _ _ _ rfl (HO.out.alloc _) ⟨W3.heap.size,0,none⟩ 1 1 [.int .i64 (t:Nat),.int .u8 (j:Nat)] rfl rfl ?c1 ?c2 ?c3 ?c4 ?c5 ?_))
      case c2=>exact ⟨rfl,rfl⟩
      case c3=>unfold maxLen;omega
      case c4=>omega
      case c5=>omega
      intro v4 w4 hown hgrow _
      have hb4:=hid ((HB.out.alloc hsz (.cells #[.int .i64 (t:Nat),.int .u8 (j:Nat)] 166)).grown hgrow (by simp;omega) (fun k h=>(HO.out.lt k h).1))
      have DT:Hid (w4.ownsRow w.heap.size 166 2 v4 (az f (t*256+j+1)).length (bM (az f (t*256+j+1)))):=by
       rw [HS.out,if_pos (by trivial),List.length_append,Dp,d1.out,d2.out]
       exact hid hown
      clear hown hgrow
      go_wp2_with fail
      go_roundw
      case rel=>exact ⟨j+1,by omega,by go_num,DT,hb4⟩
      case measure=>simp [intOf];omega
    ·obtain rfl:j=256:=by omega
     go_wp2_with fail
     go_roundw
     case rel=>exact ⟨t+1,by omega,by go_num,by rw [show (t+1)*256=t*256+256 by omega];exact HO,HB⟩
     case measure=>simp [intOf];omega
  ·obtain rfl:t=n:=by omega
   go_wp2_with fail
   go_ret
   exact ⟨_,rfl,HO.out,HB.out⟩
end Go.Proofs.YtjagijohfkffiabGreat
