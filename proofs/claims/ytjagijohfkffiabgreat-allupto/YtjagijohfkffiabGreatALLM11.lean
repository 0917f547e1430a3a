import Derived.Test.YtjagijohfkffiabGreatALLM10
set_option maxHeartbeats 16000000
set_option maxRecDepth 100000
namespace Go.Proofs.YtjagijohfkffiabGreat
open Go.RowKit
set_option linter.unusedVariables false
section
variable (ns:List Nd) (bs:List Nat) (gw n wcap back:Nat) (xs:List Nat)
theorem agG (hw:fO ns) (hlx:xs.length=n) (hb:back<n) (hn80:n≤20000) (h8:∀ x∈xs,x<8) (k b:Nat) (nd:Nd) (hn:ns[k]?=some nd) (hop:nd.op=48) (w:World) (hp:Parts w ns bs) (hwd:Wd w gw n wcap xs) (hbk:bs[k]?=some b) :
  Calls Tryz.prog 128 #[.pointer (some ⟨b,0,none⟩),.slice (some ⟨gw,0,none⟩) n wcap,.int .i64 back] w (jf ns n back xs k w):=by
 have hpb:w.heap[b]?=some (.cells #[.int .u8 (48:Nat),.pointer (none),.pointer (none),.int .i64 k] 204):=by
  obtain ⟨b',e,hh⟩:=hp k nd hn
  rw [hbk] at e
  cases e
  rw [hh]
  simp [bu,jT,jR,hop,aP,bz]
 have hbw:=bO hpb
 have hcap:=hwd.cap
 have hgw:=hwd.lt
 obtain ⟨i0,hi,hz0,hz1,hz2⟩:=info_parts Tryz.dw
 go_enter Tryz.func128,Tryz.ntmps128
 go_wp2_with (at_make;go_must (refine wpList_make_full _ rfl (.tmp 15) (.tmp 15) 132 rfl w.heap.size 4 i0 (.bool false) 1 Tryz.underlying132 hi hz0 hz1 .i64 .i64 n n n rfl rfl rfl rfl ?m2 ?m3 (Nat.le_refl _) ?_))
 case m2=>rw [hz2];omega
 case m3=>unfold maxLen;omega
 intro w1 ay grow1
 have eo:(madeCells #[Value.bool false] n).toList=List.replicate n (.bool false):=toList_madeCells_one _ _
 rw [eo] at ay
 have hb1:Below w.heap.size w w1:=(Below.refl _ _).grown grow1 (Nat.le_refl _) (fun k h=>by cases h)
 have hs1:w.heap.size<w1.heap.size:=(ay.lt _ rfl).2
 have eU:w1.heap[b]?=some (.cells #[.int .u8 (48:Nat),.pointer (none),.pointer (none),.int .i64 k] 204):=by rw [hb1.block b hbw];exact hpb
 obtain ⟨p0,p1,p2,_⟩:=aF eU
 have HB1:=hid hb1
 have O1:=hid ay
 clear ay grow1 eo hb1
 go_wp2_with fail
 clear p0 p1 p2
 have eF:=HB1
 have gL:=hid hs1
 have lX:=hid eU
 have OS:=O1
 have jE:=hid (by intro i hi;rw [iy hn hw];simp [kI,hop]:∀ i,i<n→((fun _=>false) i=true↔dz (aG n back) (ltOf xs) ns k i))
 have sw:=hid (hwd.below eF.out)
 obtain ⟨f,hfe⟩:∃ f:Nat→Bool,f=(fun _=>false):=⟨_,rfl⟩
 rw [←hfe] at jE
 have jA:=hid hfe
 clear hfe
 go_loopw [11] (fun i wr=>∃ j:Nat,j≤n∧i=.int .i64 j∧wr.ownsRow w.heap.size 4 1 (.slice (some ⟨w.heap.size,0,none⟩) n n) n (aj f n j)∧w1.grownBy wr (some w.heap.size)) (fun i _=>n - (intOf i).toNat)
 case atStart=>exact ⟨0,Nat.zero_le _,rfl,by rw [bJ];exact OS.out,World.grownBy.refl _ _⟩
 case round=>
  obtain ⟨j,hj,rfl,own,hgr2⟩:=hrel
  by_cases hlt:j<n
  ·have hpr:wr.heap[b]?=_:=(hgr2.block b (by have:=gL.out;omega) (by simp;omega)).trans lX.out
   obtain ⟨p0,p1,p2,_⟩:=aF hpr
   have q0:=own.frozenAt j
   have q1:(wr.cell? ⟨w.heap.size,j,none⟩).isSome=true:=by
    rw [own.cellAt j (by omega)]
    simp [aj,hlt]
   obtain ⟨qv,q2⟩:=Option.isSome_iff_exists.1 q1
   have hO:=own.stored j (.bool (f j))
   rw [dX] at hO
   have HO:=hid hO.1
   have HG:=hid (fq hgr2 hO.2)
   clear hO q1 own
   have FV:Hid (f j=false):=hid (by rw [jA.out])
   clear hgr2 hpr
   go_wp2_with fail
   go_roundw
   case rel=>
    have o:=HO.out
    have g:=HG.out
    rw [FV.out] at g
    exact ⟨j+1,by omega,by go_num,by rw [FV.out] at o;exact o,g⟩
   case measure=>simp [intOf];omega
  ·have hj2:j=n:=by omega
   rw [hj2] at own
   have RD:=hid (jb ns n back xs (k:=k) eF.out hgr2 gL.out own jE.out)
   clear own hgr2 hj2
   go_wp2_with fail
   go_ret
   exact RD.out
theorem agF (hw:fO ns) (hlx:xs.length=n) (hb:back<n) (hn80:n≤20000) (h8:∀ x∈xs,x<8) (k b:Nat) (nd:Nd) (hn:ns[k]?=some nd) (hop:nd.op=49) (w:World) (hp:Parts w ns bs) (hwd:Wd w gw n wcap xs) (hbk:bs[k]?=some b) :
  Calls Tryz.prog 128 #[.pointer (some ⟨b,0,none⟩),.slice (some ⟨gw,0,none⟩) n wcap,.int .i64 back] w (jf ns n back xs k w):=by
 have hpb:w.heap[b]?=some (.cells #[.int .u8 (49:Nat),.pointer (none),.pointer (none),.int .i64 k] 204):=by
  obtain ⟨b',e,hh⟩:=hp k nd hn
  rw [hbk] at e
  cases e
  rw [hh]
  simp [bu,jT,jR,hop,aP,bz]
 have hbw:=bO hpb
 have hcap:=hwd.cap
 have hgw:=hwd.lt
 obtain ⟨i0,hi,hz0,hz1,hz2⟩:=info_parts Tryz.dw
 go_enter Tryz.func128,Tryz.ntmps128
 go_wp2_with (at_make;go_must (refine wpList_make_full _ rfl (.tmp 15) (.tmp 15) 132 rfl w.heap.size 4 i0 (.bool false) 1 Tryz.underlying132 hi hz0 hz1 .i64 .i64 n n n rfl rfl rfl rfl ?m2 ?m3 (Nat.le_refl _) ?_))
 case m2=>rw [hz2];omega
 case m3=>unfold maxLen;omega
 intro w1 ay grow1
 have eo:(madeCells #[Value.bool false] n).toList=List.replicate n (.bool false):=toList_madeCells_one _ _
 rw [eo] at ay
 have hb1:Below w.heap.size w w1:=(Below.refl _ _).grown grow1 (Nat.le_refl _) (fun k h=>by cases h)
 have hs1:w.heap.size<w1.heap.size:=(ay.lt _ rfl).2
 have eU:w1.heap[b]?=some (.cells #[.int .u8 (49:Nat),.pointer (none),.pointer (none),.int .i64 k] 204):=by rw [hb1.block b hbw];exact hpb
 obtain ⟨p0,p1,p2,_⟩:=aF eU
 have HB1:=hid hb1
 have O1:=hid ay
 clear ay grow1 eo hb1
 go_wp2_with fail
 clear p0 p1 p2
 have eF:=HB1
 have gL:=hid hs1
 have lX:=hid eU
 have OS:=O1
 have jE:=hid (by intro i hi;rw [iy hn hw];simp [kI,hop]:∀ i,i<n→((fun _=>true) i=true↔dz (aG n back) (ltOf xs) ns k i))
 have sw:=hid (hwd.below eF.out)
 obtain ⟨f,hfe⟩:∃ f:Nat→Bool,f=(fun _=>true):=⟨_,rfl⟩
 rw [←hfe] at jE
 have jA:=hid hfe
 clear hfe
 go_loopw [11] (fun i wr=>∃ j:Nat,j≤n∧i=.int .i64 j∧wr.ownsRow w.heap.size 4 1 (.slice (some ⟨w.heap.size,0,none⟩) n n) n (aj f n j)∧w1.grownBy wr (some w.heap.size)) (fun i _=>n - (intOf i).toNat)
 case atStart=>exact ⟨0,Nat.zero_le _,rfl,by rw [bJ];exact OS.out,World.grownBy.refl _ _⟩
 case round=>
  obtain ⟨j,hj,rfl,own,hgr2⟩:=hrel
  by_cases hlt:j<n
  ·have hpr:wr.heap[b]?=_:=(hgr2.block b (by have:=gL.out;omega) (by simp;omega)).trans lX.out
   obtain ⟨p0,p1,p2,_⟩:=aF hpr
   have q0:=own.frozenAt j
   have q1:(wr.cell? ⟨w.heap.size,j,none⟩).isSome=true:=by
    rw [own.cellAt j (by omega)]
    simp [aj,hlt]
   obtain ⟨qv,q2⟩:=Option.isSome_iff_exists.1 q1
   have hO:=own.stored j (.bool (f j))
   rw [dX] at hO
   have HO:=hid hO.1
   have HG:=hid (fq hgr2 hO.2)
   clear hO q1 own
   have FV:Hid (f j=true):=hid (by rw [jA.out])
   clear hgr2 hpr
   go_wp2_with fail
   go_roundw
   case rel=>
    have o:=HO.out
    have g:=HG.out
    rw [FV.out] at g
    exact ⟨j+1,by omega,by go_num,by rw [FV.out] at o;exact o,g⟩
   case measure=>simp [intOf];omega
  ·have hj2:j=n:=by omega
   rw [hj2] at own
   have RD:=hid (jb ns n back xs (k:=k) eF.out hgr2 gL.out own jE.out)
   clear own hgr2 hj2
   go_wp2_with fail
   go_ret
   exact RD.out
theorem agz (hw:fO ns) (hlx:xs.length=n) (hb:back<n) (hn80:n≤20000) (h8:∀ x∈xs,x<8) (k b:Nat) (nd:Nd) (hn:ns[k]?=some nd) (hop:nd.op=112) (w:World) (hp:Parts w ns bs) (hwd:Wd w gw n wcap xs) (hbk:bs[k]?=some b) :
  Calls Tryz.prog 128 #[.pointer (some ⟨b,0,none⟩),.slice (some ⟨gw,0,none⟩) n wcap,.int .i64 back] w (jf ns n back xs k w):=by
 have hpb:w.heap[b]?=some (.cells #[.int .u8 (112:Nat),.pointer (none),.pointer (none),.int .i64 k] 204):=by
  obtain ⟨b',e,hh⟩:=hp k nd hn
  rw [hbk] at e
  cases e
  rw [hh]
  simp [bu,jT,jR,hop,aP,bz]
 have hbw:=bO hpb
 have hcap:=hwd.cap
 have hgw:=hwd.lt
 obtain ⟨i0,hi,hz0,hz1,hz2⟩:=info_parts Tryz.dw
 go_enter Tryz.func128,Tryz.ntmps128
 go_wp2_with (at_make;go_must (refine wpList_make_full _ rfl (.tmp 15) (.tmp 15) 132 rfl w.heap.size 4 i0 (.bool false) 1 Tryz.underlying132 hi hz0 hz1 .i64 .i64 n n n rfl rfl rfl rfl ?m2 ?m3 (Nat.le_refl _) ?_))
 case m2=>rw [hz2];omega
 case m3=>unfold maxLen;omega
 intro w1 ay grow1
 have eo:(madeCells #[Value.bool false] n).toList=List.replicate n (.bool false):=toList_madeCells_one _ _
 rw [eo] at ay
 have hb1:Below w.heap.size w w1:=(Below.refl _ _).grown grow1 (Nat.le_refl _) (fun k h=>by cases h)
 have hs1:w.heap.size<w1.heap.size:=(ay.lt _ rfl).2
 have eU:w1.heap[b]?=some (.cells #[.int .u8 (112:Nat),.pointer (none),.pointer (none),.int .i64 k] 204):=by rw [hb1.block b hbw];exact hpb
 obtain ⟨p0,p1,p2,_⟩:=aF eU
 have HB1:=hid hb1
 have O1:=hid ay
 clear ay grow1 eo hb1
 go_wp2_with fail
 clear p0 p1 p2
 have eF:=HB1
 have gL:=hid hs1
 have lX:=hid eU
 have OS:=O1
 have jE:=hid (by intro i hi;rw [iy hn hw];simp [kI,hop,jB]:∀ i,i<n→((fun i=>jB (ltOf xs i) 112) i=true↔dz (aG n back) (ltOf xs) ns k i))
 have sw:=hid (hwd.below eF.out)
 obtain ⟨f,hfe⟩:∃ f:Nat→Bool,f=(fun i=>jB (ltOf xs i) 112):=⟨_,rfl⟩
 rw [←hfe] at jE
 have jA:=hid hfe
 clear hfe
 go_loopw [11] (fun i wr=>∃ j:Nat,j≤n∧i=.int .i64 j∧wr.ownsRow w.heap.size 4 1 (.slice (some ⟨w.heap.size,0,none⟩) n n) n (aj f n j)∧w1.grownBy wr (some w.heap.size)) (fun i _=>n - (intOf i).toNat)
 case atStart=>exact ⟨0,Nat.zero_le _,rfl,by rw [bJ];exact OS.out,World.grownBy.refl _ _⟩
 case round=>
  obtain ⟨j,hj,rfl,own,hgr2⟩:=hrel
  by_cases hlt:j<n
  ·have hpr:wr.heap[b]?=_:=(hgr2.block b (by have:=gL.out;omega) (by simp;omega)).trans lX.out
   obtain ⟨p0,p1,p2,_⟩:=aF hpr
   have q0:=own.frozenAt j
   have q1:(wr.cell? ⟨w.heap.size,j,none⟩).isSome=true:=by
    rw [own.cellAt j (by omega)]
    simp [aj,hlt]
   obtain ⟨qv,q2⟩:=Option.isSome_iff_exists.1 q1
   have hO:=own.stored j (.bool (f j))
   rw [dX] at hO
   have HO:=hid hO.1
   have HG:=hid (fq hgr2 hO.2)
   clear hO q1 own
   have FV:Hid (f j=jB (ltOf xs j) 112):=hid (by rw [jA.out])
   have c:=(iG (o:=j) hgr2 sw.out.lt (by omega)).trans (sw.out.cell j hlt)
   have AQ:ltOf xs j<8:=h8 _ (by simp [ltOf,List.getD,List.getElem?_eq_getElem (show j<xs.length by omega)])
   generalize ltOf xs j=x at *
   clear hgr2 hpr
   go_wp2_with fail
   go_region_with (go_at_call 127;refine (zA x 112 _ AQ (by omega)).mono ?_;rintro e w' ⟨rfl,rfl⟩)
   all_goals
    go_wp2_with fail
    go_roundw
    case rel=>
     have o:=HO.out
     have g:=HG.out
     rw [FV.out] at g
     exact ⟨j+1,by omega,by go_num,by rw [FV.out] at o;exact o,zX g⟩
    case measure=>simp [intOf];omega
  ·have hj2:j=n:=by omega
   rw [hj2] at own
   have RD:=hid (jb ns n back xs (k:=k) eF.out hgr2 gL.out own jE.out)
   clear own hgr2 hj2
   go_wp2_with fail
   go_ret
   exact RD.out
theorem agy (hw:fO ns) (hlx:xs.length=n) (hb:back<n) (hn80:n≤20000) (h8:∀ x∈xs,x<8) (k b:Nat) (nd:Nd) (hn:ns[k]?=some nd) (hop:nd.op=113) (w:World) (hp:Parts w ns bs) (hwd:Wd w gw n wcap xs) (hbk:bs[k]?=some b) :
  Calls Tryz.prog 128 #[.pointer (some ⟨b,0,none⟩),.slice (some ⟨gw,0,none⟩) n wcap,.int .i64 back] w (jf ns n back xs k w):=by
 have hpb:w.heap[b]?=some (.cells #[.int .u8 (113:Nat),.pointer (none),.pointer (none),.int .i64 k] 204):=by
  obtain ⟨b',e,hh⟩:=hp k nd hn
  rw [hbk] at e
  cases e
  rw [hh]
  simp [bu,jT,jR,hop,aP,bz]
 have hbw:=bO hpb
 have hcap:=hwd.cap
 have hgw:=hwd.lt
 obtain ⟨i0,hi,hz0,hz1,hz2⟩:=info_parts Tryz.dw
 go_enter Tryz.func128,Tryz.ntmps128
 go_wp2_with (at_make;go_must (refine wpList_make_full _ rfl (.tmp 15) (.tmp 15) 132 rfl w.heap.size 4 i0 (.bool false) 1 Tryz.underlying132 hi hz0 hz1 .i64 .i64 n n n rfl rfl rfl rfl ?m2 ?m3 (Nat.le_refl _) ?_))
 case m2=>rw [hz2];omega
 case m3=>unfold maxLen;omega
 intro w1 ay grow1
 have eo:(madeCells #[Value.bool false] n).toList=List.replicate n (.bool false):=toList_madeCells_one _ _
 rw [eo] at ay
 have hb1:Below w.heap.size w w1:=(Below.refl _ _).grown grow1 (Nat.le_refl _) (fun k h=>by cases h)
 have hs1:w.heap.size<w1.heap.size:=(ay.lt _ rfl).2
 have eU:w1.heap[b]?=some (.cells #[.int .u8 (113:Nat),.pointer (none),.pointer (none),.int .i64 k] 204):=by rw [hb1.block b hbw];exact hpb
 obtain ⟨p0,p1,p2,_⟩:=aF eU
 have HB1:=hid hb1
 have O1:=hid ay
 clear ay grow1 eo hb1
 go_wp2_with fail
 clear p0 p1 p2
 have eF:=HB1
 have gL:=hid hs1
 have lX:=hid eU
 have OS:=O1
 have jE:=hid (by intro i hi;rw [iy hn hw];simp [kI,hop,jB]:∀ i,i<n→((fun i=>jB (ltOf xs i) 113) i=true↔dz (aG n back) (ltOf xs) ns k i))
 have sw:=hid (hwd.below eF.out)
 obtain ⟨f,hfe⟩:∃ f:Nat→Bool,f=(fun i=>jB (ltOf xs i) 113):=⟨_,rfl⟩
 rw [←hfe] at jE
 have jA:=hid hfe
 clear hfe
 go_loopw [11] (fun i wr=>∃ j:Nat,j≤n∧i=.int .i64 j∧wr.ownsRow w.heap.size 4 1 (.slice (some ⟨w.heap.size,0,none⟩) n n) n (aj f n j)∧w1.grownBy wr (some w.heap.size)) (fun i _=>n - (intOf i).toNat)
 case atStart=>exact ⟨0,Nat.zero_le _,rfl,by rw [bJ];exact OS.out,World.grownBy.refl _ _⟩
 case round=>
  obtain ⟨j,hj,rfl,own,hgr2⟩:=hrel
  by_cases hlt:j<n
  ·have hpr:wr.heap[b]?=_:=(hgr2.block b (by have:=gL.out;omega) (by simp;omega)).trans lX.out
   obtain ⟨p0,p1,p2,_⟩:=aF hpr
   have q0:=own.frozenAt j
   have q1:(wr.cell? ⟨w.heap.size,j,none⟩).isSome=true:=by
    rw [own.cellAt j (by omega)]
    simp [aj,hlt]
   obtain ⟨qv,q2⟩:=Option.isSome_iff_exists.1 q1
   have hO:=own.stored j (.bool (f j))
   rw [dX] at hO
   have HO:=hid hO.1
   have HG:=hid (fq hgr2 hO.2)
   clear hO q1 own
   have FV:Hid (f j=jB (ltOf xs j) 113):=hid (by rw [jA.out])
   have c:=(iG (o:=j) hgr2 sw.out.lt (by omega)).trans (sw.out.cell j hlt)
   have AQ:ltOf xs j<8:=h8 _ (by simp [ltOf,List.getD,List.getElem?_eq_getElem (show j<xs.length by omega)])
   generalize ltOf xs j=x at *
   clear hgr2 hpr
   go_wp2_with fail
   go_region_with (go_at_call 127;refine (zA x 113 _ AQ (by omega)).mono ?_;rintro e w' ⟨rfl,rfl⟩)
   all_goals
    go_wp2_with fail
    go_roundw
    case rel=>
     have o:=HO.out
     have g:=HG.out
     rw [FV.out] at g
     exact ⟨j+1,by omega,by go_num,by rw [FV.out] at o;exact o,zX g⟩
    case measure=>simp [intOf];omega
  ·have hj2:j=n:=by omega
   rw [hj2] at own
   have RD:=hid (jb ns n back xs (k:=k) eF.out hgr2 gL.out own jE.out)
   clear own hgr2 hj2
   go_wp2_with fail
   go_ret
   exact RD.out
theorem agx (hw:fO ns) (hlx:xs.length=n) (hb:back<n) (hn80:n≤20000) (h8:∀ x∈xs,x<8) (k b:Nat) (nd:Nd) (hn:ns[k]?=some nd) (hop:nd.op=114) (w:World) (hp:Parts w ns bs) (hwd:Wd w gw n wcap xs) (hbk:bs[k]?=some b) :
  Calls Tryz.prog 128 #[.pointer (some ⟨b,0,none⟩),.slice (some ⟨gw,0,none⟩) n wcap,.int .i64 back] w (jf ns n back xs k w):=by
 have hpb:w.heap[b]?=some (.cells #[.int .u8 (114:Nat),.pointer (none),.pointer (none),.int .i64 k] 204):=by
  obtain ⟨b',e,hh⟩:=hp k nd hn
  rw [hbk] at e
  cases e
  rw [hh]
  simp [bu,jT,jR,hop,aP,bz]
 have hbw:=bO hpb
 have hcap:=hwd.cap
 have hgw:=hwd.lt
 obtain ⟨i0,hi,hz0,hz1,hz2⟩:=info_parts Tryz.dw
 go_enter Tryz.func128,Tryz.ntmps128
 go_wp2_with (at_make;go_must (refine wpList_make_full _ rfl (.tmp 15) (.tmp 15) 132 rfl w.heap.size 4 i0 (.bool false) 1 Tryz.underlying132 hi hz0 hz1 .i64 .i64 n n n rfl rfl rfl rfl ?m2 ?m3 (Nat.le_refl _) ?_))
 case m2=>rw [hz2];omega
 case m3=>unfold maxLen;omega
 intro w1 ay grow1
 have eo:(madeCells #[Value.bool false] n).toList=List.replicate n (.bool false):=toList_madeCells_one _ _
 rw [eo] at ay
 have hb1:Below w.heap.size w w1:=(Below.refl _ _).grown grow1 (Nat.le_refl _) (fun k h=>by cases h)
 have hs1:w.heap.size<w1.heap.size:=(ay.lt _ rfl).2
 have eU:w1.heap[b]?=some (.cells #[.int .u8 (114:Nat),.pointer (none),.pointer (none),.int .i64 k] 204):=by rw [hb1.block b hbw];exact hpb
 obtain ⟨p0,p1,p2,_⟩:=aF eU
 have HB1:=hid hb1
 have O1:=hid ay
 clear ay grow1 eo hb1
 go_wp2_with fail
 clear p0 p1 p2
 have eF:=HB1
 have gL:=hid hs1
 have lX:=hid eU
 have OS:=O1
 have jE:=hid (by intro i hi;rw [iy hn hw];simp [kI,hop,jB]:∀ i,i<n→((fun i=>jB (ltOf xs i) 114) i=true↔dz (aG n back) (ltOf xs) ns k i))
 have sw:=hid (hwd.below eF.out)
 obtain ⟨f,hfe⟩:∃ f:Nat→Bool,f=(fun i=>jB (ltOf xs i) 114):=⟨_,rfl⟩
 rw [←hfe] at jE
 have jA:=hid hfe
 clear hfe
 go_loopw [11] (fun i wr=>∃ j:Nat,j≤n∧i=.int .i64 j∧wr.ownsRow w.heap.size 4 1 (.slice (some ⟨w.heap.size,0,none⟩) n n) n (aj f n j)∧w1.grownBy wr (some w.heap.size)) (fun i _=>n - (intOf i).toNat)
 case atStart=>exact ⟨0,Nat.zero_le _,rfl,by rw [bJ];exact OS.out,World.grownBy.refl _ _⟩
 case round=>
  obtain ⟨j,hj,rfl,own,hgr2⟩:=hrel
  by_cases hlt:j<n
  ·have hpr:wr.heap[b]?=_:=(hgr2.block b (by have:=gL.out;omega) (by simp;omega)).trans lX.out
   obtain ⟨p0,p1,p2,_⟩:=aF hpr
   have q0:=own.frozenAt j
   have q1:(wr.cell? ⟨w.heap.size,j,none⟩).isSome=true:=by
    rw [own.cellAt j (by omega)]
    simp [aj,hlt]
   obtain ⟨qv,q2⟩:=Option.isSome_iff_exists.1 q1
   have hO:=own.stored j (.bool (f j))
   rw [dX] at hO
   have HO:=hid hO.1
   have HG:=hid (fq hgr2 hO.2)
   clear hO q1 own
   have FV:Hid (f j=jB (ltOf xs j) 114):=hid (by rw [jA.out])
   have c:=(iG (o:=j) hgr2 sw.out.lt (by omega)).trans (sw.out.cell j hlt)
   have AQ:ltOf xs j<8:=h8 _ (by simp [ltOf,List.getD,List.getElem?_eq_getElem (show j<xs.length by omega)])
   generalize ltOf xs j=x at *
   clear hgr2 hpr
   go_wp2_with fail
   go_region_with (go_at_call 127;refine (zA x 114 _ AQ (by omega)).mono ?_;rintro e w' ⟨rfl,rfl⟩)
   all_goals
    go_wp2_with fail
    go_roundw
    case rel=>
     have o:=HO.out
     have g:=HG.out
     rw [FV.out] at g
     exact ⟨j+1,by omega,by go_num,by rw [FV.out] at o;exact o,zX g⟩
    case measure=>simp [intOf];omega
  ·have hj2:j=n:=by omega
   rw [hj2] at own
   have RD:=hid (jb ns n back xs (k:=k) eF.out hgr2 gL.out own jE.out)
   clear own hgr2 hj2
   go_wp2_with fail
   go_ret
   exact RD.out
end
section
variable (ns:List Nd) (bs:List Nat) (gw n wcap back:Nat) (xs:List Nat)
theorem acA (hw:fO ns) (hlx:xs.length=n) (hb:back<n) (hn80:n≤20000) (h8:∀ x∈xs,x<8) (k b:Nat) (nd:Nd) (hn:ns[k]?=some nd) (hop:nd.op=33) (ihl:oQ ns bs gw n wcap back xs nd.l) (w:World) (hp:Parts w ns bs) (hwd:Wd w gw n wcap xs) (hbk:bs[k]?=some b) :
  Calls Tryz.prog 128 #[.pointer (some ⟨b,0,none⟩),.slice (some ⟨gw,0,none⟩) n wcap,.int .i64 back] w (jf ns n back xs k w):=by
 have hpb:w.heap[b]?=some (.cells #[.int .u8 (33:Nat),.pointer (some ⟨bs.getD nd.l 0,0,none⟩),.pointer (none),.int .i64 k] 204):=by
  obtain ⟨b',e,hh⟩:=hp k nd hn
  rw [hbk] at e
  cases e
  rw [hh]
  simp [bu,jT,jR,hop,aP,bz]
 have hbw:=bO hpb
 have hcap:=hwd.cap
 have hgw:=hwd.lt
 have hlk:nd.l<k:=(dx hw hn).2.1 (by rw [hop];decide)
 have hkl:=(List.getElem?_eq_some_iff.1 hn).1
 obtain ⟨bl,hbl,hhl⟩:∃ bl,bs[nd.l]?=some bl∧w.heap[bl]?=some (bu bs nd.l ns[nd.l]):=hp nd.l _ (List.getElem?_eq_getElem (by omega))
 rw [show bs.getD nd.l 0=bl by simp [List.getD,hbl]] at hpb
 obtain ⟨i0,hi,hz0,hz1,hz2⟩:=info_parts Tryz.dw
 go_enter Tryz.func128,Tryz.ntmps128
 go_wp2_with (at_make;go_must (refine wpList_make_full _ rfl (.tmp 15) (.tmp 15) 132 rfl w.heap.size 4 i0 (.bool false) 1 Tryz.underlying132 hi hz0 hz1 .i64 .i64 n n n rfl rfl rfl rfl ?m2 ?m3 (Nat.le_refl _) ?_))
 case m2=>rw [hz2];omega
 case m3=>unfold maxLen;omega
 intro w1 ay grow1
 have eo:(madeCells #[Value.bool false] n).toList=List.replicate n (.bool false):=toList_madeCells_one _ _
 rw [eo] at ay
 have hb1:Below w.heap.size w w1:=(Below.refl _ _).grown grow1 (Nat.le_refl _) (fun k h=>by cases h)
 have hs1:w.heap.size<w1.heap.size:=(ay.lt _ rfl).2
 have eU:w1.heap[b]?=some (.cells #[.int .u8 (33:Nat),.pointer (some ⟨bl,0,none⟩),.pointer (none),.int .i64 k] 204):=by rw [hb1.block b hbw];exact hpb
 obtain ⟨p0,p1,p2,_⟩:=aF eU
 have HB1:=hid hb1
 have O1:=hid ay
 clear ay grow1 eo hb1
 go_wp2_with fail
 refine (ihl _ bl (hp.below HB1.out) (hwd.below HB1.out) hbl).mono ?_
 rintro e w2 ⟨gl,fl,rfl,SL,hgl,hRl,hb2⟩
 have hs2:=hb2.size
 have kH:w2.heap[b]?=_:=(hb2.block b (by omega)).trans eU
 clear p0 p1 p2
 obtain ⟨p0,p1,p2,_⟩:=aF kH
 have HB2:=hid (HB1.out.trans (hb2.mono (by omega)))
 have O2:=hid (O1.out.kept (row:=none) ⟨hb2.os,hb2.tape,hb2.output,hb2.size,fun k hk _=>hb2.block k hk⟩ (Or.inr (by simp [Value.ownBlock])))
 have lW:=hid hRl
 have sD:=hid SL
 clear hb2 O1 HB1 hRl SL
 go_wp2_with fail
 clear p0 p1 p2
 have eF:=HB2
 have gL:Hid (w.heap.size<w2.heap.size):=hid (by omega)
 have lX:=hid kH
 have OS:=O2
 have SL:=sD.out
 have jE:=hid (by intro i hi;rw [iy hn hw];simp only [kI,hop,Nat.reduceEqDiff,if_false,if_true];have:=SL i hi;unfold dz at this;rw [←this];simp:∀ i,i<n→((fun i=>!fl i) i=true↔dz (aG n back) (ltOf xs) ns k i))
 clear SL
 have sw:=hid (hwd.below eF.out)
 obtain ⟨f,hfe⟩:∃ f:Nat→Bool,f=(fun i=>!fl i):=⟨_,rfl⟩
 rw [←hfe] at jE
 have jA:=hid hfe
 clear hfe
 go_loopw [11] (fun i wr=>∃ j:Nat,j≤n∧i=.int .i64 j∧wr.ownsRow w.heap.size 4 1 (.slice (some ⟨w.heap.size,0,none⟩) n n) n (aj f n j)∧w2.grownBy wr (some w.heap.size)) (fun i _=>n - (intOf i).toNat)
 case atStart=>exact ⟨0,Nat.zero_le _,rfl,by rw [bJ];exact OS.out,World.grownBy.refl _ _⟩
 case round=>
  obtain ⟨j,hj,rfl,own,hgr2⟩:=hrel
  by_cases hlt:j<n
  ·have hpr:wr.heap[b]?=_:=(hgr2.block b (by have:=gL.out;omega) (by simp;omega)).trans lX.out
   obtain ⟨p0,p1,p2,_⟩:=aF hpr
   have q0:=own.frozenAt j
   have q1:(wr.cell? ⟨w.heap.size,j,none⟩).isSome=true:=by
    rw [own.cellAt j (by omega)]
    simp [aj,hlt]
   obtain ⟨qv,q2⟩:=Option.isSome_iff_exists.1 q1
   have hO:=own.stored j (.bool (f j))
   rw [dX] at hO
   have HO:=hid hO.1
   have HG:=hid (fq hgr2 hO.2)
   clear hO q1 own
   have FV:Hid (f j=!fl j):=hid (by rw [jA.out])
   have c:=(iG (o:=j) hgr2 lW.out.lt (by omega)).trans (lW.out.cell j hlt)
   generalize fl j=x at *
   clear hgr2 hpr
   go_wp2_with fail
   go_roundw
   case rel=>
    have o:=HO.out
    have g:=HG.out
    rw [FV.out] at g
    exact ⟨j+1,by omega,by go_num,by rw [FV.out] at o;exact o,g⟩
   case measure=>simp [intOf];omega
  ·have hj2:j=n:=by omega
   rw [hj2] at own
   have RD:=hid (jb ns n back xs (k:=k) eF.out hgr2 gL.out own jE.out)
   clear own hgr2 hj2
   go_wp2_with fail
   go_ret
   exact RD.out
theorem agA (hw:fO ns) (hlx:xs.length=n) (hb:back<n) (hn80:n≤20000) (h8:∀ x∈xs,x<8) (k b:Nat) (nd:Nd) (hn:ns[k]?=some nd) (hop:nd.op=88) (ihl:oQ ns bs gw n wcap back xs nd.l) (w:World) (hp:Parts w ns bs) (hwd:Wd w gw n wcap xs) (hbk:bs[k]?=some b) :
  Calls Tryz.prog 128 #[.pointer (some ⟨b,0,none⟩),.slice (some ⟨gw,0,none⟩) n wcap,.int .i64 back] w (jf ns n back xs k w):=by
 have hpb:w.heap[b]?=some (.cells #[.int .u8 (88:Nat),.pointer (some ⟨bs.getD nd.l 0,0,none⟩),.pointer (none),.int .i64 k] 204):=by
  obtain ⟨b',e,hh⟩:=hp k nd hn
  rw [hbk] at e
  cases e
  rw [hh]
  simp [bu,jT,jR,hop,aP,bz]
 have hbw:=bO hpb
 have hcap:=hwd.cap
 have hgw:=hwd.lt
 have hlk:nd.l<k:=(dx hw hn).2.1 (by rw [hop];decide)
 have hkl:=(List.getElem?_eq_some_iff.1 hn).1
 obtain ⟨bl,hbl,hhl⟩:∃ bl,bs[nd.l]?=some bl∧w.heap[bl]?=some (bu bs nd.l ns[nd.l]):=hp nd.l _ (List.getElem?_eq_getElem (by omega))
 rw [show bs.getD nd.l 0=bl by simp [List.getD,hbl]] at hpb
 obtain ⟨i0,hi,hz0,hz1,hz2⟩:=info_parts Tryz.dw
 go_enter Tryz.func128,Tryz.ntmps128
 go_wp2_with (at_make;go_must (refine wpList_make_full _ rfl (.tmp 15) (.tmp 15) 132 rfl w.heap.size 4 i0 (.bool false) 1 Tryz.underlying132 hi hz0 hz1 .i64 .i64 n n n rfl rfl rfl rfl ?m2 ?m3 (Nat.le_refl _) ?_))
 case m2=>rw [hz2];omega
 case m3=>unfold maxLen;omega
 intro w1 ay grow1
 have eo:(madeCells #[Value.bool false] n).toList=List.replicate n (.bool false):=toList_madeCells_one _ _
 rw [eo] at ay
 have hb1:Below w.heap.size w w1:=(Below.refl _ _).grown grow1 (Nat.le_refl _) (fun k h=>by cases h)
 have hs1:w.heap.size<w1.heap.size:=(ay.lt _ rfl).2
 have eU:w1.heap[b]?=some (.cells #[.int .u8 (88:Nat),.pointer (some ⟨bl,0,none⟩),.pointer (none),.int .i64 k] 204):=by rw [hb1.block b hbw];exact hpb
 obtain ⟨p0,p1,p2,_⟩:=aF eU
 have HB1:=hid hb1
 have O1:=hid ay
 clear ay grow1 eo hb1
 go_wp2_with fail
 refine (ihl _ bl (hp.below HB1.out) (hwd.below HB1.out) hbl).mono ?_
 rintro e w2 ⟨gl,fl,rfl,SL,hgl,hRl,hb2⟩
 have hs2:=hb2.size
 have kH:w2.heap[b]?=_:=(hb2.block b (by omega)).trans eU
 clear p0 p1 p2
 obtain ⟨p0,p1,p2,_⟩:=aF kH
 have HB2:=hid (HB1.out.trans (hb2.mono (by omega)))
 have O2:=hid (O1.out.kept (row:=none) ⟨hb2.os,hb2.tape,hb2.output,hb2.size,fun k hk _=>hb2.block k hk⟩ (Or.inr (by simp [Value.ownBlock])))
 have lW:=hid hRl
 have sD:=hid SL
 clear hb2 O1 HB1 hRl SL
 go_wp2_with fail
 clear p0 p1 p2
 have eF:=HB2
 have gL:Hid (w.heap.size<w2.heap.size):=hid (by omega)
 have lX:=hid kH
 have OS:=O2
 have SL:=sD.out
 have jE:=hid (by intro i hi;rw [iy hn hw];simp only [kI,hop,Nat.reduceEqDiff,if_false,if_true];exact SL _ (M4 hb):∀ i,i<n→((fun i=>fl (aG n back i)) i=true↔dz (aG n back) (ltOf xs) ns k i))
 clear SL
 have sw:=hid (hwd.below eF.out)
 obtain ⟨f,hfe⟩:∃ f:Nat→Bool,f=(fun i=>fl (aG n back i)):=⟨_,rfl⟩
 rw [←hfe] at jE
 have jA:=hid hfe
 clear hfe
 go_loopw [11] (fun i wr=>∃ j:Nat,j≤n∧i=.int .i64 j∧wr.ownsRow w.heap.size 4 1 (.slice (some ⟨w.heap.size,0,none⟩) n n) n (aj f n j)∧w2.grownBy wr (some w.heap.size)) (fun i _=>n - (intOf i).toNat)
 case atStart=>exact ⟨0,Nat.zero_le _,rfl,by rw [bJ];exact OS.out,World.grownBy.refl _ _⟩
 case round=>
  obtain ⟨j,hj,rfl,own,hgr2⟩:=hrel
  by_cases hlt:j<n
  ·have hpr:wr.heap[b]?=_:=(hgr2.block b (by have:=gL.out;omega) (by simp;omega)).trans lX.out
   obtain ⟨p0,p1,p2,_⟩:=aF hpr
   have q0:=own.frozenAt j
   have q1:(wr.cell? ⟨w.heap.size,j,none⟩).isSome=true:=by
    rw [own.cellAt j (by omega)]
    simp [aj,hlt]
   obtain ⟨qv,q2⟩:=Option.isSome_iff_exists.1 q1
   have hO:=own.stored j (.bool (f j))
   rw [dX] at hO
   have HO:=hid hO.1
   have HG:=hid (fq hgr2 hO.2)
   clear hO q1 own
   clear hpr
   by_cases he:j+1=n
   ·have FV:Hid (f j=fl back):=hid (by rw [jA.out];show fl (aG n back j)=_;unfold aG;rw [if_neg (by omega)])
    have c:=(iG (o:=back) hgr2 lW.out.lt (by omega)).trans (lW.out.cell back hb)
    have ke:((j:Int)+1==(n:Int))=true:=beq_iff_eq.2 (by omega)
    generalize fl back=x at *
    clear hgr2 he
    go_wp2_with fail
    go_roundw
    case rel=>
     have o:=HO.out
     have g:=HG.out
     rw [FV.out] at g
     exact ⟨j+1,by omega,by go_num,by rw [FV.out] at o;exact o,g⟩
    case measure=>simp [intOf];omega
   ·have FV:Hid (f j=fl (j+1)):=hid (by rw [jA.out];show fl (aG n back j)=_;unfold aG;rw [if_pos (by omega)])
    have c:=(iG (o:=j+1) hgr2 lW.out.lt (by omega)).trans (lW.out.cell (j+1) (by omega))
    have ke:((j:Int)+1==(n:Int))=false:=beq_eq_false_iff_ne.2 (by omega)
    generalize fl (j+1)=x at *
    have he2:j+1<n:=by omega
    clear hgr2 he
    go_wp2_with fail
    go_roundw
    case rel=>
     have o:=HO.out
     have g:=HG.out
     rw [FV.out] at g
     exact ⟨j+1,by omega,by go_num,by rw [FV.out] at o;exact o,g⟩
    case measure=>simp [intOf];omega
  ·have hj2:j=n:=by omega
   rw [hj2] at own
   have RD:=hid (jb ns n back xs (k:=k) eF.out hgr2 gL.out own jE.out)
   clear own hgr2 hj2
   go_wp2_with fail
   go_ret
   exact RD.out
theorem agE (hw:fO ns) (hlx:xs.length=n) (hb:back<n) (hn80:n≤20000) (h8:∀ x∈xs,x<8) (k b:Nat) (nd:Nd) (hn:ns[k]?=some nd) (hop:nd.op=70) (ihl:oQ ns bs gw n wcap back xs nd.l) (w:World) (hp:Parts w ns bs) (hwd:Wd w gw n wcap xs) (hbk:bs[k]?=some b) :
  Calls Tryz.prog 128 #[.pointer (some ⟨b,0,none⟩),.slice (some ⟨gw,0,none⟩) n wcap,.int .i64 back] w (jf ns n back xs k w):=by
 have hpb:w.heap[b]?=some (.cells #[.int .u8 (70:Nat),.pointer (some ⟨bs.getD nd.l 0,0,none⟩),.pointer (none),.int .i64 k] 204):=by
  obtain ⟨b',e,hh⟩:=hp k nd hn
  rw [hbk] at e
  cases e
  rw [hh]
  simp [bu,jT,jR,hop,aP,bz]
 have hbw:=bO hpb
 have hcap:=hwd.cap
 have hgw:=hwd.lt
 have hlk:nd.l<k:=(dx hw hn).2.1 (by rw [hop];decide)
 have hkl:=(List.getElem?_eq_some_iff.1 hn).1
 obtain ⟨bl,hbl,hhl⟩:∃ bl,bs[nd.l]?=some bl∧w.heap[bl]?=some (bu bs nd.l ns[nd.l]):=hp nd.l _ (List.getElem?_eq_getElem (by omega))
 rw [show bs.getD nd.l 0=bl by simp [List.getD,hbl]] at hpb
 obtain ⟨i0,hi,hz0,hz1,hz2⟩:=info_parts Tryz.dw
 go_enter Tryz.func128,Tryz.ntmps128
 go_wp2_with (at_make;go_must (refine wpList_make_full _ rfl (.tmp 15) (.tmp 15) 132 rfl w.heap.size 4 i0 (.bool false) 1 Tryz.underlying132 hi hz0 hz1 .i64 .i64 n n n rfl rfl rfl rfl ?m2 ?m3 (Nat.le_refl _) ?_))
 case m2=>rw [hz2];omega
 case m3=>unfold maxLen;omega
 intro w1 ay grow1
 have eo:(madeCells #[Value.bool false] n).toList=List.replicate n (.bool false):=toList_madeCells_one _ _
 rw [eo] at ay
 have hb1:Below w.heap.size w w1:=(Below.refl _ _).grown grow1 (Nat.le_refl _) (fun k h=>by cases h)
 have hs1:w.heap.size<w1.heap.size:=(ay.lt _ rfl).2
 have eU:w1.heap[b]?=some (.cells #[.int .u8 (70:Nat),.pointer (some ⟨bl,0,none⟩),.pointer (none),.int .i64 k] 204):=by rw [hb1.block b hbw];exact hpb
 obtain ⟨p0,p1,p2,_⟩:=aF eU
 have HB1:=hid hb1
 have O1:=hid ay
 clear ay grow1 eo hb1
 go_wp2_with fail
 refine (ihl _ bl (hp.below HB1.out) (hwd.below HB1.out) hbl).mono ?_
 rintro e w2 ⟨gl,fl,rfl,SL,hgl,hRl,hb2⟩
 have hs2:=hb2.size
 have kH:w2.heap[b]?=_:=(hb2.block b (by omega)).trans eU
 clear p0 p1 p2
 obtain ⟨p0,p1,p2,_⟩:=aF kH
 have HB2:=hid (HB1.out.trans (hb2.mono (by omega)))
 have O2:=hid (O1.out.kept (row:=none) ⟨hb2.os,hb2.tape,hb2.output,hb2.size,fun k hk _=>hb2.block k hk⟩ (Or.inr (by simp [Value.ownBlock])))
 have lW:=hid hRl
 have sD:=hid SL
 clear hb2 O1 HB1 hRl SL
 go_wp2_with fail
 clear p0 p1 p2
 have eF:=HB2
 have gL:Hid (w.heap.size<w2.heap.size):=hid (by omega)
 have lX:=hid kH
 have OS:=O2
 have SL:=sD.out
 have jE:=hid (by intro i hi;rw [iy hn hw,ajg hb _ _ i hi];simp only [kI,hop,Nat.reduceEqDiff,if_false,if_true];exact exists_congr fun s=>SL _ (jU hb s i hi):∀ i,i<n→((fun i=>al 70 fl fl (aG n back) (n+1) i) i=true↔dz (aG n back) (ltOf xs) ns k i))
 clear SL
 have sw:=hid (hwd.below eF.out)
 obtain ⟨f,hfe⟩:∃ f:Nat→Bool,f=(fun i=>al 70 fl fl (aG n back) (n+1) i):=⟨_,rfl⟩
 rw [←hfe] at jE
 have jA:=hid hfe
 clear hfe
 go_loopw [11] (fun i wr=>∃ j:Nat,j≤n∧i=.int .i64 j∧wr.ownsRow w.heap.size 4 1 (.slice (some ⟨w.heap.size,0,none⟩) n n) n (aj f n j)∧w2.grownBy wr (some w.heap.size)) (fun i _=>n - (intOf i).toNat)
 case atStart=>exact ⟨0,Nat.zero_le _,rfl,by rw [bJ];exact OS.out,World.grownBy.refl _ _⟩
 case round=>
  obtain ⟨j,hj,rfl,own,hgr2⟩:=hrel
  by_cases hlt:j<n
  ·have hpr:wr.heap[b]?=_:=(hgr2.block b (by have:=gL.out;omega) (by simp;omega)).trans lX.out
   obtain ⟨p0,p1,p2,_⟩:=aF hpr
   have q0:=own.frozenAt j
   have q1:(wr.cell? ⟨w.heap.size,j,none⟩).isSome=true:=by
    rw [own.cellAt j (by omega)]
    simp [aj,hlt]
   obtain ⟨qv,q2⟩:=Option.isSome_iff_exists.1 q1
   have hO:=own.stored j (.bool (f j))
   rw [dX] at hO
   have HO:=hid hO.1
   have HG:=hid (fq hgr2 hO.2)
   clear hO q1 own
   have FV:Hid (f j=al 70 fl fl (aG n back) (n+1) j):=hid (by rw [jA.out])
   have RL:=lW.out.grown hgr2 (by omega)
   have AL:=adx gl n j back (.slice none 0 0) fl fl _ RL hlt hb hn80
   generalize al 70 fl fl (aG n back) (n+1) j=x at *
   clear hgr2 hpr
   go_wp2_with fail
   refine AL.mono ?_
   rintro e w' ⟨rfl,rfl⟩
   clear AL
   go_wp2_with fail
   go_roundw
   case rel=>
    have o:=HO.out
    have g:=HG.out
    rw [FV.out] at g
    exact ⟨j+1,by omega,by go_num,by rw [FV.out] at o;exact o,g⟩
   case measure=>simp [intOf];omega
  ·have hj2:j=n:=by omega
   rw [hj2] at own
   have RD:=hid (jb ns n back xs (k:=k) eF.out hgr2 gL.out own jE.out)
   clear own hgr2 hj2
   go_wp2_with fail
   go_ret
   exact RD.out
theorem agD (hw:fO ns) (hlx:xs.length=n) (hb:back<n) (hn80:n≤20000) (h8:∀ x∈xs,x<8) (k b:Nat) (nd:Nd) (hn:ns[k]?=some nd) (hop:nd.op=71) (ihl:oQ ns bs gw n wcap back xs nd.l) (w:World) (hp:Parts w ns bs) (hwd:Wd w gw n wcap xs) (hbk:bs[k]?=some b) :
  Calls Tryz.prog 128 #[.pointer (some ⟨b,0,none⟩),.slice (some ⟨gw,0,none⟩) n wcap,.int .i64 back] w (jf ns n back xs k w):=by
 have hpb:w.heap[b]?=some (.cells #[.int .u8 (71:Nat),.pointer (some ⟨bs.getD nd.l 0,0,none⟩),.pointer (none),.int .i64 k] 204):=by
  obtain ⟨b',e,hh⟩:=hp k nd hn
  rw [hbk] at e
  cases e
  rw [hh]
  simp [bu,jT,jR,hop,aP,bz]
 have hbw:=bO hpb
 have hcap:=hwd.cap
 have hgw:=hwd.lt
 have hlk:nd.l<k:=(dx hw hn).2.1 (by rw [hop];decide)
 have hkl:=(List.getElem?_eq_some_iff.1 hn).1
 obtain ⟨bl,hbl,hhl⟩:∃ bl,bs[nd.l]?=some bl∧w.heap[bl]?=some (bu bs nd.l ns[nd.l]):=hp nd.l _ (List.getElem?_eq_getElem (by omega))
 rw [show bs.getD nd.l 0=bl by simp [List.getD,hbl]] at hpb
 obtain ⟨i0,hi,hz0,hz1,hz2⟩:=info_parts Tryz.dw
 go_enter Tryz.func128,Tryz.ntmps128
 go_wp2_with (at_make;go_must (refine wpList_make_full _ rfl (.tmp 15) (.tmp 15) 132 rfl w.heap.size 4 i0 (.bool false) 1 Tryz.underlying132 hi hz0 hz1 .i64 .i64 n n n rfl rfl rfl rfl ?m2 ?m3 (Nat.le_refl _) ?_))
 case m2=>rw [hz2];omega
 case m3=>unfold maxLen;omega
 intro w1 ay grow1
 have eo:(madeCells #[Value.bool false] n).toList=List.replicate n (.bool false):=toList_madeCells_one _ _
 rw [eo] at ay
 have hb1:Below w.heap.size w w1:=(Below.refl _ _).grown grow1 (Nat.le_refl _) (fun k h=>by cases h)
 have hs1:w.heap.size<w1.heap.size:=(ay.lt _ rfl).2
 have eU:w1.heap[b]?=some (.cells #[.int .u8 (71:Nat),.pointer (some ⟨bl,0,none⟩),.pointer (none),.int .i64 k] 204):=by rw [hb1.block b hbw];exact hpb
 obtain ⟨p0,p1,p2,_⟩:=aF eU
 have HB1:=hid hb1
 have O1:=hid ay
 clear ay grow1 eo hb1
 go_wp2_with fail
 refine (ihl _ bl (hp.below HB1.out) (hwd.below HB1.out) hbl).mono ?_
 rintro e w2 ⟨gl,fl,rfl,SL,hgl,hRl,hb2⟩
 have hs2:=hb2.size
 have kH:w2.heap[b]?=_:=(hb2.block b (by omega)).trans eU
 clear p0 p1 p2
 obtain ⟨p0,p1,p2,_⟩:=aF kH
 have HB2:=hid (HB1.out.trans (hb2.mono (by omega)))
 have O2:=hid (O1.out.kept (row:=none) ⟨hb2.os,hb2.tape,hb2.output,hb2.size,fun k hk _=>hb2.block k hk⟩ (Or.inr (by simp [Value.ownBlock])))
 have lW:=hid hRl
 have sD:=hid SL
 clear hb2 O1 HB1 hRl SL
 go_wp2_with fail
 clear p0 p1 p2
 have eF:=HB2
 have gL:Hid (w.heap.size<w2.heap.size):=hid (by omega)
 have lX:=hid kH
 have OS:=O2
 have SL:=sD.out
 have jE:=hid (by intro i hi;rw [iy hn hw,ajf hb _ _ i hi];simp only [kI,hop,Nat.reduceEqDiff,if_false,if_true];exact forall_congr' fun s=>SL _ (jU hb s i hi):∀ i,i<n→((fun i=>al 71 fl fl (aG n back) (n+1) i) i=true↔dz (aG n back) (ltOf xs) ns k i))
 clear SL
 have sw:=hid (hwd.below eF.out)
 obtain ⟨f,hfe⟩:∃ f:Nat→Bool,f=(fun i=>al 71 fl fl (aG n back) (n+1) i):=⟨_,rfl⟩
 rw [←hfe] at jE
 have jA:=hid hfe
 clear hfe
 go_loopw [11] (fun i wr=>∃ j:Nat,j≤n∧i=.int .i64 j∧wr.ownsRow w.heap.size 4 1 (.slice (some ⟨w.heap.size,0,none⟩) n n) n (aj f n j)∧w2.grownBy wr (some w.heap.size)) (fun i _=>n - (intOf i).toNat)
 case atStart=>exact ⟨0,Nat.zero_le _,rfl,by rw [bJ];exact OS.out,World.grownBy.refl _ _⟩
 case round=>
  obtain ⟨j,hj,rfl,own,hgr2⟩:=hrel
  by_cases hlt:j<n
  ·have hpr:wr.heap[b]?=_:=(hgr2.block b (by have:=gL.out;omega) (by simp;omega)).trans lX.out
   obtain ⟨p0,p1,p2,_⟩:=aF hpr
   have q0:=own.frozenAt j
   have q1:(wr.cell? ⟨w.heap.size,j,none⟩).isSome=true:=by
    rw [own.cellAt j (by omega)]
    simp [aj,hlt]
   obtain ⟨qv,q2⟩:=Option.isSome_iff_exists.1 q1
   have hO:=own.stored j (.bool (f j))
   rw [dX] at hO
   have HO:=hid hO.1
   have HG:=hid (fq hgr2 hO.2)
   clear hO q1 own
   have FV:Hid (f j=al 71 fl fl (aG n back) (n+1) j):=hid (by rw [jA.out])
   have RL:=lW.out.grown hgr2 (by omega)
   have AL:=adw gl n j back (.slice none 0 0) fl fl _ RL hlt hb hn80
   generalize al 71 fl fl (aG n back) (n+1) j=x at *
   clear hgr2 hpr
   go_wp2_with fail
   refine AL.mono ?_
   rintro e w' ⟨rfl,rfl⟩
   clear AL
   go_wp2_with fail
   go_roundw
   case rel=>
    have o:=HO.out
    have g:=HG.out
    rw [FV.out] at g
    exact ⟨j+1,by omega,by go_num,by rw [FV.out] at o;exact o,g⟩
   case measure=>simp [intOf];omega
  ·have hj2:j=n:=by omega
   rw [hj2] at own
   have RD:=hid (jb ns n back xs (k:=k) eF.out hgr2 gL.out own jE.out)
   clear own hgr2 hj2
   go_wp2_with fail
   go_ret
   exact RD.out
end
end Go.Proofs.YtjagijohfkffiabGreat
