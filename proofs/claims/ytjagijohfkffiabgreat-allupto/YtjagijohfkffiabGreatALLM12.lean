import Derived.Test.YtjagijohfkffiabGreatALLM08
import Derived.Test.YtjagijohfkffiabGreatALLM10
import Derived.Test.YtjagijohfkffiabGreatALLM11
import Derived.Laws.AppendOwnNone
set_option maxHeartbeats 16000000
set_option maxRecDepth 100000
namespace Go.Proofs.YtjagijohfkffiabGreat
open Go.RowKit
set_option linter.unusedVariables false
section
variable (ns:List Nd) (bs:List Nat) (gw n wcap back:Nat) (xs:List Nat)
theorem acB (hw:fO ns) (hlx:xs.length=n) (hb:back<n) (hn80:n≤20000) (h8:∀ x∈xs,x<8) (k b:Nat) (nd:Nd) (hn:ns[k]?=some nd) (hop:nd.op=38) (ihl:oQ ns bs gw n wcap back xs nd.l) (ihr:oQ ns bs gw n wcap back xs nd.r) (w:World) (hp:Parts w ns bs) (hwd:Wd w gw n wcap xs) (hbk:bs[k]?=some b) :
  Calls Tryz.prog 128 #[.pointer (some ⟨b,0,none⟩),.slice (some ⟨gw,0,none⟩) n wcap,.int .i64 back] w (jf ns n back xs k w):=by
 have hpb:w.heap[b]?=some (.cells #[.int .u8 (38:Nat),.pointer (some ⟨bs.getD nd.l 0,0,none⟩),.pointer (some ⟨bs.getD nd.r 0,0,none⟩),.int .i64 k] 204):=by
  obtain ⟨b',e,hh⟩:=hp k nd hn
  rw [hbk] at e
  cases e
  rw [hh]
  simp [bu,jT,jR,hop,aP,bz]
 have hbw:=bO hpb
 have hcap:=hwd.cap
 have hgw:=hwd.lt
 have hlk:nd.l<k:=(dx hw hn).2.1 (by rw [hop];decide)
 have hkl:=(List.getElem?_eq_some_iff.1 hn).1
 obtain ⟨bl,hbl,hhl⟩:∃ bl,bs[nd.l]?=some bl∧w.heap[bl]?=some (bu bs nd.l ns[nd.l]):=hp nd.l _ (List.getElem?_eq_getElem (by omega))
 rw [show bs.getD nd.l 0=bl by simp [List.getD,hbl]] at hpb
 have WK:nd.r<k:=(dx hw hn).2.2 (by rw [hop];decide)
 obtain ⟨br,hbr,hhr⟩:∃ br,bs[nd.r]?=some br∧w.heap[br]?=some (bu bs nd.r ns[nd.r]):=hp nd.r _ (List.getElem?_eq_getElem (by omega))
 rw [show bs.getD nd.r 0=br by simp [List.getD,hbr]] at hpb
 obtain ⟨i0,hi,hz0,hz1,hz2⟩:=info_parts Tryz.dw
 go_enter Tryz.func128,Tryz.ntmps128
 go_wp2_with (at_make;go_must (refine wpList_make_full _ rfl (.tmp 15) (.tmp 15) 132 rfl w.heap.size 4 i0 (.bool false) 1 Tryz.underlying132 hi hz0 hz1 .i64 .i64 n n n rfl rfl rfl rfl ?m2 ?m3 (Nat.le_refl _) ?_))
 case m2=>rw [hz2];omega
 case m3=>unfold maxLen;omega
 intro w1 ay grow1
 have eo:(madeCells #[Value.bool false] n).toList=List.replicate n (.bool false):=toList_madeCells_one _ _
 rw [eo] at ay
 have hb1:Below w.heap.size w w1:=(Below.refl _ _).grown grow1 (Nat.le_refl _) (fun k h=>by cases h)
 have hs1:w.heap.size<w1.heap.size:=(ay.lt _ rfl).2
 have eU:w1.heap[b]?=some (.cells #[.int .u8 (38:Nat),.pointer (some ⟨bl,0,none⟩),.pointer (some ⟨br,0,none⟩),.int .i64 k] 204):=by rw [hb1.block b hbw];exact hpb
 obtain ⟨p0,p1,p2,_⟩:=aF eU
 have HB1:=hid hb1
 have O1:=hid ay
 clear ay grow1 eo hb1
 go_wp2_with fail
 refine (ihl _ bl (hp.below HB1.out) (hwd.below HB1.out) hbl).mono ?_
 rintro e w2 ⟨gl,fl,rfl,SL,hgl,hRl,hb2⟩
 have hs2:=hb2.size
 have kH:w2.heap[b]?=_:=(hb2.block b (by omega)).trans eU
 clear p0 p1 p2
 obtain ⟨p0,p1,p2,_⟩:=aF kH
 have HB2:=hid (HB1.out.trans (hb2.mono (by omega)))
 have O2:=hid (O1.out.kept (row:=none) ⟨hb2.os,hb2.tape,hb2.output,hb2.size,fun k hk _=>hb2.block k hk⟩ (Or.inr (by simp [Value.ownBlock])))
 have lW:=hid hRl
 have sD:=hid SL
 clear hb2 O1 HB1 hRl SL
 go_wp2_with fail
 refine (ihr _ br (hp.below HB2.out) (hwd.below HB2.out) hbr).mono ?_
 rintro e w3 ⟨gr,fr,rfl,SR,hgr,hRr,hb3⟩
 have hs3:=hb3.size
 have wF:w3.heap[b]?=_:=(hb3.block b (by omega)).trans kH
 clear p0 p1 p2
 obtain ⟨p0,p1,p2,_⟩:=aF wF
 have eF:=hid (HB2.out.trans (hb3.mono (by omega)))
 have OS:=hid (O2.out.kept (row:=none) ⟨hb3.os,hb3.tape,hb3.output,hb3.size,fun k hk _=>hb3.block k hk⟩ (Or.inr (by simp [Value.ownBlock])))
 have Ar:=hid (lW.out.below hb3)
 have Hd:=hid hRr
 have SL:=sD.out
 obtain ⟨f,hfe⟩:∃ f:Nat→Bool,f=(fun i=>fl i&&fr i):=⟨_,rfl⟩
 have jE:Hid (∀ i,i<n→(f i=true↔dz (aG n back) (ltOf xs) ns k i)):=hid (by rw [hfe];exact (by intro i hi;rw [iy hn hw];simp only [kI,hop,Nat.reduceEqDiff,if_false,if_true];have h1:=SL i hi;have h2:=SR i hi;unfold dz at h1 h2;rw [←h1,←h2];simp))
 have jA:=hid hfe
 clear hfe
 have Z9:=lW.out.lt
 clear hb3 O2 HB2 lW SL hRr SR
 have gL:Hid (w.heap.size<w3.heap.size):=hid (by omega)
 go_wp2_with fail
 clear p0 p1 p2
 have lX:=hid wF
 have sw:=hid (hwd.below eF.out)
 go_loopw [11] (fun i wr=>∃ j:Nat,j≤n∧i=.int .i64 j∧wr.ownsRow w.heap.size 4 1 (.slice (some ⟨w.heap.size,0,none⟩) n n) n (aj f n j)∧w3.grownBy wr (some w.heap.size)) (fun i _=>n - (intOf i).toNat)
 case atStart=>exact ⟨0,Nat.zero_le _,rfl,by rw [bJ];exact OS.out,World.grownBy.refl _ _⟩
 case round=>
  obtain ⟨j,hj,rfl,own,hgr2⟩:=hrel
  by_cases hlt:j<n
  ·have hpr:wr.heap[b]?=_:=(hgr2.block b (by have:=gL.out;omega) (by simp;omega)).trans lX.out
   obtain ⟨p0,p1,p2,_⟩:=aF hpr
   have q0:=own.frozenAt j
   have q1:(wr.cell? ⟨w.heap.size,j,none⟩).isSome=true:=by
    rw [own.cellAt j (by omega)]
    simp [aj,hlt]
   obtain ⟨qv,q2⟩:=Option.isSome_iff_exists.1 q1
   have hO:=own.stored j (.bool (f j))
   rw [dX] at hO
   have HO:=hid hO.1
   have HG:=hid (fq hgr2 hO.2)
   clear hO q1 own
   have FV:Hid (f j=(fl j&&fr j)):=hid (by rw [jA.out])
   have c:=(iG (o:=j) hgr2 Ar.out.lt (by omega)).trans (Ar.out.cell j hlt)
   have c2:=(iG (o:=j) hgr2 Hd.out.lt (by omega)).trans (Hd.out.cell j hlt)
   generalize fl j=x at *
   generalize fr j=y at *
   clear hgr2 hpr
   cases x <;> cases y
   all_goals
    go_wp2_with fail
    go_roundw
    case rel=>
     have o:=HO.out
     have g:=HG.out
     rw [FV.out] at g
     exact ⟨j+1,by omega,by go_num,by rw [FV.out] at o;exact o,g⟩
    case measure=>simp [intOf];omega
  ·have hj2:j=n:=by omega
   rw [hj2] at own
   have RD:=hid (jb ns n back xs (k:=k) eF.out hgr2 gL.out own jE.out)
   clear own hgr2 hj2
   go_wp2_with fail
   go_ret
   exact RD.out
theorem adW (hw:fO ns) (hlx:xs.length=n) (hb:back<n) (hn80:n≤20000) (h8:∀ x∈xs,x<8) (k b:Nat) (nd:Nd) (hn:ns[k]?=some nd) (hop:nd.op=124) (ihl:oQ ns bs gw n wcap back xs nd.l) (ihr:oQ ns bs gw n wcap back xs nd.r) (w:World) (hp:Parts w ns bs) (hwd:Wd w gw n wcap xs) (hbk:bs[k]?=some b) :
  Calls Tryz.prog 128 #[.pointer (some ⟨b,0,none⟩),.slice (some ⟨gw,0,none⟩) n wcap,.int .i64 back] w (jf ns n back xs k w):=by
 have hpb:w.heap[b]?=some (.cells #[.int .u8 (124:Nat),.pointer (some ⟨bs.getD nd.l 0,0,none⟩),.pointer (some ⟨bs.getD nd.r 0,0,none⟩),.int .i64 k] 204):=by
  obtain ⟨b',e,hh⟩:=hp k nd hn
  rw [hbk] at e
  cases e
  rw [hh]
  simp [bu,jT,jR,hop,aP,bz]
 have hbw:=bO hpb
 have hcap:=hwd.cap
 have hgw:=hwd.lt
 have hlk:nd.l<k:=(dx hw hn).2.1 (by rw [hop];decide)
 have hkl:=(List.getElem?_eq_some_iff.1 hn).1
 obtain ⟨bl,hbl,hhl⟩:∃ bl,bs[nd.l]?=some bl∧w.heap[bl]?=some (bu bs nd.l ns[nd.l]):=hp nd.l _ (List.getElem?_eq_getElem (by omega))
 rw [show bs.getD nd.l 0=bl by simp [List.getD,hbl]] at hpb
 have WK:nd.r<k:=(dx hw hn).2.2 (by rw [hop];decide)
 obtain ⟨br,hbr,hhr⟩:∃ br,bs[nd.r]?=some br∧w.heap[br]?=some (bu bs nd.r ns[nd.r]):=hp nd.r _ (List.getElem?_eq_getElem (by omega))
 rw [show bs.getD nd.r 0=br by simp [List.getD,hbr]] at hpb
 obtain ⟨i0,hi,hz0,hz1,hz2⟩:=info_parts Tryz.dw
 go_enter Tryz.func128,Tryz.ntmps128
 go_wp2_with (at_make;go_must (refine wpList_make_full _ rfl (.tmp 15) (.tmp 15) 132 rfl w.heap.size 4 i0 (.bool false) 1 Tryz.underlying132 hi hz0 hz1 .i64 .i64 n n n rfl rfl rfl rfl ?m2 ?m3 (Nat.le_refl _) ?_))
 case m2=>rw [hz2];omega
 case m3=>unfold maxLen;omega
 intro w1 ay grow1
 have eo:(madeCells #[Value.bool false] n).toList=List.replicate n (.bool false):=toList_madeCells_one _ _
 rw [eo] at ay
 have hb1:Below w.heap.size w w1:=(Below.refl _ _).grown grow1 (Nat.le_refl _) (fun k h=>by cases h)
 have hs1:w.heap.size<w1.heap.size:=(ay.lt _ rfl).2
 have eU:w1.heap[b]?=some (.cells #[.int .u8 (124:Nat),.pointer (some ⟨bl,0,none⟩),.pointer (some ⟨br,0,none⟩),.int .i64 k] 204):=by rw [hb1.block b hbw];exact hpb
 obtain ⟨p0,p1,p2,_⟩:=aF eU
 have HB1:=hid hb1
 have O1:=hid ay
 clear ay grow1 eo hb1
 go_wp2_with fail
 refine (ihl _ bl (hp.below HB1.out) (hwd.below HB1.out) hbl).mono ?_
 rintro e w2 ⟨gl,fl,rfl,SL,hgl,hRl,hb2⟩
 have hs2:=hb2.size
 have kH:w2.heap[b]?=_:=(hb2.block b (by omega)).trans eU
 clear p0 p1 p2
 obtain ⟨p0,p1,p2,_⟩:=aF kH
 have HB2:=hid (HB1.out.trans (hb2.mono (by omega)))
 have O2:=hid (O1.out.kept (row:=none) ⟨hb2.os,hb2.tape,hb2.output,hb2.size,fun k hk _=>hb2.block k hk⟩ (Or.inr (by simp [Value.ownBlock])))
 have lW:=hid hRl
 have sD:=hid SL
 clear hb2 O1 HB1 hRl SL
 go_wp2_with fail
 refine (ihr _ br (hp.below HB2.out) (hwd.below HB2.out) hbr).mono ?_
 rintro e w3 ⟨gr,fr,rfl,SR,hgr,hRr,hb3⟩
 have hs3:=hb3.size
 have wF:w3.heap[b]?=_:=(hb3.block b (by omega)).trans kH
 clear p0 p1 p2
 obtain ⟨p0,p1,p2,_⟩:=aF wF
 have eF:=hid (HB2.out.trans (hb3.mono (by omega)))
 have OS:=hid (O2.out.kept (row:=none) ⟨hb3.os,hb3.tape,hb3.output,hb3.size,fun k hk _=>hb3.block k hk⟩ (Or.inr (by simp [Value.ownBlock])))
 have Ar:=hid (lW.out.below hb3)
 have Hd:=hid hRr
 have SL:=sD.out
 obtain ⟨f,hfe⟩:∃ f:Nat→Bool,f=(fun i=>fl i||fr i):=⟨_,rfl⟩
 have jE:Hid (∀ i,i<n→(f i=true↔dz (aG n back) (ltOf xs) ns k i)):=hid (by rw [hfe];exact (by intro i hi;rw [iy hn hw];simp only [kI,hop,Nat.reduceEqDiff,if_false,if_true];have h1:=SL i hi;have h2:=SR i hi;unfold dz at h1 h2;rw [←h1,←h2];simp))
 have jA:=hid hfe
 clear hfe
 have Z9:=lW.out.lt
 clear hb3 O2 HB2 lW SL hRr SR
 have gL:Hid (w.heap.size<w3.heap.size):=hid (by omega)
 go_wp2_with fail
 clear p0 p1 p2
 have lX:=hid wF
 have sw:=hid (hwd.below eF.out)
 go_loopw [11] (fun i wr=>∃ j:Nat,j≤n∧i=.int .i64 j∧wr.ownsRow w.heap.size 4 1 (.slice (some ⟨w.heap.size,0,none⟩) n n) n (aj f n j)∧w3.grownBy wr (some w.heap.size)) (fun i _=>n - (intOf i).toNat)
 case atStart=>exact ⟨0,Nat.zero_le _,rfl,by rw [bJ];exact OS.out,World.grownBy.refl _ _⟩
 case round=>
  obtain ⟨j,hj,rfl,own,hgr2⟩:=hrel
  by_cases hlt:j<n
  ·have hpr:wr.heap[b]?=_:=(hgr2.block b (by have:=gL.out;omega) (by simp;omega)).trans lX.out
   obtain ⟨p0,p1,p2,_⟩:=aF hpr
   have q0:=own.frozenAt j
   have q1:(wr.cell? ⟨w.heap.size,j,none⟩).isSome=true:=by
    rw [own.cellAt j (by omega)]
    simp [aj,hlt]
   obtain ⟨qv,q2⟩:=Option.isSome_iff_exists.1 q1
   have hO:=own.stored j (.bool (f j))
   rw [dX] at hO
   have HO:=hid hO.1
   have HG:=hid (fq hgr2 hO.2)
   clear hO q1 own
   have FV:Hid (f j=(fl j||fr j)):=hid (by rw [jA.out])
   have c:=(iG (o:=j) hgr2 Ar.out.lt (by omega)).trans (Ar.out.cell j hlt)
   have c2:=(iG (o:=j) hgr2 Hd.out.lt (by omega)).trans (Hd.out.cell j hlt)
   generalize fl j=x at *
   generalize fr j=y at *
   clear hgr2 hpr
   cases x <;> cases y
   all_goals
    go_wp2_with fail
    go_roundw
    case rel=>
     have o:=HO.out
     have g:=HG.out
     rw [FV.out] at g
     exact ⟨j+1,by omega,by go_num,by rw [FV.out] at o;exact o,g⟩
    case measure=>simp [intOf];omega
  ·have hj2:j=n:=by omega
   rw [hj2] at own
   have RD:=hid (jb ns n back xs (k:=k) eF.out hgr2 gL.out own jE.out)
   clear own hgr2 hj2
   go_wp2_with fail
   go_ret
   exact RD.out
theorem agB (hw:fO ns) (hlx:xs.length=n) (hb:back<n) (hn80:n≤20000) (h8:∀ x∈xs,x<8) (k b:Nat) (nd:Nd) (hn:ns[k]?=some nd) (hop:nd.op=85) (ihl:oQ ns bs gw n wcap back xs nd.l) (ihr:oQ ns bs gw n wcap back xs nd.r) (w:World) (hp:Parts w ns bs) (hwd:Wd w gw n wcap xs) (hbk:bs[k]?=some b) :
  Calls Tryz.prog 128 #[.pointer (some ⟨b,0,none⟩),.slice (some ⟨gw,0,none⟩) n wcap,.int .i64 back] w (jf ns n back xs k w):=by
 have hpb:w.heap[b]?=some (.cells #[.int .u8 (85:Nat),.pointer (some ⟨bs.getD nd.l 0,0,none⟩),.pointer (some ⟨bs.getD nd.r 0,0,none⟩),.int .i64 k] 204):=by
  obtain ⟨b',e,hh⟩:=hp k nd hn
  rw [hbk] at e
  cases e
  rw [hh]
  simp [bu,jT,jR,hop,aP,bz]
 have hbw:=bO hpb
 have hcap:=hwd.cap
 have hgw:=hwd.lt
 have hlk:nd.l<k:=(dx hw hn).2.1 (by rw [hop];decide)
 have hkl:=(List.getElem?_eq_some_iff.1 hn).1
 obtain ⟨bl,hbl,hhl⟩:∃ bl,bs[nd.l]?=some bl∧w.heap[bl]?=some (bu bs nd.l ns[nd.l]):=hp nd.l _ (List.getElem?_eq_getElem (by omega))
 rw [show bs.getD nd.l 0=bl by simp [List.getD,hbl]] at hpb
 have WK:nd.r<k:=(dx hw hn).2.2 (by rw [hop];decide)
 obtain ⟨br,hbr,hhr⟩:∃ br,bs[nd.r]?=some br∧w.heap[br]?=some (bu bs nd.r ns[nd.r]):=hp nd.r _ (List.getElem?_eq_getElem (by omega))
 rw [show bs.getD nd.r 0=br by simp [List.getD,hbr]] at hpb
 obtain ⟨i0,hi,hz0,hz1,hz2⟩:=info_parts Tryz.dw
 go_enter Tryz.func128,Tryz.ntmps128
 go_wp2_with (at_make;go_must (refine wpList_make_full _ rfl (.tmp 15) (.tmp 15) 132 rfl w.heap.size 4 i0 (.bool false) 1 Tryz.underlying132 hi hz0 hz1 .i64 .i64 n n n rfl rfl rfl rfl ?m2 ?m3 (Nat.le_refl _) ?_))
 case m2=>rw [hz2];omega
 case m3=>unfold maxLen;omega
 intro w1 ay grow1
 have eo:(madeCells #[Value.bool false] n).toList=List.replicate n (.bool false):=toList_madeCells_one _ _
 rw [eo] at ay
 have hb1:Below w.heap.size w w1:=(Below.refl _ _).grown grow1 (Nat.le_refl _) (fun k h=>by cases h)
 have hs1:w.heap.size<w1.heap.size:=(ay.lt _ rfl).2
 have eU:w1.heap[b]?=some (.cells #[.int .u8 (85:Nat),.pointer (some ⟨bl,0,none⟩),.pointer (some ⟨br,0,none⟩),.int .i64 k] 204):=by rw [hb1.block b hbw];exact hpb
 obtain ⟨p0,p1,p2,_⟩:=aF eU
 have HB1:=hid hb1
 have O1:=hid ay
 clear ay grow1 eo hb1
 go_wp2_with fail
 refine (ihl _ bl (hp.below HB1.out) (hwd.below HB1.out) hbl).mono ?_
 rintro e w2 ⟨gl,fl,rfl,SL,hgl,hRl,hb2⟩
 have hs2:=hb2.size
 have kH:w2.heap[b]?=_:=(hb2.block b (by omega)).trans eU
 clear p0 p1 p2
 obtain ⟨p0,p1,p2,_⟩:=aF kH
 have HB2:=hid (HB1.out.trans (hb2.mono (by omega)))
 have O2:=hid (O1.out.kept (row:=none) ⟨hb2.os,hb2.tape,hb2.output,hb2.size,fun k hk _=>hb2.block k hk⟩ (Or.inr (by simp [Value.ownBlock])))
 have lW:=hid hRl
 have sD:=hid SL
 clear hb2 O1 HB1 hRl SL
 go_wp2_with fail
 refine (ihr _ br (hp.below HB2.out) (hwd.below HB2.out) hbr).mono ?_
 rintro e w3 ⟨gr,fr,rfl,SR,hgr,hRr,hb3⟩
 have hs3:=hb3.size
 have wF:w3.heap[b]?=_:=(hb3.block b (by omega)).trans kH
 clear p0 p1 p2
 obtain ⟨p0,p1,p2,_⟩:=aF wF
 have eF:=hid (HB2.out.trans (hb3.mono (by omega)))
 have OS:=hid (O2.out.kept (row:=none) ⟨hb3.os,hb3.tape,hb3.output,hb3.size,fun k hk _=>hb3.block k hk⟩ (Or.inr (by simp [Value.ownBlock])))
 have Ar:=hid (lW.out.below hb3)
 have Hd:=hid hRr
 have SL:=sD.out
 obtain ⟨f,hfe⟩:∃ f:Nat→Bool,f=(fun i=>al 85 fl fr (aG n back) (n+1) i):=⟨_,rfl⟩
 have jE:Hid (∀ i,i<n→(f i=true↔dz (aG n back) (ltOf xs) ns k i)):=hid (by rw [hfe];exact (by intro i hi;rw [iy hn hw,ae2 hb _ _ i hi];simp only [kI,hop,Nat.reduceEqDiff,if_false,if_true];exact exists_congr fun s=>and_congr (SR _ (jU hb s i hi)) (forall_congr' fun m=>forall_congr' fun _=>SL _ (jU hb m i hi))))
 have jA:=hid hfe
 clear hfe
 have Z9:=lW.out.lt
 clear hb3 O2 HB2 lW SL hRr SR
 have gL:Hid (w.heap.size<w3.heap.size):=hid (by omega)
 go_wp2_with fail
 clear p0 p1 p2
 have lX:=hid wF
 have sw:=hid (hwd.below eF.out)
 go_loopw [11] (fun i wr=>∃ j:Nat,j≤n∧i=.int .i64 j∧wr.ownsRow w.heap.size 4 1 (.slice (some ⟨w.heap.size,0,none⟩) n n) n (aj f n j)∧w3.grownBy wr (some w.heap.size)) (fun i _=>n - (intOf i).toNat)
 case atStart=>exact ⟨0,Nat.zero_le _,rfl,by rw [bJ];exact OS.out,World.grownBy.refl _ _⟩
 case round=>
  obtain ⟨j,hj,rfl,own,hgr2⟩:=hrel
  by_cases hlt:j<n
  ·have hpr:wr.heap[b]?=_:=(hgr2.block b (by have:=gL.out;omega) (by simp;omega)).trans lX.out
   obtain ⟨p0,p1,p2,_⟩:=aF hpr
   have q0:=own.frozenAt j
   have q1:(wr.cell? ⟨w.heap.size,j,none⟩).isSome=true:=by
    rw [own.cellAt j (by omega)]
    simp [aj,hlt]
   obtain ⟨qv,q2⟩:=Option.isSome_iff_exists.1 q1
   have hO:=own.stored j (.bool (f j))
   rw [dX] at hO
   have HO:=hid hO.1
   have HG:=hid (fq hgr2 hO.2)
   clear hO q1 own
   have FV:Hid (f j=al 85 fl fr (aG n back) (n+1) j):=hid (by rw [jA.out])
   have RL:=Ar.out.grown hgr2 (by omega)
   have RR:=Hd.out.grown hgr2 (by omega)
   have AL:=adu gl n j back gr fl fr _ RL RR hlt hb hn80
   generalize al 85 fl fr (aG n back) (n+1) j=x at *
   clear hgr2 hpr
   go_wp2_with fail
   refine AL.mono ?_
   rintro e w' ⟨rfl,rfl⟩
   clear AL
   go_wp2_with fail
   go_roundw
   case rel=>
    have o:=HO.out
    have g:=HG.out
    rw [FV.out] at g
    exact ⟨j+1,by omega,by go_num,by rw [FV.out] at o;exact o,g⟩
   case measure=>simp [intOf];omega
  ·have hj2:j=n:=by omega
   rw [hj2] at own
   have RD:=hid (jb ns n back xs (k:=k) eF.out hgr2 gL.out own jE.out)
   clear own hgr2 hj2
   go_wp2_with fail
   go_ret
   exact RD.out
theorem agC (hw:fO ns) (hlx:xs.length=n) (hb:back<n) (hn80:n≤20000) (h8:∀ x∈xs,x<8) (k b:Nat) (nd:Nd) (hn:ns[k]?=some nd) (hop:nd.op=82) (ihl:oQ ns bs gw n wcap back xs nd.l) (ihr:oQ ns bs gw n wcap back xs nd.r) (w:World) (hp:Parts w ns bs) (hwd:Wd w gw n wcap xs) (hbk:bs[k]?=some b) :
  Calls Tryz.prog 128 #[.pointer (some ⟨b,0,none⟩),.slice (some ⟨gw,0,none⟩) n wcap,.int .i64 back] w (jf ns n back xs k w):=by
 have hpb:w.heap[b]?=some (.cells #[.int .u8 (82:Nat),.pointer (some ⟨bs.getD nd.l 0,0,none⟩),.pointer (some ⟨bs.getD nd.r 0,0,none⟩),.int .i64 k] 204):=by
  obtain ⟨b',e,hh⟩:=hp k nd hn
  rw [hbk] at e
  cases e
  rw [hh]
  simp [bu,jT,jR,hop,aP,bz]
 have hbw:=bO hpb
 have hcap:=hwd.cap
 have hgw:=hwd.lt
 have hlk:nd.l<k:=(dx hw hn).2.1 (by rw [hop];decide)
 have hkl:=(List.getElem?_eq_some_iff.1 hn).1
 obtain ⟨bl,hbl,hhl⟩:∃ bl,bs[nd.l]?=some bl∧w.heap[bl]?=some (bu bs nd.l ns[nd.l]):=hp nd.l _ (List.getElem?_eq_getElem (by omega))
 rw [show bs.getD nd.l 0=bl by simp [List.getD,hbl]] at hpb
 have WK:nd.r<k:=(dx hw hn).2.2 (by rw [hop];decide)
 obtain ⟨br,hbr,hhr⟩:∃ br,bs[nd.r]?=some br∧w.heap[br]?=some (bu bs nd.r ns[nd.r]):=hp nd.r _ (List.getElem?_eq_getElem (by omega))
 rw [show bs.getD nd.r 0=br by simp [List.getD,hbr]] at hpb
 obtain ⟨i0,hi,hz0,hz1,hz2⟩:=info_parts Tryz.dw
 go_enter Tryz.func128,Tryz.ntmps128
 go_wp2_with (at_make;go_must (refine wpList_make_full _ rfl (.tmp 15) (.tmp 15) 132 rfl w.heap.size 4 i0 (.bool false) 1 Tryz.underlying132 hi hz0 hz1 .i64 .i64 n n n rfl rfl rfl rfl ?m2 ?m3 (Nat.le_refl _) ?_))
 case m2=>rw [hz2];omega
 case m3=>unfold maxLen;omega
 intro w1 ay grow1
 have eo:(madeCells #[Value.bool false] n).toList=List.replicate n (.bool false):=toList_madeCells_one _ _
 rw [eo] at ay
 have hb1:Below w.heap.size w w1:=(Below.refl _ _).grown grow1 (Nat.le_refl _) (fun k h=>by cases h)
 have hs1:w.heap.size<w1.heap.size:=(ay.lt _ rfl).2
 have eU:w1.heap[b]?=some (.cells #[.int .u8 (82:Nat),.pointer (some ⟨bl,0,none⟩),.pointer (some ⟨br,0,none⟩),.int .i64 k] 204):=by rw [hb1.block b hbw];exact hpb
 obtain ⟨p0,p1,p2,_⟩:=aF eU
 have HB1:=hid hb1
 have O1:=hid ay
 clear ay grow1 eo hb1
 go_wp2_with fail
 refine (ihl _ bl (hp.below HB1.out) (hwd.below HB1.out) hbl).mono ?_
 rintro e w2 ⟨gl,fl,rfl,SL,hgl,hRl,hb2⟩
 have hs2:=hb2.size
 have kH:w2.heap[b]?=_:=(hb2.block b (by omega)).trans eU
 clear p0 p1 p2
 obtain ⟨p0,p1,p2,_⟩:=aF kH
 have HB2:=hid (HB1.out.trans (hb2.mono (by omega)))
 have O2:=hid (O1.out.kept (row:=none) ⟨hb2.os,hb2.tape,hb2.output,hb2.size,fun k hk _=>hb2.block k hk⟩ (Or.inr (by simp [Value.ownBlock])))
 have lW:=hid hRl
 have sD:=hid SL
 clear hb2 O1 HB1 hRl SL
 go_wp2_with fail
 refine (ihr _ br (hp.below HB2.out) (hwd.below HB2.out) hbr).mono ?_
 rintro e w3 ⟨gr,fr,rfl,SR,hgr,hRr,hb3⟩
 have hs3:=hb3.size
 have wF:w3.heap[b]?=_:=(hb3.block b (by omega)).trans kH
 clear p0 p1 p2
 obtain ⟨p0,p1,p2,_⟩:=aF wF
 have eF:=hid (HB2.out.trans (hb3.mono (by omega)))
 have OS:=hid (O2.out.kept (row:=none) ⟨hb3.os,hb3.tape,hb3.output,hb3.size,fun k hk _=>hb3.block k hk⟩ (Or.inr (by simp [Value.ownBlock])))
 have Ar:=hid (lW.out.below hb3)
 have Hd:=hid hRr
 have SL:=sD.out
 obtain ⟨f,hfe⟩:∃ f:Nat→Bool,f=(fun i=>al 82 fl fr (aG n back) (n+1) i):=⟨_,rfl⟩
 have jE:Hid (∀ i,i<n→(f i=true↔dz (aG n back) (ltOf xs) ns k i)):=hid (by rw [hfe];exact (by intro i hi;rw [iy hn hw,aje hb _ _ i hi];simp only [kI,hop,Nat.reduceEqDiff,if_false,if_true];exact forall_congr' fun s=>or_congr (SR _ (jU hb s i hi)) (exists_congr fun m=>and_congr Iff.rfl (SL _ (jU hb m i hi)))))
 have jA:=hid hfe
 clear hfe
 have Z9:=lW.out.lt
 clear hb3 O2 HB2 lW SL hRr SR
 have gL:Hid (w.heap.size<w3.heap.size):=hid (by omega)
 go_wp2_with fail
 clear p0 p1 p2
 have lX:=hid wF
 have sw:=hid (hwd.below eF.out)
 go_loopw [11] (fun i wr=>∃ j:Nat,j≤n∧i=.int .i64 j∧wr.ownsRow w.heap.size 4 1 (.slice (some ⟨w.heap.size,0,none⟩) n n) n (aj f n j)∧w3.grownBy wr (some w.heap.size)) (fun i _=>n - (intOf i).toNat)
 case atStart=>exact ⟨0,Nat.zero_le _,rfl,by rw [bJ];exact OS.out,World.grownBy.refl _ _⟩
 case round=>
  obtain ⟨j,hj,rfl,own,hgr2⟩:=hrel
  by_cases hlt:j<n
  ·have hpr:wr.heap[b]?=_:=(hgr2.block b (by have:=gL.out;omega) (by simp;omega)).trans lX.out
   obtain ⟨p0,p1,p2,_⟩:=aF hpr
   have q0:=own.frozenAt j
   have q1:(wr.cell? ⟨w.heap.size,j,none⟩).isSome=true:=by
    rw [own.cellAt j (by omega)]
    simp [aj,hlt]
   obtain ⟨qv,q2⟩:=Option.isSome_iff_exists.1 q1
   have hO:=own.stored j (.bool (f j))
   rw [dX] at hO
   have HO:=hid hO.1
   have HG:=hid (fq hgr2 hO.2)
   clear hO q1 own
   have FV:Hid (f j=al 82 fl fr (aG n back) (n+1) j):=hid (by rw [jA.out])
   have RL:=Ar.out.grown hgr2 (by omega)
   have RR:=Hd.out.grown hgr2 (by omega)
   have AL:=adv gl n j back gr fl fr _ RL RR hlt hb hn80
   generalize al 82 fl fr (aG n back) (n+1) j=x at *
   clear hgr2 hpr
   go_wp2_with fail
   refine AL.mono ?_
   rintro e w' ⟨rfl,rfl⟩
   clear AL
   go_wp2_with fail
   go_roundw
   case rel=>
    have o:=HO.out
    have g:=HG.out
    rw [FV.out] at g
    exact ⟨j+1,by omega,by go_num,by rw [FV.out] at o;exact o,g⟩
   case measure=>simp [intOf];omega
  ·have hj2:j=n:=by omega
   rw [hj2] at own
   have RD:=hid (jb ns n back xs (k:=k) eF.out hgr2 gL.out own jE.out)
   clear own hgr2 hj2
   go_wp2_with fail
   go_ret
   exact RD.out
end
theorem QJ (ns:List Nd) (bs:List Nat) (gw n wcap back:Nat) (xs:List Nat) (hw:fO ns) (hlx:xs.length=n) (hb:back<n) (hn80:n≤20000) (h8:∀ x∈xs,x<8) (k:Nat) (hk:k<ns.length):oQ ns bs gw n wcap back xs k:=by
 induction k using Nat.strongRecOn with
 | _ k ih=>
  intro w b hp hwd hbk
  have hn:ns[k]?=some ns[k]:=List.getElem?_eq_getElem hk
  obtain ⟨hc,h1,h2⟩:=dx hw hn
  rcases hc with hc | hc | hc
  ·rcases kV hc with e | e | e | e | e
   ·exact agG ns bs gw n wcap back xs hw hlx hb hn80 h8 k b _ hn e w hp hwd hbk
   ·exact agF ns bs gw n wcap back xs hw hlx hb hn80 h8 k b _ hn e w hp hwd hbk
   ·exact agz ns bs gw n wcap back xs hw hlx hb hn80 h8 k b _ hn e w hp hwd hbk
   ·exact agy ns bs gw n wcap back xs hw hlx hb hn80 h8 k b _ hn e w hp hwd hbk
   ·exact agx ns bs gw n wcap back xs hw hlx hb hn80 h8 k b _ hn e w hp hwd hbk
  ·have hl:=h1 (jw hc)
   have il:=ih _ hl (by omega)
   rcases mR hc with e | e | e | e
   ·exact acA ns bs gw n wcap back xs hw hlx hb hn80 h8 k b _ hn e il w hp hwd hbk
   ·exact agA ns bs gw n wcap back xs hw hlx hb hn80 h8 k b _ hn e il w hp hwd hbk
   ·exact agE ns bs gw n wcap back xs hw hlx hb hn80 h8 k b _ hn e il w hp hwd hbk
   ·exact agD ns bs gw n wcap back xs hw hlx hb hn80 h8 k b _ hn e il w hp hwd hbk
  ·have il:=ih _ (h1 (lG hc)) (by have:=h1 (lG hc);omega)
   have ir:=ih _ (h2 hc) (by have:=h2 hc;omega)
   rcases jL hc with e | e | e | e
   ·exact acB ns bs gw n wcap back xs hw hlx hb hn80 h8 k b _ hn e il ir w hp hwd hbk
   ·exact adW ns bs gw n wcap back xs hw hlx hb hn80 h8 k b _ hn e il ir w hp hwd hbk
   ·exact agB ns bs gw n wcap back xs hw hlx hb hn80 h8 k b _ hn e il ir w hp hwd hbk
   ·exact agC ns bs gw n wcap back xs hw hlx hb hn80 h8 k b _ hn e il ir w hp hwd hbk
theorem wrap_small {m:Nat} (h:m≤1000):IntKind.i64.wrap (m:Int)=(m:Int):=by
 rw [IntKind.wrap_i64]
 omega
theorem Fm.partsOf {w:World} {F:Nat} {ns:List Nd} {bs:List Nat} (h:Fm w F ns bs):Parts w ns bs:=fun i nd hn=>by
 obtain ⟨b,e,_,hh⟩:=h.parts i nd hn
 exact ⟨b,e,hh⟩
theorem aa8 {w:World} {B n cap:Nat} {ao:Option Addr} {zs:List Int} (own:w.ownsRow B 3 1 (.slice ao n cap) n (bD (dD zs))) (hn:0<n) (hl:zs.length=n):∃ g,ao=some ⟨g,0,none⟩∧Wd w g n cap (dD zs):=by
 obtain ⟨g,rfl,_,hg,hc⟩:=pu own hn
 refine ⟨g,rfl,hg,hc,fun i hi=>?_⟩
 rw [own.cellAt i (by omega)]
 simp [bD,dD,ltOf,List.getD,List.getElem?_eq_getElem (show i<zs.length by omega)]
section
variable (F:Nat) (ns:List Nd) (bs:List Nat) (a1 a2:Option Addr) (l1 c1 l2 c2:Nat) (z1 z2:List Int) (w:World)
def ut (e:Ending) (w':World):Prop:=e=.returned (.bool (mX z1.length ns (dD (z1++z2))))∧Below w.heap.size w w'
theorem acR (ad:Addr) (hf:Fm w F ns bs) (hg:Good ns) (hj:0<z2.length∧z1.length+z2.length≤20000∧bI z1=true∧bI z2=true) (h1:Ints w (some ad) l1 c1 z1) (h2:Ints w a2 l2 c2 z2) :
  Calls Tryz.prog 85 #[.pointer (some ⟨F,0,none⟩),.slice (some ad) l1 c1,.slice a2 l2 c2] w (ut ns z1 z2 w):=by
 obtain ⟨q1,q2,q4,q5⟩:=hj
 have L1:=h1.hlen
 have L2:=h2.hlen
 have LN:=xZ (yt q4 q5)
 obtain ⟨b2,off2,rfl,_⟩:=h2.hcell (by omega)
 have s1:=h1.src ad rfl
 obtain ⟨i0,hi,hz0,hz1,hz2⟩:=info_parts Tryz.qE
 go_enter Tryz.func85,Tryz.ntmps85
 go_wp2_with (at_builtin;go_must (refine wpList_append_own _ rfl (.tmp 9) (.tmp 10) 22 rfl w.heap.size 3 i0 (.int .i64 0) 1 8 Tryz.underlying22 hi hz0 hz1 hz2 rfl (by decide) _ 0 [] rfl (World.ownsRow_nil _ _ _ _) ad l1 c1 (z1.map (Value.int .i64)) rfl ?n1 s1 (qD z1) ?n2 ?n3 (Nat.le_refl _) ?_))
 case n1=>simp [L1]
 case n2=>unfold maxLen;omega
 case n3=>omega
 intro v1 w1 ay grow1 _
 try simp only [Nat.zero_add,List.nil_append] at ay
 have hb1:Below w.heap.size w w1:=(Below.refl _ _).grown grow1 (Nat.le_refl _) (fun k h=>by cases h)
 have s2:=(h2.below hb1).src _ rfl
 have HB1:=hid hb1
 have hs1:=hb1.size
 clear hb1 grow1 s1
 go_wp2_with (at_builtin;go_must (refine wpList_append_own _ rfl (.tmp 12) (.tmp 13) 22 rfl w.heap.size 3 i0 (.int .i64 0) 1 8 Tryz.underlying22 hi hz0 hz1 hz2 rfl (by decide) _ l1 (z1.map (Value.int .i64)) rfl ay ⟨b2,off2,none⟩ l2 c2 (z2.map (Value.int .i64)) rfl ?n4 s2 (qD z2) ?n5 ?n6 hs1 ?_))
 case n4=>simp [L2]
 case n5=>unfold maxLen;omega
 case n6=>omega
 intro v2 w2 eG grow2 _
 rw [←List.map_append,LN.1] at eG
 have hb2:Below w.heap.size w w2:=HB1.out.grown grow2 hs1 (fun k h=>(ay.lt k h).1)
 obtain ⟨ao,cap,hv⟩:∃ ao cap,v2=.slice ao (l1+l2) cap:=by
  rcases eG.2 with ⟨h,h0⟩ | ⟨g,cap',_,h,_⟩
  ·omega
  ·exact ⟨_,cap',h⟩
 subst hv
 obtain ⟨gw,rfl,hwd⟩:=aa8 eG (by omega) (by simp [L1,L2])
 have hpt:=hf.partsOf.below hb2
 have EC:(dD (z1++z2)).length=l1+l2:=by simp [dD,L1,L2]
 have HH:=hid (zS (back:=l1) (ns:=ns) (xs:=dD (z1++z2)) hg (by omega) LN.2)
 rw [EC] at HH
 have pos:=hg.pos
 have ROW:=hid (QJ ns bs gw (l1+l2) cap l1 (dD (z1++z2)) hg.wf EC (by omega) (by omega) LN.2 (ns.length - 1) (by omega))
 obtain ⟨fo,fcap,fc,fown⟩:=hf.c0
 obtain ⟨gf,rfl,_,hgf,hfcap⟩:=pu fown (by omega)
 obtain ⟨bl,hbl⟩:∃ bl,bs[ns.length - 1]?=some bl:=⟨_,List.getElem?_eq_getElem (by have:=hf.len;omega)⟩
 have Xm:=(hb2.cell (p:=⟨F,0,none⟩) hf.rf).trans fc
 have Xf:w2.cell? ⟨gf,ns.length - 1,none⟩=some (.pointer (some ⟨bl,0,none⟩)):=by
  rw [hb2.cell (p:=⟨gf,ns.length - 1,none⟩) hgf,fown.cellAt _ (by omega)]
  simp [hbl,kF]
 obtain ⟨m,hm⟩:∃ m,ns.length=m+1:=⟨ns.length - 1,by omega⟩
 rw [hm] at Xm hfcap
 rw [show ns.length - 1=m by omega] at Xf
 have hmi:((m+1:Nat):Int) - 1=(m:Int):=by omega
 have ai2:(m:Int)+1 - 1=(m:Int):=by omega
 have hwm:=wrap_small (m:=m) (by have:=hg.le;omega)
 have hml:m≤8:=by have:=hg.le;omega
 have HM:=hid hm
 clear hm pos
 have HW:=hid hwd
 have HP:=hid hpt
 have HB2:=hid hb2
 have Yy:=hid hbl
 have hs2:=hb2.size
 clear ay eG grow2 hwd hpt hb2 hbl s2 LN fown fc EC
 go_wp2_with fail
 have RW:=hid (ROW.out w2.drew bl (show Parts w2.drew ns bs from HP.out) ⟨HW.out.lt,HW.out.cap,HW.out.cell⟩ Yy.out)
 go_region_with (go_at_call 128;go_must (refine RW.out.mono ?_;rintro e w3 ⟨g,f,rfl,SF,hg3,hR,hb3⟩))
 all_goals
  have y:=hR.cell 0 (by omega)
  have S0:=SF 0 (by omega)
  have V:Hid (f 0=mX l1 ns (dD (z1++z2))):=hid (by
   rw [Bool.eq_iff_iff,S0,HH.out])
  have B3:Hid (Below w.heap.size w w3):=hid (HB2.out.trans ((show Below w2.heap.size w2 w3 from ⟨hb3.os,hb3.tape,hb3.output,hb3.size,hb3.block⟩).mono hs2))
  clear SF S0 hR hb3 Xm Xf
  generalize f 0=x at *
  go_wp2_with fail
  go_ret
  unfold ut
  rw [L1,←V.out]
  exact ⟨rfl,B3.out⟩
theorem acS (hf:Fm w F ns bs) (hg:Good ns) (hj:0<z2.length∧z1.length+z2.length≤20000∧bI z1=true∧bI z2=true) (h1:Ints w none l1 c1 z1) (h2:Ints w a2 l2 c2 z2) :
  Calls Tryz.prog 85 #[.pointer (some ⟨F,0,none⟩),Value.slice none l1 c1,.slice a2 l2 c2] w (ut ns z1 z2 w):=by
 obtain ⟨q1,q2,q4,q5⟩:=hj
 have L1:=h1.hlen
 have L2:=h2.hlen
 have LN:=xZ (yt q4 q5)
 obtain ⟨b2,off2,rfl,_⟩:=h2.hcell (by omega)
 obtain ⟨e1,e2⟩:=h1.hnil rfl
 subst e1
 subst e2
 have hz:z1=[]:=List.eq_nil_of_length_eq_zero L1
 obtain ⟨i0,hi,hz0,hz1,hz2⟩:=info_parts Tryz.qE
 have ay:w.ownsRow w.heap.size 3 1 (.slice none 0 0) 0 (z1.map (Value.int .i64)):=by rw [hz];exact World.ownsRow_nil _ _ _ _
 have s2:=h2.src _ rfl
 have HZ:=hid hz
 clear hz
 have HB1:=hid (Below.refl w.heap.size w)
 go_enter Tryz.func85,Tryz.ntmps85
 go_wp2_with (first | (at_builtin;refine wpList_append_own_none rfl (.tmp 9) (.tmp 10) 22 rfl w.heap.size 3 i0 1 Tryz.underlying22 hi _ 0 [] rfl (World.ownsRow_nil _ _ _ _) rfl ?_) | (at_builtin;refine wpList_append_own _ rfl (.tmp 12) (.tmp 13) 22 rfl w.heap.size 3 i0 (.int .i64 0) 1 8 Tryz.underlying22 hi hz0 hz1 hz2 rfl (by decide) _ 0 (z1.map (Value.int .i64)) rfl ay ⟨b2,off2,none⟩ l2 c2 (z2.map (Value.int .i64)) rfl ?n4 s2 (qD z2) ?n5 ?n6 (Nat.le_refl _) ?_))
 case n4=>simp [L2]
 case n5=>unfold maxLen;omega
 case n6=>omega
 intro v2 w2 eG grow2 _
 rw [←List.map_append,LN.1] at eG
 have hb2:Below w.heap.size w w2:=HB1.out.grown grow2 (Nat.le_refl _) (fun k h=>(ay.lt k h).1)
 obtain ⟨ao,cap,hv⟩:∃ ao cap,v2=.slice ao (l2) cap:=by
  rcases eG.2 with ⟨h,h0⟩ | ⟨g,cap',_,h,_⟩
  ·omega
  ·exact ⟨_,cap',h⟩
 subst hv
 obtain ⟨gw,rfl,hwd⟩:=aa8 eG (by omega) (by simp [L1,L2])
 have hpt:=hf.partsOf.below hb2
 have EC:(dD (z1++z2)).length=l2:=by simp [dD,L1,L2]
 have HH:=hid (zS (back:=0) (ns:=ns) (xs:=dD (z1++z2)) hg (by omega) LN.2)
 rw [EC] at HH
 have pos:=hg.pos
 have ROW:=hid (QJ ns bs gw (l2) cap 0 (dD (z1++z2)) hg.wf EC (by omega) (by omega) LN.2 (ns.length - 1) (by omega))
 obtain ⟨fo,fcap,fc,fown⟩:=hf.c0
 obtain ⟨gf,rfl,_,hgf,hfcap⟩:=pu fown (by omega)
 obtain ⟨bl,hbl⟩:∃ bl,bs[ns.length - 1]?=some bl:=⟨_,List.getElem?_eq_getElem (by have:=hf.len;omega)⟩
 have Xm:=(hb2.cell (p:=⟨F,0,none⟩) hf.rf).trans fc
 have Xf:w2.cell? ⟨gf,ns.length - 1,none⟩=some (.pointer (some ⟨bl,0,none⟩)):=by
  rw [hb2.cell (p:=⟨gf,ns.length - 1,none⟩) hgf,fown.cellAt _ (by omega)]
  simp [hbl,kF]
 obtain ⟨m,hm⟩:∃ m,ns.length=m+1:=⟨ns.length - 1,by omega⟩
 rw [hm] at Xm hfcap
 rw [show ns.length - 1=m by omega] at Xf
 have hmi:((m+1:Nat):Int) - 1=(m:Int):=by omega
 have ai2:(m:Int)+1 - 1=(m:Int):=by omega
 have hwm:=wrap_small (m:=m) (by have:=hg.le;omega)
 have hml:m≤8:=by have:=hg.le;omega
 have HM:=hid hm
 clear hm pos
 have HW:=hid hwd
 have HP:=hid hpt
 have HB2:=hid hb2
 have Yy:=hid hbl
 have hs2:=hb2.size
 clear ay eG grow2 hwd hpt hb2 hbl s2 LN fown fc EC
 go_wp2_with fail
 have RW:=hid (ROW.out w2.drew bl (show Parts w2.drew ns bs from HP.out) ⟨HW.out.lt,HW.out.cap,HW.out.cell⟩ Yy.out)
 go_region_with (go_at_call 128;go_must (refine RW.out.mono ?_;rintro e w3 ⟨g,f,rfl,SF,hg3,hR,hb3⟩))
 all_goals
  have y:=hR.cell 0 (by omega)
  have S0:=SF 0 (by omega)
  have V:Hid (f 0=mX 0 ns (dD (z1++z2))):=hid (by
   rw [Bool.eq_iff_iff,S0,HH.out])
  have B3:Hid (Below w.heap.size w w3):=hid (HB2.out.trans ((show Below w2.heap.size w2 w3 from ⟨hb3.os,hb3.tape,hb3.output,hb3.size,hb3.block⟩).mono hs2))
  clear SF S0 hR hb3 Xm Xf
  generalize f 0=x at *
  go_wp2_with fail
  go_ret
  unfold ut
  rw [L1,←V.out]
  exact ⟨rfl,B3.out⟩
theorem QO (hf:Fm w F ns bs) (hg:Good ns) (hj:0<z2.length∧z1.length+z2.length≤20000∧bI z1=true∧bI z2=true) (h1:Ints w a1 l1 c1 z1) (h2:Ints w a2 l2 c2 z2) :
  Calls Tryz.prog 85 #[.pointer (some ⟨F,0,none⟩),.slice a1 l1 c1,.slice a2 l2 c2] w (ut ns z1 z2 w):=by
 cases a1 with
 | none=>exact acS F ns bs a2 l1 c1 l2 c2 z1 z2 w hf hg hj h1 h2
 | some ad=>exact acR F ns bs a2 l1 c1 l2 c2 z1 z2 w ad hf hg hj h1 h2
theorem ad8 (hf:Fm w F ns bs) (hg:Good ns) (hj:bV z1 z2=0) (h1:Ints w a1 l1 c1 z1) (h2:Ints w a2 l2 c2 z2) :
  Calls Tryz.prog 85 #[.pointer (some ⟨F,0,none⟩),.slice a1 l1 c1,.slice a2 l2 c2] w (ut ns z1 z2 w):=by
 obtain ⟨q1,q2,q3,q4,q5⟩:=BD hj
 exact QO F ns bs a1 a2 l1 c1 l2 c2 z1 z2 w hf hg ⟨q1,by omega,q4,q5⟩ h1 h2
end
section
variable (s:ByteArray) (a1 a2:Option Addr) (l1 c1 l2 c2:Nat) (z1 z2:List Int) (w:World)
theorem VC (hm:s.size≤maxLen) (h:(af s).1≠0):Calls Tryz.prog 52 #[.string s,.slice a1 l1 c1,.slice a2 l2 c2] w fun e w'=>e=.returned (.tuple #[.bool (gT s z1 z2),.int .i64 (fZ s z1 z2)])∧Below w.heap.size w w':=by
 have E:Hid (fZ s z1 z2=(af s).1):=hid (by unfold fZ;rw [if_neg h])
 have V:Hid (gT s z1 z2=false):=hid (by unfold gT;rw [E.out,if_neg h])
 have C:=dK s w hm
 unfold bU at C
 generalize af s=p at *
 have k:((p.1:Int)!=0)=true:=by rw [bne_iff_ne];omega
 go_enter Tryz.func52,Tryz.ntmps52
 go_wp2_with fail
 refine C.mono ?_
 rintro e w1 ⟨hb,⟨_,rfl⟩ | ⟨h0,_⟩⟩
 ·go_wp2_with fail
  go_ret2
  exact ⟨by rw [E.out,V.out];rfl,hb⟩
 ·exact absurd h0 h
theorem Td (hm:s.size≤maxLen) (h:(af s).1=0) (h1:Ints w a1 l1 c1 z1) (h2:Ints w a2 l2 c2 z2):Calls Tryz.prog 52 #[.string s,.slice a1 l1 c1,.slice a2 l2 c2] w fun e w'=>e=.returned (.tuple #[.bool (gT s z1 z2),.int .i64 (fZ s z1 z2)])∧Below w.heap.size w w':=by
 have E:Hid (fZ s z1 z2=bV z1 z2):=hid (by unfold fZ;rw [if_pos h])
 have V:Hid (gT s z1 z2=if bV z1 z2=0 then mX z1.length (af s).2 (dD (z1++z2)) else false):=hid (by unfold gT;rw [E.out])
 have C:=dK s w hm
 unfold bU at C
 have G:=hid (fV h)
 have m1:=h1.hmax
 have m2:=h2.hmax
 have m3:=h1.hcap
 have m4:=h2.hcap
 have L1:=h1.hlen
 have L2:=h2.hlen
 have R1:=fun W (b:Below w.heap.size w W)=>qy a1 l1 c1 z1 W (h1.below b)
 have R2:=fun W (b:Below w.heap.size w W)=>qy a2 l2 c2 z2 W (h2.below b)
 have OF:=fun W (b:Below w.heap.size w W) bs (hf:Fm W w.heap.size (af s).2 bs) (hj:bV z1 z2=0)=>ad8 w.heap.size (af s).2 bs a1 a2 l1 c1 l2 c2 z1 z2 W hf (fV h) hj (h1.below b) (h2.below b)
 unfold ut at OF
 generalize af s=p at *
 obtain ⟨p1,p2⟩:=p
 dsimp only at *
 subst h
 by_cases q1:l2=0
 ·have J:Hid (bV z1 z2=4):=hid (by simp [bV,L2,q1])
  subst q1
  go_enter Tryz.func52,Tryz.ntmps52
  go_wp2_with fail
  refine C.mono ?_
  rintro e w1 ⟨hb,⟨h0,_⟩ | ⟨_,bs,rfl,hf⟩⟩
  ·exact absurd rfl h0
  go_wp2_with fail
  refine (R1 _ hb).mono ?_
  rintro e w2 ⟨rfl,rfl⟩
  go_wp2_with fail
  refine (R2 _ hb).mono ?_
  rintro e w2 ⟨rfl,rfl⟩
  go_wp2_with fail
  go_ret2
  exact ⟨by rw [E.out,V.out,J.out];rfl,hb⟩
 have k0:((l2:Int)==0)=false:=beq_eq_false_iff_ne.2 (by omega)
 by_cases q2:40<l1∨40<l2
 ·have J:Hid (bV z1 z2=5):=hid (by unfold bV;rw [L1,L2,if_neg q1,if_pos q2])
  by_cases q3:40<l1
  ·clear q2
   go_enter Tryz.func52,Tryz.ntmps52
   go_wp2_with fail
   refine C.mono ?_
   rintro e w1 ⟨hb,⟨h0,_⟩ | ⟨_,bs,rfl,hf⟩⟩
   ·exact absurd rfl h0
   go_wp2_with fail
   refine (R1 _ hb).mono ?_
   rintro e w2 ⟨rfl,rfl⟩
   go_wp2_with fail
   refine (R2 _ hb).mono ?_
   rintro e w2 ⟨rfl,rfl⟩
   go_wp2_with fail
   go_ret2
   exact ⟨by rw [E.out,V.out,J.out];rfl,hb⟩
  ·have q4:40<l2:=by omega
   clear q2
   go_enter Tryz.func52,Tryz.ntmps52
   go_wp2_with fail
   refine C.mono ?_
   rintro e w1 ⟨hb,⟨h0,_⟩ | ⟨_,bs,rfl,hf⟩⟩
   ·exact absurd rfl h0
   go_wp2_with fail
   refine (R1 _ hb).mono ?_
   rintro e w2 ⟨rfl,rfl⟩
   go_wp2_with fail
   refine (R2 _ hb).mono ?_
   rintro e w2 ⟨rfl,rfl⟩
   go_wp2_with fail
   go_ret2
   exact ⟨by rw [E.out,V.out,J.out];rfl,hb⟩
 have k1:¬ 40<l1:=by omega
 have k2:¬ 40<l2:=by omega
 by_cases q3:bI z1=true∧bI z2=true
 ·have hj:bV z1 z2=0:=by unfold bV;rw [L1,L2,if_neg q1,if_neg q2,if_pos q3]
  have OF2:=fun W b bs hf=>OF W b bs hf hj
  have J:=hid hj
  have A1:=hid q3.1
  have A2:=hid q3.2
  clear OF hj q2 q3
  go_enter Tryz.func52,Tryz.ntmps52
  go_wp2_with fail
  refine C.mono ?_
  rintro e w1 ⟨hb,⟨h0,_⟩ | ⟨_,bs,rfl,hf⟩⟩
  ·exact absurd rfl h0
  go_wp2_with fail
  refine (R1 _ hb).mono ?_
  rintro e w2 ⟨rfl,rfl⟩
  rw [A1.out]
  go_wp2_with fail
  refine (R2 _ hb).mono ?_
  rintro e w2 ⟨rfl,rfl⟩
  rw [A2.out]
  go_wp2_with fail
  refine (OF2 _ hb bs hf).mono ?_
  rintro e w3 ⟨rfl,hb3⟩
  clear OF2 R1 R2 C
  go_wp2_with fail
  go_ret2
  refine ⟨by rw [E.out,V.out,J.out,if_pos rfl,L1];rfl,hb.trans (hb3.mono hb.size)⟩
 ·have J:Hid (bV z1 z2=6):=hid (by unfold bV;rw [L1,L2,if_neg q1,if_neg q2,if_neg q3])
  clear OF q2
  cases e1:bI z1 with
  | false=>
   have A1:=hid e1
   clear e1 q3
   go_enter Tryz.func52,Tryz.ntmps52
   go_wp2_with fail
   refine C.mono ?_
   rintro e w1 ⟨hb,⟨h0,_⟩ | ⟨_,bs,rfl,hf⟩⟩
   ·exact absurd rfl h0
   go_wp2_with fail
   refine (R1 _ hb).mono ?_
   rintro e w2 ⟨rfl,rfl⟩
   rw [A1.out]
   go_wp2_with fail
   refine (R2 _ hb).mono ?_
   rintro e w2 ⟨rfl,rfl⟩
   go_wp2_with fail
   go_ret2
   exact ⟨by rw [E.out,V.out,J.out];rfl,hb⟩
  | true=>
   have e2:bI z2=false:=by
    cases e2:bI z2 with
    | false=>rfl
    | true=>exact absurd ⟨e1,e2⟩ q3
   have A1:=hid e1
   have A2:=hid e2
   clear e1 e2 q3
   go_enter Tryz.func52,Tryz.ntmps52
   go_wp2_with fail
   refine C.mono ?_
   rintro e w1 ⟨hb,⟨h0,_⟩ | ⟨_,bs,rfl,hf⟩⟩
   ·exact absurd rfl h0
   go_wp2_with fail
   refine (R1 _ hb).mono ?_
   rintro e w2 ⟨rfl,rfl⟩
   rw [A1.out]
   go_wp2_with fail
   refine (R2 _ hb).mono ?_
   rintro e w2 ⟨rfl,rfl⟩
   rw [A2.out]
   go_wp2_with fail
   go_ret2
   exact ⟨by rw [E.out,V.out,J.out];rfl,hb⟩
theorem Te (hm:s.size≤maxLen) (h1:Ints w a1 l1 c1 z1) (h2:Ints w a2 l2 c2 z2):Calls Tryz.prog 52 #[.string s,.slice a1 l1 c1,.slice a2 l2 c2] w fun e w'=>e=.returned (.tuple #[.bool (gT s z1 z2),.int .i64 (fZ s z1 z2)])∧Below w.heap.size w w':=by
 by_cases h:(af s).1=0
 ·exact Td s a1 a2 l1 c1 l2 c2 z1 z2 w hm h h1 h2
 ·exact VC s a1 a2 l1 c1 l2 c2 z1 z2 w hm h
end
end Go.Proofs.YtjagijohfkffiabGreat
