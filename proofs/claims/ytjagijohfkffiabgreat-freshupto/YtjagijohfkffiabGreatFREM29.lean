import Derived.Test.YtjagijohfkffiabGreatFREM05
set_option maxHeartbeats 16000000
set_option maxRecDepth 100000
set_option linter.unusedSimpArgs false
namespace Go.Proofs.YtjagijohfkffiabGreat
open Go.RowKit
set_option linter.unusedVariables false
section
variable (ns:List Nd) (bs:List Nat) (gw n dC back:Nat) (xs:List Nat)
theorem ahK(hw:gZ ns)(fZ:xs.length=n)(hb:back<n)(iZ:n<=20000)(h8:∀ x∈xs,x<8)(k b:Nat)(nd:Nd)(hn:ns[k]?=some nd)(hop:nd.op=38)(yn:pU ns bs gw n dC back xs nd.l)(Ru:pU ns bs gw n dC back xs nd.r)(w:World)(hp:Parts w ns bs)(di:Wd w gw n dC xs)(hbk:bs[k]?=some b) :
  Calls Tryz.prog 128 #[.pointer (some ⟨b,0,none⟩),.slice (some ⟨gw,0,none⟩) n dC,.int .i64 back] w (jE ns n back xs k w):=by
 have fV:w.heap[b]?=some (.cells #[.int .u8 (38:Nat),.pointer (some ⟨bs.getD nd.l 0,0,none⟩),.pointer (some ⟨bs.getD nd.r 0,0,none⟩),.int .i64 k] 204):=by
  obtain⟨b',e,hh⟩:=hp k nd hn;rw[hbk]at e;cases e;rw[hh];simp[bO,kK,kI,hop,bF,bQ]
 have ib:=dB fV;have hcap:=di.cap;have Bh:=di.lt;have hlk:nd.l<k:=(dS hw hn).2.1 (by rw[hop];decide);have ql:=(aA1.1 hn).1;obtain⟨bl,dV,RX⟩:∃ bl,bs[nd.l]?=some bl/\w.heap[bl]?=some (bO bs nd.l ns[nd.l]):=hp nd.l _ (aAV (by omega));rw[show bs.getD nd.l 0=bl by simp[List.getD,dV]]at fV;have hrk:nd.r<k:=(dS hw hn).2.2 (by rw[hop];decide);obtain⟨br,vI,hhr⟩:∃ br,bs[nd.r]?=some br/\w.heap[br]?=some (bO bs nd.r ns[nd.r]):=hp nd.r _ (aAV (by omega));rw[show bs.getD nd.r 0=br by simp[List.getD,vI]]at fV;obtain⟨i0,hi,aR,aP,aN⟩:=info_parts Tryz.eD;go_enter Tryz.func128,Tryz.ntmps128;go_wp2_with (at_make;go_must (refine aBA _ rfl (.tmp 15) (.tmp 15) 132 rfl w.heap.size 4 i0 (.bool false) 1 Tryz.underlying132 hi aR aP .i64 .i64 n n n rfl rfl rfl rfl ?m2 ?m3 (aAU _) ?_))
 case m2=>rw[aN];omega
 case m3=>unfold maxLen;omega
 intro w1 aF aZ;have eo:(madeCells #[Value.bool false] n).toList=List.replicate n (.bool false):=aBq _ _;rw[eo]at aF;have aM:Below w.heap.size w w1:=(aAW _ _).grown aZ (aAU _) (λk h=>by cases h);have hs1:w.heap.size<w1.heap.size:=(aF.lt _ rfl).2;have fO:w1.heap[b]?=some (.cells #[.int .u8 (38:Nat),.pointer (some ⟨bl,0,none⟩),.pointer (some ⟨br,0,none⟩),.int .i64 k] 204):=by rw[aM.block b ib];exact fV
 obtain⟨p0,p1,p2,_⟩:=aT fO;have aK:=hid aM;have O1:=hid aF;clear aF aZ eo aM;go_wp2_with fail;refine(yn _ bl (hp.below aK.out) (di.below aK.out) dV).mono ?_;rintro e w2 ⟨gl,fl,rfl,SL,kz,o6,ak⟩;have lm:=ak.size;have kW:w2.heap[b]?=_:=(ak.block b (by omega)).trans fO;clear p0 p1 p2;obtain⟨p0,p1,p2,_⟩:=aT kW;have aW:=hid (aK.out.trans (ak.mono (by omega)));have O2:=hid (O1.out.kept (row:=none) ⟨ak.os,ak.tape,ak.output,ak.size,λk hk _=>ak.block k hk⟩ (aA3 (by simp[Value.ownBlock])));have mi:=hid o6;have ug:=hid SL;clear ak O1 aK o6 SL;go_wp2_with fail;refine(Ru _ br (hp.below aW.out) (di.below aW.out) vI).mono ?_;rintro e w3 ⟨gr,fr,rfl,SR,hgr,Fs,aI⟩;have vF:=aI.size;have yt:w3.heap[b]?=_:=(aI.block b (by omega)).trans kW;clear p0 p1 p2;obtain⟨p0,p1,p2,_⟩:=aT yt;have gq:=hid (aW.out.trans (aI.mono (by omega)));have OS:=hid (O2.out.kept (row:=none) ⟨aI.os,aI.tape,aI.output,aI.size,λk hk _=>aI.block k hk⟩ (aA3 (by simp[Value.ownBlock])));have Dp:=hid (mi.out.below aI);have Lj:=hid Fs;have SL:=ug.out;obtain⟨f,fP⟩:∃ f:Nat->Bool,f=(λi=>fl i&&fr i):=⟨_,rfl⟩;have jZ:Hid (∀ i,i<n->(f i=true↔fA (aU n back) (ltOf xs) ns k i)):=hid (by rw[fP];exact(by intro i hi;rw[iW hn hw];simp only[kZ,hop,Nat.reduceEqDiff,if_false,if_true];have h1:=SL i hi;have h2:=SR i hi;unfold fA at h1 h2;rw[<-h1,<-h2];simp));have jS:=hid fP;clear fP;have aei:=mi.out.lt;clear aI O2 aW mi SL Fs SR;have iP:Hid (w.heap.size<w3.heap.size):=hid (by omega);go_wp2_with fail;clear p0 p1 p2;have mo:=hid yt;have tY:=hid (di.below gq.out)
 go_loopw [11] (λi wr=>∃ j:Nat,j<=n/\i=.int .i64 j/\wr.ownsRow w.heap.size 4 1 (.slice (some ⟨w.heap.size,0,none⟩) n n) n (ay f n j)/\w3.grownBy wr (some w.heap.size)) (λi _=>n - (intOf i).toNat)
 case atStart=>exact⟨0,aA8 _,rfl,by rw[dh];exact OS.out,World.grownBy.refl _ _⟩
 case round=>
  obtain⟨j,hj,rfl,own,bg⟩:=hrel;by_cases hlt:j<n
  ·have jc:wr.heap[b]?=_:=(bg.block b (by have:=iP.out;omega) (by simp;omega)).trans mo.out;obtain⟨p0,p1,p2,_⟩:=aT jc;have q0:=own.frozenAt j;have q1:(wr.cell? ⟨w.heap.size,j,none⟩).isSome=true:=by
    rw[own.cellAt j (by omega)];simp[ay,hlt]
   obtain⟨qv,q2⟩:=aBD.1 q1;have hO:=own.stored j (.bool (f j));rw[fB]at hO;have HO:=hid hO.1;have HG:=hid (fU bg hO.2);clear hO q1 own;have FV:Hid (f j=(fl j&&fr j)):=hid (by rw[jS.out]);have c:=(jd (o:=j) bg Dp.out.lt (by omega)).trans (Dp.out.cell j hlt);have c2:=(jd (o:=j) bg Lj.out.lt (by omega)).trans (Lj.out.cell j hlt);generalize fl j=x at *;generalize fr j=y at *;clear bg jc;cases x <;> cases y
   all_goals
    go_wp2_with fail;go_roundw
    case rel=>
     have o:=HO.out;have g:=HG.out;rw[FV.out]at g;exact⟨j+1,by omega,by go_num,by rw[FV.out]at o;exact o,g⟩
    case measure=>simp[intOf];omega
  ·have iB:j=n:=by omega
   rw[iB]at own;have RD:=hid (jD ns n back xs (k:=k) gq.out bg iP.out own jZ.out);clear own bg iB;go_wp2_with fail;go_ret;exact RD.out
theorem ai2(hw:gZ ns)(fZ:xs.length=n)(hb:back<n)(iZ:n<=20000)(h8:∀ x∈xs,x<8)(k b:Nat)(nd:Nd)(hn:ns[k]?=some nd)(hop:nd.op=124)(yn:pU ns bs gw n dC back xs nd.l)(Ru:pU ns bs gw n dC back xs nd.r)(w:World)(hp:Parts w ns bs)(di:Wd w gw n dC xs)(hbk:bs[k]?=some b) :
  Calls Tryz.prog 128 #[.pointer (some ⟨b,0,none⟩),.slice (some ⟨gw,0,none⟩) n dC,.int .i64 back] w (jE ns n back xs k w):=by
 have fV:w.heap[b]?=some (.cells #[.int .u8 (124:Nat),.pointer (some ⟨bs.getD nd.l 0,0,none⟩),.pointer (some ⟨bs.getD nd.r 0,0,none⟩),.int .i64 k] 204):=by
  obtain⟨b',e,hh⟩:=hp k nd hn;rw[hbk]at e;cases e;rw[hh];simp[bO,kK,kI,hop,bF,bQ]
 have ib:=dB fV;have hcap:=di.cap;have Bh:=di.lt;have hlk:nd.l<k:=(dS hw hn).2.1 (by rw[hop];decide);have ql:=(aA1.1 hn).1;obtain⟨bl,dV,RX⟩:∃ bl,bs[nd.l]?=some bl/\w.heap[bl]?=some (bO bs nd.l ns[nd.l]):=hp nd.l _ (aAV (by omega));rw[show bs.getD nd.l 0=bl by simp[List.getD,dV]]at fV;have hrk:nd.r<k:=(dS hw hn).2.2 (by rw[hop];decide);obtain⟨br,vI,hhr⟩:∃ br,bs[nd.r]?=some br/\w.heap[br]?=some (bO bs nd.r ns[nd.r]):=hp nd.r _ (aAV (by omega));rw[show bs.getD nd.r 0=br by simp[List.getD,vI]]at fV;obtain⟨i0,hi,aR,aP,aN⟩:=info_parts Tryz.eD;go_enter Tryz.func128,Tryz.ntmps128;go_wp2_with (at_make;go_must (refine aBA _ rfl (.tmp 15) (.tmp 15) 132 rfl w.heap.size 4 i0 (.bool false) 1 Tryz.underlying132 hi aR aP .i64 .i64 n n n rfl rfl rfl rfl ?m2 ?m3 (aAU _) ?_))
 case m2=>rw[aN];omega
 case m3=>unfold maxLen;omega
 intro w1 aF aZ;have eo:(madeCells #[Value.bool false] n).toList=List.replicate n (.bool false):=aBq _ _;rw[eo]at aF;have aM:Below w.heap.size w w1:=(aAW _ _).grown aZ (aAU _) (λk h=>by cases h);have hs1:w.heap.size<w1.heap.size:=(aF.lt _ rfl).2;have fO:w1.heap[b]?=some (.cells #[.int .u8 (124:Nat),.pointer (some ⟨bl,0,none⟩),.pointer (some ⟨br,0,none⟩),.int .i64 k] 204):=by rw[aM.block b ib];exact fV
 obtain⟨p0,p1,p2,_⟩:=aT fO;have aK:=hid aM;have O1:=hid aF;clear aF aZ eo aM;go_wp2_with fail;refine(yn _ bl (hp.below aK.out) (di.below aK.out) dV).mono ?_;rintro e w2 ⟨gl,fl,rfl,SL,kz,o6,ak⟩;have lm:=ak.size;have kW:w2.heap[b]?=_:=(ak.block b (by omega)).trans fO;clear p0 p1 p2;obtain⟨p0,p1,p2,_⟩:=aT kW;have aW:=hid (aK.out.trans (ak.mono (by omega)));have O2:=hid (O1.out.kept (row:=none) ⟨ak.os,ak.tape,ak.output,ak.size,λk hk _=>ak.block k hk⟩ (aA3 (by simp[Value.ownBlock])));have mi:=hid o6;have ug:=hid SL;clear ak O1 aK o6 SL;go_wp2_with fail;refine(Ru _ br (hp.below aW.out) (di.below aW.out) vI).mono ?_;rintro e w3 ⟨gr,fr,rfl,SR,hgr,Fs,aI⟩;have vF:=aI.size;have yt:w3.heap[b]?=_:=(aI.block b (by omega)).trans kW;clear p0 p1 p2;obtain⟨p0,p1,p2,_⟩:=aT yt;have gq:=hid (aW.out.trans (aI.mono (by omega)));have OS:=hid (O2.out.kept (row:=none) ⟨aI.os,aI.tape,aI.output,aI.size,λk hk _=>aI.block k hk⟩ (aA3 (by simp[Value.ownBlock])));have Dp:=hid (mi.out.below aI);have Lj:=hid Fs;have SL:=ug.out;obtain⟨f,fP⟩:∃ f:Nat->Bool,f=(λi=>fl i||fr i):=⟨_,rfl⟩;have jZ:Hid (∀ i,i<n->(f i=true↔fA (aU n back) (ltOf xs) ns k i)):=hid (by rw[fP];exact(by intro i hi;rw[iW hn hw];simp only[kZ,hop,Nat.reduceEqDiff,if_false,if_true];have h1:=SL i hi;have h2:=SR i hi;unfold fA at h1 h2;rw[<-h1,<-h2];simp));have jS:=hid fP;clear fP;have aei:=mi.out.lt;clear aI O2 aW mi SL Fs SR;have iP:Hid (w.heap.size<w3.heap.size):=hid (by omega);go_wp2_with fail;clear p0 p1 p2;have mo:=hid yt;have tY:=hid (di.below gq.out)
 go_loopw [11] (λi wr=>∃ j:Nat,j<=n/\i=.int .i64 j/\wr.ownsRow w.heap.size 4 1 (.slice (some ⟨w.heap.size,0,none⟩) n n) n (ay f n j)/\w3.grownBy wr (some w.heap.size)) (λi _=>n - (intOf i).toNat)
 case atStart=>exact⟨0,aA8 _,rfl,by rw[dh];exact OS.out,World.grownBy.refl _ _⟩
 case round=>
  obtain⟨j,hj,rfl,own,bg⟩:=hrel;by_cases hlt:j<n
  ·have jc:wr.heap[b]?=_:=(bg.block b (by have:=iP.out;omega) (by simp;omega)).trans mo.out;obtain⟨p0,p1,p2,_⟩:=aT jc;have q0:=own.frozenAt j;have q1:(wr.cell? ⟨w.heap.size,j,none⟩).isSome=true:=by
    rw[own.cellAt j (by omega)];simp[ay,hlt]
   obtain⟨qv,q2⟩:=aBD.1 q1;have hO:=own.stored j (.bool (f j));rw[fB]at hO;have HO:=hid hO.1;have HG:=hid (fU bg hO.2);clear hO q1 own;have FV:Hid (f j=(fl j||fr j)):=hid (by rw[jS.out]);have c:=(jd (o:=j) bg Dp.out.lt (by omega)).trans (Dp.out.cell j hlt);have c2:=(jd (o:=j) bg Lj.out.lt (by omega)).trans (Lj.out.cell j hlt);generalize fl j=x at *;generalize fr j=y at *;clear bg jc;cases x <;> cases y
   all_goals
    go_wp2_with fail;go_roundw
    case rel=>
     have o:=HO.out;have g:=HG.out;rw[FV.out]at g;exact⟨j+1,by omega,by go_num,by rw[FV.out]at o;exact o,g⟩
    case measure=>simp[intOf];omega
  ·have iB:j=n:=by omega
   rw[iB]at own;have RD:=hid (jD ns n back xs (k:=k) gq.out bg iP.out own jZ.out);clear own bg iB;go_wp2_with fail;go_ret;exact RD.out
theorem am9(hw:gZ ns)(fZ:xs.length=n)(hb:back<n)(iZ:n<=20000)(h8:∀ x∈xs,x<8)(k b:Nat)(nd:Nd)(hn:ns[k]?=some nd)(hop:nd.op=85)(yn:pU ns bs gw n dC back xs nd.l)(Ru:pU ns bs gw n dC back xs nd.r)(w:World)(hp:Parts w ns bs)(di:Wd w gw n dC xs)(hbk:bs[k]?=some b) :
  Calls Tryz.prog 128 #[.pointer (some ⟨b,0,none⟩),.slice (some ⟨gw,0,none⟩) n dC,.int .i64 back] w (jE ns n back xs k w):=by
 have fV:w.heap[b]?=some (.cells #[.int .u8 (85:Nat),.pointer (some ⟨bs.getD nd.l 0,0,none⟩),.pointer (some ⟨bs.getD nd.r 0,0,none⟩),.int .i64 k] 204):=by
  obtain⟨b',e,hh⟩:=hp k nd hn;rw[hbk]at e;cases e;rw[hh];simp[bO,kK,kI,hop,bF,bQ]
 have ib:=dB fV;have hcap:=di.cap;have Bh:=di.lt;have hlk:nd.l<k:=(dS hw hn).2.1 (by rw[hop];decide);have ql:=(aA1.1 hn).1;obtain⟨bl,dV,RX⟩:∃ bl,bs[nd.l]?=some bl/\w.heap[bl]?=some (bO bs nd.l ns[nd.l]):=hp nd.l _ (aAV (by omega));rw[show bs.getD nd.l 0=bl by simp[List.getD,dV]]at fV;have hrk:nd.r<k:=(dS hw hn).2.2 (by rw[hop];decide);obtain⟨br,vI,hhr⟩:∃ br,bs[nd.r]?=some br/\w.heap[br]?=some (bO bs nd.r ns[nd.r]):=hp nd.r _ (aAV (by omega));rw[show bs.getD nd.r 0=br by simp[List.getD,vI]]at fV;obtain⟨i0,hi,aR,aP,aN⟩:=info_parts Tryz.eD;go_enter Tryz.func128,Tryz.ntmps128;go_wp2_with (at_make;go_must (refine aBA _ rfl (.tmp 15) (.tmp 15) 132 rfl w.heap.size 4 i0 (.bool false) 1 Tryz.underlying132 hi aR aP .i64 .i64 n n n rfl rfl rfl rfl ?m2 ?m3 (aAU _) ?_))
 case m2=>rw[aN];omega
 case m3=>unfold maxLen;omega
 intro w1 aF aZ;have eo:(madeCells #[Value.bool false] n).toList=List.replicate n (.bool false):=aBq _ _;rw[eo]at aF;have aM:Below w.heap.size w w1:=(aAW _ _).grown aZ (aAU _) (λk h=>by cases h);have hs1:w.heap.size<w1.heap.size:=(aF.lt _ rfl).2;have fO:w1.heap[b]?=some (.cells #[.int .u8 (85:Nat),.pointer (some ⟨bl,0,none⟩),.pointer (some ⟨br,0,none⟩),.int .i64 k] 204):=by rw[aM.block b ib];exact fV
 obtain⟨p0,p1,p2,_⟩:=aT fO;have aK:=hid aM;have O1:=hid aF;clear aF aZ eo aM;go_wp2_with fail;refine(yn _ bl (hp.below aK.out) (di.below aK.out) dV).mono ?_;rintro e w2 ⟨gl,fl,rfl,SL,kz,o6,ak⟩;have lm:=ak.size;have kW:w2.heap[b]?=_:=(ak.block b (by omega)).trans fO;clear p0 p1 p2;obtain⟨p0,p1,p2,_⟩:=aT kW;have aW:=hid (aK.out.trans (ak.mono (by omega)));have O2:=hid (O1.out.kept (row:=none) ⟨ak.os,ak.tape,ak.output,ak.size,λk hk _=>ak.block k hk⟩ (aA3 (by simp[Value.ownBlock])));have mi:=hid o6;have ug:=hid SL;clear ak O1 aK o6 SL;go_wp2_with fail;refine(Ru _ br (hp.below aW.out) (di.below aW.out) vI).mono ?_;rintro e w3 ⟨gr,fr,rfl,SR,hgr,Fs,aI⟩;have vF:=aI.size;have yt:w3.heap[b]?=_:=(aI.block b (by omega)).trans kW;clear p0 p1 p2;obtain⟨p0,p1,p2,_⟩:=aT yt;have gq:=hid (aW.out.trans (aI.mono (by omega)));have OS:=hid (O2.out.kept (row:=none) ⟨aI.os,aI.tape,aI.output,aI.size,λk hk _=>aI.block k hk⟩ (aA3 (by simp[Value.ownBlock])));have Dp:=hid (mi.out.below aI);have Lj:=hid Fs;have SL:=ug.out;obtain⟨f,fP⟩:∃ f:Nat->Bool,f=(λi=>al 85 fl fr (aU n back) (n+1) i):=⟨_,rfl⟩;have jZ:Hid (∀ i,i<n->(f i=true↔fA (aU n back) (ltOf xs) ns k i)):=hid (by rw[fP];exact(by intro i hi;rw[iW hn hw,alj hb _ _ i hi];simp only[kZ,hop,Nat.reduceEqDiff,if_false,if_true];exact exists_congr λs=>and_congr (SR _ (kL hb s i hi)) (forall_congr' λm=>forall_congr' λ_=>SL _ (kL hb m i hi))));have jS:=hid fP;clear fP;have aei:=mi.out.lt;clear aI O2 aW mi SL Fs SR;have iP:Hid (w.heap.size<w3.heap.size):=hid (by omega);go_wp2_with fail;clear p0 p1 p2;have mo:=hid yt;have tY:=hid (di.below gq.out)
 go_loopw [11] (λi wr=>∃ j:Nat,j<=n/\i=.int .i64 j/\wr.ownsRow w.heap.size 4 1 (.slice (some ⟨w.heap.size,0,none⟩) n n) n (ay f n j)/\w3.grownBy wr (some w.heap.size)) (λi _=>n - (intOf i).toNat)
 case atStart=>exact⟨0,aA8 _,rfl,by rw[dh];exact OS.out,World.grownBy.refl _ _⟩
 case round=>
  obtain⟨j,hj,rfl,own,bg⟩:=hrel;by_cases hlt:j<n
  ·have jc:wr.heap[b]?=_:=(bg.block b (by have:=iP.out;omega) (by simp;omega)).trans mo.out;obtain⟨p0,p1,p2,_⟩:=aT jc;have q0:=own.frozenAt j;have q1:(wr.cell? ⟨w.heap.size,j,none⟩).isSome=true:=by
    rw[own.cellAt j (by omega)];simp[ay,hlt]
   obtain⟨qv,q2⟩:=aBD.1 q1;have hO:=own.stored j (.bool (f j));rw[fB]at hO;have HO:=hid hO.1;have HG:=hid (fU bg hO.2);clear hO q1 own;have FV:Hid (f j=al 85 fl fr (aU n back) (n+1) j):=hid (by rw[jS.out]);have RL:=Dp.out.grown bg (by omega);have RR:=Lj.out.grown bg (by omega);have AL:=aiB gl n j back gr fl fr _ RL RR hlt hb iZ;generalize al 85 fl fr (aU n back) (n+1) j=x at *;clear bg jc;go_wp2_with fail;refine AL.mono ?_;rintro e w' ⟨rfl,rfl⟩;clear AL;go_wp2_with fail;go_roundw
   case rel=>
    have o:=HO.out;have g:=HG.out;rw[FV.out]at g;exact⟨j+1,by omega,by go_num,by rw[FV.out]at o;exact o,g⟩
   case measure=>simp[intOf];omega
  ·have iB:j=n:=by omega
   rw[iB]at own;have RD:=hid (jD ns n back xs (k:=k) gq.out bg iP.out own jZ.out);clear own bg iB;go_wp2_with fail;go_ret;exact RD.out
theorem ana(hw:gZ ns)(fZ:xs.length=n)(hb:back<n)(iZ:n<=20000)(h8:∀ x∈xs,x<8)(k b:Nat)(nd:Nd)(hn:ns[k]?=some nd)(hop:nd.op=82)(yn:pU ns bs gw n dC back xs nd.l)(Ru:pU ns bs gw n dC back xs nd.r)(w:World)(hp:Parts w ns bs)(di:Wd w gw n dC xs)(hbk:bs[k]?=some b) :
  Calls Tryz.prog 128 #[.pointer (some ⟨b,0,none⟩),.slice (some ⟨gw,0,none⟩) n dC,.int .i64 back] w (jE ns n back xs k w):=by
 have fV:w.heap[b]?=some (.cells #[.int .u8 (82:Nat),.pointer (some ⟨bs.getD nd.l 0,0,none⟩),.pointer (some ⟨bs.getD nd.r 0,0,none⟩),.int .i64 k] 204):=by
  obtain⟨b',e,hh⟩:=hp k nd hn;rw[hbk]at e;cases e;rw[hh];simp[bO,kK,kI,hop,bF,bQ]
 have ib:=dB fV;have hcap:=di.cap;have Bh:=di.lt;have hlk:nd.l<k:=(dS hw hn).2.1 (by rw[hop];decide);have ql:=(aA1.1 hn).1;obtain⟨bl,dV,RX⟩:∃ bl,bs[nd.l]?=some bl/\w.heap[bl]?=some (bO bs nd.l ns[nd.l]):=hp nd.l _ (aAV (by omega));rw[show bs.getD nd.l 0=bl by simp[List.getD,dV]]at fV;have hrk:nd.r<k:=(dS hw hn).2.2 (by rw[hop];decide);obtain⟨br,vI,hhr⟩:∃ br,bs[nd.r]?=some br/\w.heap[br]?=some (bO bs nd.r ns[nd.r]):=hp nd.r _ (aAV (by omega));rw[show bs.getD nd.r 0=br by simp[List.getD,vI]]at fV;obtain⟨i0,hi,aR,aP,aN⟩:=info_parts Tryz.eD;go_enter Tryz.func128,Tryz.ntmps128;go_wp2_with (at_make;go_must (refine aBA _ rfl (.tmp 15) (.tmp 15) 132 rfl w.heap.size 4 i0 (.bool false) 1 Tryz.underlying132 hi aR aP .i64 .i64 n n n rfl rfl rfl rfl ?m2 ?m3 (aAU _) ?_))
 case m2=>rw[aN];omega
 case m3=>unfold maxLen;omega
 intro w1 aF aZ;have eo:(madeCells #[Value.bool false] n).toList=List.replicate n (.bool false):=aBq _ _;rw[eo]at aF;have aM:Below w.heap.size w w1:=(aAW _ _).grown aZ (aAU _) (λk h=>by cases h);have hs1:w.heap.size<w1.heap.size:=(aF.lt _ rfl).2;have fO:w1.heap[b]?=some (.cells #[.int .u8 (82:Nat),.pointer (some ⟨bl,0,none⟩),.pointer (some ⟨br,0,none⟩),.int .i64 k] 204):=by rw[aM.block b ib];exact fV
 obtain⟨p0,p1,p2,_⟩:=aT fO;have aK:=hid aM;have O1:=hid aF;clear aF aZ eo aM;go_wp2_with fail;refine(yn _ bl (hp.below aK.out) (di.below aK.out) dV).mono ?_;rintro e w2 ⟨gl,fl,rfl,SL,kz,o6,ak⟩;have lm:=ak.size;have kW:w2.heap[b]?=_:=(ak.block b (by omega)).trans fO;clear p0 p1 p2;obtain⟨p0,p1,p2,_⟩:=aT kW;have aW:=hid (aK.out.trans (ak.mono (by omega)));have O2:=hid (O1.out.kept (row:=none) ⟨ak.os,ak.tape,ak.output,ak.size,λk hk _=>ak.block k hk⟩ (aA3 (by simp[Value.ownBlock])));have mi:=hid o6;have ug:=hid SL;clear ak O1 aK o6 SL;go_wp2_with fail;refine(Ru _ br (hp.below aW.out) (di.below aW.out) vI).mono ?_;rintro e w3 ⟨gr,fr,rfl,SR,hgr,Fs,aI⟩;have vF:=aI.size;have yt:w3.heap[b]?=_:=(aI.block b (by omega)).trans kW;clear p0 p1 p2;obtain⟨p0,p1,p2,_⟩:=aT yt;have gq:=hid (aW.out.trans (aI.mono (by omega)));have OS:=hid (O2.out.kept (row:=none) ⟨aI.os,aI.tape,aI.output,aI.size,λk hk _=>aI.block k hk⟩ (aA3 (by simp[Value.ownBlock])));have Dp:=hid (mi.out.below aI);have Lj:=hid Fs;have SL:=ug.out;obtain⟨f,fP⟩:∃ f:Nat->Bool,f=(λi=>al 82 fl fr (aU n back) (n+1) i):=⟨_,rfl⟩;have jZ:Hid (∀ i,i<n->(f i=true↔fA (aU n back) (ltOf xs) ns k i)):=hid (by rw[fP];exact(by intro i hi;rw[iW hn hw,asv hb _ _ i hi];simp only[kZ,hop,Nat.reduceEqDiff,if_false,if_true];exact forall_congr' λs=>or_congr (SR _ (kL hb s i hi)) (exists_congr λm=>and_congr Iff.rfl (SL _ (kL hb m i hi)))));have jS:=hid fP;clear fP;have aei:=mi.out.lt;clear aI O2 aW mi SL Fs SR;have iP:Hid (w.heap.size<w3.heap.size):=hid (by omega);go_wp2_with fail;clear p0 p1 p2;have mo:=hid yt;have tY:=hid (di.below gq.out)
 go_loopw [11] (λi wr=>∃ j:Nat,j<=n/\i=.int .i64 j/\wr.ownsRow w.heap.size 4 1 (.slice (some ⟨w.heap.size,0,none⟩) n n) n (ay f n j)/\w3.grownBy wr (some w.heap.size)) (λi _=>n - (intOf i).toNat)
 case atStart=>exact⟨0,aA8 _,rfl,by rw[dh];exact OS.out,World.grownBy.refl _ _⟩
 case round=>
  obtain⟨j,hj,rfl,own,bg⟩:=hrel;by_cases hlt:j<n
  ·have jc:wr.heap[b]?=_:=(bg.block b (by have:=iP.out;omega) (by simp;omega)).trans mo.out;obtain⟨p0,p1,p2,_⟩:=aT jc;have q0:=own.frozenAt j;have q1:(wr.cell? ⟨w.heap.size,j,none⟩).isSome=true:=by
    rw[own.cellAt j (by omega)];simp[ay,hlt]
   obtain⟨qv,q2⟩:=aBD.1 q1;have hO:=own.stored j (.bool (f j));rw[fB]at hO;have HO:=hid hO.1;have HG:=hid (fU bg hO.2);clear hO q1 own;have FV:Hid (f j=al 82 fl fr (aU n back) (n+1) j):=hid (by rw[jS.out]);have RL:=Dp.out.grown bg (by omega);have RR:=Lj.out.grown bg (by omega);have AL:=aiC gl n j back gr fl fr _ RL RR hlt hb iZ;generalize al 82 fl fr (aU n back) (n+1) j=x at *;clear bg jc;go_wp2_with fail;refine AL.mono ?_;rintro e w' ⟨rfl,rfl⟩;clear AL;go_wp2_with fail;go_roundw
   case rel=>
    have o:=HO.out;have g:=HG.out;rw[FV.out]at g;exact⟨j+1,by omega,by go_num,by rw[FV.out]at o;exact o,g⟩
   case measure=>simp[intOf];omega
  ·have iB:j=n:=by omega
   rw[iB]at own;have RD:=hid (jD ns n back xs (k:=k) gq.out bg iP.out own jZ.out);clear own bg iB;go_wp2_with fail;go_ret;exact RD.out
end
theorem Tryz.Al:(Tryz.prog.info? 127).map (λi=>(i.zero,i.size,i.bytes))=some (some (.pointer none),1,8):=by kernel_rfl
def Io(o:Option (Nat × List Nd))(F:Nat)(x:Int)(bs:List Nat)(w:World)(e:Ending)(w':World):Prop:=
 (o=none/\e=.returned (.tuple #[.pointer none,.int .i64 x,.bool false])/\Below F w w') \/
 (∃ a' d9 ext P,o=some (a',d9)/\e=.returned (.tuple #[.pointer (some ⟨P,0,none⟩),.int .i64 (a':Nat),.bool true])/\Fm w' F d9 (bs++ext)/\(bs++ext)[d9.length - 1]?=some P/\(∀ b∈ext,w.heap.size<=b)/\Below F w w'/\Kp F w w')
def pg(k F:Nat)(s:ByteArray):Prop:=
 ∀ (x:Int) (a:Nat) (ns:List Nd) (bs:List Nat) (w:World),x=(a:Int)->Fm w F ns bs->s.size<a+k->a<=s.size->ns.length<=a->Calls Tryz.prog 72 #[.pointer (some ⟨F,0,none⟩),.string s,.int .i64 x] w (Io (ps k s a ns) F x bs w)
theorem Jn{W w1:World}{F:Nat}{ns:List Nd}{bs:List Nat}(hf:Fm W F ns bs){Q:Obj}{v v':Value}{n0:Nat}{xs:List Value}(own:W.ownsRow (F+1) 127 1 v n0 xs)(hn0:n0=ns.length)(hxs:xs=bs.map kV)
  {P:Nat} (Fu:F<P) (n:Nd) (h1:bF n.op=false->n.l<ns.length) (h2:bQ n.op=true->n.r<ns.length) (hP:W.heap[P]?=some (bO bs ns.length n))
  (hown:w1.ownsRow (F+1) 127 1 v' (n0+1) (xs++[kV P])) (hg:(W.alloc Q).grownBy w1 v.ownBlock) :
  ∃ nE cap',v'=.slice nE (ns.length+1) cap'/\Fm (w1.setCell ⟨F,0,none⟩ (.slice nE (ns.length+1) cap')) F (ns++[n]) (bs++[P])/\Kp F W w1/\Below (F+1) W w1:=by
 subst hn0;subst hxs;have hF:=hf.r9;have hk:Kp F W w1:=(Kp.alloc F W Q).trans (Kp.grown (own.alloc Q) hg);have hb:Below (F+1) W w1:=((aAW _ _).alloc (by omega) _).grown hg (by simp;omega) (λk h=>(own.lt k h).1);obtain⟨nE,cap',hv⟩:∃ nE cap',v'=.slice nE (ns.length+1) cap':=by
  rcases hown.2 with⟨h,h0⟩ | ⟨g,cap',_,h,_⟩
  ·omega
  ·exact⟨_,cap',h⟩
 subst hv;exact⟨nE,cap',rfl,hf.push hk hb Fu n h1 h2 hP nE cap' hown,hk,hb⟩
theorem aaq{W:World}{ns:List Nd}{bs:List Nat}{P:Nat}{b:Nat}(hb:bF b=true)(h:W.heap[P]?=some (.cells #[.int .u8 b,.pointer none,.pointer none,.int .i64 ns.length] 204)):W.heap[P]?=some (bO bs ns.length ⟨b,0,0⟩):=by
 rw[h];simp[bO,kK,kI,hb,sw hb]
theorem EI{bs:List Nat}{ns:List Nd}{n:Nd}{P:Nat}(h:bs.length=ns.length):(bs++[P])[(ns++[n]).length - 1]?=some P:=by
 simp[<-h]
theorem U9(k F:Nat)(s:ByteArray)(hs:s.size<=24)(a:Nat)(ns:List Nd)(bs:List Nat)(w:World)(hf:Fm w F ns bs)(hn:ns.length<=a)(hb:bF (bt s a)=true) :
  Calls Tryz.prog 72 #[.pointer (some ⟨F,0,none⟩),.string s,.int .i64 a] w (Io (ps (k+1) s a ns) F a bs w):=by
 have hlt:=jv (VR hb);have e1:=hid (nK (k:=k) (ns:=ns) hb);have ak:(s[a]'hlt).toNat=bt s a:=(gL hlt).symm;obtain⟨ao,cap,c0,own⟩:=hf.c0;have f0:=hf.f0;have hF:=hf.r9;obtain⟨i0,hi,aR,aP,aN⟩:=info_parts Tryz.Al;have hB:=lD hb;have HB:=hid hb;clear hb;generalize bt s a=b at *;rcases hB with rfl | rfl | rfl | rfl | rfl
 all_goals
  go_enter Tryz.func72,Tryz.ntmps72;go_wp2_with (at_builtin;refine wpList_append_own _ rfl (.tmp 160) (.tmp 162) 124 rfl (F+1) 127 i0 (.pointer none) 1 8 Tryz.underlying124 hi aR aP aN rfl (by decide) _ _ _ rfl ((own.alloc _).alloc _) ⟨w.heap.size+1,0,none⟩ 1 1 [kV w.heap.size] rfl rfl ?c1 ?c2 ?c3 ?c4 ?c5 ?_)
  case c1=>intro j u hj;match j,hj with | 0,hj=>simp at hj;subst hj;simp[Addr.add,kV]
  case c2=>intro u hu;simp at hu;subst hu;rfl
  case c3=>unfold maxLen;omega
  case c4=>omega
  case c5=>simp;omega
  intro v' w1 hown hgrow _;obtain⟨nE,cap',hv,kX,hk,dV⟩:=Jn (hf.alloc _) (own.alloc _) rfl rfl (P:=w.heap.size) (by omega) ⟨_,0,0⟩ (λh=>absurd HB.out (by rw[h];decide)) (λh=>absurd (sw HB.out) (by rw[h];decide)) (aaq HB.out (heap_alloc_new _ _)) hown hgrow;subst hv;have k0:=(dV.cell (p:=⟨F,0,none⟩) (aBs _)).trans ((World.cell?_alloc_past _ _ _ hF).trans c0);have g0:=(dV.frozen (p:=⟨F,0,none⟩) (aBs _)).trans ((aBK _ _ _ hF).trans f0);have HF:=hid kX;have B1:=hid ((((aAW F w).alloc (by omega) _).trans (dV.mono (Nat.le_succ F))).setCell (p:=⟨F,0,none⟩) (aAU _) (.slice nE (ns.length+1) cap'));have K1:=hid (((Kp.alloc F w _).trans hk).set (P:=F) (aA3 rfl) 0 (.slice nE (ns.length+1) cap'));clear kX hown hgrow dV hk c0 f0 own;go_wp2
  go_ret3
  refine aA3 ⟨_,_,[w.heap.size],w.heap.size,e1.out,rfl,HF.out,EI hf.len,?_,B1.out,K1.out⟩;intro b hb;simp at hb;omega
theorem JZ{w:World}{P:Nat}{c0 c1 c2 c3:Value}(h:w.heap[P]?=some (.cells #[c0,c1,c2,c3] 204 (0,0))) :
  w.cell? ⟨P,0,none⟩=some c0/\w.cell? ⟨P,1,none⟩=some c1/\w.cell? ⟨P,2,none⟩=some c2/\w.cell? ⟨P,3,none⟩=some c3:=by
 refine⟨?_,?_,?_,?_⟩ <;> (rw[aBJ w P _ _ _ _ h];rfl)
theorem lw{c:Array Value}:∀ c',(Obj.cells c 204 (0,0))≠.cells c' 127 (0,0):=by intro c' h;simp at h
theorem adG{w1:World}{F P L b:Nat}{n1:List Nd}{bs:List Nat}(hf:Fm w1 F n1 bs)(hP:w1.heap[P]?=some (.cells #[.int .u8 b,.pointer none,.pointer none,.int .i64 0] 204 (0,0)))
  (Bn:P ∉ bs) (Fu:P≠F) (hL:bs[n1.length - 1]?=some L) (hb:dY b=true) :
  Fm ((w1.setCell ⟨P,1,none⟩ (.pointer (some ⟨L,0,none⟩))).setCell ⟨P,3,none⟩ (.int .i64 n1.length)) F n1 bs /\
  ((w1.setCell ⟨P,1,none⟩ (.pointer (some ⟨L,0,none⟩))).setCell ⟨P,3,none⟩ (.int .i64 n1.length)).heap[P]?=some (bO bs n1.length ⟨b,n1.length - 1,0⟩):=by
 have h1:=heap_setCell_same w1 P 1 _ _ (.pointer (some ⟨L,0,none⟩)) hP;have h2:=heap_setCell_same _ P 3 _ _ (.int .i64 n1.length) h1;have f1:=hf.set Bn Fu hP lw 1 (.pointer (some ⟨L,0,none⟩));refine⟨f1.set Bn Fu h1 lw 3 _,h2.trans ?_⟩;simp[bO,kK,kI,jN hb,kQ hb,List.getD,hL]
theorem XP(k F:Nat)(s:ByteArray)(hs:s.size<=24)(H:pg k F s)(a:Nat)(ns:List Nd)(bs:List Nat)(w:World)(hf:Fm w F ns bs)(hk:s.size<a+(k+1))(hn:ns.length<=a)(hb:dY (bt s a)=true) :
  Calls Tryz.prog 72 #[.pointer (some ⟨F,0,none⟩),.string s,.int .i64 a] w (Io (ps (k+1) s a ns) F a bs w):=by
 have hlt:=jv (ajb hb);have e1:=hid (rW (k:=k) (ns:=ns) hb);have ak:(s[a]'hlt).toNat=bt s a:=(gL hlt).symm;have hF:=hf.r9;obtain⟨i0,hi,aR,aP,aN⟩:=info_parts Tryz.Al;have hB:=nu hb;have HB:=hid hb;clear hb;generalize bt s a=b at *;have C:=λW (h:Fm W F ns bs)=>H (a+1) (a+1) ns bs W (by omega) h (by omega) (by omega) (by omega);cases e0:ps k s (a+1) ns with
 | none=>
  have e2:Hid (ps (k+1) s a ns=none):=hid (by rw[e1.out];simp[ve,e0]);have E0:=hid e0;clear e0;rcases hB with rfl | rfl | rfl | rfl
  all_goals
   go_enter Tryz.func72,Tryz.ntmps72;go_wp2_with fail;refine(C _ (hf.alloc _)).mono ?_;rintro e w1 (⟨_,rfl,dV⟩ | ⟨a',d9,_,_,h,_⟩)
   ·go_wp2_with fail
    go_ret3
    exact aA2 ⟨e2.out,rfl,((aAW F w).alloc (by omega) _).trans dV⟩
   ·rw[E0.out]at h;cases h
 | some x=>
  obtain⟨a1,n1⟩:=x;have e2:Hid (ps (k+1) s a ns=some (a1,n1++[⟨b,n1.length - 1,0⟩])):=hid (by rw[e1.out];simp[ve,e0]);have g1:=eU k s _ ns a1 n1 e0;have E0:=hid e0;clear e0;rcases hB with rfl | rfl | rfl | rfl
  all_goals
   go_enter Tryz.func72,Tryz.ntmps72;go_wp2_with fail;refine(C _ (hf.alloc _)).mono ?_;rintro e w1 (⟨h,_⟩ | ⟨a',d9,ext,L,h,rfl,kX,hL,uE,dV,Bf⟩)
   ·rw[E0.out]at h;cases h
   rw[E0.out]at h;simp only[aBu,aBH]at h;obtain⟨rfl,rfl⟩:=h;have hP:=Bf w.heap.size _ _ (heap_alloc_new _ _) (by decide) (by omega);obtain⟨p0,p1,p2,p3⟩:=JZ hP;have q:∀ j,w1.frozen? ⟨w.heap.size,j,none⟩=false:=λj=>frozen_of_row _ _ _ _ _ hP;have Bn:w.heap.size ∉ bs++ext:=λhm=>(aBy.1 hm).elim (λh=>by have:=(hf.lt _ h).1;omega) (λh=>by have:=uE _ h;simp at this;omega);obtain⟨lS,kC⟩:∃ lS,lS=bs++ext:=⟨_,rfl⟩;rw[<-kC]at kX hL Bn;have gq:=hid kC;clear kC;obtain⟨hfW,H9⟩:=adG kX hP Bn (by omega) hL HB.out;obtain⟨ao,cap,c0,_⟩:=kX.c0;have f0:=kX.f0;have hsz:w.heap.size+1<=w1.heap.size:=by have:=dV.size;simp at this;omega
   have hF1:=kX.r9;have HW:=hid hfW;have own:=(kX.own c0).2;have QZ:=hid (uy (uy own hP lw 1 (.pointer (some ⟨L,0,none⟩))) (heap_setCell_same w1 w.heap.size 1 _ _ (.pointer (some ⟨L,0,none⟩)) hP) lw 3 (.int .i64 n1.length));have HPW:=hid H9;have hlen:=kX.len;clear kX hP hfW H9 own;go_wp2_with (at_builtin;refine wpList_append_own _ rfl (.tmp 160) (.tmp 162) 124 rfl (F+1) 127 i0 (.pointer none) 1 8 Tryz.underlying124 hi aR aP aN rfl (by decide) _ _ _ rfl (QZ.out.alloc _) ⟨w1.heap.size,0,none⟩ 1 1 [kV w.heap.size] rfl rfl ?c1 ?c2 ?c3 ?c4 ?c5 ?_)
   case c1=>intro j u hj;match j,hj with | 0,hj=>simp at hj;subst hj;simp[Addr.add,kV,World.cell?_alloc_here]
   case c2=>intro u hu;simp at hu;subst hu;rfl
   case c3=>unfold maxLen;omega
   case c4=>omega
   case c5=>simp;omega
   intro v' w2 hown hgrow _;obtain⟨nE,cap',hv,Bl,DR,ak⟩:=Jn HW.out QZ.out rfl rfl (P:=w.heap.size) (by omega) ⟨_,n1.length - 1,0⟩ (λ_=>by show n1.length - 1<n1.length;omega) (λh=>absurd (kQ HB.out) (by rw[h];decide)) HPW.out hown hgrow;subst hv;have k0:w2.cell? ⟨F,0,none⟩=some (.slice ao n1.length cap):=(ak.cell (p:=⟨F,0,none⟩) (aBs _)).trans ((aA0 _ _ _ _ (λe=>by have:=congrArg Addr.block e;simp at this;omega)).trans ((aA0 _ _ _ _ (λe=>by have:=congrArg Addr.block e;simp at this;omega)).trans c0));have g0:w2.frozen? ⟨F,0,none⟩=false:=(ak.frozen (p:=⟨F,0,none⟩) (aBs _)).trans (by rw[aBe,aBe];exact f0);have HF:=hid Bl;have B1:=hid (((((((aAW F w).alloc (by omega) _).trans dV).setCell (p:=⟨w.heap.size,1,none⟩) (by show F<=w.heap.size;omega) _).setCell (p:=⟨w.heap.size,3,none⟩) (by show F<=w.heap.size;omega) _).trans (ak.mono (Nat.le_succ F))).setCell (p:=⟨F,0,none⟩) (aAU _) (.slice nE (n1.length+1) cap'));have K1:=hid ((((((Kp.alloc F w _).trans Bf).set (P:=w.heap.size) (aA2 (aAU _)) 1 _).set (P:=w.heap.size) (aA2 (aAU _)) 3 _).trans DR).set (P:=F) (aA3 rfl) 0 (.slice nE (n1.length+1) cap'));clear Bl hown hgrow ak DR c0 f0 p0 p1 p2 p3 q;go_wp2
   go_ret3
   refine aA3 ⟨_,_,ext++[w.heap.size],w.heap.size,e2.out,rfl,?_,?_,?_,B1.out,K1.out⟩
   ·rw[<-List.append_assoc,<-gq.out];exact HF.out
   ·rw[<-List.append_assoc,<-gq.out];exact EI hlen
   ·intro b hb;rcases aBy.1 hb with hb | hb
    ·have:=uE _ hb;simp at this;omega
    ·simp at hb;omega
