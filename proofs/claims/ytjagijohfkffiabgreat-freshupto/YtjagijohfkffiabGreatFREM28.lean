import Derived.Test.YtjagijohfkffiabGreatFREM05
set_option maxHeartbeats 16000000
set_option maxRecDepth 100000
set_option linter.unusedSimpArgs false
namespace Go.Proofs.YtjagijohfkffiabGreat
open Go.RowKit
set_option linter.unusedVariables false
section
variable (ns:List Nd) (bs:List Nat) (gw n dC back:Nat) (xs:List Nat)
theorem ahJ(hw:gZ ns)(fZ:xs.length=n)(hb:back<n)(iZ:n<=20000)(h8:∀ x∈xs,x<8)(k b:Nat)(nd:Nd)(hn:ns[k]?=some nd)(hop:nd.op=33)(yn:pU ns bs gw n dC back xs nd.l)(w:World)(hp:Parts w ns bs)(di:Wd w gw n dC xs)(hbk:bs[k]?=some b) :
  Calls Tryz.prog 128 #[.pointer (some ⟨b,0,none⟩),.slice (some ⟨gw,0,none⟩) n dC,.int .i64 back] w (jE ns n back xs k w):=by
 have fV:w.heap[b]?=some (.cells #[.int .u8 (33:Nat),.pointer (some ⟨bs.getD nd.l 0,0,none⟩),.pointer (none),.int .i64 k] 204):=by
  obtain⟨b',e,hh⟩:=hp k nd hn;rw[hbk]at e;cases e;rw[hh];simp[bO,kK,kI,hop,bF,bQ]
 have ib:=dB fV;have hcap:=di.cap;have Bh:=di.lt;have hlk:nd.l<k:=(dS hw hn).2.1 (by rw[hop];decide);have ql:=(aA1.1 hn).1;obtain⟨bl,dV,RX⟩:∃ bl,bs[nd.l]?=some bl/\w.heap[bl]?=some (bO bs nd.l ns[nd.l]):=hp nd.l _ (aAV (by omega));rw[show bs.getD nd.l 0=bl by simp[List.getD,dV]]at fV;obtain⟨i0,hi,aR,aP,aN⟩:=info_parts Tryz.eD;go_enter Tryz.func128,Tryz.ntmps128;go_wp2_with (at_make;go_must (refine aBA _ rfl (.tmp 15) (.tmp 15) 132 rfl w.heap.size 4 i0 (.bool false) 1 Tryz.underlying132 hi aR aP .i64 .i64 n n n rfl rfl rfl rfl ?m2 ?m3 (aAU _) ?_))
 case m2=>rw[aN];omega
 case m3=>unfold maxLen;omega
 intro w1 aF aZ;have eo:(madeCells #[Value.bool false] n).toList=List.replicate n (.bool false):=aBq _ _;rw[eo]at aF;have aM:Below w.heap.size w w1:=(aAW _ _).grown aZ (aAU _) (λk h=>by cases h);have hs1:w.heap.size<w1.heap.size:=(aF.lt _ rfl).2;have fO:w1.heap[b]?=some (.cells #[.int .u8 (33:Nat),.pointer (some ⟨bl,0,none⟩),.pointer (none),.int .i64 k] 204):=by rw[aM.block b ib];exact fV
 obtain⟨p0,p1,p2,_⟩:=aT fO;have aK:=hid aM;have O1:=hid aF;clear aF aZ eo aM;go_wp2_with fail;refine(yn _ bl (hp.below aK.out) (di.below aK.out) dV).mono ?_;rintro e w2 ⟨gl,fl,rfl,SL,kz,o6,ak⟩;have lm:=ak.size;have kW:w2.heap[b]?=_:=(ak.block b (by omega)).trans fO;clear p0 p1 p2;obtain⟨p0,p1,p2,_⟩:=aT kW;have aW:=hid (aK.out.trans (ak.mono (by omega)));have O2:=hid (O1.out.kept (row:=none) ⟨ak.os,ak.tape,ak.output,ak.size,λk hk _=>ak.block k hk⟩ (aA3 (by simp[Value.ownBlock])));have mi:=hid o6;have ug:=hid SL;clear ak O1 aK o6 SL;go_wp2_with fail;clear p0 p1 p2;have gq:=aW;have iP:Hid (w.heap.size<w2.heap.size):=hid (by omega);have mo:=hid kW;have OS:=O2;have SL:=ug.out;have jZ:=hid (by intro i hi;rw[iW hn hw];simp only[kZ,hop,Nat.reduceEqDiff,if_false,if_true];have:=SL i hi;unfold fA at this;rw[<-this];simp:∀ i,i<n->((λi=>!fl i) i=true↔fA (aU n back) (ltOf xs) ns k i));clear SL;have tY:=hid (di.below gq.out);obtain⟨f,fP⟩:∃ f:Nat->Bool,f=(λi=>!fl i):=⟨_,rfl⟩;rw[<-fP]at jZ;have jS:=hid fP;clear fP
 go_loopw [11] (λi wr=>∃ j:Nat,j<=n/\i=.int .i64 j/\wr.ownsRow w.heap.size 4 1 (.slice (some ⟨w.heap.size,0,none⟩) n n) n (ay f n j)/\w2.grownBy wr (some w.heap.size)) (λi _=>n - (intOf i).toNat)
 case atStart=>exact⟨0,aA8 _,rfl,by rw[dh];exact OS.out,World.grownBy.refl _ _⟩
 case round=>
  obtain⟨j,hj,rfl,own,bg⟩:=hrel;by_cases hlt:j<n
  ·have jc:wr.heap[b]?=_:=(bg.block b (by have:=iP.out;omega) (by simp;omega)).trans mo.out;obtain⟨p0,p1,p2,_⟩:=aT jc;have q0:=own.frozenAt j;have q1:(wr.cell? ⟨w.heap.size,j,none⟩).isSome=true:=by
    rw[own.cellAt j (by omega)];simp[ay,hlt]
   obtain⟨qv,q2⟩:=aBD.1 q1;have hO:=own.stored j (.bool (f j));rw[fB]at hO;have HO:=hid hO.1;have HG:=hid (fU bg hO.2);clear hO q1 own;have FV:Hid (f j=!fl j):=hid (by rw[jS.out]);have c:=(jd (o:=j) bg mi.out.lt (by omega)).trans (mi.out.cell j hlt);generalize fl j=x at *;clear bg jc;go_wp2_with fail;go_roundw
   case rel=>
    have o:=HO.out;have g:=HG.out;rw[FV.out]at g;exact⟨j+1,by omega,by go_num,by rw[FV.out]at o;exact o,g⟩
   case measure=>simp[intOf];omega
  ·have iB:j=n:=by omega
   rw[iB]at own;have RD:=hid (jD ns n back xs (k:=k) gq.out bg iP.out own jZ.out);clear own bg iB;go_wp2_with fail;go_ret;exact RD.out
theorem am8(hw:gZ ns)(fZ:xs.length=n)(hb:back<n)(iZ:n<=20000)(h8:∀ x∈xs,x<8)(k b:Nat)(nd:Nd)(hn:ns[k]?=some nd)(hop:nd.op=88)(yn:pU ns bs gw n dC back xs nd.l)(w:World)(hp:Parts w ns bs)(di:Wd w gw n dC xs)(hbk:bs[k]?=some b) :
  Calls Tryz.prog 128 #[.pointer (some ⟨b,0,none⟩),.slice (some ⟨gw,0,none⟩) n dC,.int .i64 back] w (jE ns n back xs k w):=by
 have fV:w.heap[b]?=some (.cells #[.int .u8 (88:Nat),.pointer (some ⟨bs.getD nd.l 0,0,none⟩),.pointer (none),.int .i64 k] 204):=by
  obtain⟨b',e,hh⟩:=hp k nd hn;rw[hbk]at e;cases e;rw[hh];simp[bO,kK,kI,hop,bF,bQ]
 have ib:=dB fV;have hcap:=di.cap;have Bh:=di.lt;have hlk:nd.l<k:=(dS hw hn).2.1 (by rw[hop];decide);have ql:=(aA1.1 hn).1;obtain⟨bl,dV,RX⟩:∃ bl,bs[nd.l]?=some bl/\w.heap[bl]?=some (bO bs nd.l ns[nd.l]):=hp nd.l _ (aAV (by omega));rw[show bs.getD nd.l 0=bl by simp[List.getD,dV]]at fV;obtain⟨i0,hi,aR,aP,aN⟩:=info_parts Tryz.eD;go_enter Tryz.func128,Tryz.ntmps128;go_wp2_with (at_make;go_must (refine aBA _ rfl (.tmp 15) (.tmp 15) 132 rfl w.heap.size 4 i0 (.bool false) 1 Tryz.underlying132 hi aR aP .i64 .i64 n n n rfl rfl rfl rfl ?m2 ?m3 (aAU _) ?_))
 case m2=>rw[aN];omega
 case m3=>unfold maxLen;omega
 intro w1 aF aZ;have eo:(madeCells #[Value.bool false] n).toList=List.replicate n (.bool false):=aBq _ _;rw[eo]at aF;have aM:Below w.heap.size w w1:=(aAW _ _).grown aZ (aAU _) (λk h=>by cases h);have hs1:w.heap.size<w1.heap.size:=(aF.lt _ rfl).2;have fO:w1.heap[b]?=some (.cells #[.int .u8 (88:Nat),.pointer (some ⟨bl,0,none⟩),.pointer (none),.int .i64 k] 204):=by rw[aM.block b ib];exact fV
 obtain⟨p0,p1,p2,_⟩:=aT fO;have aK:=hid aM;have O1:=hid aF;clear aF aZ eo aM;go_wp2_with fail;refine(yn _ bl (hp.below aK.out) (di.below aK.out) dV).mono ?_;rintro e w2 ⟨gl,fl,rfl,SL,kz,o6,ak⟩;have lm:=ak.size;have kW:w2.heap[b]?=_:=(ak.block b (by omega)).trans fO;clear p0 p1 p2;obtain⟨p0,p1,p2,_⟩:=aT kW;have aW:=hid (aK.out.trans (ak.mono (by omega)));have O2:=hid (O1.out.kept (row:=none) ⟨ak.os,ak.tape,ak.output,ak.size,λk hk _=>ak.block k hk⟩ (aA3 (by simp[Value.ownBlock])));have mi:=hid o6;have ug:=hid SL;clear ak O1 aK o6 SL;go_wp2_with fail;clear p0 p1 p2;have gq:=aW;have iP:Hid (w.heap.size<w2.heap.size):=hid (by omega);have mo:=hid kW;have OS:=O2;have SL:=ug.out;have jZ:=hid (by intro i hi;rw[iW hn hw];simp only[kZ,hop,Nat.reduceEqDiff,if_false,if_true];exact SL _ (Rn hb):∀ i,i<n->((λi=>fl (aU n back i)) i=true↔fA (aU n back) (ltOf xs) ns k i));clear SL;have tY:=hid (di.below gq.out);obtain⟨f,fP⟩:∃ f:Nat->Bool,f=(λi=>fl (aU n back i)):=⟨_,rfl⟩;rw[<-fP]at jZ;have jS:=hid fP;clear fP
 go_loopw [11] (λi wr=>∃ j:Nat,j<=n/\i=.int .i64 j/\wr.ownsRow w.heap.size 4 1 (.slice (some ⟨w.heap.size,0,none⟩) n n) n (ay f n j)/\w2.grownBy wr (some w.heap.size)) (λi _=>n - (intOf i).toNat)
 case atStart=>exact⟨0,aA8 _,rfl,by rw[dh];exact OS.out,World.grownBy.refl _ _⟩
 case round=>
  obtain⟨j,hj,rfl,own,bg⟩:=hrel;by_cases hlt:j<n
  ·have jc:wr.heap[b]?=_:=(bg.block b (by have:=iP.out;omega) (by simp;omega)).trans mo.out;obtain⟨p0,p1,p2,_⟩:=aT jc;have q0:=own.frozenAt j;have q1:(wr.cell? ⟨w.heap.size,j,none⟩).isSome=true:=by
    rw[own.cellAt j (by omega)];simp[ay,hlt]
   obtain⟨qv,q2⟩:=aBD.1 q1;have hO:=own.stored j (.bool (f j));rw[fB]at hO;have HO:=hid hO.1;have HG:=hid (fU bg hO.2);clear hO q1 own;clear jc;by_cases he:j+1=n
   ·have FV:Hid (f j=fl back):=hid (by rw[jS.out];show fl (aU n back j)=_;unfold aU;rw[aBT (by omega)]);have c:=(jd (o:=back) bg mi.out.lt (by omega)).trans (mi.out.cell back hb);have ke:((j:Int)+1==(n:Int))=true:=beq_iff_eq.2 (by omega);generalize fl back=x at *;clear bg he;go_wp2_with fail;go_roundw
    case rel=>
     have o:=HO.out;have g:=HG.out;rw[FV.out]at g;exact⟨j+1,by omega,by go_num,by rw[FV.out]at o;exact o,g⟩
    case measure=>simp[intOf];omega
   ·have FV:Hid (f j=fl (j+1)):=hid (by rw[jS.out];show fl (aU n back j)=_;unfold aU;rw[aBU (by omega)]);have c:=(jd (o:=j+1) bg mi.out.lt (by omega)).trans (mi.out.cell (j+1) (by omega));have ke:((j:Int)+1==(n:Int))=false:=aA6.2 (by omega);generalize fl (j+1)=x at *;have Oi:j+1<n:=by omega
    clear bg he;go_wp2_with fail;go_roundw
    case rel=>
     have o:=HO.out;have g:=HG.out;rw[FV.out]at g;exact⟨j+1,by omega,by go_num,by rw[FV.out]at o;exact o,g⟩
    case measure=>simp[intOf];omega
  ·have iB:j=n:=by omega
   rw[iB]at own;have RD:=hid (jD ns n back xs (k:=k) gq.out bg iP.out own jZ.out);clear own bg iB;go_wp2_with fail;go_ret;exact RD.out
theorem anc(hw:gZ ns)(fZ:xs.length=n)(hb:back<n)(iZ:n<=20000)(h8:∀ x∈xs,x<8)(k b:Nat)(nd:Nd)(hn:ns[k]?=some nd)(hop:nd.op=70)(yn:pU ns bs gw n dC back xs nd.l)(w:World)(hp:Parts w ns bs)(di:Wd w gw n dC xs)(hbk:bs[k]?=some b) :
  Calls Tryz.prog 128 #[.pointer (some ⟨b,0,none⟩),.slice (some ⟨gw,0,none⟩) n dC,.int .i64 back] w (jE ns n back xs k w):=by
 have fV:w.heap[b]?=some (.cells #[.int .u8 (70:Nat),.pointer (some ⟨bs.getD nd.l 0,0,none⟩),.pointer (none),.int .i64 k] 204):=by
  obtain⟨b',e,hh⟩:=hp k nd hn;rw[hbk]at e;cases e;rw[hh];simp[bO,kK,kI,hop,bF,bQ]
 have ib:=dB fV;have hcap:=di.cap;have Bh:=di.lt;have hlk:nd.l<k:=(dS hw hn).2.1 (by rw[hop];decide);have ql:=(aA1.1 hn).1;obtain⟨bl,dV,RX⟩:∃ bl,bs[nd.l]?=some bl/\w.heap[bl]?=some (bO bs nd.l ns[nd.l]):=hp nd.l _ (aAV (by omega));rw[show bs.getD nd.l 0=bl by simp[List.getD,dV]]at fV;obtain⟨i0,hi,aR,aP,aN⟩:=info_parts Tryz.eD;go_enter Tryz.func128,Tryz.ntmps128;go_wp2_with (at_make;go_must (refine aBA _ rfl (.tmp 15) (.tmp 15) 132 rfl w.heap.size 4 i0 (.bool false) 1 Tryz.underlying132 hi aR aP .i64 .i64 n n n rfl rfl rfl rfl ?m2 ?m3 (aAU _) ?_))
 case m2=>rw[aN];omega
 case m3=>unfold maxLen;omega
 intro w1 aF aZ;have eo:(madeCells #[Value.bool false] n).toList=List.replicate n (.bool false):=aBq _ _;rw[eo]at aF;have aM:Below w.heap.size w w1:=(aAW _ _).grown aZ (aAU _) (λk h=>by cases h);have hs1:w.heap.size<w1.heap.size:=(aF.lt _ rfl).2;have fO:w1.heap[b]?=some (.cells #[.int .u8 (70:Nat),.pointer (some ⟨bl,0,none⟩),.pointer (none),.int .i64 k] 204):=by rw[aM.block b ib];exact fV
 obtain⟨p0,p1,p2,_⟩:=aT fO;have aK:=hid aM;have O1:=hid aF;clear aF aZ eo aM;go_wp2_with fail;refine(yn _ bl (hp.below aK.out) (di.below aK.out) dV).mono ?_;rintro e w2 ⟨gl,fl,rfl,SL,kz,o6,ak⟩;have lm:=ak.size;have kW:w2.heap[b]?=_:=(ak.block b (by omega)).trans fO;clear p0 p1 p2;obtain⟨p0,p1,p2,_⟩:=aT kW;have aW:=hid (aK.out.trans (ak.mono (by omega)));have O2:=hid (O1.out.kept (row:=none) ⟨ak.os,ak.tape,ak.output,ak.size,λk hk _=>ak.block k hk⟩ (aA3 (by simp[Value.ownBlock])));have mi:=hid o6;have ug:=hid SL;clear ak O1 aK o6 SL;go_wp2_with fail;clear p0 p1 p2;have gq:=aW;have iP:Hid (w.heap.size<w2.heap.size):=hid (by omega);have mo:=hid kW;have OS:=O2;have SL:=ug.out;have jZ:=hid (by intro i hi;rw[iW hn hw,asx hb _ _ i hi];simp only[kZ,hop,Nat.reduceEqDiff,if_false,if_true];exact exists_congr λs=>SL _ (kL hb s i hi):∀ i,i<n->((λi=>al 70 fl fl (aU n back) (n+1) i) i=true↔fA (aU n back) (ltOf xs) ns k i));clear SL;have tY:=hid (di.below gq.out);obtain⟨f,fP⟩:∃ f:Nat->Bool,f=(λi=>al 70 fl fl (aU n back) (n+1) i):=⟨_,rfl⟩;rw[<-fP]at jZ;have jS:=hid fP;clear fP
 go_loopw [11] (λi wr=>∃ j:Nat,j<=n/\i=.int .i64 j/\wr.ownsRow w.heap.size 4 1 (.slice (some ⟨w.heap.size,0,none⟩) n n) n (ay f n j)/\w2.grownBy wr (some w.heap.size)) (λi _=>n - (intOf i).toNat)
 case atStart=>exact⟨0,aA8 _,rfl,by rw[dh];exact OS.out,World.grownBy.refl _ _⟩
 case round=>
  obtain⟨j,hj,rfl,own,bg⟩:=hrel;by_cases hlt:j<n
  ·have jc:wr.heap[b]?=_:=(bg.block b (by have:=iP.out;omega) (by simp;omega)).trans mo.out;obtain⟨p0,p1,p2,_⟩:=aT jc;have q0:=own.frozenAt j;have q1:(wr.cell? ⟨w.heap.size,j,none⟩).isSome=true:=by
    rw[own.cellAt j (by omega)];simp[ay,hlt]
   obtain⟨qv,q2⟩:=aBD.1 q1;have hO:=own.stored j (.bool (f j));rw[fB]at hO;have HO:=hid hO.1;have HG:=hid (fU bg hO.2);clear hO q1 own;have FV:Hid (f j=al 70 fl fl (aU n back) (n+1) j):=hid (by rw[jS.out]);have RL:=mi.out.grown bg (by omega);have AL:=aiE gl n j back (.slice none 0 0) fl fl _ RL hlt hb iZ;generalize al 70 fl fl (aU n back) (n+1) j=x at *;clear bg jc;go_wp2_with fail;refine AL.mono ?_;rintro e w' ⟨rfl,rfl⟩;clear AL;go_wp2_with fail;go_roundw
   case rel=>
    have o:=HO.out;have g:=HG.out;rw[FV.out]at g;exact⟨j+1,by omega,by go_num,by rw[FV.out]at o;exact o,g⟩
   case measure=>simp[intOf];omega
  ·have iB:j=n:=by omega
   rw[iB]at own;have RD:=hid (jD ns n back xs (k:=k) gq.out bg iP.out own jZ.out);clear own bg iB;go_wp2_with fail;go_ret;exact RD.out
theorem anb(hw:gZ ns)(fZ:xs.length=n)(hb:back<n)(iZ:n<=20000)(h8:∀ x∈xs,x<8)(k b:Nat)(nd:Nd)(hn:ns[k]?=some nd)(hop:nd.op=71)(yn:pU ns bs gw n dC back xs nd.l)(w:World)(hp:Parts w ns bs)(di:Wd w gw n dC xs)(hbk:bs[k]?=some b) :
  Calls Tryz.prog 128 #[.pointer (some ⟨b,0,none⟩),.slice (some ⟨gw,0,none⟩) n dC,.int .i64 back] w (jE ns n back xs k w):=by
 have fV:w.heap[b]?=some (.cells #[.int .u8 (71:Nat),.pointer (some ⟨bs.getD nd.l 0,0,none⟩),.pointer (none),.int .i64 k] 204):=by
  obtain⟨b',e,hh⟩:=hp k nd hn;rw[hbk]at e;cases e;rw[hh];simp[bO,kK,kI,hop,bF,bQ]
 have ib:=dB fV;have hcap:=di.cap;have Bh:=di.lt;have hlk:nd.l<k:=(dS hw hn).2.1 (by rw[hop];decide);have ql:=(aA1.1 hn).1;obtain⟨bl,dV,RX⟩:∃ bl,bs[nd.l]?=some bl/\w.heap[bl]?=some (bO bs nd.l ns[nd.l]):=hp nd.l _ (aAV (by omega));rw[show bs.getD nd.l 0=bl by simp[List.getD,dV]]at fV;obtain⟨i0,hi,aR,aP,aN⟩:=info_parts Tryz.eD;go_enter Tryz.func128,Tryz.ntmps128;go_wp2_with (at_make;go_must (refine aBA _ rfl (.tmp 15) (.tmp 15) 132 rfl w.heap.size 4 i0 (.bool false) 1 Tryz.underlying132 hi aR aP .i64 .i64 n n n rfl rfl rfl rfl ?m2 ?m3 (aAU _) ?_))
 case m2=>rw[aN];omega
 case m3=>unfold maxLen;omega
 intro w1 aF aZ;have eo:(madeCells #[Value.bool false] n).toList=List.replicate n (.bool false):=aBq _ _;rw[eo]at aF;have aM:Below w.heap.size w w1:=(aAW _ _).grown aZ (aAU _) (λk h=>by cases h);have hs1:w.heap.size<w1.heap.size:=(aF.lt _ rfl).2;have fO:w1.heap[b]?=some (.cells #[.int .u8 (71:Nat),.pointer (some ⟨bl,0,none⟩),.pointer (none),.int .i64 k] 204):=by rw[aM.block b ib];exact fV
 obtain⟨p0,p1,p2,_⟩:=aT fO;have aK:=hid aM;have O1:=hid aF;clear aF aZ eo aM;go_wp2_with fail;refine(yn _ bl (hp.below aK.out) (di.below aK.out) dV).mono ?_;rintro e w2 ⟨gl,fl,rfl,SL,kz,o6,ak⟩;have lm:=ak.size;have kW:w2.heap[b]?=_:=(ak.block b (by omega)).trans fO;clear p0 p1 p2;obtain⟨p0,p1,p2,_⟩:=aT kW;have aW:=hid (aK.out.trans (ak.mono (by omega)));have O2:=hid (O1.out.kept (row:=none) ⟨ak.os,ak.tape,ak.output,ak.size,λk hk _=>ak.block k hk⟩ (aA3 (by simp[Value.ownBlock])));have mi:=hid o6;have ug:=hid SL;clear ak O1 aK o6 SL;go_wp2_with fail;clear p0 p1 p2;have gq:=aW;have iP:Hid (w.heap.size<w2.heap.size):=hid (by omega);have mo:=hid kW;have OS:=O2;have SL:=ug.out;have jZ:=hid (by intro i hi;rw[iW hn hw,asw hb _ _ i hi];simp only[kZ,hop,Nat.reduceEqDiff,if_false,if_true];exact forall_congr' λs=>SL _ (kL hb s i hi):∀ i,i<n->((λi=>al 71 fl fl (aU n back) (n+1) i) i=true↔fA (aU n back) (ltOf xs) ns k i));clear SL;have tY:=hid (di.below gq.out);obtain⟨f,fP⟩:∃ f:Nat->Bool,f=(λi=>al 71 fl fl (aU n back) (n+1) i):=⟨_,rfl⟩;rw[<-fP]at jZ;have jS:=hid fP;clear fP
 go_loopw [11] (λi wr=>∃ j:Nat,j<=n/\i=.int .i64 j/\wr.ownsRow w.heap.size 4 1 (.slice (some ⟨w.heap.size,0,none⟩) n n) n (ay f n j)/\w2.grownBy wr (some w.heap.size)) (λi _=>n - (intOf i).toNat)
 case atStart=>exact⟨0,aA8 _,rfl,by rw[dh];exact OS.out,World.grownBy.refl _ _⟩
 case round=>
  obtain⟨j,hj,rfl,own,bg⟩:=hrel;by_cases hlt:j<n
  ·have jc:wr.heap[b]?=_:=(bg.block b (by have:=iP.out;omega) (by simp;omega)).trans mo.out;obtain⟨p0,p1,p2,_⟩:=aT jc;have q0:=own.frozenAt j;have q1:(wr.cell? ⟨w.heap.size,j,none⟩).isSome=true:=by
    rw[own.cellAt j (by omega)];simp[ay,hlt]
   obtain⟨qv,q2⟩:=aBD.1 q1;have hO:=own.stored j (.bool (f j));rw[fB]at hO;have HO:=hid hO.1;have HG:=hid (fU bg hO.2);clear hO q1 own;have FV:Hid (f j=al 71 fl fl (aU n back) (n+1) j):=hid (by rw[jS.out]);have RL:=mi.out.grown bg (by omega);have AL:=aiD gl n j back (.slice none 0 0) fl fl _ RL hlt hb iZ;generalize al 71 fl fl (aU n back) (n+1) j=x at *;clear bg jc;go_wp2_with fail;refine AL.mono ?_;rintro e w' ⟨rfl,rfl⟩;clear AL;go_wp2_with fail;go_roundw
   case rel=>
    have o:=HO.out;have g:=HG.out;rw[FV.out]at g;exact⟨j+1,by omega,by go_num,by rw[FV.out]at o;exact o,g⟩
   case measure=>simp[intOf];omega
  ·have iB:j=n:=by omega
   rw[iB]at own;have RD:=hid (jD ns n back xs (k:=k) gq.out bg iP.out own jZ.out);clear own bg iB;go_wp2_with fail;go_ret;exact RD.out
end
