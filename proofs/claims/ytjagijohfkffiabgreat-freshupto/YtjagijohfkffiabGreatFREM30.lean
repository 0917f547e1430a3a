import Derived.Test.YtjagijohfkffiabGreatFREM27
import Derived.Test.YtjagijohfkffiabGreatFREM28
import Derived.Test.YtjagijohfkffiabGreatFREM29
set_option maxHeartbeats 16000000
set_option maxRecDepth 100000
set_option linter.unusedSimpArgs false
namespace Go.Proofs.YtjagijohfkffiabGreat
open Go.RowKit
set_option linter.unusedVariables false
theorem acP{w1:World}{F P L R b c k:Nat}{n1:List Nd}{bs:List Nat}(hf:Fm w1 F n1 bs)(hP:w1.heap[P]?=some (.cells #[.int .u8 c,.pointer none,.pointer none,.int .i64 0] 204 (0,0)))
  (Bn:P ∉ bs) (Fu:P≠F) (hL:bs[k]?=some L) (hR:bs[n1.length - 1]?=some R) (hb:bQ b=true) :
  Fm ((((w1.setCell ⟨P,0,none⟩ (.int .u8 b)).setCell ⟨P,1,none⟩ (.pointer (some ⟨L,0,none⟩))).setCell ⟨P,2,none⟩ (.pointer (some ⟨R,0,none⟩))).setCell ⟨P,3,none⟩ (.int .i64 n1.length)) F n1 bs /\
  ((((w1.setCell ⟨P,0,none⟩ (.int .u8 b)).setCell ⟨P,1,none⟩ (.pointer (some ⟨L,0,none⟩))).setCell ⟨P,2,none⟩ (.pointer (some ⟨R,0,none⟩))).setCell ⟨P,3,none⟩ (.int .i64 n1.length)).heap[P]?=some (bO bs n1.length ⟨b,k,n1.length - 1⟩) /\
  ∀ v n xs,w1.ownsRow (F+1) 127 1 v n xs->((((w1.setCell ⟨P,0,none⟩ (.int .u8 b)).setCell ⟨P,1,none⟩ (.pointer (some ⟨L,0,none⟩))).setCell ⟨P,2,none⟩ (.pointer (some ⟨R,0,none⟩))).setCell ⟨P,3,none⟩ (.int .i64 n1.length)).ownsRow (F+1) 127 1 v n xs:=by
 have h0:=heap_setCell_same w1 P 0 _ _ (.int .u8 b) hP;have h1:=heap_setCell_same _ P 1 _ _ (.pointer (some ⟨L,0,none⟩)) h0;have h2:=heap_setCell_same _ P 2 _ _ (.pointer (some ⟨R,0,none⟩)) h1;have h3:=heap_setCell_same _ P 3 _ _ (.int .i64 n1.length) h2;have f0:=hf.set Bn Fu hP lw 0 (.int .u8 b);have f1:=f0.set Bn Fu h0 lw 1 (.pointer (some ⟨L,0,none⟩));have f2:=f1.set Bn Fu h1 lw 2 (.pointer (some ⟨R,0,none⟩));refine⟨f2.set Bn Fu h2 lw 3 _,h3.trans ?_,?_⟩
 ·simp[bO,kK,kI,l8 hb,hb,List.getD,hL,hR]
 ·intro v n xs own;exact uy (uy (uy (uy own hP lw 0 _) h0 lw 1 _) h1 lw 2 _) h2 lw 3 _
theorem JN(k F:Nat)(s:ByteArray)(hs:s.size<=24)(H:pg k F s)(a:Nat)(ns:List Nd)(bs:List Nat)(w:World)(hf:Fm w F ns bs)(hk:s.size<a+(k+1))(hn:ns.length<=a)(hb:bt s a=40)(e0:ps k s (a+1) ns=none):Calls Tryz.prog 72 #[.pointer (some ⟨F,0,none⟩),.string s,.int .i64 a] w (Io (ps (k+1) s a ns) F a bs w):=by
   have hlt:=jv (s:=s) (i:=a) (by omega);have e1:=hid (oK (k:=k) (ns:=ns) hb);have ak:(s[a]'hlt).toNat=40:=(gL hlt).symm.trans hb;have hF:=hf.r9;have C:=λW (h:Fm W F ns bs)=>H (a+1) (a+1) ns bs W (by omega) h (by omega) (by omega) (by omega);have e2:Hid (ps (k+1) s a ns=none):=hid (by rw[e1.out];simp[ps2,e0]);have E0:=hid e0;clear e0 hb;go_enter Tryz.func72,Tryz.ntmps72;go_wp2_with fail;refine(C _ (hf.alloc _)).mono ?_;rintro e w1 (⟨_,rfl,dV⟩ | ⟨a',d9,_,_,h,_⟩)
   ·go_wp2_with fail
    go_ret3
    exact aA2 ⟨e2.out,rfl,((aAW F w).alloc (by omega) _).trans dV⟩
   ·rw[E0.out]at h;cases h
theorem JM(k F:Nat)(s:ByteArray)(hs:s.size<=24)(H:pg k F s)(a:Nat)(ns:List Nd)(bs:List Nat)(w:World)(hf:Fm w F ns bs)(hk:s.size<a+(k+1))(hn:ns.length<=a)(hb:bt s a=40)(a1:Nat)(n1:List Nd)(e0:ps k s (a+1) ns=some (a1,n1))(b4:bQ (bt s a1)=false):Calls Tryz.prog 72 #[.pointer (some ⟨F,0,none⟩),.string s,.int .i64 a] w (Io (ps (k+1) s a ns) F a bs w):=by
   have hlt:=jv (s:=s) (i:=a) (by omega);have e1:=hid (oK (k:=k) (ns:=ns) hb);have ak:(s[a]'hlt).toNat=40:=(gL hlt).symm.trans hb;have hF:=hf.r9;have g1:=eU k s _ ns a1 n1 e0;have C:=λW (h:Fm W F ns bs)=>H (a+1) (a+1) ns bs W (by omega) h (by omega) (by omega) (by omega);have e2:Hid (ps (k+1) s a ns=none):=hid (by rw[e1.out];simp[ps2,e0,b4]);have E0:=hid e0;clear e0 hb;by_cases hl:a1<s.size
   ·have hx:=gL hl;have k38:(((s[a1]'hl).toNat:Int) !=38)=true:=by rw[bne_iff_ne];intro h;rw[hx,show (s[a1]'hl).toNat=38 by omega]at b4;revert b4;decide
    have arx:(((s[a1]'hl).toNat:Int) !=124)=true:=by rw[bne_iff_ne];intro h;rw[hx,show (s[a1]'hl).toNat=124 by omega]at b4;revert b4;decide
    have k85:(((s[a1]'hl).toNat:Int) !=85)=true:=by rw[bne_iff_ne];intro h;rw[hx,show (s[a1]'hl).toNat=85 by omega]at b4;revert b4;decide
    have k82:(((s[a1]'hl).toNat:Int) !=82)=true:=by rw[bne_iff_ne];intro h;rw[hx,show (s[a1]'hl).toNat=82 by omega]at b4;revert b4;decide
    have hd:decide ((s.size:Int)<=(a1:Int))=false:=by simp;omega
    clear hx b4;go_enter Tryz.func72,Tryz.ntmps72;go_wp2_with fail;refine(C _ (hf.alloc _)).mono ?_;rintro e w1 (⟨h,_⟩ | ⟨a',d9,ext,L,h,rfl,kX,hL,uE,dV,Bf⟩)
    ·rw[E0.out]at h;cases h
    rw[E0.out]at h;simp only[aBu,aBH]at h;obtain⟨rfl,rfl⟩:=h;go_wp2_with fail
    go_ret3
    exact aA2 ⟨e2.out,rfl,((aAW F w).alloc (by omega) _).trans dV⟩
   ·have hd:decide ((s.size:Int)<=(a1:Int))=true:=by simp;omega
    clear b4;go_enter Tryz.func72,Tryz.ntmps72;go_wp2_with fail;refine(C _ (hf.alloc _)).mono ?_;rintro e w1 (⟨h,_⟩ | ⟨a',d9,ext,L,h,rfl,kX,hL,uE,dV,Bf⟩)
    ·rw[E0.out]at h;cases h
    rw[E0.out]at h;simp only[aBu,aBH]at h;obtain⟨rfl,rfl⟩:=h;go_wp2_with fail
    go_ret3
    exact aA2 ⟨e2.out,rfl,((aAW F w).alloc (by omega) _).trans dV⟩
theorem IP(k F:Nat)(s:ByteArray)(hs:s.size<=24)(H:pg k F s)(a:Nat)(ns:List Nd)(bs:List Nat)(w:World)(hf:Fm w F ns bs)(hk:s.size<a+(k+1))(hn:ns.length<=a)(hb:bt s a=40)(a1:Nat)(n1:List Nd)(e0:ps k s (a+1) ns=some (a1,n1))(b4:bQ (bt s a1)=true)(e3:ps k s (a1+1) n1=none):Calls Tryz.prog 72 #[.pointer (some ⟨F,0,none⟩),.string s,.int .i64 a] w (Io (ps (k+1) s a ns) F a bs w):=by
  have hlt:=jv (s:=s) (i:=a) (by omega);have iw:=jv (AA b4);have hd:decide ((s.size:Int)<=(a1:Int))=false:=by simp;omega
  have e1:=hid (oK (k:=k) (ns:=ns) hb);have ak:(s[a]'hlt).toNat=40:=(gL hlt).symm.trans hb;have eH:(s[a1]'iw).toNat=bt s a1:=(gL iw).symm;have hF:=hf.r9;have g1:=eU k s _ ns a1 n1 e0;have C:=λW (h:Fm W F ns bs)=>H (a+1) (a+1) ns bs W (by omega) h (by omega) (by omega) (by omega);have e2:Hid (ps (k+1) s a ns=none):=hid (by rw[e1.out];simp[ps2,e0,b4,e3]);have E0:=hid e0;have E3:=hid e3;have hB:=ky b4;clear e0 hb b4 e3;generalize bt s a1=b at *;rcases hB with rfl | rfl | rfl | rfl
  all_goals
   go_enter Tryz.func72,Tryz.ntmps72;go_wp2_with fail;refine(C _ (hf.alloc _)).mono ?_;rintro e w1 (⟨h,_⟩ | ⟨a',d9,ext,L,h,rfl,kX,hL,uE,dV,Bf⟩)
   ·rw[E0.out]at h;cases h
   rw[E0.out]at h;simp only[aBu,aBH]at h;obtain⟨rfl,rfl⟩:=h;obtain⟨lS,kC⟩:∃ lS,lS=bs++ext:=⟨_,rfl⟩;rw[<-kC]at kX hL;have gq:=hid kC;clear kC;have C2:=H (a1+1) (a1+1) n1 lS w1 (by omega) kX (by omega) (by omega) (by omega);go_wp2_with fail;refine C2.mono ?_;rintro e w2 (⟨_,rfl,Fg⟩ | ⟨a',d9,_,_,h,_⟩)
   ·go_wp2_with fail
    go_ret3
    exact aA2 ⟨e2.out,rfl,(((aAW F w).alloc (by omega) _).trans dV).trans Fg⟩
   ·rw[E3.out]at h;cases h
theorem JL(k F:Nat)(s:ByteArray)(hs:s.size<=24)(H:pg k F s)(a:Nat)(ns:List Nd)(bs:List Nat)(w:World)(hf:Fm w F ns bs)(hk:s.size<a+(k+1))(hn:ns.length<=a)(hb:bt s a=40)(a1 a2:Nat)(n1 n2:List Nd)(e0:ps k s (a+1) ns=some (a1,n1))(b4:bQ (bt s a1)=true)(e3:ps k s (a1+1) n1=some (a2,n2))(b5:¬ bt s a2=41)(hl:a2<s.size):Calls Tryz.prog 72 #[.pointer (some ⟨F,0,none⟩),.string s,.int .i64 a] w (Io (ps (k+1) s a ns) F a bs w):=by
  have hlt:=jv (s:=s) (i:=a) (by omega);have iw:=jv (AA b4);have hd:decide ((s.size:Int)<=(a1:Int))=false:=by simp;omega
  have e1:=hid (oK (k:=k) (ns:=ns) hb);have ak:(s[a]'hlt).toNat=40:=(gL hlt).symm.trans hb;have eH:(s[a1]'iw).toNat=bt s a1:=(gL iw).symm;have hF:=hf.r9;have g1:=eU k s _ ns a1 n1 e0;have g2:=eU k s _ n1 a2 n2 e3;have C:=λW (h:Fm W F ns bs)=>H (a+1) (a+1) ns bs W (by omega) h (by omega) (by omega) (by omega);have e2:Hid (ps (k+1) s a ns=none):=hid (by rw[e1.out];simp[ps2,e0,b4,e3,b5]);have E0:=hid e0;have E3:=hid e3;have hB:=ky b4;have bV:a2<s.size->bt s a2≠41:=λ_=>b5;clear e0 hb b4 e3 b5;generalize bt s a1=b at *;have hx:=gL hl;have k41:(((s[a2]'hl).toNat:Int) !=41)=true:=by rw[bne_iff_ne];have:=bV hl;omega
  have hd2:decide ((s.size:Int)<=(a2:Int))=false:=by simp;omega
  clear hx bV;rcases hB with rfl | rfl | rfl | rfl
  all_goals
   go_enter Tryz.func72,Tryz.ntmps72;go_wp2_with fail;refine(C _ (hf.alloc _)).mono ?_;rintro e w1 (⟨h,_⟩ | ⟨a',d9,ext,L,h,rfl,kX,hL,uE,dV,Bf⟩)
   ·rw[E0.out]at h;cases h
   rw[E0.out]at h;simp only[aBu,aBH]at h;obtain⟨rfl,rfl⟩:=h;obtain⟨lS,kC⟩:∃ lS,lS=bs++ext:=⟨_,rfl⟩;rw[<-kC]at kX hL;have gq:=hid kC;clear kC;have C2:=H (a1+1) (a1+1) n1 lS w1 (by omega) kX (by omega) (by omega) (by omega);go_wp2_with fail;refine C2.mono ?_;rintro e w2 (⟨h,_⟩ | ⟨a',d9,MH,R,h,rfl,Bl,hR,Qi,Fg,Yz⟩)
   ·rw[E3.out]at h;cases h
   rw[E3.out]at h;simp only[aBu,aBH]at h;obtain⟨rfl,rfl⟩:=h;go_wp2_with fail
   go_ret3
   exact aA2 ⟨e2.out,rfl,(((aAW F w).alloc (by omega) _).trans dV).trans Fg⟩
theorem Ma(k F:Nat)(s:ByteArray)(hs:s.size<=24)(H:pg k F s)(a:Nat)(ns:List Nd)(bs:List Nat)(w:World)(hf:Fm w F ns bs)(hk:s.size<a+(k+1))(hn:ns.length<=a)(hb:bt s a=40)(a1 a2:Nat)(n1 n2:List Nd)(e0:ps k s (a+1) ns=some (a1,n1))(b4:bQ (bt s a1)=true)(e3:ps k s (a1+1) n1=some (a2,n2))(b5:¬ bt s a2=41)(hl:¬ a2<s.size):Calls Tryz.prog 72 #[.pointer (some ⟨F,0,none⟩),.string s,.int .i64 a] w (Io (ps (k+1) s a ns) F a bs w):=by
  have hlt:=jv (s:=s) (i:=a) (by omega);have iw:=jv (AA b4);have hd:decide ((s.size:Int)<=(a1:Int))=false:=by simp;omega
  have e1:=hid (oK (k:=k) (ns:=ns) hb);have ak:(s[a]'hlt).toNat=40:=(gL hlt).symm.trans hb;have eH:(s[a1]'iw).toNat=bt s a1:=(gL iw).symm;have hF:=hf.r9;have g1:=eU k s _ ns a1 n1 e0;have g2:=eU k s _ n1 a2 n2 e3;have C:=λW (h:Fm W F ns bs)=>H (a+1) (a+1) ns bs W (by omega) h (by omega) (by omega) (by omega);have e2:Hid (ps (k+1) s a ns=none):=hid (by rw[e1.out];simp[ps2,e0,b4,e3,b5]);have E0:=hid e0;have E3:=hid e3;have hB:=ky b4;have bV:a2<s.size->bt s a2≠41:=λ_=>b5;clear e0 hb b4 e3 b5;generalize bt s a1=b at *;have hd2:decide ((s.size:Int)<=(a2:Int))=true:=by simp;omega
  clear bV;rcases hB with rfl | rfl | rfl | rfl
  all_goals
   go_enter Tryz.func72,Tryz.ntmps72;go_wp2_with fail;refine(C _ (hf.alloc _)).mono ?_;rintro e w1 (⟨h,_⟩ | ⟨a',d9,ext,L,h,rfl,kX,hL,uE,dV,Bf⟩)
   ·rw[E0.out]at h;cases h
   rw[E0.out]at h;simp only[aBu,aBH]at h;obtain⟨rfl,rfl⟩:=h;obtain⟨lS,kC⟩:∃ lS,lS=bs++ext:=⟨_,rfl⟩;rw[<-kC]at kX hL;have gq:=hid kC;clear kC;have C2:=H (a1+1) (a1+1) n1 lS w1 (by omega) kX (by omega) (by omega) (by omega);go_wp2_with fail;refine C2.mono ?_;rintro e w2 (⟨h,_⟩ | ⟨a',d9,MH,R,h,rfl,Bl,hR,Qi,Fg,Yz⟩)
   ·rw[E3.out]at h;cases h
   rw[E3.out]at h;simp only[aBu,aBH]at h;obtain⟨rfl,rfl⟩:=h;go_wp2_with fail
   go_ret3
   exact aA2 ⟨e2.out,rfl,(((aAW F w).alloc (by omega) _).trans dV).trans Fg⟩
theorem LZ(k F:Nat)(s:ByteArray)(hs:s.size<=24)(H:pg k F s)(a:Nat)(ns:List Nd)(bs:List Nat)(w:World)(hf:Fm w F ns bs)(hk:s.size<a+(k+1))(hn:ns.length<=a)(hb:bt s a=40)(a1 a2:Nat)(n1 n2:List Nd)(e0:ps k s (a+1) ns=some (a1,n1))(b4:bQ (bt s a1)=true)(e3:ps k s (a1+1) n1=some (a2,n2))(b5:bt s a2=41):Calls Tryz.prog 72 #[.pointer (some ⟨F,0,none⟩),.string s,.int .i64 a] w (Io (ps (k+1) s a ns) F a bs w):=by
  have hlt:=jv (s:=s) (i:=a) (by omega);have iw:=jv (AA b4);have gu:=jv (s:=s) (i:=a2) (by omega);have hd:decide ((s.size:Int)<=(a1:Int))=false:=by simp;omega
  have hd2:decide ((s.size:Int)<=(a2:Int))=false:=by simp;omega
  have e1:=hid (oK (k:=k) (ns:=ns) hb);have ak:(s[a]'hlt).toNat=40:=(gL hlt).symm.trans hb;have eH:(s[a1]'iw).toNat=bt s a1:=(gL iw).symm;have bV:(s[a2]'gu).toNat=41:=(gL gu).symm.trans b5;have hF:=hf.r9;have g1:=eU k s _ ns a1 n1 e0;have g2:=eU k s _ n1 a2 n2 e3;have C:=λW (h:Fm W F ns bs)=>H (a+1) (a+1) ns bs W (by omega) h (by omega) (by omega) (by omega);have e2:Hid (ps (k+1) s a ns=some (a2+1,n2++[⟨bt s a1,n1.length - 1,n2.length - 1⟩])):=hid (by rw[e1.out];simp[ps2,e0,b4,e3,b5]);have E0:=hid e0;have E3:=hid e3;have hB:=ky b4;have HB:=hid b4;obtain⟨i0,hi,aR,aP,aN⟩:=info_parts Tryz.Al;clear e0 hb b4 e3 b5;generalize bt s a1=b at *;rcases hB with rfl | rfl | rfl | rfl
  all_goals
   go_enter Tryz.func72,Tryz.ntmps72;go_wp2_with fail;refine(C _ (hf.alloc _)).mono ?_;rintro e w1 (⟨h,_⟩ | ⟨a',d9,ext,L,h,rfl,kX,hL,uE,dV,Bf⟩)
   ·rw[E0.out]at h;cases h
   rw[E0.out]at h;simp only[aBu,aBH]at h;obtain⟨rfl,rfl⟩:=h;have hP0:=Bf w.heap.size _ _ (heap_alloc_new _ _) (by decide) (by omega);have hsz:w.heap.size+1<=w1.heap.size:=by have:=dV.size;simp at this;omega
   have akD:w.heap.size ∉ bs++ext:=λhm=>(aBy.1 hm).elim (λh=>by have:=(hf.lt _ h).1;omega) (λh=>by have:=uE _ h;simp at this;omega);obtain⟨lS,kC⟩:∃ lS,lS=bs++ext:=⟨_,rfl⟩;rw[<-kC]at kX hL akD;have gq:=hid kC;clear kC;have C2:=H (a1+1) (a1+1) n1 lS w1 (by omega) kX (by omega) (by omega) (by omega);go_wp2_with fail;refine C2.mono ?_;rintro e w2 (⟨h,_⟩ | ⟨a',d9,MH,R,h,rfl,Bl,hR,Qi,Fg,Yz⟩)
   ·rw[E3.out]at h;cases h
   rw[E3.out]at h;simp only[aBu,aBH]at h;obtain⟨rfl,rfl⟩:=h;have hP:=Yz w.heap.size _ _ hP0 (by decide) (by omega);have Bn:w.heap.size ∉ lS++MH:=λhm=>(aBy.1 hm).elim akD (λh=>by have:=Qi _ h;omega);have hL2:(lS++MH)[n1.length - 1]?=some L:=by rw[aA9 (by rw[kX.len];omega)];exact hL
   obtain⟨Pi,aem⟩:∃ Pi,Pi=lS++MH:=⟨_,rfl⟩;rw[<-aem]at Bl hR Bn hL2;have amU:=hid aem;clear aem hP0;obtain⟨hfW,H9,hoW⟩:=acP Bl hP Bn (by omega) hL2 hR HB.out;obtain⟨p0,p1,p2,p3⟩:=JZ hP;have q:∀ j,w2.frozen? ⟨w.heap.size,j,none⟩=false:=λj=>frozen_of_row _ _ _ _ _ hP;obtain⟨ao,cap,c0,_⟩:=Bl.c0;have f0:=Bl.f0;have oO:w1.heap.size<=w2.heap.size:=Fg.size;have hF2:=Bl.r9;have HW:=hid hfW;have own:=(Bl.own c0).2;have QZ:=hid (hoW _ _ _ own);have HPW:=hid H9;have hlen:=Bl.len;clear kX Bl hP hfW H9 own hL hL2 hR hoW;go_wp2_with (at_builtin;refine wpList_append_own _ rfl (.tmp 160) (.tmp 162) 124 rfl (F+1) 127 i0 (.pointer none) 1 8 Tryz.underlying124 hi aR aP aN rfl (by decide) _ _ _ rfl (QZ.out.alloc _) ⟨w2.heap.size,0,none⟩ 1 1 [kV w.heap.size] rfl rfl ?c1 ?c2 ?c3 ?c4 ?c5 ?_)
   case c1=>intro j u hj;match j,hj with | 0,hj=>simp at hj;subst hj;simp[Addr.add,kV,World.cell?_alloc_here]
   case c2=>intro u hu;simp at hu;subst hu;rfl
   case c3=>unfold maxLen;omega
   case c4=>omega
   case c5=>simp;omega
   intro v' w3 hown hgrow _;obtain⟨nE,cap',hv,hf3,hk3,aI⟩:=Jn HW.out QZ.out rfl rfl (P:=w.heap.size) (by omega) ⟨_,n1.length - 1,n2.length - 1⟩ (λ_=>by show n1.length - 1<n2.length;omega) (λ_=>by show n2.length - 1<n2.length;omega) HPW.out hown hgrow;subst hv;have ne:∀ j,(⟨w.heap.size,j,none⟩:Addr)≠⟨F,0,none⟩:=λj e=>by have:=congrArg Addr.block e;simp at this;omega
   have k0:w3.cell? ⟨F,0,none⟩=some (.slice ao n2.length cap):=(aI.cell (p:=⟨F,0,none⟩) (aBs _)).trans (by rw[aA0 _ _ _ _ (ne _),aA0 _ _ _ _ (ne _),aA0 _ _ _ _ (ne _),aA0 _ _ _ _ (ne _)];exact c0);have g0:w3.frozen? ⟨F,0,none⟩=false:=(aI.frozen (p:=⟨F,0,none⟩) (aBs _)).trans (by rw[aBe,aBe,aBe,aBe];exact f0);have HF:=hid hf3;have bP:F<=w.heap.size:=by omega
   have B1:=hid (((((((((aAW F w).alloc (by omega) _).trans dV).trans Fg).setCell (p:=⟨w.heap.size,0,none⟩) bP _).setCell (p:=⟨w.heap.size,1,none⟩) bP _).setCell (p:=⟨w.heap.size,2,none⟩) bP _).setCell (p:=⟨w.heap.size,3,none⟩) bP _).trans (aI.mono (Nat.le_succ F)) |>.setCell (p:=⟨F,0,none⟩) (aAU _) (.slice nE (n2.length+1) cap'));have K1:=hid ((((((((Kp.alloc F w _).trans Bf).trans Yz).set (P:=w.heap.size) (aA2 (aAU _)) 0 _).set (P:=w.heap.size) (aA2 (aAU _)) 1 _).set (P:=w.heap.size) (aA2 (aAU _)) 2 _).set (P:=w.heap.size) (aA2 (aAU _)) 3 _).trans hk3 |>.set (P:=F) (aA3 rfl) 0 (.slice nE (n2.length+1) cap'));clear hf3 hown hgrow aI hk3 c0 f0 p0 p1 p2 p3 q ne;go_wp2
   go_ret3
   refine aA3 ⟨_,_,ext++(MH++[w.heap.size]),w.heap.size,e2.out,rfl,?_,?_,?_,B1.out,K1.out⟩
   ·rw[<-List.append_assoc,<-List.append_assoc,<-gq.out,<-amU.out];exact HF.out
   ·rw[<-List.append_assoc,<-List.append_assoc,<-gq.out,<-amU.out];exact EI hlen
   ·intro b hb;rcases aBy.1 hb with hb | hb
    ·have:=uE _ hb;simp at this;omega
    ·rcases aBy.1 hb with hb | hb
     ·have:=Qi _ hb;omega
     ·simp at hb;omega
theorem ZK(k F:Nat)(s:ByteArray)(hs:s.size<=24)(a:Nat)(ns:List Nd)(bs:List Nat)(w:World)(hf:Fm w F ns bs)(ha:a<=s.size)(h1:bF (bt s a)=false)(h2:dY (bt s a)=false)(h3:¬ bt s a=40) :
  Calls Tryz.prog 72 #[.pointer (some ⟨F,0,none⟩),.string s,.int .i64 a] w (Io (ps (k+1) s a ns) F a bs w):=by
 have e1:=hid (GA (k:=k) (ns:=ns) h1 h2 h3);have hF:=hf.r9;by_cases hl:a<s.size
 ·have hx:=gL hl;rw[hx]at h1 h2 h3;have k48:(((s[a]'hl).toNat:Int)==48)=false:=aA6.2 (λh=>by rw[show (s[a]'hl).toNat=48 by omega]at h1;revert h1;decide);have k49:(((s[a]'hl).toNat:Int)==49)=false:=aA6.2 (λh=>by rw[show (s[a]'hl).toNat=49 by omega]at h1;revert h1;decide);have ajD:(((s[a]'hl).toNat:Int)==112)=false:=aA6.2 (λh=>by rw[show (s[a]'hl).toNat=112 by omega]at h1;revert h1;decide);have ajC:(((s[a]'hl).toNat:Int)==113)=false:=aA6.2 (λh=>by rw[show (s[a]'hl).toNat=113 by omega]at h1;revert h1;decide);have ajB:(((s[a]'hl).toNat:Int)==114)=false:=aA6.2 (λh=>by rw[show (s[a]'hl).toNat=114 by omega]at h1;revert h1;decide);have k33:(((s[a]'hl).toNat:Int)==33)=false:=aA6.2 (λh=>by rw[show (s[a]'hl).toNat=33 by omega]at h2;revert h2;decide);have k88:(((s[a]'hl).toNat:Int)==88)=false:=aA6.2 (λh=>by rw[show (s[a]'hl).toNat=88 by omega]at h2;revert h2;decide);have k70:(((s[a]'hl).toNat:Int)==70)=false:=aA6.2 (λh=>by rw[show (s[a]'hl).toNat=70 by omega]at h2;revert h2;decide);have k71:(((s[a]'hl).toNat:Int)==71)=false:=aA6.2 (λh=>by rw[show (s[a]'hl).toNat=71 by omega]at h2;revert h2;decide);have k40:(((s[a]'hl).toNat:Int)==40)=false:=aA6.2 (by omega);clear h1 h2 h3 hx;go_enter Tryz.func72,Tryz.ntmps72;go_wp2_with fail
  go_ret3
  exact aA2 ⟨e1.out,rfl,(aAW F w).alloc (by omega) _⟩
 ·clear h1 h2 h3;go_enter Tryz.func72,Tryz.ntmps72;go_wp2_with fail
  go_ret3
  exact aA2 ⟨e1.out,rfl,aAW F w⟩
theorem Cu(F:Nat)(s:ByteArray)(hs:s.size<=24)(k:Nat):pg k F s:=by
 induction k with
 | zero=>intro x a ns bs w hx hf hk ha hn;omega
 | succ k ih=>
  intro x a ns bs w hx hf hk ha hn;subst hx;by_cases h1:bF (bt s a)=true
  ·exact U9 k F s hs a ns bs w hf hn h1
  rw[Bool.not_eq_true]at h1;by_cases h2:dY (bt s a)=true
  ·exact XP k F s hs ih a ns bs w hf hk hn h2
  rw[Bool.not_eq_true]at h2;by_cases h3:bt s a=40
  ·cases e0:ps k s (a+1) ns with
   | none=>exact JN k F s hs ih a ns bs w hf hk hn h3 e0
   | some y=>
    obtain⟨a1,n1⟩:=y;cases b4:bQ (bt s a1) with
    | false=>exact JM k F s hs ih a ns bs w hf hk hn h3 a1 n1 e0 b4
    | true=>
     cases e3:ps k s (a1+1) n1 with
     | none=>exact IP k F s hs ih a ns bs w hf hk hn h3 a1 n1 e0 b4 e3
     | some y=>
      obtain⟨a2,n2⟩:=y;by_cases b5:bt s a2=41
      ·exact LZ k F s hs ih a ns bs w hf hk hn h3 a1 a2 n1 n2 e0 b4 e3 b5
      ·by_cases hl:a2<s.size
       ·exact JL k F s hs ih a ns bs w hf hk hn h3 a1 a2 n1 n2 e0 b4 e3 b5 hl
       ·exact Ma k F s hs ih a ns bs w hf hk hn h3 a1 a2 n1 n2 e0 b4 e3 b5 hl
  ·exact ZK k F s hs a ns bs w hf ha h1 h2 h3
def fK(s:ByteArray)(w:World)(e:Ending)(w':World):Prop:=
 Below w.heap.size w w' /\
 (((aB s).1≠0/\e=.returned (.tuple #[.pointer none,.int .i64 (aB s).1])) \/
 ((aB s).1=0/\∃ bs,e=.returned (.tuple #[.pointer (some ⟨w.heap.size,0,none⟩),.int .i64 0])/\Fm w' w.heap.size (aB s).2 bs))
theorem Td(w:World):Fm (w.alloc (.cells #[.slice none 0 0] 126)) w.heap.size [] []:=
 ⟨⟨none,0,by simp,aBh _ _ _ _⟩,by simp,rfl,aiO,by intro i n h;simp at h⟩
theorem Mw(s:ByteArray)(w:World)(hm:s.size<=maxLen)(h:24<s.size):Calls Tryz.prog 35 #[.string s] w (fK s w):=by
 unfold maxLen at hm;have P:Hid (aB s=(1,[])):=hid (by simp[aB,h]);go_enter Tryz.func35,Tryz.ntmps35;go_wp2_with fail
 go_ret2
 unfold fK;rw[P.out];exact⟨aAW _ _,aA2 ⟨by decide,rfl⟩⟩
theorem Mt(s:ByteArray)(w:World)(h:¬ 24<s.size)(e0:ps 25 s 0 []=none):Calls Tryz.prog 35 #[.string s] w (fK s w):=by
 have C:=Cu w.heap.size s (by omega) 25 0 0 [] [] _ (by omega) (Td w) (by omega) (by omega) (by simp);have P:Hid (aB s=(2,[])):=hid (by simp[aB,h,e0]);have E0:=hid e0;clear e0;go_enter Tryz.func35,Tryz.ntmps35;go_wp2_with fail;refine C.mono ?_;rintro e w1 (⟨_,rfl,hb⟩ | ⟨a',d9,_,_,h,_⟩)
 ·go_wp2_with fail
  go_ret2
  unfold fK;rw[P.out];exact⟨((aAW _ _).alloc (aAU _) _).trans hb,aA2 ⟨by decide,rfl⟩⟩
 ·rw[E0.out]at h;cases h
theorem Ms(s:ByteArray)(w:World)(h:¬ 24<s.size)(a:Nat)(ns:List Nd)(e0:ps 25 s 0 []=some (a,ns))(h1:¬ a=s.size):Calls Tryz.prog 35 #[.string s] w (fK s w):=by
 have C:=Cu w.heap.size s (by omega) 25 0 0 [] [] _ (by omega) (Td w) (by omega) (by omega) (by simp);have P:Hid (aB s=(2,[])):=hid (by simp[aB,h,e0,h1]);have g:=eU 25 s 0 [] a ns e0;have E0:=hid e0;have h3:((a:Int) !=(s.size:Int))=true:=by rw[bne_iff_ne];omega
 clear e0;go_enter Tryz.func35,Tryz.ntmps35;go_wp2_with fail;refine C.mono ?_;rintro e w1 (⟨h,_⟩ | ⟨a',d9,ext,L,h,rfl,kX,hL,uE,hb,Bf⟩)
 ·rw[E0.out]at h;cases h
 rw[E0.out]at h;simp only[aBu,aBH]at h;obtain⟨rfl,rfl⟩:=h;go_wp2_with fail
 go_ret2
 unfold fK;rw[P.out];exact⟨((aAW _ _).alloc (aAU _) _).trans hb,aA2 ⟨by decide,rfl⟩⟩
theorem Kw(s:ByteArray)(w:World)(h:¬ 24<s.size)(ns:List Nd)(e0:ps 25 s 0 []=some (s.size,ns)):Calls Tryz.prog 35 #[.string s] w (fK s w):=by
 have C:=Cu w.heap.size s (by omega) 25 0 0 [] [] _ (by omega) (Td w) (by omega) (by omega) (by simp);have g:=eU 25 s 0 [] s.size ns e0;have hc:lZ s s.size=ns.length:=by have:=JW 25 s 0 [] s.size ns e0;simp[lZ]at this;omega
 have P3:Hid (8<ns.length->aB s=(3,[])):=hid (λh2=>by simp[aB,h,e0,h2]);have P0:Hid (¬ 8<ns.length->aB s=(0,ns)):=hid (λh2=>by simp[aB,h,e0,h2]);have E0:=hid e0;have HC:=hid hc;clear e0 hc;go_enter Tryz.func35,Tryz.ntmps35;go_wp2_with fail;refine C.mono ?_;rintro e w1 (⟨h,_⟩ | ⟨a',d9,ext,L,h,rfl,kX,hL,uE,hb,Bf⟩)
 ·rw[E0.out]at h;cases h
 rw[E0.out]at h;simp only[aBu,aBH]at h;obtain⟨rfl,rfl⟩:=h;have HB:=hid (((aAW w.heap.size w).alloc (aAU _) _).trans hb);have HF:=hid kX;have hnl:ns.length<=24:=by simp at g;omega
 clear hb kX hL uE Bf C g;go_wp2_with fail
 go_loop [8,9] (λn i=>∃ k:Nat,k<=s.size/\i=.int .i64 k/\n=.int .i64 (lZ s k)) (λ_ i=>s.size - (intOf i).toNat)
 case atStart=>exact⟨0,aA8 _,rfl,rfl⟩
 case round=>
  obtain⟨k,hk,rfl,rfl⟩:=hrel;have hd:=aeO s k;by_cases hlt:k<s.size
  ·have hx:=gL hlt;by_cases Fw:bt s k=40
   ·have k1:(((s[k]'hlt).toNat:Int) !=40)=false:=by rw[bne_eq_false_iff_eq];omega
    have HS:=hid (GZ (s:=s) (k:=k) (aA2 Fw));clear Fw hx;go_wp2_with fail
    go_round
    case rel=>exact⟨k+1,by omega,by go_num,by rw[HS.out]⟩
    case measure=>simp[intOf];omega
   by_cases h41:bt s k=41
   ·have k1:(((s[k]'hlt).toNat:Int) !=40)=true:=by rw[bne_iff_ne];omega
    have k2:(((s[k]'hlt).toNat:Int) !=41)=false:=by rw[bne_eq_false_iff_eq];omega
    have HS:=hid (GZ (s:=s) (k:=k) (aA3 h41));clear Fw h41 hx;go_wp2_with fail
    go_round
    case rel=>exact⟨k+1,by omega,by go_num,by rw[HS.out]⟩
    case measure=>simp[intOf];omega
   have k1:(((s[k]'hlt).toNat:Int) !=40)=true:=by rw[bne_iff_ne];omega
   have k2:(((s[k]'hlt).toNat:Int) !=41)=true:=by rw[bne_iff_ne];omega
   have HS:=hid (KG (s:=s) (k:=k) Fw h41);clear Fw h41 hx;go_wp2_with fail
   go_round
   case rel=>exact⟨k+1,by omega,by go_num,by rw[HS.out];go_num⟩
   case measure=>simp[intOf];omega
  ·have DR:k=s.size:=by omega
   subst DR;by_cases h8:8<ns.length
   ·have h9:8<lZ s s.size:=by rw[HC.out];exact h8
    go_wp2_with fail
    go_ret2
    unfold fK;rw[P3.out h8];exact⟨HB.out,aA2 ⟨by decide,rfl⟩⟩
   ·have h9:¬ 8<lZ s s.size:=by rw[HC.out];exact h8
    go_wp2_with fail
    go_ret2
    unfold fK;rw[P0.out h8];exact⟨HB.out,aA3 ⟨rfl,_,rfl,HF.out⟩⟩
theorem nA(s:ByteArray)(w:World)(hm:s.size<=maxLen):Calls Tryz.prog 35 #[.string s] w (fK s w):=by
 by_cases h:24<s.size
 ·exact Mw s w hm h
 cases e0:ps 25 s 0 [] with
 | none=>exact Mt s w h e0
 | some x=>
  obtain⟨a,ns⟩:=x;by_cases h1:a=s.size
  ·subst h1;exact Kw s w h ns e0
  ·exact Ms s w h a ns e0 h1
theorem VG(ns:List Nd)(bs:List Nat)(gw n dC back:Nat)(xs:List Nat)(hw:gZ ns)(fZ:xs.length=n)(hb:back<n)(iZ:n<=20000)(h8:∀ x∈xs,x<8)(k:Nat)(hk:k<ns.length):pU ns bs gw n dC back xs k:=by
 induction k using Nat.strongRecOn with
 | _ k ih=>
  intro w b hp di hbk;have hn:ns[k]?=some ns[k]:=aAV hk;obtain⟨hc,h1,h2⟩:=dS hw hn;rcases hc with hc | hc | hc
  ·rcases lD hc with e | e | e | e | e
   ·exact anf ns bs gw n dC back xs hw fZ hb iZ h8 k b _ hn e w hp di hbk
   ·exact ane ns bs gw n dC back xs hw fZ hb iZ h8 k b _ hn e w hp di hbk
   ·exact am7 ns bs gw n dC back xs hw fZ hb iZ h8 k b _ hn e w hp di hbk
   ·exact am6 ns bs gw n dC back xs hw fZ hb iZ h8 k b _ hn e w hp di hbk
   ·exact am5 ns bs gw n dC back xs hw fZ hb iZ h8 k b _ hn e w hp di hbk
  ·have hl:=h1 (jN hc);have il:=ih _ hl (by omega);rcases nu hc with e | e | e | e
   ·exact ahJ ns bs gw n dC back xs hw fZ hb iZ h8 k b _ hn e il w hp di hbk
   ·exact am8 ns bs gw n dC back xs hw fZ hb iZ h8 k b _ hn e il w hp di hbk
   ·exact anc ns bs gw n dC back xs hw fZ hb iZ h8 k b _ hn e il w hp di hbk
   ·exact anb ns bs gw n dC back xs hw fZ hb iZ h8 k b _ hn e il w hp di hbk
  ·have il:=ih _ (h1 (l8 hc)) (by have:=h1 (l8 hc);omega);have ir:=ih _ (h2 hc) (by have:=h2 hc;omega);rcases ky hc with e | e | e | e
   ·exact ahK ns bs gw n dC back xs hw fZ hb iZ h8 k b _ hn e il ir w hp di hbk
   ·exact ai2 ns bs gw n dC back xs hw fZ hb iZ h8 k b _ hn e il ir w hp di hbk
   ·exact am9 ns bs gw n dC back xs hw fZ hb iZ h8 k b _ hn e il ir w hp di hbk
   ·exact ana ns bs gw n dC back xs hw fZ hb iZ h8 k b _ hn e il ir w hp di hbk
theorem wrap_small{m:Nat}(h:m<=1000):IntKind.i64.wrap (m:Int)=(m:Int):=by
 rw[IntKind.wrap_i64];omega
theorem Fm.partsOf{w:World}{F:Nat}{ns:List Nd}{bs:List Nat}(h:Fm w F ns bs):Parts w ns bs:=λi nd hn=>by
 obtain⟨b,e,_,hh⟩:=h.parts i nd hn;exact⟨b,e,hh⟩
theorem afm{w:World}{B n cap:Nat}{ao:Option Addr}{zs:List Int}(own:w.ownsRow B 3 1 (.slice ao n cap) n (bX (jV zs)))(hn:0<n)(hl:zs.length=n):∃ g,ao=some ⟨g,0,none⟩/\Wd w g n cap (jV zs):=by
 obtain⟨g,rfl,_,hg,hc⟩:=Ba own hn;refine⟨g,rfl,hg,hc,λi hi=>?_⟩;rw[own.cellAt i (by omega)];simp[bX,jV,ltOf,List.getD,aAV (show i<zs.length by omega)]
section
variable (F:Nat) (ns:List Nd) (bs:List Nat) (a1 a2:Option Addr) (l1 c1 l2 c2:Nat) (z1 z2:List Int) (w:World)
def BH(e:Ending)(w':World):Prop:=e=.returned (.bool (yu z1.length ns (jV (z1++z2))))/\Below w.heap.size w w'
theorem ah1(ad:Addr)(hf:Fm w F ns bs)(hg:Good ns)(hj:0<z2.length/\z1.length+z2.length<=20000/\iT z1=true/\iT z2=true)(h1:Ints w (some ad) l1 c1 z1)(h2:Ints w a2 l2 c2 z2) :
  Calls Tryz.prog 85 #[.pointer (some ⟨F,0,none⟩),.slice (some ad) l1 c1,.slice a2 l2 c2] w (BH ns z1 z2 w):=by
 obtain⟨q1,q2,q4,q5⟩:=hj;have L1:=h1.hlen;have L2:=h2.hlen;have LN:=Hq (Ik q4 q5);obtain⟨b2,adI,rfl,_⟩:=h2.hcell (by omega);have s1:=h1.src ad rfl;obtain⟨i0,hi,aR,aP,aN⟩:=info_parts Tryz.uB;go_enter Tryz.func85,Tryz.ntmps85;go_wp2_with (at_builtin;go_must (refine wpList_append_own _ rfl (.tmp 9) (.tmp 10) 22 rfl w.heap.size 3 i0 (.int .i64 0) 1 8 Tryz.underlying22 hi aR aP aN rfl (by decide) _ 0 [] rfl (aBh _ _ _ _) ad l1 c1 (z1.map (Value.int .i64)) rfl ?n1 s1 (xG z1) ?n2 ?n3 (aAU _) ?_))
 case n1=>simp[L1]
 case n2=>unfold maxLen;omega
 case n3=>omega
 intro v1 w1 aF aZ _
 try simp only[aBo,List.nil_append]at aF
 have aM:Below w.heap.size w w1:=(aAW _ _).grown aZ (aAU _) (λk h=>by cases h);have s2:=(h2.below aM).src _ rfl;have aK:=hid aM;have hs1:=aM.size;clear aM aZ s1;go_wp2_with (at_builtin;go_must (refine wpList_append_own _ rfl (.tmp 12) (.tmp 13) 22 rfl w.heap.size 3 i0 (.int .i64 0) 1 8 Tryz.underlying22 hi aR aP aN rfl (by decide) _ l1 (z1.map (Value.int .i64)) rfl aF ⟨b2,adI,none⟩ l2 c2 (z2.map (Value.int .i64)) rfl ?n4 s2 (xG z2) ?n5 ?n6 hs1 ?_))
 case n4=>simp[L2]
 case n5=>unfold maxLen;omega
 case n6=>omega
 intro v2 w2 dR lM _;rw[<-aBE,LN.1]at dR;have ak:Below w.heap.size w w2:=aK.out.grown lM hs1 (λk h=>(aF.lt k h).1);obtain⟨ao,cap,hv⟩:∃ ao cap,v2=.slice ao (l1+l2) cap:=by
  rcases dR.2 with⟨h,h0⟩ | ⟨g,cap',_,h,_⟩
  ·omega
  ·exact⟨_,cap',h⟩
 subst hv;obtain⟨gw,rfl,di⟩:=afm dR (by omega) (by simp[L1,L2]);have hpt:=hf.partsOf.below ak;have Ji:(jV (z1++z2)).length=l1+l2:=by simp[jV,L1,L2]
 have HH:=hid (CQ (back:=l1) (ns:=ns) (xs:=jV (z1++z2)) hg (by omega) LN.2);rw[Ji]at HH;have pos:=hg.pos;have ROW:=hid (VG ns bs gw (l1+l2) cap l1 (jV (z1++z2)) hg.wf Ji (by omega) (by omega) LN.2 (ns.length - 1) (by omega));obtain⟨fo,asr,fc,Jm⟩:=hf.c0;obtain⟨gf,rfl,_,hgf,YC⟩:=Ba Jm (by omega);obtain⟨bl,dV⟩:∃ bl,bs[ns.length - 1]?=some bl:=⟨_,aAV (by have:=hf.len;omega)⟩;have fc2:=(ak.cell (p:=⟨F,0,none⟩) hf.r9).trans fc;have fl2:w2.cell? ⟨gf,ns.length - 1,none⟩=some (.pointer (some ⟨bl,0,none⟩)):=by
  rw[ak.cell (p:=⟨gf,ns.length - 1,none⟩) hgf,Jm.cellAt _ (by omega)];simp[dV,kV]
 obtain⟨m,hm⟩:∃ m,ns.length=m+1:=⟨ns.length - 1,by omega⟩;rw[hm]at fc2 YC;rw[show ns.length - 1=m by omega]at fl2;have hmi:((m+1:Nat):Int) - 1=(m:Int):=by omega
 have arT:(m:Int)+1 - 1=(m:Int):=by omega
 have hwm:=wrap_small (m:=m) (by have:=hg.le;omega);have hml:m<=8:=by have:=hg.le;omega
 have HM:=hid hm;clear hm pos;have HW:=hid di;have HP:=hid hpt;have aW:=hid ak;have wh:=hid dV;have lm:=ak.size;clear aF dR lM di hpt ak dV s2 LN Jm fc Ji;go_wp2_with fail;have RW:=hid (ROW.out w2.drew bl (show Parts w2.drew ns bs from HP.out) ⟨HW.out.lt,HW.out.cap,HW.out.cell⟩ wh.out)
 go_region_with (go_at_call 128;go_must (refine RW.out.mono ?_;rintro e w3 ⟨g,f,rfl,SF,hg3,hR,aI⟩))
 all_goals
  have y:=hR.cell 0 (by omega);have S0:=SF 0 (by omega);have V:Hid (f 0=yu l1 ns (jV (z1++z2))):=hid (by
   rw[Bool.eq_iff_iff,S0,HH.out])
  have B3:Hid (Below w.heap.size w w3):=hid (aW.out.trans ((show Below w2.heap.size w2 w3 from ⟨aI.os,aI.tape,aI.output,aI.size,aI.block⟩).mono lm));clear SF S0 hR aI fc2 fl2;generalize f 0=x at *;go_wp2_with fail;go_ret;unfold BH;rw[L1,<-V.out];exact⟨rfl,B3.out⟩
theorem ah2(hf:Fm w F ns bs)(hg:Good ns)(hj:0<z2.length/\z1.length+z2.length<=20000/\iT z1=true/\iT z2=true)(h1:Ints w none l1 c1 z1)(h2:Ints w a2 l2 c2 z2) :
  Calls Tryz.prog 85 #[.pointer (some ⟨F,0,none⟩),Value.slice none l1 c1,.slice a2 l2 c2] w (BH ns z1 z2 w):=by
 obtain⟨q1,q2,q4,q5⟩:=hj;have L1:=h1.hlen;have L2:=h2.hlen;have LN:=Hq (Ik q4 q5);obtain⟨b2,adI,rfl,_⟩:=h2.hcell (by omega);obtain⟨e1,e2⟩:=h1.hnil rfl;subst e1;subst e2;have hz:z1=[]:=List.eq_nil_of_length_eq_zero L1;obtain⟨i0,hi,aR,aP,aN⟩:=info_parts Tryz.uB;have aF:w.ownsRow w.heap.size 3 1 (.slice none 0 0) 0 (z1.map (Value.int .i64)):=by rw[hz];exact aBh _ _ _ _
 have s2:=h2.src _ rfl;have HZ:=hid hz;clear hz;have aK:=hid (aAW w.heap.size w);go_enter Tryz.func85,Tryz.ntmps85;go_wp2_with (first | (at_builtin;refine wpList_append_own_none rfl (.tmp 9) (.tmp 10) 22 rfl w.heap.size 3 i0 1 Tryz.underlying22 hi _ 0 [] rfl (aBh _ _ _ _) rfl ?_) | (at_builtin;refine wpList_append_own _ rfl (.tmp 12) (.tmp 13) 22 rfl w.heap.size 3 i0 (.int .i64 0) 1 8 Tryz.underlying22 hi aR aP aN rfl (by decide) _ 0 (z1.map (Value.int .i64)) rfl aF ⟨b2,adI,none⟩ l2 c2 (z2.map (Value.int .i64)) rfl ?n4 s2 (xG z2) ?n5 ?n6 (aAU _) ?_))
 case n4=>simp[L2]
 case n5=>unfold maxLen;omega
 case n6=>omega
 intro v2 w2 dR lM _;rw[<-aBE,LN.1]at dR;have ak:Below w.heap.size w w2:=aK.out.grown lM (aAU _) (λk h=>(aF.lt k h).1);obtain⟨ao,cap,hv⟩:∃ ao cap,v2=.slice ao (l2) cap:=by
  rcases dR.2 with⟨h,h0⟩ | ⟨g,cap',_,h,_⟩
  ·omega
  ·exact⟨_,cap',h⟩
 subst hv;obtain⟨gw,rfl,di⟩:=afm dR (by omega) (by simp[L1,L2]);have hpt:=hf.partsOf.below ak;have Ji:(jV (z1++z2)).length=l2:=by simp[jV,L1,L2]
 have HH:=hid (CQ (back:=0) (ns:=ns) (xs:=jV (z1++z2)) hg (by omega) LN.2);rw[Ji]at HH;have pos:=hg.pos;have ROW:=hid (VG ns bs gw (l2) cap 0 (jV (z1++z2)) hg.wf Ji (by omega) (by omega) LN.2 (ns.length - 1) (by omega));obtain⟨fo,asr,fc,Jm⟩:=hf.c0;obtain⟨gf,rfl,_,hgf,YC⟩:=Ba Jm (by omega);obtain⟨bl,dV⟩:∃ bl,bs[ns.length - 1]?=some bl:=⟨_,aAV (by have:=hf.len;omega)⟩;have fc2:=(ak.cell (p:=⟨F,0,none⟩) hf.r9).trans fc;have fl2:w2.cell? ⟨gf,ns.length - 1,none⟩=some (.pointer (some ⟨bl,0,none⟩)):=by
  rw[ak.cell (p:=⟨gf,ns.length - 1,none⟩) hgf,Jm.cellAt _ (by omega)];simp[dV,kV]
 obtain⟨m,hm⟩:∃ m,ns.length=m+1:=⟨ns.length - 1,by omega⟩;rw[hm]at fc2 YC;rw[show ns.length - 1=m by omega]at fl2;have hmi:((m+1:Nat):Int) - 1=(m:Int):=by omega
 have arT:(m:Int)+1 - 1=(m:Int):=by omega
 have hwm:=wrap_small (m:=m) (by have:=hg.le;omega);have hml:m<=8:=by have:=hg.le;omega
 have HM:=hid hm;clear hm pos;have HW:=hid di;have HP:=hid hpt;have aW:=hid ak;have wh:=hid dV;have lm:=ak.size;clear aF dR lM di hpt ak dV s2 LN Jm fc Ji;go_wp2_with fail;have RW:=hid (ROW.out w2.drew bl (show Parts w2.drew ns bs from HP.out) ⟨HW.out.lt,HW.out.cap,HW.out.cell⟩ wh.out)
 go_region_with (go_at_call 128;go_must (refine RW.out.mono ?_;rintro e w3 ⟨g,f,rfl,SF,hg3,hR,aI⟩))
 all_goals
  have y:=hR.cell 0 (by omega);have S0:=SF 0 (by omega);have V:Hid (f 0=yu 0 ns (jV (z1++z2))):=hid (by
   rw[Bool.eq_iff_iff,S0,HH.out])
  have B3:Hid (Below w.heap.size w w3):=hid (aW.out.trans ((show Below w2.heap.size w2 w3 from ⟨aI.os,aI.tape,aI.output,aI.size,aI.block⟩).mono lm));clear SF S0 hR aI fc2 fl2;generalize f 0=x at *;go_wp2_with fail;go_ret;unfold BH;rw[L1,<-V.out];exact⟨rfl,B3.out⟩
theorem ah0(hf:Fm w F ns bs)(hg:Good ns)(hj:0<z2.length/\z1.length+z2.length<=20000/\iT z1=true/\iT z2=true)(h1:Ints w a1 l1 c1 z1)(h2:Ints w a2 l2 c2 z2) :
  Calls Tryz.prog 85 #[.pointer (some ⟨F,0,none⟩),.slice a1 l1 c1,.slice a2 l2 c2] w (BH ns z1 z2 w):=by
 cases a1 with
 | none=>exact ah2 F ns bs a2 l1 c1 l2 c2 z1 z2 w hf hg hj h1 h2
 | some ad=>exact ah1 F ns bs a2 l1 c1 l2 c2 z1 z2 w ad hf hg hj h1 h2
end
section
variable (s:ByteArray) (a1 a2:Option Addr) (l1 c1 l2 c2:Nat) (z1 z2:List Int) (w:World)
end
