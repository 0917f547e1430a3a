import Derived.Test.YtjagijohfkffiabGreatFREM07
set_option maxHeartbeats 16000000
set_option maxRecDepth 1000000
set_option linter.unusedSimpArgs false
namespace Go.Proofs.YtjagijohfkffiabGreat
open Go.RowKit
set_option linter.unusedVariables false
theorem Tryz.VV:(Tryz.prog.info? 138).map (λi=>(i.zero,i.size,i.bytes))=some (some (.slice none 0 0),1,24):=by kernel_rfl
def kP(v:Nat):Nat->Bool:=λk=>v.testBit k
def xc(ns:List Nd)(v:Nat):Bool:=zK ns (kP v)&&(List.range 8).any λa=>jL ns (kP v) a
def dQ(ns:List Nd)(j:Nat):List Nat:=(List.range j).filter (xc ns)
def gD(n:Nat)(b:Nat):Value:=.slice (some ⟨b,0,none⟩) n n
def df(vs:List Nat)(i:Nat):Nat:=vs.getD i 0
def wF(w:World)(B:Nat)(v:Value)(n:Nat)(vs:List Nat):Prop:=
 ∃ b:Nat->Nat,w.ownsRow B 138 1 v vs.length ((List.range vs.length).map λi=>gD n (b i))/\∀ i,i<vs.length->w.ownsRow B 4 1 (gD n (b i)) n (ay (kP (df vs i)) n n)
theorem wF.keeps{w w':World}{B:Nat}{v:Value}{n:Nat}{vs:List Nat}(h:wF w B v n vs)(hb:Below w.heap.size w w'):wF w' B v n vs:=by
 obtain⟨b,h1,h2⟩:=h;exact⟨b,ae h1 hb,λi hi=>ae (h2 i hi) hb⟩
theorem QH{w:World}{B n b:Nat}{f:Nat->Bool}(hn:0<n)(h:w.ownsRow B 4 1 (gD n b) n (ay f n n)):Rb w b n f:=by
 unfold gD at h;refine⟨?_,λi hi=>?_⟩
 ·rcases h.2 with⟨e,h0⟩ | ⟨g,cap,cur,e,_,hg,_⟩
  ·omega
  ·cases e;exact dB hg
 ·rw[h.cellAt i (by omega)];exact jM f n i hi
theorem acN{ns:List Nd}{j:Nat}(h:xc ns j=true):dQ ns (j+1)=dQ ns j++[j]:=by simp[dQ,aBL,List.filter_append,h]
theorem Vv{ns:List Nd}{j:Nat}(h:xc ns j=false):dQ ns (j+1)=dQ ns j:=by simp[dQ,aBL,List.filter_append,h]
theorem Qt(ns:List Nd)(j:Nat):(dQ ns j).length<=j:=by
 have:=List.length_filter_le (xc ns) (List.range j);simpa [dQ] using this
theorem Mi{f:Nat->Value}{l:List Nat}{x:Value}:(List.range (l.length+1)).map (λi=>if i=l.length then x else f i)=(List.range l.length).map f++[x]:=by
 rw[aBL,aBE];congr 1
 ·apply aBP;intro i hi;rw[aBI]at hi;rw[aBT (by omega)]
 ·simp
theorem ZB{w w0 w1:World}{B:Nat}{v:Value}{n:Nat}{vs:List Nat}{b:Nat->Nat}{j g gg cc:Nat}(h1:w.ownsRow B 138 1 v vs.length ((List.range vs.length).map λi=>gD n (b i)))
  (h2:∀ i,i<vs.length->w.ownsRow B 4 1 (gD n (b i)) n (ay (kP (df vs i)) n n)) (hs:w.ownsRow B 4 1 (gD n g) n (ay (kP j) n n)) (hb:Below w.heap.size w w0) (hgrow:w0.grownBy w1 v.ownBlock)
  (hown:w1.ownsRow B 138 1 (.slice (some ⟨gg,0,none⟩) (vs.length+1) cc) (vs.length+1) (((List.range vs.length).map λi=>gD n (b i))++[gD n g])) :
  wF w1 B (.slice (some ⟨gg,0,none⟩) (vs.length+1) cc) n (vs++[j]):=by
 refine⟨λi=>if i=vs.length then g else b i,?_,λi hi=>?_⟩
 ·rw[aA5,aBn];have this:=hown;rw[<-Mi (f:=λi=>gD n (b i))]at this;have e:(List.range (vs.length+1)).map (λi=>gD n (if i=vs.length then g else b i))=(List.range (vs.length+1)).map (λi=>if i=vs.length then gD n g else gD n (b i)):=by
   apply aBP;intro i _;by_cases e:i=vs.length <;> simp[e]
  rw[e];exact this
 ·rw[aA5,aBn]at hi;by_cases e:i=vs.length
  ·subst e;simp only[if_true];rw[show df (vs++[j]) vs.length=j by simp[df,List.getD]];exact(ae hs hb).kept hgrow (aC (ae hs hb) (ae h1 hb) (by decide))
  ·simp only[aBT e];rw[show df (vs++[j]) i=df vs i by simp[df,List.getD,aA9 (show i<vs.length by omega)]];exact(ae (h2 i (by omega)) hb).kept hgrow (aC (ae (h2 i (by omega)) hb) (ae h1 hb) (by decide))
theorem Nt{k:Nat}(hk:k<=8):wrap64 (2 ^ k)=((2 ^ k:Nat):Int)/\2 ^ k<=256:=by
 have h:∀ k:Fin 9,(2:Int) ^ k.val<=256/\0<=(2:Int) ^ k.val/\((2 ^ k.val:Nat):Int)=2 ^ k.val/\2 ^ k.val<=256:=by decide
 have:=h ⟨k,by omega⟩;simp only at this;exact⟨by rw[this.2.2.1];exact IntWalk.wrap64_in _ ⟨by omega,by omega⟩,this.2.2.2⟩
theorem ae4{p:Nat->Bool}{a:Nat}:(List.range (a+1)).any p=((List.range a).any p||p a):=by simp[aBL]
theorem ade(F gp cap:Nat)(ns:List Nd)(bs:List Nat)(w:World)(hf:FR w F gp cap ns bs)(hg:Good ns) :
  Calls Tryz.prog 73 #[.pointer (some ⟨F,0,none⟩)] w λe w'=>∃ v,e=.returned v/\wF w' w.heap.size v ns.length (dQ ns (2 ^ ns.length))/\Below w.heap.size w w':=by
 have dw:=hg.le;have hpos:=hg.pos;have k0:=hf.c0;have kc:=hf.hcap;have hF:=hf.Rl;have hgp:=hf.ltp;obtain⟨i0,hi,aR,aP,aN⟩:=info_parts Tryz.eD;obtain⟨i1,iC,fe,eZ,eY⟩:=info_parts Tryz.VV;have FT:=hid (λ(W:World) (b:Nat) S (h1:Below w.heap.size w W) (h2:Rb W b ns.length S)=>aeB F gp cap b ns.length ns bs S W (hf.below h1) h2 hg (aAU _));have RD:=hid (λ(W:World) (b:Nat) S (a:Nat) (ha:a<8) (h1:Below w.heap.size w W) (h2:Rb W b ns.length S)=>IV F gp cap b ns.length ns bs S W a ha (hf.below h1) h2 hg (aAU _));have HGV:Hid (∀ v,xc ns v=(zK ns (kP v)&&(List.range 8).any λa=>jL ns (kP v) a)):=hid (λv=>rfl);clear hf hg;generalize ns.length=n at *;obtain⟨M,hM⟩:∃ M,M=2 ^ n:=⟨_,rfl⟩;have pw:wrap64 (2 ^ n)=(M:Int):=by rw[hM];exact(Nt dw).1
 have pm:M<=256:=by rw[hM];exact(Nt dw).2
 rw[<-hM];clear hM;go_enter Tryz.func73,Tryz.ntmps73;go_wp2_with fail
 go_loopw [5,3] (λi s wr=>∃ j:Nat,j<=M/\i=.int .i64 j/\Hid (wF wr w.heap.size s n (dQ ns j))/\Below w.heap.size w wr) (λi _ _=>M - (intOf i).toNat)
 case atStart=>exact⟨0,aA8 _,rfl,hid ⟨λ_=>0,by simpa [dQ] using aBh _ _ _ _,λi hi=>by simp[dQ]at hi⟩,aAW _ _⟩
 case round=>
  obtain⟨j,hj,rfl,HL,hb⟩:=hrel;rename World=>W0;have hsz:=hb.size;by_cases hlt:j<M
  ·have kd:decide ((j:Int)<(M:Int))=true:=by simp;omega
   go_wp2_with (at_make;go_must (refine aBA _ rfl (.tmp 23) (.tmp 23) 138 rfl w.heap.size 4 i0 (.bool false) 1 Tryz.underlying138 hi aR aP .i64 .i64 n n n rfl rfl rfl rfl ?m2 ?m3 hsz ?_))
   case m2=>rw[aN];omega
   case m3=>unfold maxLen;omega
   intro w1 aF aZ;have eo:(madeCells #[Value.bool false] n).toList=List.replicate n (.bool false):=aBq _ _;rw[eo,<-dh (kP j)]at aF;have aM:Below W0.heap.size W0 w1:=(aAW _ _).grown aZ (aAU _) (λk h=>by cases h);have hs1:W0.heap.size<w1.heap.size:=(aF.lt _ rfl).2;have OS:=hid aF;have aK:=hid aM;clear aF aZ eo aM pw kd;go_wp2_with fail
   go_loopw [7] (λi wq=>∃ k:Nat,k<=n/\i=.int .i64 k/\Hid (wq.ownsRow w.heap.size 4 1 (.slice (some ⟨W0.heap.size,0,none⟩) n n) n (ay (kP j) n k))/\Below W0.heap.size W0 wq) (λi _=>n - (intOf i).toNat)
   case atStart=>exact⟨0,aA8 _,rfl,OS,aK.out⟩
   case round=>
    obtain⟨k,hk,rfl,HO,dm⟩:=hrel;by_cases hlk:k<n
    ·have own:=HO.out;have q0:=own.frozenAt k;have q1:(wr.cell? ⟨W0.heap.size,k,none⟩).isSome=true:=by
      rw[own.cellAt k (by omega)];simp[ay,hlk]
     obtain⟨qv,q2⟩:=aBD.1 q1;have hO:=own.stored k (.bool (kP j k));rw[fB]at hO;have jy:=hid hO.1;have aW:=hid (dm.setCell (p:=⟨W0.heap.size,k,none⟩) (aAU _) (.bool (kP j k)));have HBV:Hid ((bits BinOp.and IntKind.i64 ((j:Int) / 2 ^ k) 1==1)=kP j k):=hid (Wj ⟨j,by omega⟩ ⟨k,by omega⟩);clear hO q1 own HO;go_wp2_with fail;go_roundw
     case rel=>
      have o:=jy.out;have g:=aW.out;rw[<-HBV.out]at o g;exact⟨k+1,by omega,by go_num,hid o,g⟩
     case measure=>simp[intOf];omega
    ·obtain rfl:k=n:=by omega
     rename World=>W1;have own:=HO.out;have rb:Rb W1 W0.heap.size k (kP j):=QH hpos own;have bw:Below w.heap.size w W1:=hb.trans (dm.mono hsz);have C:=FT.out W1 W0.heap.size (kP j) bw rb;obtain⟨Er,aee⟩:∃ Er:Nat->Bool,Er=λa=>jL ns (kP j) a:=⟨_,rfl⟩;have HGJ:Hid (xc ns j=(zK ns (kP j)&&(List.range 8).any Er)):=hid (by rw[aee];exact HGV.out j);have HRV:Hid (∀ a,jL ns (kP j) a=Er a):=hid (λa=>by rw[aee]);clear aee;have Ec:=hid own;have Iu:=hid rb;have Ab:=hid bw;have z8:=hid (HL.out.keeps dm);have uC:=dm.size;clear own rb bw dm HO HL OS aK;generalize zK ns (kP j)=fv at *;go_wp2_with fail;refine C.mono ?_;rintro e w2 ⟨rfl,m,rfl⟩;clear C;have RD2:=hid (λa ha=>RD.out (W1.drewN m) W0.heap.size (kP j) a ha (aBd Ab.out m) (Iu.out.drewN m));go_wp2_with fail
     go_loop [10,9] (λa s=>∃ x:Nat,x<=8/\a=.int .i64 x/\s=.bool ((List.range x).any Er)) (λa _=>8 - (intOf a).toNat)
     case atStart=>exact⟨0,aA8 _,rfl,rfl⟩
     case round=>
      obtain⟨x,hx,rfl,rfl⟩:=hrel;by_cases Rw:x<8
      ·have R:=RD2.out x Rw;rw[HRV.out x]at R;have HAN:Hid ((List.range (x+1)).any Er=((List.range x).any Er||Er x)):=hid ae4;generalize Er x=rv at *;generalize (List.range x).any Er=cur at *;cases cur
       ·go_wp2_with fail;refine R.mono ?_;rintro e w3 ⟨rfl,rfl⟩;go_wp2_with fail
        go_round
        case rel=>exact⟨x+1,by omega,by go_num,by rw[HAN.out];rfl⟩
        case measure=>simp[intOf];omega
       ·go_wp2_with fail;refine R.mono ?_;rintro e w3 ⟨rfl,rfl⟩;go_wp2_with fail
        go_round
        case rel=>exact⟨x+1,by omega,by go_num,by rw[HAN.out];rfl⟩
        case measure=>simp[intOf];omega
      ·obtain rfl:x=8:=by omega
       generalize (List.range 8).any Er=sv at *;cases fv
       ·have HN:=hid (Vv (by rw[HGJ.out];rfl):dQ ns (j+1)=dQ ns j);go_wp2_with fail;go_roundw
        case rel=>exact⟨j+1,by omega,by go_num,by rw[HN.out];exact hid (z8.out.keeps (aBd (aAW _ _) m)),aBd Ab.out m⟩
        case measure=>simp[intOf];omega
       ·cases sv
        ·have HN:=hid (Vv (by rw[HGJ.out];rfl):dQ ns (j+1)=dQ ns j);go_wp2_with fail;go_roundw
         case rel=>exact⟨j+1,by omega,by go_num,by rw[HN.out];exact hid (z8.out.keeps (aBd (aAW _ _) m)),aBd Ab.out m⟩
         case measure=>simp[intOf];omega
        ·have HN:=hid (acN (by rw[HGJ.out];rfl):dQ ns (j+1)=dQ ns j++[j]);have hvl:=Qt ns j;have oo:=hid (z8.out.keeps (aBd (aAW W1.heap.size W1) m));have asL:=hid (ae Ec.out (aBd (aAW W1.heap.size W1) m));obtain⟨bb,so,sr⟩:=oo.out;have Py:=hid sr;have Sg:Below w.heap.size w (W1.drewN m):=aBd Ab.out m;have UI:=hid Sg;have hsd:=Sg.size;clear sr oo Sg RD2 HRV z8 Ec Ab Iu;generalize dQ ns j=vs at *;have hsl:vs.length<=300:=by omega
         generalize W1.drewN m=W2 at *;go_wp2_with (at_builtin;go_must (refine aBw _ rfl (.tmp 57) (.tmp 59) 130 rfl w.heap.size 138 i1 (.slice none 0 0) 1 24 Tryz.underlying130 iC fe eZ eY rfl (by decide) _ _ _ rfl (so.alloc _) ⟨W2.heap.size,0,none⟩ 1 1 [.slice (some ⟨W0.heap.size,0,none⟩) k k] rfl rfl ?e1 ?c2 (by decide) ?c3 ?c4 ?c5 _ rfl ?_))
         case c2=>first | (intro u hu;simp at hu;subst hu;rfl) | rfl | (simp[Value.oneCell'];done) | (go_simp;done) | trace_state
         case c3=>first | (unfold maxLen;omega) | omega
         case c4=>omega
         case c5=>first | omega | (simp;omega)
         intro gg cc w3 hown hgrow hat EY;have PU:=hid (ZB (j:=j) so Py.out asL.out ((aAW _ _).alloc (aAU _) _) hgrow hown);have B3:=hid ((UI.out.alloc hsd _).grown hgrow (by simp;omega) (λk h=>(so.lt k h).1));clear hown hgrow hat so;go_wp2_with fail;go_roundw
         case rel=>exact⟨j+1,by omega,by go_num,by rw[HN.out];exact PU,B3.out⟩
         case measure=>simp[intOf];omega
  ·obtain rfl:j=M:=by omega
   have kd:decide ((j:Int)<(j:Int))=false:=by simp
   go_wp2_with fail;go_ret;exact⟨_,rfl,HL.out,hb⟩
def jq(F g az h bK n j:Nat)(u:Nat->Value):Act:=⟨#[.pointer (some ⟨F,0,none⟩),.slice (some ⟨g,0,none⟩) n az,.slice (some ⟨h,0,none⟩) n bK,u 3,u 4,u 5,u 6,.int .i64 (j:Nat),u 8,u 9,u 10,u 11,u 12,u 13,u 14,u 15,u 16,u 17,u 18,u 19,u 20,u 21,u 22,u 23,u 24,u 25,u 26,u 27,u 28,u 29,u 30,u 31,u 32,u 33,u 34,u 35,u 36,u 37,u 38,u 39,u 40,u 41,u 42,u 43,u 44,u 45,u 46,u 47,u 48,u 49,u 50,u 51,u 52,u 53,u 54,u 55,u 56,u 57,u 58,u 59,u 60,u 61,u 62,u 63,u 64,u 65,u 66,u 67,u 68,u 69,u 70,u 71,u 72,u 73,u 74,u 75,u 76,u 77,u 78,u 79,u 80,u 81,u 82,u 83,u 84,u 85,u 86,u 87,u 88,u 89,u 90,u 91,u 92,u 93,u 94,u 95,u 96,u 97,u 98,u 99,u 100,u 101,u 102,u 103,u 104,u 105,u 106,u 107,u 108,u 109,u 110,u 111,u 112,u 113,u 114,u 115,u 116,u 117,u 118,u 119,u 120,u 121,u 122,u 123,u 124,u 125,u 126,u 127,u 128,u 129,u 130,u 131,u 132,u 133,u 134,u 135,u 136,u 137,u 138,u 139,u 140,u 141,u 142,u 143,u 144,u 145,u 146,u 147,u 148,u 149,u 150,u 151,u 152,u 153,u 154,u 155,u 156,u 157,u 158,u 159,u 160,u 161,u 162,u 163,u 164],[]⟩
theorem SX(F gp cap g h az bK n j b:Nat)(u:Nat->Value)(P:Nat->Prop)(Q0:Exit->Act->World->Prop)(w:World)(m:Nat)
  (hc:n<=az) (hd:n<=bK) (dw:n<=8) (kc:n<=cap) (hlt:j<n)
  (k0:w.cell? ⟨F,0,none⟩=some (.slice (some ⟨gp,0,none⟩) n cap)) (c1:w.cell? ⟨gp,j,none⟩=some (.pointer (some ⟨b,0,none⟩))) (c2:w.cell? ⟨b,0,none⟩=some (.int .u8 48))
  (hy:Hid (P (j+1))) :
  Code.wp Tryz.prog (eT Tryz.f121) (Exit.then (λa' w''=>GI 165 [(0,.pointer (some ⟨F,0,none⟩)),(1,.slice (some ⟨g,0,none⟩) n az),(2,.slice (some ⟨h,0,none⟩) n bK)] 7 n P w a' w''/\GM 7 n a' w''<n - j) Q0)
   (jq F g az h bK n j u) (w.drewN m):=by
 unfold jq
 conv=>arg 2;whnf
 go_wp2_with fail;exact⟨⟨rfl,rfl,by simp,j+1,by omega,by go_num,hy.out,_,rfl⟩,by simp[GM,intOf];omega⟩
theorem SV(F gp cap g h az bK n j b:Nat)(u:Nat->Value)(P:Nat->Prop)(Q0:Exit->Act->World->Prop)(w:World)(m:Nat)
  (hc:n<=az) (hd:n<=bK) (dw:n<=8) (kc:n<=cap) (hlt:j<n)
  (k0:w.cell? ⟨F,0,none⟩=some (.slice (some ⟨gp,0,none⟩) n cap)) (c1:w.cell? ⟨gp,j,none⟩=some (.pointer (some ⟨b,0,none⟩))) (c2:w.cell? ⟨b,0,none⟩=some (.int .u8 49))
  (hy:Hid (P (j+1))) :
  Code.wp Tryz.prog (eT Tryz.f121) (Exit.then (λa' w''=>GI 165 [(0,.pointer (some ⟨F,0,none⟩)),(1,.slice (some ⟨g,0,none⟩) n az),(2,.slice (some ⟨h,0,none⟩) n bK)] 7 n P w a' w''/\GM 7 n a' w''<n - j) Q0)
   (jq F g az h bK n j u) (w.drewN m):=by
 unfold jq
 conv=>arg 2;whnf
 go_wp2_with fail;exact⟨⟨rfl,rfl,by simp,j+1,by omega,by go_num,hy.out,_,rfl⟩,by simp[GM,intOf];omega⟩
theorem PY(F gp cap g h az bK n j b:Nat)(u:Nat->Value)(P:Nat->Prop)(Q0:Exit->Act->World->Prop)(w:World)(m:Nat)
  (hc:n<=az) (hd:n<=bK) (dw:n<=8) (kc:n<=cap) (hlt:j<n)
  (k0:w.cell? ⟨F,0,none⟩=some (.slice (some ⟨gp,0,none⟩) n cap)) (c1:w.cell? ⟨gp,j,none⟩=some (.pointer (some ⟨b,0,none⟩))) (c2:w.cell? ⟨b,0,none⟩=some (.int .u8 112))
  (hy:Hid (P (j+1))) :
  Code.wp Tryz.prog (eT Tryz.f121) (Exit.then (λa' w''=>GI 165 [(0,.pointer (some ⟨F,0,none⟩)),(1,.slice (some ⟨g,0,none⟩) n az),(2,.slice (some ⟨h,0,none⟩) n bK)] 7 n P w a' w''/\GM 7 n a' w''<n - j) Q0)
   (jq F g az h bK n j u) (w.drewN m):=by
 unfold jq
 conv=>arg 2;whnf
 go_wp2_with fail;exact⟨⟨rfl,rfl,by simp,j+1,by omega,by go_num,hy.out,_,rfl⟩,by simp[GM,intOf];omega⟩
theorem PX(F gp cap g h az bK n j b:Nat)(u:Nat->Value)(P:Nat->Prop)(Q0:Exit->Act->World->Prop)(w:World)(m:Nat)
  (hc:n<=az) (hd:n<=bK) (dw:n<=8) (kc:n<=cap) (hlt:j<n)
  (k0:w.cell? ⟨F,0,none⟩=some (.slice (some ⟨gp,0,none⟩) n cap)) (c1:w.cell? ⟨gp,j,none⟩=some (.pointer (some ⟨b,0,none⟩))) (c2:w.cell? ⟨b,0,none⟩=some (.int .u8 113))
  (hy:Hid (P (j+1))) :
  Code.wp Tryz.prog (eT Tryz.f121) (Exit.then (λa' w''=>GI 165 [(0,.pointer (some ⟨F,0,none⟩)),(1,.slice (some ⟨g,0,none⟩) n az),(2,.slice (some ⟨h,0,none⟩) n bK)] 7 n P w a' w''/\GM 7 n a' w''<n - j) Q0)
   (jq F g az h bK n j u) (w.drewN m):=by
 unfold jq
 conv=>arg 2;whnf
 go_wp2_with fail;exact⟨⟨rfl,rfl,by simp,j+1,by omega,by go_num,hy.out,_,rfl⟩,by simp[GM,intOf];omega⟩
theorem PW(F gp cap g h az bK n j b:Nat)(u:Nat->Value)(P:Nat->Prop)(Q0:Exit->Act->World->Prop)(w:World)(m:Nat)
  (hc:n<=az) (hd:n<=bK) (dw:n<=8) (kc:n<=cap) (hlt:j<n)
  (k0:w.cell? ⟨F,0,none⟩=some (.slice (some ⟨gp,0,none⟩) n cap)) (c1:w.cell? ⟨gp,j,none⟩=some (.pointer (some ⟨b,0,none⟩))) (c2:w.cell? ⟨b,0,none⟩=some (.int .u8 114))
  (hy:Hid (P (j+1))) :
  Code.wp Tryz.prog (eT Tryz.f121) (Exit.then (λa' w''=>GI 165 [(0,.pointer (some ⟨F,0,none⟩)),(1,.slice (some ⟨g,0,none⟩) n az),(2,.slice (some ⟨h,0,none⟩) n bK)] 7 n P w a' w''/\GM 7 n a' w''<n - j) Q0)
   (jq F g az h bK n j u) (w.drewN m):=by
 unfold jq
 conv=>arg 2;whnf
 go_wp2_with fail;exact⟨⟨rfl,rfl,by simp,j+1,by omega,by go_num,hy.out,_,rfl⟩,by simp[GM,intOf];omega⟩
theorem Tc(F gp cap g h az bK n j b:Nat)(u:Nat->Value)(P:Nat->Prop)(Q0:Exit->Act->World->Prop)(w:World)(m:Nat)
  (hc:n<=az) (hd:n<=bK) (dw:n<=8) (kc:n<=cap) (hlt:j<n)
  (k0:w.cell? ⟨F,0,none⟩=some (.slice (some ⟨gp,0,none⟩) n cap)) (c1:w.cell? ⟨gp,j,none⟩=some (.pointer (some ⟨b,0,none⟩))) (c2:w.cell? ⟨b,0,none⟩=some (.int .u8 33))
  (hy:Hid (P (j+1))) :
  Code.wp Tryz.prog (eT Tryz.f121) (Exit.then (λa' w''=>GI 165 [(0,.pointer (some ⟨F,0,none⟩)),(1,.slice (some ⟨g,0,none⟩) n az),(2,.slice (some ⟨h,0,none⟩) n bK)] 7 n P w a' w''/\GM 7 n a' w''<n - j) Q0)
   (jq F g az h bK n j u) (w.drewN m):=by
 unfold jq
 conv=>arg 2;whnf
 go_wp2_with fail;exact⟨⟨rfl,rfl,by simp,j+1,by omega,by go_num,hy.out,_,rfl⟩,by simp[GM,intOf];omega⟩
theorem Sz(F gp cap g h az bK n j b l bl:Nat)(va vl tl tj:Bool)(u:Nat->Value)(P:Nat->Prop)(Q0:Exit->Act->World->Prop)(w:World)(m:Nat)
  (hc:n<=az) (hd:n<=bK) (dw:n<=8) (kc:n<=cap) (hlt:j<n) (hl:l<j)
  (k0:w.cell? ⟨F,0,none⟩=some (.slice (some ⟨gp,0,none⟩) n cap)) (c1:w.cell? ⟨gp,j,none⟩=some (.pointer (some ⟨b,0,none⟩))) (c2:w.cell? ⟨b,0,none⟩=some (.int .u8 88))
  (sj:w.cell? ⟨g,j,none⟩=some (.bool va)) (hj:w.cell? ⟨h,j,none⟩=some (.bool tj)) (lp:w.cell? ⟨b,1,none⟩=some (.pointer (some ⟨bl,0,none⟩))) (ln:w.cell? ⟨bl,3,none⟩=some (.int .i64 l)) (ls:w.cell? ⟨g,l,none⟩=some (.bool vl)) (lt:w.cell? ⟨h,l,none⟩=some (.bool tl))
  (hy:Hid ((va==tl)=true->P (j+1))) (hn:Hid ((va==tl)=false->∀ a' w'',a'.defers=[]->a'.tmps.size=165->a'.tmps.getD 6 undef=.bool false->(∃ m,w''=w.drewN m)->Q0 .ret a' w'')) :
  Code.wp Tryz.prog (eT Tryz.f121) (Exit.then (λa' w''=>GI 165 [(0,.pointer (some ⟨F,0,none⟩)),(1,.slice (some ⟨g,0,none⟩) n az),(2,.slice (some ⟨h,0,none⟩) n bK)] 7 n P w a' w''/\GM 7 n a' w''<n - j) Q0)
   (jq F g az h bK n j u) (w.drewN m):=by
 unfold jq
 conv=>arg 2;whnf
 go_wp2_with fail
 all_goals go_quiet (fail)
 all_goals go_wp2_with fail
 all_goals
  first
  | exact⟨⟨rfl,rfl,by simp,j+1,by omega,by go_num,hy.out (by cases va <;> cases tl <;> first | rfl | contradiction),_,rfl⟩,by simp[GM,intOf];omega⟩
  | exact hn.out (by cases va <;> cases tl <;> first | rfl | contradiction) _ _ rfl rfl rfl ⟨_,rfl⟩
theorem SQ(F gp cap g h az bK n j b l bl:Nat)(va vl tl tj:Bool)(u:Nat->Value)(P:Nat->Prop)(Q0:Exit->Act->World->Prop)(w:World)(m:Nat)
  (hc:n<=az) (hd:n<=bK) (dw:n<=8) (kc:n<=cap) (hlt:j<n) (hl:l<j)
  (k0:w.cell? ⟨F,0,none⟩=some (.slice (some ⟨gp,0,none⟩) n cap)) (c1:w.cell? ⟨gp,j,none⟩=some (.pointer (some ⟨b,0,none⟩))) (c2:w.cell? ⟨b,0,none⟩=some (.int .u8 70))
  (sj:w.cell? ⟨g,j,none⟩=some (.bool va)) (hj:w.cell? ⟨h,j,none⟩=some (.bool tj)) (lp:w.cell? ⟨b,1,none⟩=some (.pointer (some ⟨bl,0,none⟩))) (ln:w.cell? ⟨bl,3,none⟩=some (.int .i64 l)) (ls:w.cell? ⟨g,l,none⟩=some (.bool vl)) (lt:w.cell? ⟨h,l,none⟩=some (.bool tl))
  (hy:Hid ((va==(vl||tj))=true->P (j+1))) (hn:Hid ((va==(vl||tj))=false->∀ a' w'',a'.defers=[]->a'.tmps.size=165->a'.tmps.getD 6 undef=.bool false->(∃ m,w''=w.drewN m)->Q0 .ret a' w'')) :
  Code.wp Tryz.prog (eT Tryz.f121) (Exit.then (λa' w''=>GI 165 [(0,.pointer (some ⟨F,0,none⟩)),(1,.slice (some ⟨g,0,none⟩) n az),(2,.slice (some ⟨h,0,none⟩) n bK)] 7 n P w a' w''/\GM 7 n a' w''<n - j) Q0)
   (jq F g az h bK n j u) (w.drewN m):=by
 unfold jq
 conv=>arg 2;whnf
 go_wp2_with fail;cases vl
 all_goals go_quiet (fail)
 all_goals go_wp2_with fail
 all_goals
  first
  | exact⟨⟨rfl,rfl,by simp,j+1,by omega,by go_num,hy.out (by cases va <;> cases tj <;> first | rfl | contradiction),_,rfl⟩,by simp[GM,intOf];omega⟩
  | exact hn.out (by cases va <;> cases tj <;> first | rfl | contradiction) _ _ rfl rfl rfl ⟨_,rfl⟩
theorem SN(F gp cap g h az bK n j b l bl:Nat)(va vl tl tj:Bool)(u:Nat->Value)(P:Nat->Prop)(Q0:Exit->Act->World->Prop)(w:World)(m:Nat)
  (hc:n<=az) (hd:n<=bK) (dw:n<=8) (kc:n<=cap) (hlt:j<n) (hl:l<j)
  (k0:w.cell? ⟨F,0,none⟩=some (.slice (some ⟨gp,0,none⟩) n cap)) (c1:w.cell? ⟨gp,j,none⟩=some (.pointer (some ⟨b,0,none⟩))) (c2:w.cell? ⟨b,0,none⟩=some (.int .u8 71))
  (sj:w.cell? ⟨g,j,none⟩=some (.bool va)) (hj:w.cell? ⟨h,j,none⟩=some (.bool tj)) (lp:w.cell? ⟨b,1,none⟩=some (.pointer (some ⟨bl,0,none⟩))) (ln:w.cell? ⟨bl,3,none⟩=some (.int .i64 l)) (ls:w.cell? ⟨g,l,none⟩=some (.bool vl)) (lt:w.cell? ⟨h,l,none⟩=some (.bool tl))
  (hy:Hid ((va==(vl&&tj))=true->P (j+1))) (hn:Hid ((va==(vl&&tj))=false->∀ a' w'',a'.defers=[]->a'.tmps.size=165->a'.tmps.getD 6 undef=.bool false->(∃ m,w''=w.drewN m)->Q0 .ret a' w'')) :
  Code.wp Tryz.prog (eT Tryz.f121) (Exit.then (λa' w''=>GI 165 [(0,.pointer (some ⟨F,0,none⟩)),(1,.slice (some ⟨g,0,none⟩) n az),(2,.slice (some ⟨h,0,none⟩) n bK)] 7 n P w a' w''/\GM 7 n a' w''<n - j) Q0)
   (jq F g az h bK n j u) (w.drewN m):=by
 unfold jq
 conv=>arg 2;whnf
 go_wp2_with fail;cases vl
 all_goals go_quiet (fail)
 all_goals go_wp2_with fail
 all_goals
  first
  | exact⟨⟨rfl,rfl,by simp,j+1,by omega,by go_num,hy.out (by cases va <;> cases tj <;> first | rfl | contradiction),_,rfl⟩,by simp[GM,intOf];omega⟩
  | exact hn.out (by cases va <;> cases tj <;> first | rfl | contradiction) _ _ rfl rfl rfl ⟨_,rfl⟩
theorem Ta(F gp cap g h az bK n j b:Nat)(u:Nat->Value)(P:Nat->Prop)(Q0:Exit->Act->World->Prop)(w:World)(m:Nat)
  (hc:n<=az) (hd:n<=bK) (dw:n<=8) (kc:n<=cap) (hlt:j<n)
  (k0:w.cell? ⟨F,0,none⟩=some (.slice (some ⟨gp,0,none⟩) n cap)) (c1:w.cell? ⟨gp,j,none⟩=some (.pointer (some ⟨b,0,none⟩))) (c2:w.cell? ⟨b,0,none⟩=some (.int .u8 38))
  (hy:Hid (P (j+1))) :
  Code.wp Tryz.prog (eT Tryz.f121) (Exit.then (λa' w''=>GI 165 [(0,.pointer (some ⟨F,0,none⟩)),(1,.slice (some ⟨g,0,none⟩) n az),(2,.slice (some ⟨h,0,none⟩) n bK)] 7 n P w a' w''/\GM 7 n a' w''<n - j) Q0)
   (jq F g az h bK n j u) (w.drewN m):=by
 unfold jq
 conv=>arg 2;whnf
 go_wp2_with fail;exact⟨⟨rfl,rfl,by simp,j+1,by omega,by go_num,hy.out,_,rfl⟩,by simp[GM,intOf];omega⟩
theorem PV(F gp cap g h az bK n j b:Nat)(u:Nat->Value)(P:Nat->Prop)(Q0:Exit->Act->World->Prop)(w:World)(m:Nat)
  (hc:n<=az) (hd:n<=bK) (dw:n<=8) (kc:n<=cap) (hlt:j<n)
  (k0:w.cell? ⟨F,0,none⟩=some (.slice (some ⟨gp,0,none⟩) n cap)) (c1:w.cell? ⟨gp,j,none⟩=some (.pointer (some ⟨b,0,none⟩))) (c2:w.cell? ⟨b,0,none⟩=some (.int .u8 124))
  (hy:Hid (P (j+1))) :
  Code.wp Tryz.prog (eT Tryz.f121) (Exit.then (λa' w''=>GI 165 [(0,.pointer (some ⟨F,0,none⟩)),(1,.slice (some ⟨g,0,none⟩) n az),(2,.slice (some ⟨h,0,none⟩) n bK)] 7 n P w a' w''/\GM 7 n a' w''<n - j) Q0)
   (jq F g az h bK n j u) (w.drewN m):=by
 unfold jq
 conv=>arg 2;whnf
 go_wp2_with fail;exact⟨⟨rfl,rfl,by simp,j+1,by omega,by go_num,hy.out,_,rfl⟩,by simp[GM,intOf];omega⟩
theorem SE(F gp cap g h az bK n j b l bl r br:Nat)(va vl tl tj vr:Bool)(u:Nat->Value)(P:Nat->Prop)(Q0:Exit->Act->World->Prop)(w:World)(m:Nat)
  (hc:n<=az) (hd:n<=bK) (dw:n<=8) (kc:n<=cap) (hlt:j<n) (hl:l<j) (hr:r<j)
  (k0:w.cell? ⟨F,0,none⟩=some (.slice (some ⟨gp,0,none⟩) n cap)) (c1:w.cell? ⟨gp,j,none⟩=some (.pointer (some ⟨b,0,none⟩))) (c2:w.cell? ⟨b,0,none⟩=some (.int .u8 85))
  (sj:w.cell? ⟨g,j,none⟩=some (.bool va)) (hj:w.cell? ⟨h,j,none⟩=some (.bool tj)) (lp:w.cell? ⟨b,1,none⟩=some (.pointer (some ⟨bl,0,none⟩))) (ln:w.cell? ⟨bl,3,none⟩=some (.int .i64 l)) (ls:w.cell? ⟨g,l,none⟩=some (.bool vl)) (lt:w.cell? ⟨h,l,none⟩=some (.bool tl))
  (rp:w.cell? ⟨b,2,none⟩=some (.pointer (some ⟨br,0,none⟩))) (rn:w.cell? ⟨br,3,none⟩=some (.int .i64 r)) (rs:w.cell? ⟨g,r,none⟩=some (.bool vr))
  (hy:Hid ((va==(vr||(vl&&tj)))=true->P (j+1))) (hn:Hid ((va==(vr||(vl&&tj)))=false->∀ a' w'',a'.defers=[]->a'.tmps.size=165->a'.tmps.getD 6 undef=.bool false->(∃ m,w''=w.drewN m)->Q0 .ret a' w'')) :
  Code.wp Tryz.prog (eT Tryz.f121) (Exit.then (λa' w''=>GI 165 [(0,.pointer (some ⟨F,0,none⟩)),(1,.slice (some ⟨g,0,none⟩) n az),(2,.slice (some ⟨h,0,none⟩) n bK)] 7 n P w a' w''/\GM 7 n a' w''<n - j) Q0)
   (jq F g az h bK n j u) (w.drewN m):=by
 unfold jq
 conv=>arg 2;whnf
 go_wp2_with fail;cases vr
 all_goals cases vl
 all_goals go_quiet (fail)
 all_goals go_wp2_with fail
 all_goals
  first
  | exact⟨⟨rfl,rfl,by simp,j+1,by omega,by go_num,hy.out (by cases va <;> cases tj <;> first | rfl | contradiction),_,rfl⟩,by simp[GM,intOf];omega⟩
  | exact hn.out (by cases va <;> cases tj <;> first | rfl | contradiction) _ _ rfl rfl rfl ⟨_,rfl⟩
theorem SI(F gp cap g h az bK n j b l bl r br:Nat)(va vl tl tj vr:Bool)(u:Nat->Value)(P:Nat->Prop)(Q0:Exit->Act->World->Prop)(w:World)(m:Nat)
  (hc:n<=az) (hd:n<=bK) (dw:n<=8) (kc:n<=cap) (hlt:j<n) (hl:l<j) (hr:r<j)
  (k0:w.cell? ⟨F,0,none⟩=some (.slice (some ⟨gp,0,none⟩) n cap)) (c1:w.cell? ⟨gp,j,none⟩=some (.pointer (some ⟨b,0,none⟩))) (c2:w.cell? ⟨b,0,none⟩=some (.int .u8 82))
  (sj:w.cell? ⟨g,j,none⟩=some (.bool va)) (hj:w.cell? ⟨h,j,none⟩=some (.bool tj)) (lp:w.cell? ⟨b,1,none⟩=some (.pointer (some ⟨bl,0,none⟩))) (ln:w.cell? ⟨bl,3,none⟩=some (.int .i64 l)) (ls:w.cell? ⟨g,l,none⟩=some (.bool vl)) (lt:w.cell? ⟨h,l,none⟩=some (.bool tl))
  (rp:w.cell? ⟨b,2,none⟩=some (.pointer (some ⟨br,0,none⟩))) (rn:w.cell? ⟨br,3,none⟩=some (.int .i64 r)) (rs:w.cell? ⟨g,r,none⟩=some (.bool vr))
  (hy:Hid ((va==(vr&&(vl||tj)))=true->P (j+1))) (hn:Hid ((va==(vr&&(vl||tj)))=false->∀ a' w'',a'.defers=[]->a'.tmps.size=165->a'.tmps.getD 6 undef=.bool false->(∃ m,w''=w.drewN m)->Q0 .ret a' w'')) :
  Code.wp Tryz.prog (eT Tryz.f121) (Exit.then (λa' w''=>GI 165 [(0,.pointer (some ⟨F,0,none⟩)),(1,.slice (some ⟨g,0,none⟩) n az),(2,.slice (some ⟨h,0,none⟩) n bK)] 7 n P w a' w''/\GM 7 n a' w''<n - j) Q0)
   (jq F g az h bK n j u) (w.drewN m):=by
 unfold jq
 conv=>arg 2;whnf
 go_wp2_with fail;cases vr
 all_goals cases vl
 all_goals go_quiet (fail)
 all_goals go_wp2_with fail
 all_goals
  first
  | exact⟨⟨rfl,rfl,by simp,j+1,by omega,by go_num,hy.out (by cases va <;> cases tj <;> first | rfl | contradiction),_,rfl⟩,by simp[GM,intOf];omega⟩
  | exact hn.out (by cases va <;> cases tj <;> first | rfl | contradiction) _ _ rfl rfl rfl ⟨_,rfl⟩
theorem ain(F gp cap g h az bK n:Nat)(u:Nat->Value)(Z:Act->World->Prop)(Q0:Exit->Act->World->Prop)(w:World)(m:Nat)(dw:n<=8)(kc:n<=cap)
  (k0:w.cell? ⟨F,0,none⟩=some (.slice (some ⟨gp,0,none⟩) n cap)) (hx:∀ a' w'',a'.defers=[]->a'.tmps.size=165->(∃ m,w''=w.drewN m)->Q0 (.exit 0) a' w'') :
  Code.wp Tryz.prog (eT Tryz.f121) (Exit.then Z Q0) (jq F g az h bK n n u) (w.drewN m):=by
 unfold jq
 conv=>arg 2;whnf
 go_wp2_with fail;exact hx _ _ rfl rfl ⟨_,rfl⟩
