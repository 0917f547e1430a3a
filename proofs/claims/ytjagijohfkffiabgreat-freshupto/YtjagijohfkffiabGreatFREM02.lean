import Derived.Test.YtjagijohfkffiabGreatFREM01
set_option maxHeartbeats 16000000
set_option maxRecDepth 100000
set_option linter.unusedSimpArgs false
namespace Go.Proofs.YtjagijohfkffiabGreat
open Go.RowKit
set_option linter.unusedVariables false
theorem kY{n i:Nat}{fin:Bool}{k:Int}:fJ n i fin k=true↔0<=k/\k<n/\(fin=true->k=i):=by
 unfold fJ;cases fin <;> simp[and_assoc]
theorem JD{l:List Int}{p:Int->Bool}(h:∀ m,m<l.length->p (l.getD m 0)=true):l.all p=true:=by
 rw[List.all_eq_true];intro x hx;obtain⟨i,hi,rfl⟩:=aBC hx;simpa [List.getD,aAV hi] using h i hi
theorem jP{l:List Int}{p:Int->Bool}{m:Nat}(hm:m<l.length)(h:p (l.getD m 0)=false):l.all p=false:=by
 rw[List.all_eq_false];exact⟨l[m],List.getElem_mem hm,by simpa [List.getD,aAV hm] using h⟩
theorem arv(a0 a1 a2 a3 a4 a5 a6 a7:Int):∀ j,j<8->(#[Value.int .i64 a0,.int .i64 a1,.int .i64 a2,.int .i64 a3,.int .i64 a4,.int .i64 a5,.int .i64 a6,.int .i64 a7]:Array Value)[j]?=some (.int .i64 ([a0,a1,a2,a3,a4,a5,a6,a7].getD j 0)):=by
 intro j hj
 match j,hj with
 | 0,_ | 1,_ | 2,_ | 3,_ | 4,_ | 5,_ | 6,_ | 7,_=>rfl
theorem AJ(o:Int){l:List Int}(h8:l.length=8):∃ a0 a1 a2 a3 a4 a5 a6 a7,yR ⟨o,l⟩=#[.int .i64 o,.int .i64 a0,.int .i64 a1,.int .i64 a2,.int .i64 a3,.int .i64 a4,.int .i64 a5,.int .i64 a6,.int .i64 a7] /\
  Hid (∀ j,j<8->(#[Value.int .i64 a0,.int .i64 a1,.int .i64 a2,.int .i64 a3,.int .i64 a4,.int .i64 a5,.int .i64 a6,.int .i64 a7]:Array Value)[j]?=some (.int .i64 (l.getD j 0))):=by
 obtain⟨a0,a1,a2,a3,a4,a5,a6,a7,rfl⟩:=Ih h8;exact⟨a0,a1,a2,a3,a4,a5,a6,a7,rfl,hid (arv a0 a1 a2 a3 a4 a5 a6 a7)⟩
theorem abn(l:List Int)(i0 n:Nat)(w:World)(h8:l.length=8)(hi:i0<100)(hn:n<100) :
  Calls Tryz.prog 126 #[.agg (yR ⟨0,l⟩),.int .i64 i0,.int .i64 n] w λe w'=>e=.returned (.bool (qf n i0 ⟨0,l⟩))/\Below w.heap.size w w':=by
 have HB:Hid (qf n i0 ⟨0,l⟩=l.all (fJ n i0 false)):=hid (by simp[qf,wB]);obtain⟨a0,a1,a2,a3,a4,a5,a6,a7,e,HX⟩:=AJ 0 h8;have HL:=hid h8;rw[e];clear e h8;go_enter Tryz.func126,Tryz.ntmps126;go_wp2_with fail;generalize (#[Value.int .i64 a0,.int .i64 a1,.int .i64 a2,.int .i64 a3,.int .i64 a4,.int .i64 a5,.int .i64 a6,.int .i64 a7]:Array Value)=X at *
 go_loop [27] (λi=>∃ j:Nat,j<=8/\i=.int .i64 j/\Hid (∀ m,m<j->fJ n i0 false (l.getD m 0)=true)) (λi=>8 - (intOf i).toNat)
 case atStart=>exact⟨0,aA8 _,rfl,hid (λm hm=>by omega)⟩
 case round=>
  obtain⟨j,hj,rfl,HI⟩:=hrel;by_cases hlt:j<8
  ·have IX:=λW=>kr (P:=Tryz.prog) W Tryz.underlying117 (ng Tryz.underlying3) (by kernel_rfl) hlt (HX.out j hlt);by_cases h1:l.getD j 0<0
   ·have HN:=hid (jP (l:=l) (p:=fJ n i0 false) (m:=j) (by rw[HL.out];exact hlt) (by
     cases e:fJ n i0 false (l.getD j 0) with
     | false=>rfl
     | true=>rw[kY]at e;omega))
    generalize l.getD j 0=x at *;go_wp2_with fail;go_ret;exact⟨by rw[HB.out,HN.out];rfl,(aAW _ _).alloc (aAU _) _⟩
   by_cases h2:(n:Int)<=l.getD j 0
   ·have HN:=hid (jP (l:=l) (p:=fJ n i0 false) (m:=j) (by rw[HL.out];exact hlt) (by
     cases e:fJ n i0 false (l.getD j 0) with
     | false=>rfl
     | true=>rw[kY]at e;omega))
    generalize l.getD j 0=x at *;go_wp2_with fail;go_ret;exact⟨by rw[HB.out,HN.out];rfl,(aAW _ _).alloc (aAU _) _⟩
   have HG:=hid ((kY (n:=n) (i:=i0) (fin:=false) (k:=l.getD j 0)).2 ⟨by omega,by omega,λh=>by cases h⟩);generalize hx:l.getD j 0=x at *;have HE:=hid hx;clear hx;go_wp2_with fail
   go_round
   case rel=>
    refine⟨j+1,by omega,by go_num,hid (λm hm=>?_)⟩;by_cases e:m<j
    ·exact HI.out m e
    ·rw[show m=j by omega,HE.out];exact HG.out
   case measure=>simp[intOf];omega
  ·have HA:=hid (JD (l:=l) (p:=fJ n i0 false) (λm hm=>HI.out m (by rw[HL.out]at hm;omega)));go_wp2_with fail;go_ret;exact⟨by rw[HB.out,HA.out];rfl,(aAW _ _).alloc (aAU _) _⟩
theorem aeC(l:List Int)(i0 n:Nat)(w:World)(h8:l.length=8)(hi:i0<100)(hn:n<100) :
  Calls Tryz.prog 126 #[.agg (yR ⟨1,l⟩),.int .i64 i0,.int .i64 n] w λe w'=>e=.returned (.bool (qf n i0 ⟨1,l⟩))/\Below w.heap.size w w':=by
 have HB:Hid (qf n i0 ⟨1,l⟩=l.all (fJ n i0 true)):=hid (by simp[qf,wB]);obtain⟨a0,a1,a2,a3,a4,a5,a6,a7,e,HX⟩:=AJ 1 h8;have HL:=hid h8;rw[e];clear e h8;go_enter Tryz.func126,Tryz.ntmps126;go_wp2_with fail;generalize (#[Value.int .i64 a0,.int .i64 a1,.int .i64 a2,.int .i64 a3,.int .i64 a4,.int .i64 a5,.int .i64 a6,.int .i64 a7]:Array Value)=X at *
 go_loop [27] (λi=>∃ j:Nat,j<=8/\i=.int .i64 j/\Hid (∀ m,m<j->fJ n i0 true (l.getD m 0)=true)) (λi=>8 - (intOf i).toNat)
 case atStart=>exact⟨0,aA8 _,rfl,hid (λm hm=>by omega)⟩
 case round=>
  obtain⟨j,hj,rfl,HI⟩:=hrel;by_cases hlt:j<8
  ·have IX:=λW=>kr (P:=Tryz.prog) W Tryz.underlying117 (ng Tryz.underlying3) (by kernel_rfl) hlt (HX.out j hlt);by_cases h1:l.getD j 0<0
   ·have HN:=hid (jP (l:=l) (p:=fJ n i0 true) (m:=j) (by rw[HL.out];exact hlt) (by
     cases e:fJ n i0 true (l.getD j 0) with
     | false=>rfl
     | true=>rw[kY]at e;omega))
    generalize l.getD j 0=x at *;go_wp2_with fail;go_ret;exact⟨by rw[HB.out,HN.out];rfl,(aAW _ _).alloc (aAU _) _⟩
   by_cases h2:(n:Int)<=l.getD j 0
   ·have HN:=hid (jP (l:=l) (p:=fJ n i0 true) (m:=j) (by rw[HL.out];exact hlt) (by
     cases e:fJ n i0 true (l.getD j 0) with
     | false=>rfl
     | true=>rw[kY]at e;omega))
    generalize l.getD j 0=x at *;go_wp2_with fail;go_ret;exact⟨by rw[HB.out,HN.out];rfl,(aAW _ _).alloc (aAU _) _⟩
   by_cases h3:l.getD j 0=(i0:Int)
   ·have HG:=hid ((kY (n:=n) (i:=i0) (fin:=true) (k:=l.getD j 0)).2 ⟨by omega,by omega,λ_=>h3⟩);have k3:((l.getD j 0)==(i0:Int))=true:=beq_iff_eq.2 h3;clear h3;generalize hx:l.getD j 0=x at *;have HE:=hid hx;clear hx;go_wp2_with fail
    go_round
    case rel=>
     refine⟨j+1,by omega,by go_num,hid (λm hm=>?_)⟩;by_cases e:m<j
     ·exact HI.out m e
     ·rw[show m=j by omega,HE.out];exact HG.out
    case measure=>simp[intOf];omega
   ·have HN:=hid (jP (l:=l) (p:=fJ n i0 true) (m:=j) (by rw[HL.out];exact hlt) (by
     cases e:fJ n i0 true (l.getD j 0) with
     | false=>rfl
     | true=>rw[kY]at e;exact absurd (e.2.2 rfl) h3))
    have k3:((l.getD j 0)==(i0:Int))=false:=aA6.2 h3;clear h3;generalize l.getD j 0=x at *;go_wp2_with fail;go_ret;exact⟨by rw[HB.out,HN.out];rfl,(aAW _ _).alloc (aAU _) _⟩
  ·have HA:=hid (JD (l:=l) (p:=fJ n i0 true) (λm hm=>HI.out m (by rw[HL.out]at hm;omega)));go_wp2_with fail;go_ret;exact⟨by rw[HB.out,HA.out];rfl,(aAW _ _).alloc (aAU _) _⟩
theorem aeA(l:List Int)(i0 n:Nat)(w:World)(h8:l.length=8)(hi:i0<100)(hn:n<100) :
  Calls Tryz.prog 126 #[.agg (yR ⟨2,l⟩),.int .i64 i0,.int .i64 n] w λe w'=>e=.returned (.bool (qf n i0 ⟨2,l⟩))/\Below w.heap.size w w':=by
 have HB:Hid (qf n i0 ⟨2,l⟩=l.all (fJ n i0 true)):=hid (by simp[qf,wB]);obtain⟨a0,a1,a2,a3,a4,a5,a6,a7,e,HX⟩:=AJ 2 h8;have HL:=hid h8;rw[e];clear e h8;go_enter Tryz.func126,Tryz.ntmps126;go_wp2_with fail;generalize (#[Value.int .i64 a0,.int .i64 a1,.int .i64 a2,.int .i64 a3,.int .i64 a4,.int .i64 a5,.int .i64 a6,.int .i64 a7]:Array Value)=X at *
 go_loop [27] (λi=>∃ j:Nat,j<=8/\i=.int .i64 j/\Hid (∀ m,m<j->fJ n i0 true (l.getD m 0)=true)) (λi=>8 - (intOf i).toNat)
 case atStart=>exact⟨0,aA8 _,rfl,hid (λm hm=>by omega)⟩
 case round=>
  obtain⟨j,hj,rfl,HI⟩:=hrel;by_cases hlt:j<8
  ·have IX:=λW=>kr (P:=Tryz.prog) W Tryz.underlying117 (ng Tryz.underlying3) (by kernel_rfl) hlt (HX.out j hlt);by_cases h1:l.getD j 0<0
   ·have HN:=hid (jP (l:=l) (p:=fJ n i0 true) (m:=j) (by rw[HL.out];exact hlt) (by
     cases e:fJ n i0 true (l.getD j 0) with
     | false=>rfl
     | true=>rw[kY]at e;omega))
    generalize l.getD j 0=x at *;go_wp2_with fail;go_ret;exact⟨by rw[HB.out,HN.out];rfl,(aAW _ _).alloc (aAU _) _⟩
   by_cases h2:(n:Int)<=l.getD j 0
   ·have HN:=hid (jP (l:=l) (p:=fJ n i0 true) (m:=j) (by rw[HL.out];exact hlt) (by
     cases e:fJ n i0 true (l.getD j 0) with
     | false=>rfl
     | true=>rw[kY]at e;omega))
    generalize l.getD j 0=x at *;go_wp2_with fail;go_ret;exact⟨by rw[HB.out,HN.out];rfl,(aAW _ _).alloc (aAU _) _⟩
   by_cases h3:l.getD j 0=(i0:Int)
   ·have HG:=hid ((kY (n:=n) (i:=i0) (fin:=true) (k:=l.getD j 0)).2 ⟨by omega,by omega,λ_=>h3⟩);have k3:((l.getD j 0)==(i0:Int))=true:=beq_iff_eq.2 h3;clear h3;generalize hx:l.getD j 0=x at *;have HE:=hid hx;clear hx;go_wp2_with fail
    go_round
    case rel=>
     refine⟨j+1,by omega,by go_num,hid (λm hm=>?_)⟩;by_cases e:m<j
     ·exact HI.out m e
     ·rw[show m=j by omega,HE.out];exact HG.out
    case measure=>simp[intOf];omega
   ·have HN:=hid (jP (l:=l) (p:=fJ n i0 true) (m:=j) (by rw[HL.out];exact hlt) (by
     cases e:fJ n i0 true (l.getD j 0) with
     | false=>rfl
     | true=>rw[kY]at e;exact absurd (e.2.2 rfl) h3))
    have k3:((l.getD j 0)==(i0:Int))=false:=aA6.2 h3;clear h3;generalize l.getD j 0=x at *;go_wp2_with fail;go_ret;exact⟨by rw[HB.out,HN.out];rfl,(aAW _ _).alloc (aAU _) _⟩
  ·have HA:=hid (JD (l:=l) (p:=fJ n i0 true) (λm hm=>HI.out m (by rw[HL.out]at hm;omega)));go_wp2_with fail;go_ret;exact⟨by rw[HB.out,HA.out];rfl,(aAW _ _).alloc (aAU _) _⟩
theorem abo(o:Int)(l:List Int)(i0 n:Nat)(w:World)(h8:l.length=8)(h0:o≠0)(h1:o≠1)(h2:o≠2) :
  Calls Tryz.prog 126 #[.agg (yR ⟨o,l⟩),.int .i64 i0,.int .i64 n] w λe w'=>e=.returned (.bool (qf n i0 ⟨o,l⟩))/\Below w.heap.size w w':=by
 have HB:Hid (qf n i0 ⟨o,l⟩=false):=hid (by simp[qf,wB,h0,h1,h2]);have k0:(o==0)=false:=aA6.2 h0;have k1:(o==1)=false:=aA6.2 h1;have k2:(o==2)=false:=aA6.2 h2;obtain⟨a0,a1,a2,a3,a4,a5,a6,a7,e,HX⟩:=AJ o h8;rw[e];clear e h0 h1 h2;go_enter Tryz.func126,Tryz.ntmps126;go_wp2_with fail;go_ret;exact⟨by rw[HB.out];rfl,(aAW _ _).alloc (aAU _) _⟩
theorem aeE(s:St)(i0 n:Nat)(w:World)(h8:s.next.length=8)(hi:i0<100)(hn:n<100) :
  Calls Tryz.prog 126 #[.agg (yR s),.int .i64 i0,.int .i64 n] w λe w'=>e=.returned (.bool (qf n i0 s))/\Below w.heap.size w w':=by
 obtain⟨o,l⟩:=s;by_cases h0:o=0
 ·subst h0;exact abn l i0 n w h8 hi hn
 by_cases h1:o=1
 ·subst h1;exact aeC l i0 n w h8 hi hn
 by_cases h2:o=2
 ·subst h2;exact aeA l i0 n w h8 hi hn
 exact abo o l i0 n w h8 h0 h1 h2
theorem aiQ{ss:List St}{j:Nat}(hj:j<ss.length)(h:qf ss.length j (dF ss j)=false):oq ss=false:=by
 cases e:oq ss with
 | false=>rfl
 | true=>rw[qR]at e;rw[e.2.2 j hj]at h;cases h
theorem Nz{w:World}{B n cap g:Nat}{ss:List St}(h:w.ownsRow B 119 9 (.slice (some ⟨g,0,none⟩) n cap) n (ik ss))(h8:lU ss)(hn:ss.length=n){j:Nat}(hj:j<n) :
  ∀ k,k<9->w.cell? ⟨g,j*9+k,none⟩=(jT (dF ss j))[k]?:=λk hk=>by
 rw[h.cellAt (j*9+k) (by omega)];exact FP h8 (by omega) hk
theorem aiP(ao:Option Addr)(n cap:Nat)(ss:List St)(w:World)(hl:ss.length=n)(hn:n<1\/8<n)(hm:n<=1000) :
  Calls Tryz.prog 79 #[.slice ao n cap] w λe w'=>e=.returned (.bool (oq ss))/\Below w.heap.size w w':=by
 have HB:Hid (oq ss=false):=hid (by
  cases e:oq ss with
  | false=>rfl
  | true=>rw[qR]at e;omega)
 clear hl;rcases hn with hn | hn
 ·obtain rfl:n=0:=by omega
  go_enter Tryz.func79,Tryz.ntmps79;go_wp2_with fail;go_ret;exact⟨by rw[HB.out];rfl,aAW _ _⟩
 ·have h1:¬ n<1:=by omega
  go_enter Tryz.func79,Tryz.ntmps79;go_wp2_with fail;go_ret;exact⟨by rw[HB.out];rfl,aAW _ _⟩
theorem ag9(g n cap B:Nat)(ss:List St)(w:World)(hr:w.ownsRow B 119 9 (.slice (some ⟨g,0,none⟩) n cap) n (ik ss))(h8:lU ss)(hl:ss.length=n)(hn:1<=n)(hm:n<=8)(hg:g<w.heap.size)(hcap:n<=cap) :
  Calls Tryz.prog 79 #[.slice (some ⟨g,0,none⟩) n cap] w λe w'=>e=.returned (.bool (oq ss))/\Below w.heap.size w w':=by
 have HR:=hid hr;clear hr;have h1:¬ n<1:=by omega
 have h2:¬ 8<n:=by omega
 go_enter Tryz.func79,Tryz.ntmps79;go_wp2_with fail
 go_loopw [15] (λi wr=>∃ j:Nat,j<=n/\i=.int .i64 j/\Hid (∀ m,m<j->qf n m (dF ss m)=true)/\Below w.heap.size w wr) (λi _=>n - (intOf i).toNat)
 case atStart=>exact⟨0,aA8 _,rfl,hid (λm hm=>by omega),aAW _ _⟩
 case round=>
  obtain⟨j,hj,rfl,HI,hb⟩:=hrel;by_cases hlt:j<n
  ·have S:=Nz HR.out h8 hl hlt;have DK:=Jq h8 (i:=j) (by omega);have F:=λW=>aeE (dF ss j) j n W DK (by omega) (by omega);have HN:Hid (qf n j (dF ss j)=false->oq ss=false):=hid (λh=>aiQ (j:=j) (by omega) (by rw[hl];exact h));obtain⟨a0,a1,a2,a3,a4,a5,a6,a7,ea,_⟩:=AJ (dF ss j).out DK;rw[show (⟨(dF ss j).out,(dF ss j).next⟩:St)=dF ss j from rfl]at ea;have ec:jT (dF ss j)=[.int .i64 (dF ss j).out,.int .i64 a0,.int .i64 a1,.int .i64 a2,.int .i64 a3,.int .i64 a4,.int .i64 a5,.int .i64 a6,.int .i64 a7]:=by
    have:=congrArg Array.toList ea;simpa [yR] using this
   rw[ec]at S;rw[ea]at F;generalize (dF ss j).out=o at *;have c0:=(hb.cell (p:=⟨g,j*9,none⟩) hg).trans (S 0 (by decide));have c1:=(hb.cell (p:=⟨g,j*9+1,none⟩) hg).trans (S 1 (by decide));have c2:=(hb.cell (p:=⟨g,j*9+2,none⟩) hg).trans (S 2 (by decide));have c3:=(hb.cell (p:=⟨g,j*9+3,none⟩) hg).trans (S 3 (by decide));have c4:=(hb.cell (p:=⟨g,j*9+4,none⟩) hg).trans (S 4 (by decide));have c5:=(hb.cell (p:=⟨g,j*9+5,none⟩) hg).trans (S 5 (by decide));have c6:=(hb.cell (p:=⟨g,j*9+6,none⟩) hg).trans (S 6 (by decide));have c7:=(hb.cell (p:=⟨g,j*9+7,none⟩) hg).trans (S 7 (by decide));have c8:=(hb.cell (p:=⟨g,j*9+8,none⟩) hg).trans (S 8 (by decide));simp only[List.getElem?_cons_succ,List.getElem?_cons_zero]at c0 c1 c2 c3 c4 c5 c6 c7 c8;clear S ea ec;cases ev:qf n j (dF ss j) with
   | true=>
    have HV:=hid ev;clear ev;go_wp2_with fail;refine(F _).mono ?_;rintro e w2 ⟨rfl,ak⟩;rw[HV.out];have B2:=hid (hb.trans (((aAW _ _).alloc hb.size _).trans (ak.mono (by have:=hb.size;simp;omega))));clear ak c0 c1 c2 c3 c4 c5 c6 c7 c8;go_wp2_with fail;go_roundw
    case rel=>
     refine⟨j+1,by omega,by go_num,hid (λm hm=>?_),B2.out⟩;by_cases e:m<j
     ·exact HI.out m e
     ·rw[show m=j by omega];exact HV.out
    case measure=>simp[intOf];omega
   | false=>
    have HV:=hid ev;clear ev;go_wp2_with fail;refine(F _).mono ?_;rintro e w2 ⟨rfl,ak⟩;rw[HV.out];have B2:=hid (hb.trans (((aAW _ _).alloc hb.size _).trans (ak.mono (by have:=hb.size;simp;omega))));clear ak c0 c1 c2 c3 c4 c5 c6 c7 c8;go_wp2_with fail;go_ret;exact⟨by rw[HN.out HV.out];rfl,B2.out⟩
  ·have HA:Hid (oq ss=true):=hid (qR.2 ⟨by omega,by omega,λi hi=>by rw[hl];exact HI.out i (by omega)⟩);go_wp2_with fail;go_ret;exact⟨by rw[HA.out];rfl,hb⟩
theorem ae{B:Nat}{e:TypeId}{k:Nat}{v:Value}{n:Nat}{xs:List Value}{w w':World}(h:w.ownsRow B e k v n xs)(hb:Below w.heap.size w w'):w'.ownsRow B e k v n xs:=
 h.kept (row:=none) ⟨hb.os,hb.tape,hb.output,hb.size,λj hj _=>hb.block j hj⟩ (by cases hv:v.ownBlock <;> simp)
theorem dX{w:World}{B e size n cap:Nat}{ao:Option Addr}{xs:List Value}(h:w.ownsRow B e size (.slice ao n cap) n xs)(hn:0<n):∃ g,ao=some ⟨g,0,none⟩/\B<=g/\g<w.heap.size/\n<=cap:=by
 rcases h.2 with⟨e,h0⟩ | ⟨g,cap',cur,e,hb,hh,hc,_⟩
 ·omega
 ·cases e;exact⟨g,rfl,hb,(aBm.1 hh).1,hc⟩
theorem aC{w:World}{B B' e e' size am4 n n':Nat}{v v':Value}{xs xs':List Value}(h:w.ownsRow B e size v n xs)(h':w.ownsRow B' e' am4 v' n' xs')(hne:e≠e'):v.ownBlock=none\/v.ownBlock≠v'.ownBlock:=by
 rcases h.2 with⟨rfl,_⟩ | ⟨g,cap,cur,rfl,_,hg,_⟩
 ·exact aA2 rfl
 ·rcases h'.2 with⟨rfl,_⟩ | ⟨g',cap',ass,rfl,_,R7,_⟩
  ·exact aA3 (by simp[Value.ownBlock])
  ·refine aA3 λe=>?_;simp[Value.ownBlock]at e;subst e;rw[hg]at R7;simp at R7;exact hne R7.2
theorem ax{w:World}{base:Nat}{e:TypeId}{size:Nat}{v:Value}{n:Nat}{xs:List Value}(h:w.ownsRow base e size v n xs){k:Nat}(hk:k<base)(o:Nat)(u:Value):(w.setCell ⟨k,o,none⟩ u).ownsRow base e size v n xs:=ownsRow_setCell_below h (by simpa using hk) u
theorem ai{w:World}{B:Nat}{e:TypeId}{size:Nat}{v:Value}{n:Nat}{xs:List Value}(h:w.ownsRow B e size v n xs):∃ ao cap,v=.slice ao n cap:=by
 rcases h.2 with⟨rfl,rfl⟩ | ⟨g,cap,cur,rfl,_⟩
 ·exact⟨none,0,rfl⟩
 ·exact⟨_,cap,rfl⟩
theorem AV{w:World}{B:Nat}{v:Value}{n:Nat}{xs:List Value}{e:TypeId}{size:Nat}(h:w.ownsRow B e size v n xs)(hn:0<n):∃ g cap,v=.slice (some ⟨g,0,none⟩) n cap/\B<=g/\g<w.heap.size/\n<=cap:=by
 rcases h.2 with⟨_,h0⟩ | ⟨g,cap,cur,rfl,hb,hg,hc,_⟩
 ·omega
 ·exact⟨g,cap,rfl,hb,(aBm.1 hg).1,hc⟩
structure Two (w:World) (b:Nat) (x y:Value):Prop where
 c0:w.cell? ⟨b,0,none⟩=some x
 c1:w.cell? ⟨b,1,none⟩=some y
 f0:w.frozen? ⟨b,0,none⟩=false
 f1:w.frozen? ⟨b,1,none⟩=false
theorem Two.lt{w:World}{b:Nat}{x y:Value}(h:Two w b x y):b<w.heap.size:=World.block_lt_of_cell? w ⟨b,0,none⟩ h.c0
theorem dD(w:World)(x y:Value)(t:TypeId):Two (w.alloc (.cells #[x,y] t)) w.heap.size x y:=⟨by simp,by simp,by simp,by simp⟩
theorem Two.below{B:Nat}{w w':World}{b:Nat}{x y:Value}(h:Two w b x y)(hb:Below B w w')(hlt:b<B):Two w' b x y:=
 ⟨(hb.cell (p:=⟨b,0,none⟩) hlt).trans h.c0,(hb.cell (p:=⟨b,1,none⟩) hlt).trans h.c1,(hb.frozen (p:=⟨b,0,none⟩) hlt).trans h.f0,(hb.frozen (p:=⟨b,1,none⟩) hlt).trans h.f1⟩
theorem Two.set0{w:World}{b:Nat}{x y:Value}(h:Two w b x y)(v:Value):Two (w.setCell ⟨b,0,none⟩ v) b v y:=
 ⟨aBr _ _ _ h.c0,by rw[aA0 _ _ _ _ (by simp)];exact h.c1,by rw[aBe];exact h.f0,by rw[aBe];exact h.f1⟩
theorem Two.set1{w:World}{b:Nat}{x y:Value}(h:Two w b x y)(v:Value):Two (w.setCell ⟨b,1,none⟩ v) b x v:=
 ⟨by rw[aA0 _ _ _ _ (by simp)];exact h.c0,aBr _ _ _ h.c1,by rw[aBe];exact h.f0,by rw[aBe];exact h.f1⟩
theorem Two.other{w:World}{b k o:Nat}{x y:Value}(h:Two w b x y)(hk:k≠b)(v:Value):Two (w.setCell ⟨k,o,none⟩ v) b x y:=
 ⟨by rw[aA0 _ _ _ _ (λe=>hk (congrArg Addr.block e))];exact h.c0,by rw[aA0 _ _ _ _ (λe=>hk (congrArg Addr.block e))];exact h.c1,by rw[aBe];exact h.f0,by rw[aBe];exact h.f1⟩
theorem Tryz.uB:(Tryz.prog.info? 3).map (λi=>(i.zero,i.size,i.bytes))=some (some (.int .i64 0),1,8):=by kernel_rfl
theorem xI(b off j:Nat):(⟨b,off,none⟩:Addr).add j=⟨b,off+j,none⟩:=by simp[Addr.add]
theorem Ints.src{w:World}{ao:Option Addr}{len cap:Nat}{zs:List Int}(h:Ints w ao len cap zs):∀ ad,ao=some ad->∀ j u,(zs.map (Value.int .i64))[j]?=some u->w.cell? (ad.add j)=some u:=by
 intro ad e j u hj;have iB:=(aA1.1 hj).1;simp at iB;have hl:=h.hlen;obtain⟨b,off,e2,_,hc⟩:=h.hcell (by omega);rw[e]at e2;cases e2;rw[xI,hc j (by omega)];simp[aAV iB]at hj;simp[List.getD,aAV iB,hj]
theorem xG(zs:List Int):∀ u∈zs.map (Value.int .i64),u.oneCell'=true:=by
 intro u hu;obtain⟨x,_,rfl⟩:=aBM.1 hu;rfl
section
variable (a1 a2:Option Addr) (l1 c1 l2 c2:Nat) (z1 z2:List Int) (w:World)
end
structure Lists (w:World) (ao:Option Addr) (len cap:Nat) (ag:List (List Int)):Prop where
 hlen:ag.length=len
 hcap:len<=cap
 hmax:cap<=9223372036854775807
 hnil:ao=none->len=0/\cap=0
 hcell:0<len->∃ b off,ao=some ⟨b,off,none⟩/\b<w.heap.size/\∀ i,i<len->∃ a l c,w.cell? ⟨b,off+i,none⟩=some (.slice a l c)/\Ints w a l c (ag.getD i [])
theorem Lists.below{w w':World}{ao:Option Addr}{len cap:Nat}{ag:List (List Int)}(h:Lists w ao len cap ag)(hb:Below w.heap.size w w'):Lists w' ao len cap ag:=by
 refine⟨h.hlen,h.hcap,h.hmax,h.hnil,λh0=>?_⟩;obtain⟨b,off,e,hlt,hc⟩:=h.hcell h0;refine⟨b,off,e,aBi hlt hb.size,λi hi=>?_⟩;obtain⟨a,l,c,h1,h2⟩:=hc i hi;exact⟨a,l,c,by rw[hb.cell (p:=⟨b,off+i,none⟩) hlt];exact h1,h2.below hb⟩
theorem Tryz.aaF:(Tryz.prog.info? 119).map (λi=>(i.zero,i.size,i.bytes))=some (some (.agg #[.int .i64 0,.int .i64 0,.int .i64 0,.int .i64 0,.int .i64 0,.int .i64 0,.int .i64 0,.int .i64 0,.int .i64 0]),9,72):=by kernel_rfl
structure Uf (w:World) (b:Nat) (f:Nat->Int):Prop where
 cell:∀ i,i<9->w.cell? ⟨b,i,none⟩=some (.int .i64 (f i))
 free:∀ i,i<9->w.frozen? ⟨b,i,none⟩=false
theorem Uf.set{w:World}{b:Nat}{f:Nat->Int}(h:Uf w b f){k:Nat}(hk:k<9)(z:Int):Uf (w.setCell ⟨b,k,none⟩ (.int .i64 z)) b (λi=>if i=k then z else f i):=by
 refine⟨λi hi=>?_,λi hi=>by rw[aBe];exact h.free i hi⟩;by_cases e:i=k
 ·subst e;simp only[if_true];exact aBr _ _ _ (h.cell i hi)
 ·simp only[aBT e];rw[aA0 _ _ _ _ (λh=>e (by have:=congrArg Addr.off h;simp at this;omega))];exact h.cell i hi
theorem Z7(w:World)(a0 a1 a2 a3 a4 a5 a6 a7 a8:Int)(t:TypeId):Uf (w.alloc (.cells #[.int .i64 a0,.int .i64 a1,.int .i64 a2,.int .i64 a3,.int .i64 a4,.int .i64 a5,.int .i64 a6,.int .i64 a7,.int .i64 a8] t)) w.heap.size (λi=>[a0,a1,a2,a3,a4,a5,a6,a7,a8].getD i 0):=by
 refine⟨λi hi=>?_,λi hi=>by simp⟩;rw[aBQ]
 match i,hi with
 | 0,_ | 1,_ | 2,_ | 3,_ | 4,_ | 5,_ | 6,_ | 7,_ | 8,_=>rfl
theorem eu(w:World)(xs:List Value)(t:TypeId):∀ j u,xs[j]?=some u->(w.alloc (.cells xs.toArray t)).cell? ((⟨w.heap.size,0,none⟩:Addr).add j)=some u:=by
 intro j u hj;rw[xI,aBo,aBQ];simpa using hj
theorem Ky{os:List Int}{ls:List (List Int)}(h:jm os ls=true):ls.length=os.length/\(∀ i,i<ls.length->(ls.getD i []).length=8)/\oq (lF os ls)=true:=by
 unfold jm at h;simp only[aBz,aBR,List.all_eq_true]at h;refine⟨h.1.1,λi hi=>?_,h.2⟩;have:=h.1.2 ls[i] (List.getElem_mem hi);simpa [List.getD,aAV hi] using this
theorem OE{os:List Int}{ls:List (List Int)}(h1:ls.length=os.length)(h2:∀ i,i<ls.length->(ls.getD i []).length=8):jm os ls=oq (lF os ls)/\lU (lF os ls):=by
 have h3:ls.all (λl=>decide (l.length=8))=true:=by
  rw[List.all_eq_true];intro x hx;obtain⟨i,hi,rfl⟩:=aBC hx;have:=h2 i hi;simpa [List.getD,aAV hi] using this
 exact⟨by unfold jm;rw[h3];simp[h1],Y4 h3⟩
theorem FI{os:List Int}{ls:List (List Int)}(h:jm os ls=true->False):jm os ls=false:=by
 cases e:jm os ls with
 | false=>rfl
 | true=>exact(h e).elim
section
variable (a1 a2:Option Addr) (l1 c1 l2 c2:Nat) (os:List Int) (ls:List (List Int)) (w:World)
end
section
variable (a1 a2:Option Addr) (l1 c1 l2 c2:Nat) (os:List Int) (ls:List (List Int)) (w:World)
end
def ut(s:ByteArray)(i:Nat):St:=⟨(bt s (1+i*9):Int),(List.range 8).map λa=>(bt s (1+i*9+1+a):Int)⟩
def cK(s:ByteArray)(n:Nat):List St:=(List.range n).map (ut s)
def gI(s:ByteArray):Bool:=decide (0<s.size)&&decide (s.size=1+bt s 0*9)&&oq (cK s (bt s 0))
theorem oF(s:ByteArray)(n:Nat):(cK s n).length=n:=by simp[cK]
theorem PR(s:ByteArray)(n:Nat):cK s (n+1)=cK s n++[ut s n]:=by simp[cK,aBL]
theorem Co(s:ByteArray)(i:Nat):(ut s i).next.length=8:=by simp[ut]
theorem Zv(s:ByteArray)(i:Nat){k:Nat}(hk:k<8):(ut s i).next.getD k 0=(bt s (1+i*9+1+k):Int):=by
 simp[ut,List.getD,aBk,aBx hk]
theorem uq(s:ByteArray)(n:Nat):lU (cK s n):=by
 intro x hx;simp[cK]at hx;obtain⟨i,_,rfl⟩:=hx;exact Co s i
def uM(s:ByteArray)(w:World)(e:Ending)(w':World):Prop:=
 Below w.heap.size w w' /\
 ((gI s=false/\e=.returned (.tuple #[.slice none 0 0,.bool false])) \/
 (gI s=true/\∃ g cap,e=.returned (.tuple #[.slice (some ⟨g,0,none⟩) (bt s 0) cap,.bool true]) /\
  w'.ownsRow w.heap.size 119 9 (.slice (some ⟨g,0,none⟩) (bt s 0) cap) (bt s 0) (ik (cK s (bt s 0)))))
theorem uw{s:ByteArray}(h:gI s=true->False):gI s=false:=by
 cases e:gI s with
 | false=>rfl
 | true=>exact(h e).elim
theorem xX{s:ByteArray}(h:gI s=true):0<s.size/\s.size=1+bt s 0*9/\oq (cK s (bt s 0))=true:=by
 unfold gI at h;simpa [and_assoc] using h
section
variable (s:ByteArray) (w:World)
theorem abe(hm:s.size<=maxLen)(h:s.size=0):Calls Tryz.prog 40 #[.string s] w (uM s w):=by
 have E:Hid (gI s=false):=hid (uw λe=>by have:=(xX e).1;omega);unfold maxLen at hm;have k:((s.size:Int)==0)=true:=beq_iff_eq.2 (by omega);go_enter Tryz.func40,Tryz.ntmps40;go_wp2_with fail
 go_ret2
 exact⟨aAW _ _,aA2 ⟨E.out,rfl⟩⟩
theorem Vm(hm:s.size<=maxLen)(h:0<s.size)(hd:s.size≠1+bt s 0*9):Calls Tryz.prog 40 #[.string s] w (uM s w):=by
 have E:Hid (gI s=false):=hid (uw λe=>hd (xX e).2.1);unfold maxLen at hm;have k:((s.size:Int)==0)=false:=aA6.2 (by omega);have IX:(s[0]'h).toNat=bt s 0:=(gL h).symm;have hb:=nD s 0;generalize bt s 0=c at *;have k2:((s.size:Int) !=1+(c:Int)*9)=true:=bne_iff_ne.2 (by omega);go_enter Tryz.func40,Tryz.ntmps40;go_wp2_with fail
 go_ret2
 exact⟨aAW _ _,aA2 ⟨E.out,rfl⟩⟩
theorem abd(hm:s.size<=maxLen)(h:0<s.size)(n:Nat)(hn:bt s 0=n)(hd:s.size=1+n*9):Calls Tryz.prog 40 #[.string s] w (uM s w):=by
 have k:((s.size:Int)==0)=false:=aA6.2 (by omega);have hn2:n<256:=by rw[<-hn];exact nD s 0
 have IX:(s[0]'h).toNat=n:=by rw[<-gL h];exact hn
 have k2:((s.size:Int) !=1+(n:Int)*9)=false:=by rw[bne_eq_false_iff_eq];omega
 obtain⟨i0,hi,aR,aP,aN⟩:=info_parts Tryz.aaF;unfold maxLen at hm;have HN:=hid hn;have HD:=hid hd;have hd1:s.size<=1+n*9:=Nat.le_of_eq hd;have hd2:1+n*9<=s.size:=Nat.le_of_eq hd.symm;clear hn hd;go_enter Tryz.func40,Tryz.ntmps40;go_wp2_with fail;clear IX
 go_loopw [6,5] (λi sv wr=>∃ (j:Nat) (ao:Option Addr) (cap:Nat),j<=n/\i=.int .i64 ((1+j*9:Nat):Int)/\sv=.slice ao j cap/\Below w.heap.size w wr /\
   Hid (wr.ownsRow w.heap.size 119 9 (.slice ao j cap) j (ik (cK s j)))) (λi _ _=>s.size - (intOf i).toNat)
 case atStart=>exact⟨0,none,0,aA8 _,rfl,rfl,aAW _ _,hid (aBh _ _ _ _)⟩
 case round=>
  obtain⟨j,ao,cap,hj,rfl,rfl,hb,HO⟩:=hrel;by_cases hlt:j<n
  ·have V3:1+j*9<s.size:=by omega
   have IX:(s[1+j*9]'V3).toNat=bt s (1+j*9):=(gL V3).symm;have kd:decide (((1+j*9:Nat):Int)+9<=(s.size:Int))=true:=by simp;omega
   have ko:=nD s (1+j*9);have HOo:Hid ((ut s j).out=(bt s (1+j*9):Int)):=hid rfl;have HZ:=hid (PR s j);generalize bt s (1+j*9)=o at *;go_wp2_with fail
   go_loopw [33] (λi wq=>∃ (k:Nat) (f:Nat->Int),k<=8/\i=.int .i64 k/\Below wr.heap.size wr wq/\Uf wq wr.heap.size f/\Hid (f 0=(o:Int))/\Hid (∀ m,m<k->f (m+1)=(bt s (1+j*9+1+m):Int))) (λi _=>8 - (intOf i).toNat)
   case atStart=>exact⟨0,_,aA8 _,rfl,(aAW _ _).alloc (aAU _) _,Z7 wr o 0 0 0 0 0 0 0 0 _,hid rfl,hid (λm hm=>by omega)⟩
   case round=>
    obtain⟨k,f,hk,rfl,dm,hnn,HF,Lu⟩:=hrel;by_cases hlk:k<8
    ·have ET:1+j*9+1+k<s.size:=by omega
     have IK:(s[1+j*9+1+k]'ET).toNat=bt s (1+j*9+1+k):=(gL ET).symm;have kx:=nD s (1+j*9+1+k);have e1:=hnn.cell (1+k) (by omega);have e2:=hnn.free (1+k) (by omega);have HNN:=hid (hnn.set (k:=1+k) (by omega) (bt s (1+j*9+1+k)));clear hnn;generalize hx:bt s (1+j*9+1+k)=x at *;have HX:=hid hx;clear hx IX;go_wp2_with fail;go_roundw
     case rel=>
      refine⟨k+1,_,by omega,by go_num,dm.setCell (p:=⟨_,1+k,none⟩) (aAU _) _,HNN.out,hid ?_,hid (λm hm=>?_)⟩
      ·rw[aBT (by omega)];exact HF.out
      ·by_cases e:m<k
       ·rw[aBT (by omega)];exact Lu.out m e
       ·rw[aBU (by omega),show m=k by omega,HX.out]
     case measure=>simp[intOf];omega
    ·have V9:k=8:=by omega
     subst V9;have e0:=hnn.cell 0 (by decide);have e1:=hnn.cell 1 (by decide);have e2:=hnn.cell 2 (by decide);have e3:=hnn.cell 3 (by decide);have e4:=hnn.cell 4 (by decide);have e5:=hnn.cell 5 (by decide);have e6:=hnn.cell 6 (by decide);have e7:=hnn.cell 7 (by decide);have e8:=hnn.cell 8 (by decide);have HS:Hid (jT (ut s j)=[.int .i64 (f 0),.int .i64 (f 1),.int .i64 (f 2),.int .i64 (f 3),.int .i64 (f 4),.int .i64 (f 5),.int .i64 (f 6),.int .i64 (f 7),.int .i64 (f 8)]):=hid (by
      have:=Lu.out;rw[HF.out,this 0 (by decide),this 1 (by decide),this 2 (by decide),this 3 (by decide),this 4 (by decide),this 5 (by decide),this 6 (by decide),this 7 (by decide),<-HOo.out];rfl)
     have own:=ae HO.out dm;have hsz:=dm.size;have oO:=hb.size;have PN:=hid dm;clear hnn dm HF Lu HO IX;generalize f 0=f0 at *;generalize f 1=f1 at *;generalize f 2=f2 at *;generalize f 3=f3 at *;generalize f 4=f4 at *;generalize f 5=f5 at *;generalize f 6=f6 at *;generalize f 7=f7 at *;generalize f 8=f8 at *;go_wp2_with (at_builtin;go_must (refine wpList_append_own _ rfl (.tmp 47) (.tmp 49) 65 rfl w.heap.size 119 i0 (.agg #[.int .i64 0,.int .i64 0,.int .i64 0,.int .i64 0,.int .i64 0,.int .i64 0,.int .i64 0,.int .i64 0,.int .i64 0]) 9 72 Tryz.underlying65 hi aR aP aN rfl (by decide) _ _ _ rfl (own.alloc _) ⟨wr.heap.size,0,none⟩ 1 1 [.int .i64 f0,.int .i64 f1,.int .i64 f2,.int .i64 f3,.int .i64 f4,.int .i64 f5,.int .i64 f6,.int .i64 f7,.int .i64 f8] rfl rfl ?c1 ?c2 ?c3 ?c4 ?c5 ?_))
     case c1=>exact eu _ _ _
     case c2=>intro u hu;simp at hu;rcases hu with rfl | rfl | rfl | rfl | rfl | rfl | rfl | rfl | rfl <;> rfl
     case c3=>unfold maxLen;omega
     case c4=>omega
     case c5=>simp;omega
     intro v' w1 hown hgrow _;have Fh:Below w.heap.size wr w1:=((aAW _ _).alloc (by omega) _).grown hgrow (by simp;omega) (λk h=>(own.lt k h).1);rw[<-HS.out,<-xg,<-HZ.out]at hown;obtain⟨nE,cap',hv⟩:∃ nE cap',v'=.slice nE (j+1) cap':=by
      rcases hown.2 with⟨h,h0⟩ | ⟨g,cap',_,h,_⟩
      ·omega
      ·exact⟨_,cap',h⟩
     subst hv;have B1:=hid ((hb.trans (PN.out.mono oO)).trans Fh);have O1:=hid hown;clear hown hgrow Fh own e0 e1 e2 e3 e4 e5 e6 e7 e8;go_wp2_with fail;go_roundw
     case rel=>exact⟨j+1,nE,cap',by omega,congrArg (Value.int .i64) (by omega),rfl,B1.out,O1⟩
     case measure=>simp[intOf];omega
  ·obtain rfl:j=n:=by omega
   have kd:decide (((1+j*9:Nat):Int)+9<=(s.size:Int))=false:=by simp;omega
   have HR:Hid (gI s=oq (cK s j)):=hid (by unfold gI;rw[HN.out,HD.out];simp;intro;omega);have H8:=uq s j;have O:=HO.out;clear HO;by_cases hpos:1<=j/\j<=8
   ·obtain⟨g,rfl,hg0,hg1,oV⟩:=dX O (by omega);have F:=λW (hW:W.ownsRow w.heap.size 119 9 (.slice (some ⟨g,0,none⟩) j cap) j (ik (cK s j))) (hg:g<W.heap.size)=>ag9 g j cap w.heap.size (cK s j) W hW H8 (oF s j) hpos.1 hpos.2 hg oV;have HO:=hid O;clear O;cases ev:oq (cK s j) with
    | true=>
     have HV:=hid ev;clear ev;go_wp2_with fail;refine(F _ HO.out hg1).mono ?_;rintro e w2 ⟨rfl,ak⟩;rw[HV.out];have B2:=hid (hb.trans (ak.mono hb.size));have O2:=hid (ae HO.out ak);clear ak F;go_wp2_with fail
     go_ret2
     unfold uM;rw[HN.out];exact⟨B2.out,aA3 ⟨by rw[HR.out];exact HV.out,g,cap,rfl,O2.out⟩⟩
    | false=>
     have HV:=hid ev;clear ev;go_wp2_with fail;refine(F _ HO.out hg1).mono ?_;rintro e w2 ⟨rfl,ak⟩;rw[HV.out];have B2:=hid (hb.trans (ak.mono hb.size));clear ak F;go_wp2_with fail
     go_ret2
     exact⟨B2.out,aA2 ⟨by rw[HR.out];exact HV.out,rfl⟩⟩
   ·have F:=λW=>aiP ao j cap (cK s j) W (oF s j) (by omega) (by omega);have HV:Hid (oq (cK s j)=false):=hid (by
     cases e:oq (cK s j) with
     | false=>rfl
     | true=>rw[qR,oF]at e;omega)
    clear O;go_wp2_with fail;refine(F _).mono ?_;rintro e w2 ⟨rfl,ak⟩;rw[HV.out];have B2:=hid (hb.trans (ak.mono hb.size));clear ak F;go_wp2_with fail
    go_ret2
    exact⟨B2.out,aA2 ⟨by rw[HR.out];exact HV.out,rfl⟩⟩
theorem aey(hm:s.size<=maxLen):Calls Tryz.prog 40 #[.string s] w (uM s w):=by
 by_cases h:s.size=0
 ·exact abe s w hm h
 by_cases hd:s.size=1+bt s 0*9
 ·exact abd s w hm (by omega) _ rfl hd
 ·exact Vm s w hm (by omega) hd
end
