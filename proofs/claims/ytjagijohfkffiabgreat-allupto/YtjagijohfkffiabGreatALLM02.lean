import Derived.Test.YtjagijohfkffiabGreatALLM01
import Derived.Outline
set_option maxHeartbeats 16000000
set_option maxRecDepth 100000
namespace Go.Proofs.YtjagijohfkffiabGreat
open Go.RowKit
set_option linter.unusedVariables false
theorem jJ {n i:Nat} {fin:Bool} {k:Int}:eP n i fin k=true↔0≤k∧k<n∧(fin=true→k=i):=by
 unfold eP
 cases fin <;> simp [and_assoc]
theorem EO {l:List Int} {p:Int→Bool} (h:∀ m,m<l.length→p (l.getD m 0)=true):l.all p=true:=by
 rw [List.all_eq_true]
 intro x hx
 obtain ⟨i,hi,rfl⟩:=List.getElem_of_mem hx
 simpa [List.getD,List.getElem?_eq_getElem hi] using h i hi
theorem jy {l:List Int} {p:Int→Bool} {m:Nat} (hm:m<l.length) (h:p (l.getD m 0)=false):l.all p=false:=by
 rw [List.all_eq_false]
 exact ⟨l[m],List.getElem_mem hm,by simpa [List.getD,List.getElem?_eq_getElem hm] using h⟩
theorem aiN (a0 a1 a2 a3 a4 a5 a6 a7:Int):∀ j,j<8→(#[Value.int .i64 a0,.int .i64 a1,.int .i64 a2,.int .i64 a3,.int .i64 a4,.int .i64 a5,.int .i64 a6,.int .i64 a7]:Array Value)[j]?=some (.int .i64 ([a0,a1,a2,a3,a4,a5,a6,a7].getD j 0)):=by
 intro j hj
 match j,hj with
 | 0,_ | 1,_ | 2,_ | 3,_ | 4,_ | 5,_ | 6,_ | 7,_=>rfl
theorem vW (o:Int) {l:List Int} (h8:l.length=8):∃ a0 a1 a2 a3 a4 a5 a6 a7,uS ⟨o,l⟩=#[.int .i64 o,.int .i64 a0,.int .i64 a1,.int .i64 a2,.int .i64 a3,.int .i64 a4,.int .i64 a5,.int .i64 a6,.int .i64 a7] ∧
  Hid (∀ j,j<8→(#[Value.int .i64 a0,.int .i64 a1,.int .i64 a2,.int .i64 a3,.int .i64 a4,.int .i64 a5,.int .i64 a6,.int .i64 a7]:Array Value)[j]?=some (.int .i64 (l.getD j 0))):=by
 obtain ⟨a0,a1,a2,a3,a4,a5,a6,a7,rfl⟩:=ym h8
 exact ⟨a0,a1,a2,a3,a4,a5,a6,a7,rfl,hid (aiN a0 a1 a2 a3 a4 a5 a6 a7)⟩
theorem Xg (l:List Int) (i0 n:Nat) (w:World) (h8:l.length=8) (hi:i0<100) (hn:n<100) :
  Calls Tryz.prog 126 #[.agg (uS ⟨0,l⟩),.int .i64 i0,.int .i64 n] w fun e w'=>e=.returned (.bool (nJ n i0 ⟨0,l⟩))∧Below w.heap.size w w':=by
 have HB:Hid (nJ n i0 ⟨0,l⟩=l.all (eP n i0 false)):=hid (by simp [nJ,sU])
 obtain ⟨a0,a1,a2,a3,a4,a5,a6,a7,e,HX⟩:=vW 0 h8
 have HL:=hid h8
 rw [e]
 clear e h8
 go_enter Tryz.func126,Tryz.ntmps126
 go_wp2_with fail
 generalize (#[Value.int .i64 a0,.int .i64 a1,.int .i64 a2,.int .i64 a3,.int .i64 a4,.int .i64 a5,.int .i64 a6,.int .i64 a7]:Array Value)=X at *
 go_loop [27] (fun i=>∃ j:Nat,j≤8∧i=.int .i64 j∧Hid (∀ m,m<j→eP n i0 false (l.getD m 0)=true)) (fun i=>8 - (intOf i).toNat)
 case atStart=>exact ⟨0,Nat.zero_le _,rfl,hid (fun m hm=>by omega)⟩
 case round=>
  obtain ⟨j,hj,rfl,HI⟩:=hrel
  by_cases hlt:j<8
  ·have IX:=fun W=>gY (P:=Tryz.prog) W Tryz.underlying117 (jG Tryz.underlying3) (by kernel_rfl) hlt (HX.out j hlt)
   by_cases h1:l.getD j 0<0
   ·have HN:=hid (jy (l:=l) (p:=eP n i0 false) (m:=j) (by rw [HL.out];exact hlt) (by
     cases e:eP n i0 false (l.getD j 0) with
     | false=>rfl
     | true=>rw [jJ] at e;omega))
    generalize l.getD j 0=x at *
    go_wp2_with fail
    go_ret
    exact ⟨by rw [HB.out,HN.out];rfl,(Below.refl _ _).alloc (Nat.le_refl _) _⟩
   by_cases h2:(n:Int)≤l.getD j 0
   ·have HN:=hid (jy (l:=l) (p:=eP n i0 false) (m:=j) (by rw [HL.out];exact hlt) (by
     cases e:eP n i0 false (l.getD j 0) with
     | false=>rfl
     | true=>rw [jJ] at e;omega))
    generalize l.getD j 0=x at *
    go_wp2_with fail
    go_ret
    exact ⟨by rw [HB.out,HN.out];rfl,(Below.refl _ _).alloc (Nat.le_refl _) _⟩
   have HG:=hid ((jJ (n:=n) (i:=i0) (fin:=false) (k:=l.getD j 0)).2 ⟨by omega,by omega,fun h=>by cases h⟩)
   generalize hx:l.getD j 0=x at *
   have HE:=hid hx
   clear hx
   go_wp2_with fail
   go_round
   case rel=>
    refine ⟨j+1,by omega,by go_num,hid (fun m hm=>?_)⟩
    by_cases e:m<j
    ·exact HI.out m e
    ·rw [show m=j by omega,HE.out];exact HG.out
   case measure=>simp [intOf];omega
  ·have HA:=hid (EO (l:=l) (p:=eP n i0 false) (fun m hm=>HI.out m (by rw [HL.out] at hm;omega)))
   go_wp2_with fail
   go_ret
   exact ⟨by rw [HB.out,HA.out];rfl,(Below.refl _ _).alloc (Nat.le_refl _) _⟩
theorem aak (l:List Int) (i0 n:Nat) (w:World) (h8:l.length=8) (hi:i0<100) (hn:n<100) :
  Calls Tryz.prog 126 #[.agg (uS ⟨1,l⟩),.int .i64 i0,.int .i64 n] w fun e w'=>e=.returned (.bool (nJ n i0 ⟨1,l⟩))∧Below w.heap.size w w':=by
 have HB:Hid (nJ n i0 ⟨1,l⟩=l.all (eP n i0 true)):=hid (by simp [nJ,sU])
 obtain ⟨a0,a1,a2,a3,a4,a5,a6,a7,e,HX⟩:=vW 1 h8
 have HL:=hid h8
 rw [e]
 clear e h8
 go_enter Tryz.func126,Tryz.ntmps126
 go_wp2_with fail
 generalize (#[Value.int .i64 a0,.int .i64 a1,.int .i64 a2,.int .i64 a3,.int .i64 a4,.int .i64 a5,.int .i64 a6,.int .i64 a7]:Array Value)=X at *
 go_loop [27] (fun i=>∃ j:Nat,j≤8∧i=.int .i64 j∧Hid (∀ m,m<j→eP n i0 true (l.getD m 0)=true)) (fun i=>8 - (intOf i).toNat)
 case atStart=>exact ⟨0,Nat.zero_le _,rfl,hid (fun m hm=>by omega)⟩
 case round=>
  obtain ⟨j,hj,rfl,HI⟩:=hrel
  by_cases hlt:j<8
  ·have IX:=fun W=>gY (P:=Tryz.prog) W Tryz.underlying117 (jG Tryz.underlying3) (by kernel_rfl) hlt (HX.out j hlt)
   by_cases h1:l.getD j 0<0
   ·have HN:=hid (jy (l:=l) (p:=eP n i0 true) (m:=j) (by rw [HL.out];exact hlt) (by
     cases e:eP n i0 true (l.getD j 0) with
     | false=>rfl
     | true=>rw [jJ] at e;omega))
    generalize l.getD j 0=x at *
    go_wp2_with fail
    go_ret
    exact ⟨by rw [HB.out,HN.out];rfl,(Below.refl _ _).alloc (Nat.le_refl _) _⟩
   by_cases h2:(n:Int)≤l.getD j 0
   ·have HN:=hid (jy (l:=l) (p:=eP n i0 true) (m:=j) (by rw [HL.out];exact hlt) (by
     cases e:eP n i0 true (l.getD j 0) with
     | false=>rfl
     | true=>rw [jJ] at e;omega))
    generalize l.getD j 0=x at *
    go_wp2_with fail
    go_ret
    exact ⟨by rw [HB.out,HN.out];rfl,(Below.refl _ _).alloc (Nat.le_refl _) _⟩
   by_cases h3:l.getD j 0=(i0:Int)
   ·have HG:=hid ((jJ (n:=n) (i:=i0) (fin:=true) (k:=l.getD j 0)).2 ⟨by omega,by omega,fun _=>h3⟩)
    have k3:((l.getD j 0)==(i0:Int))=true:=beq_iff_eq.2 h3
    clear h3
    generalize hx:l.getD j 0=x at *
    have HE:=hid hx
    clear hx
    go_wp2_with fail
    go_round
    case rel=>
     refine ⟨j+1,by omega,by go_num,hid (fun m hm=>?_)⟩
     by_cases e:m<j
     ·exact HI.out m e
     ·rw [show m=j by omega,HE.out];exact HG.out
    case measure=>simp [intOf];omega
   ·have HN:=hid (jy (l:=l) (p:=eP n i0 true) (m:=j) (by rw [HL.out];exact hlt) (by
     cases e:eP n i0 true (l.getD j 0) with
     | false=>rfl
     | true=>rw [jJ] at e;exact absurd (e.2.2 rfl) h3))
    have k3:((l.getD j 0)==(i0:Int))=false:=beq_eq_false_iff_ne.2 h3
    clear h3
    generalize l.getD j 0=x at *
    go_wp2_with fail
    go_ret
    exact ⟨by rw [HB.out,HN.out];rfl,(Below.refl _ _).alloc (Nat.le_refl _) _⟩
  ·have HA:=hid (EO (l:=l) (p:=eP n i0 true) (fun m hm=>HI.out m (by rw [HL.out] at hm;omega)))
   go_wp2_with fail
   go_ret
   exact ⟨by rw [HB.out,HA.out];rfl,(Below.refl _ _).alloc (Nat.le_refl _) _⟩
theorem aai (l:List Int) (i0 n:Nat) (w:World) (h8:l.length=8) (hi:i0<100) (hn:n<100) :
  Calls Tryz.prog 126 #[.agg (uS ⟨2,l⟩),.int .i64 i0,.int .i64 n] w fun e w'=>e=.returned (.bool (nJ n i0 ⟨2,l⟩))∧Below w.heap.size w w':=by
 have HB:Hid (nJ n i0 ⟨2,l⟩=l.all (eP n i0 true)):=hid (by simp [nJ,sU])
 obtain ⟨a0,a1,a2,a3,a4,a5,a6,a7,e,HX⟩:=vW 2 h8
 have HL:=hid h8
 rw [e]
 clear e h8
 go_enter Tryz.func126,Tryz.ntmps126
 go_wp2_with fail
 generalize (#[Value.int .i64 a0,.int .i64 a1,.int .i64 a2,.int .i64 a3,.int .i64 a4,.int .i64 a5,.int .i64 a6,.int .i64 a7]:Array Value)=X at *
 go_loop [27] (fun i=>∃ j:Nat,j≤8∧i=.int .i64 j∧Hid (∀ m,m<j→eP n i0 true (l.getD m 0)=true)) (fun i=>8 - (intOf i).toNat)
 case atStart=>exact ⟨0,Nat.zero_le _,rfl,hid (fun m hm=>by omega)⟩
 case round=>
  obtain ⟨j,hj,rfl,HI⟩:=hrel
  by_cases hlt:j<8
  ·have IX:=fun W=>gY (P:=Tryz.prog) W Tryz.underlying117 (jG Tryz.underlying3) (by kernel_rfl) hlt (HX.out j hlt)
   by_cases h1:l.getD j 0<0
   ·have HN:=hid (jy (l:=l) (p:=eP n i0 true) (m:=j) (by rw [HL.out];exact hlt) (by
     cases e:eP n i0 true (l.getD j 0) with
     | false=>rfl
     | true=>rw [jJ] at e;omega))
    generalize l.getD j 0=x at *
    go_wp2_with fail
    go_ret
    exact ⟨by rw [HB.out,HN.out];rfl,(Below.refl _ _).alloc (Nat.le_refl _) _⟩
   by_cases h2:(n:Int)≤l.getD j 0
   ·have HN:=hid (jy (l:=l) (p:=eP n i0 true) (m:=j) (by rw [HL.out];exact hlt) (by
     cases e:eP n i0 true (l.getD j 0) with
     | false=>rfl
     | true=>rw [jJ] at e;omega))
    generalize l.getD j 0=x at *
    go_wp2_with fail
    go_ret
    exact ⟨by rw [HB.out,HN.out];rfl,(Below.refl _ _).alloc (Nat.le_refl _) _⟩
   by_cases h3:l.getD j 0=(i0:Int)
   ·have HG:=hid ((jJ (n:=n) (i:=i0) (fin:=true) (k:=l.getD j 0)).2 ⟨by omega,by omega,fun _=>h3⟩)
    have k3:((l.getD j 0)==(i0:Int))=true:=beq_iff_eq.2 h3
    clear h3
    generalize hx:l.getD j 0=x at *
    have HE:=hid hx
    clear hx
    go_wp2_with fail
    go_round
    case rel=>
     refine ⟨j+1,by omega,by go_num,hid (fun m hm=>?_)⟩
     by_cases e:m<j
     ·exact HI.out m e
     ·rw [show m=j by omega,HE.out];exact HG.out
    case measure=>simp [intOf];omega
   ·have HN:=hid (jy (l:=l) (p:=eP n i0 true) (m:=j) (by rw [HL.out];exact hlt) (by
     cases e:eP n i0 true (l.getD j 0) with
     | false=>rfl
     | true=>rw [jJ] at e;exact absurd (e.2.2 rfl) h3))
    have k3:((l.getD j 0)==(i0:Int))=false:=beq_eq_false_iff_ne.2 h3
    clear h3
    generalize l.getD j 0=x at *
    go_wp2_with fail
    go_ret
    exact ⟨by rw [HB.out,HN.out];rfl,(Below.refl _ _).alloc (Nat.le_refl _) _⟩
  ·have HA:=hid (EO (l:=l) (p:=eP n i0 true) (fun m hm=>HI.out m (by rw [HL.out] at hm;omega)))
   go_wp2_with fail
   go_ret
   exact ⟨by rw [HB.out,HA.out];rfl,(Below.refl _ _).alloc (Nat.le_refl _) _⟩
theorem Xh (o:Int) (l:List Int) (i0 n:Nat) (w:World) (h8:l.length=8) (h0:o≠0) (h1:o≠1) (h2:o≠2) :
  Calls Tryz.prog 126 #[.agg (uS ⟨o,l⟩),.int .i64 i0,.int .i64 n] w fun e w'=>e=.returned (.bool (nJ n i0 ⟨o,l⟩))∧Below w.heap.size w w':=by
 have HB:Hid (nJ n i0 ⟨o,l⟩=false):=hid (by simp [nJ,sU,h0,h1,h2])
 have k0:(o==0)=false:=beq_eq_false_iff_ne.2 h0
 have k1:(o==1)=false:=beq_eq_false_iff_ne.2 h1
 have k2:(o==2)=false:=beq_eq_false_iff_ne.2 h2
 obtain ⟨a0,a1,a2,a3,a4,a5,a6,a7,e,HX⟩:=vW o h8
 rw [e]
 clear e h0 h1 h2
 go_enter Tryz.func126,Tryz.ntmps126
 go_wp2_with fail
 go_ret
 exact ⟨by rw [HB.out];rfl,(Below.refl _ _).alloc (Nat.le_refl _) _⟩
theorem aam (s:St) (i0 n:Nat) (w:World) (h8:s.next.length=8) (hi:i0<100) (hn:n<100) :
  Calls Tryz.prog 126 #[.agg (uS s),.int .i64 i0,.int .i64 n] w fun e w'=>e=.returned (.bool (nJ n i0 s))∧Below w.heap.size w w':=by
 obtain ⟨o,l⟩:=s
 by_cases h0:o=0
 ·subst h0;exact Xg l i0 n w h8 hi hn
 by_cases h1:o=1
 ·subst h1;exact aak l i0 n w h8 hi hn
 by_cases h2:o=2
 ·subst h2;exact aai l i0 n w h8 hi hn
 exact Xh o l i0 n w h8 h0 h1 h2
theorem adI {ss:List St} {j:Nat} (hj:j<ss.length) (h:nJ ss.length j (aM ss j)=false):kN ss=false:=by
 cases e:kN ss with
 | false=>rfl
 | true=>rw [iw] at e;rw [e.2.2 j hj] at h;cases h
theorem tZ {w:World} {B n cap g:Nat} {ss:List St} (h:w.ownsRow B 119 9 (.slice (some ⟨g,0,none⟩) n cap) n (dY ss)) (h8:iM ss) (hn:ss.length=n) {j:Nat} (hj:j<n) :
  ∀ k,k<9→w.cell? ⟨g,j*9+k,none⟩=(fH (aM ss j))[k]?:=fun k hk=>by
 rw [h.cellAt (j*9+k) (by omega)]
 exact uj h8 (by omega) hk
theorem UL (ao:Option Addr) (n cap:Nat) (ss:List St) (w:World) (hl:ss.length=n) (hn:n<1∨8<n) (hm:n≤1000) :
  Calls Tryz.prog 79 #[.slice ao n cap] w fun e w'=>e=.returned (.bool (kN ss))∧Below w.heap.size w w':=by
 have HB:Hid (kN ss=false):=hid (by
  cases e:kN ss with
  | false=>rfl
  | true=>rw [iw] at e;omega)
 clear hl
 rcases hn with hn | hn
 ·obtain rfl:n=0:=by omega
  go_enter Tryz.func79,Tryz.ntmps79
  go_wp2_with fail
  go_ret
  exact ⟨by rw [HB.out];rfl,Below.refl _ _⟩
 ·have h1:¬ n<1:=by omega
  go_enter Tryz.func79,Tryz.ntmps79
  go_wp2_with fail
  go_ret
  exact ⟨by rw [HB.out];rfl,Below.refl _ _⟩
theorem Qy (g n cap B:Nat) (ss:List St) (w:World) (hr:w.ownsRow B 119 9 (.slice (some ⟨g,0,none⟩) n cap) n (dY ss)) (h8:iM ss) (hl:ss.length=n) (hn:1≤n) (hm:n≤8) (hg:g<w.heap.size) (hcap:n≤cap) :
  Calls Tryz.prog 79 #[.slice (some ⟨g,0,none⟩) n cap] w fun e w'=>e=.returned (.bool (kN ss))∧Below w.heap.size w w':=by
 have HR:=hid hr
 clear hr
 have h1:¬ n<1:=by omega
 have h2:¬ 8<n:=by omega
 go_enter Tryz.func79,Tryz.ntmps79
 go_wp2_with fail
 go_loopw [15] (fun i wr=>∃ j:Nat,j≤n∧i=.int .i64 j∧Hid (∀ m,m<j→nJ n m (aM ss m)=true)∧Below w.heap.size w wr) (fun i _=>n - (intOf i).toNat)
 case atStart=>exact ⟨0,Nat.zero_le _,rfl,hid (fun m hm=>by omega),Below.refl _ _⟩
 case round=>
  obtain ⟨j,hj,rfl,HI,hb⟩:=hrel
  by_cases hlt:j<n
  ·have S:=tZ HR.out h8 hl hlt
   have pG:=oo h8 (i:=j) (by omega)
   have F:=fun W=>aam (aM ss j) j n W pG (by omega) (by omega)
   have HN:Hid (nJ n j (aM ss j)=false→kN ss=false):=hid (fun h=>adI (j:=j) (by omega) (by rw [hl];exact h))
   obtain ⟨a0,a1,a2,a3,a4,a5,a6,a7,ea,_⟩:=vW (aM ss j).out pG
   rw [show (⟨(aM ss j).out,(aM ss j).next⟩:St)=aM ss j from rfl] at ea
   have ec:fH (aM ss j)=[.int .i64 (aM ss j).out,.int .i64 a0,.int .i64 a1,.int .i64 a2,.int .i64 a3,.int .i64 a4,.int .i64 a5,.int .i64 a6,.int .i64 a7]:=by
    have:=congrArg Array.toList ea
    simpa [uS] using this
   rw [ec] at S
   rw [ea] at F
   generalize (aM ss j).out=o at *
   have c0:=(hb.cell (p:=⟨g,j*9,none⟩) hg).trans (S 0 (by decide))
   have c1:=(hb.cell (p:=⟨g,j*9+1,none⟩) hg).trans (S 1 (by decide))
   have c2:=(hb.cell (p:=⟨g,j*9+2,none⟩) hg).trans (S 2 (by decide))
   have c3:=(hb.cell (p:=⟨g,j*9+3,none⟩) hg).trans (S 3 (by decide))
   have c4:=(hb.cell (p:=⟨g,j*9+4,none⟩) hg).trans (S 4 (by decide))
   have c5:=(hb.cell (p:=⟨g,j*9+5,none⟩) hg).trans (S 5 (by decide))
   have c6:=(hb.cell (p:=⟨g,j*9+6,none⟩) hg).trans (S 6 (by decide))
   have c7:=(hb.cell (p:=⟨g,j*9+7,none⟩) hg).trans (S 7 (by decide))
   have c8:=(hb.cell (p:=⟨g,j*9+8,none⟩) hg).trans (S 8 (by decide))
   simp only [List.getElem?_cons_succ,List.getElem?_cons_zero] at c0 c1 c2 c3 c4 c5 c6 c7 c8
   clear S ea ec
   cases ev:nJ n j (aM ss j) with
   | true=>
    have HV:=hid ev
    clear ev
    go_wp2_with fail
    refine (F _).mono ?_
    rintro e w2 ⟨rfl,hb2⟩
    rw [HV.out]
    have B2:=hid (hb.trans (((Below.refl _ _).alloc hb.size _).trans (hb2.mono (by have:=hb.size;simp;omega))))
    clear hb2 c0 c1 c2 c3 c4 c5 c6 c7 c8
    go_wp2_with fail
    go_roundw
    case rel=>
     refine ⟨j+1,by omega,by go_num,hid (fun m hm=>?_),B2.out⟩
     by_cases e:m<j
     ·exact HI.out m e
     ·rw [show m=j by omega];exact HV.out
    case measure=>simp [intOf];omega
   | false=>
    have HV:=hid ev
    clear ev
    go_wp2_with fail
    refine (F _).mono ?_
    rintro e w2 ⟨rfl,hb2⟩
    rw [HV.out]
    have B2:=hid (hb.trans (((Below.refl _ _).alloc hb.size _).trans (hb2.mono (by have:=hb.size;simp;omega))))
    clear hb2 c0 c1 c2 c3 c4 c5 c6 c7 c8
    go_wp2_with fail
    go_ret
    exact ⟨by rw [HN.out HV.out];rfl,B2.out⟩
  ·have HA:Hid (kN ss=true):=hid (iw.2 ⟨by omega,by omega,fun i hi=>by rw [hl];exact HI.out i (by omega)⟩)
   go_wp2_with fail
   go_ret
   exact ⟨by rw [HA.out];rfl,hb⟩
theorem ae {B:Nat} {e:TypeId} {k:Nat} {v:Value} {n:Nat} {xs:List Value} {w w':World} (h:w.ownsRow B e k v n xs) (hb:Below w.heap.size w w'):w'.ownsRow B e k v n xs:=
 h.kept (row:=none) ⟨hb.os,hb.tape,hb.output,hb.size,fun j hj _=>hb.block j hj⟩ (by cases hv:v.ownBlock <;> simp)
theorem dH {w:World} {B e size n cap:Nat} {ao:Option Addr} {xs:List Value} (h:w.ownsRow B e size (.slice ao n cap) n xs) (hn:0<n):∃ g,ao=some ⟨g,0,none⟩∧B≤g∧g<w.heap.size∧n≤cap:=by
 rcases h.2 with ⟨e,h0⟩ | ⟨g,cap',cur,e,hb,hh,hc,_⟩
 ·omega
 ·cases e
  exact ⟨g,rfl,hb,(Array.getElem?_eq_some_iff.1 hh).1,hc⟩
theorem aD {w:World} {B B' e e' size size' n n':Nat} {v v':Value} {xs xs':List Value} (h:w.ownsRow B e size v n xs) (h':w.ownsRow B' e' size' v' n' xs') (hne:e≠e'):v.ownBlock=none∨v.ownBlock≠v'.ownBlock:=by
 rcases h.2 with ⟨rfl,_⟩ | ⟨g,cap,cur,rfl,_,hg,_⟩
 ·exact Or.inl rfl
 ·rcases h'.2 with ⟨rfl,_⟩ | ⟨g',cap',cur',rfl,_,hg',_⟩
  ·exact Or.inr (by simp [Value.ownBlock])
  ·refine Or.inr fun e=>?_
   simp [Value.ownBlock] at e
   subst e
   rw [hg] at hg'
   simp at hg'
   exact hne hg'.2
theorem ak {w:World} {base:Nat} {e:TypeId} {size:Nat} {v:Value} {n:Nat} {xs:List Value} (h:w.ownsRow base e size v n xs) {k:Nat} (hk:k<base) (o:Nat) (u:Value):(w.setCell ⟨k,o,none⟩ u).ownsRow base e size v n xs:=ownsRow_setCell_below h (by simpa using hk) u
theorem ag {w:World} {B:Nat} {e:TypeId} {size:Nat} {v:Value} {n:Nat} {xs:List Value} (h:w.ownsRow B e size v n xs):∃ ao cap,v=.slice ao n cap:=by
 rcases h.2 with ⟨rfl,rfl⟩ | ⟨g,cap,cur,rfl,_⟩
 ·exact ⟨none,0,rfl⟩
 ·exact ⟨_,cap,rfl⟩
theorem yH {w:World} {B:Nat} {v:Value} {n:Nat} {xs:List Value} {e:TypeId} {size:Nat} (h:w.ownsRow B e size v n xs) (hn:0<n):∃ g cap,v=.slice (some ⟨g,0,none⟩) n cap∧B≤g∧g<w.heap.size∧n≤cap:=by
 rcases h.2 with ⟨_,h0⟩ | ⟨g,cap,cur,rfl,hb,hg,hc,_⟩
 ·omega
 ·exact ⟨g,cap,rfl,hb,(Array.getElem?_eq_some_iff.1 hg).1,hc⟩
structure Two (w:World) (b:Nat) (x y:Value):Prop where
 c0:w.cell? ⟨b,0,none⟩=some x
 c1:w.cell? ⟨b,1,none⟩=some y
 f0:w.frozen? ⟨b,0,none⟩=false
 f1:w.frozen? ⟨b,1,none⟩=false
theorem Two.lt {w:World} {b:Nat} {x y:Value} (h:Two w b x y):b<w.heap.size:=World.block_lt_of_cell? w ⟨b,0,none⟩ h.c0
theorem bF (w:World) (x y:Value) (t:TypeId):Two (w.alloc (.cells #[x,y] t)) w.heap.size x y:=⟨by simp,by simp,by simp,by simp⟩
theorem Two.below {B:Nat} {w w':World} {b:Nat} {x y:Value} (h:Two w b x y) (hb:Below B w w') (hlt:b<B):Two w' b x y:=
 ⟨(hb.cell (p:=⟨b,0,none⟩) hlt).trans h.c0,(hb.cell (p:=⟨b,1,none⟩) hlt).trans h.c1,(hb.frozen (p:=⟨b,0,none⟩) hlt).trans h.f0,(hb.frozen (p:=⟨b,1,none⟩) hlt).trans h.f1⟩
theorem Two.set0 {w:World} {b:Nat} {x y:Value} (h:Two w b x y) (v:Value):Two (w.setCell ⟨b,0,none⟩ v) b v y:=
 ⟨World.cell?_setCell_same _ _ _ h.c0,by rw [World.cell?_setCell_other _ _ _ _ (by simp)];exact h.c1,by rw [World.frozen?_setCell];exact h.f0,by rw [World.frozen?_setCell];exact h.f1⟩
theorem Two.set1 {w:World} {b:Nat} {x y:Value} (h:Two w b x y) (v:Value):Two (w.setCell ⟨b,1,none⟩ v) b x v:=
 ⟨by rw [World.cell?_setCell_other _ _ _ _ (by simp)];exact h.c0,World.cell?_setCell_same _ _ _ h.c1,by rw [World.frozen?_setCell];exact h.f0,by rw [World.frozen?_setCell];exact h.f1⟩
theorem Two.other {w:World} {b k o:Nat} {x y:Value} (h:Two w b x y) (hk:k≠b) (v:Value):Two (w.setCell ⟨k,o,none⟩ v) b x y:=
 ⟨by rw [World.cell?_setCell_other _ _ _ _ (fun e=>hk (congrArg Addr.block e))];exact h.c0,by rw [World.cell?_setCell_other _ _ _ _ (fun e=>hk (congrArg Addr.block e))];exact h.c1,by rw [World.frozen?_setCell];exact h.f0,by rw [World.frozen?_setCell];exact h.f1⟩
theorem Tryz.qE:(Tryz.prog.info? 3).map (fun i=>(i.zero,i.size,i.bytes))=some (some (.int .i64 0),1,8):=by kernel_rfl
theorem qN (b off j:Nat):(⟨b,off,none⟩:Addr).add j=⟨b,off+j,none⟩:=by simp [Addr.add]
theorem Ints.src {w:World} {ao:Option Addr} {len cap:Nat} {zs:List Int} (h:Ints w ao len cap zs):∀ ad,ao=some ad→∀ j u,(zs.map (Value.int .i64))[j]?=some u→w.cell? (ad.add j)=some u:=by
 intro ad e j u hj
 have hj2:=(List.getElem?_eq_some_iff.1 hj).1
 simp at hj2
 have hl:=h.hlen
 obtain ⟨b,off,e2,_,hc⟩:=h.hcell (by omega)
 rw [e] at e2
 cases e2
 rw [qN,hc j (by omega)]
 simp [List.getElem?_eq_getElem hj2] at hj
 simp [List.getD,List.getElem?_eq_getElem hj2,hj]
theorem qD (zs:List Int):∀ u∈zs.map (Value.int .i64),u.oneCell'=true:=by
 intro u hu
 obtain ⟨x,_,rfl⟩:=List.mem_map.1 hu
 rfl
def bV (z1 z2:List Int):Nat:=if z2.length=0 then 4 else if 40<z1.length∨40<z2.length then 5 else if bI z1=true∧bI z2=true then 0 else 6
def Joined (z1 z2:List Int) (w:World) (e:Ending) (w':World):Prop:=
 Below w.heap.size w w' ∧
 ((bV z1 z2≠0∧e=.returned (.tuple #[.agg #[.slice none 0 0,.int .i64 0],.int .i64 (bV z1 z2)])) ∨
 (bV z1 z2=0∧∃ g cap,e=.returned (.tuple #[.agg #[.slice (some ⟨g,0,none⟩) (z1.length+z2.length) cap,.int .i64 z1.length],.int .i64 0]) ∧
  w'.ownsRow w.heap.size 3 1 (.slice (some ⟨g,0,none⟩) (z1.length+z2.length) cap) (z1.length+z2.length) ((z1++z2).map (Value.int .i64))))
section
variable (a1 a2:Option Addr) (l1 c1 l2 c2:Nat) (z1 z2:List Int) (w:World)
theorem Wz (h1:Ints w a1 l1 c1 z1) (h2:Ints w a2 l2 c2 z2) (h:l2=0):Calls Tryz.prog 100 #[.slice a1 l1 c1,.slice a2 l2 c2] w (Joined z1 z2 w):=by
 have E:Hid (bV z1 z2=4):=hid (by simp [bV,h2.hlen,h])
 subst h
 go_enter Tryz.func100,Tryz.ntmps100
 go_wp2_with fail
 refine bodyPost_ret (v:=.tuple #[.agg #[.slice none 0 0,.int .i64 0],.int .i64 4]) (by simp [results,Tryz.results100,go_sem]) rfl ?_
 unfold Joined
 rw [E.out]
 exact ⟨(Below.refl _ _).alloc (Nat.le_refl _) _,Or.inl ⟨by decide,rfl⟩⟩
theorem Wy (h1:Ints w a1 l1 c1 z1) (h2:Ints w a2 l2 c2 z2) (h:¬ l2=0) (hw:40<l1∨40<l2):Calls Tryz.prog 100 #[.slice a1 l1 c1,.slice a2 l2 c2] w (Joined z1 z2 w):=by
 have E:Hid (bV z1 z2=5):=hid (by unfold bV;rw [h1.hlen,h2.hlen,if_neg h,if_pos hw])
 have k:((l2:Int)==0)=false:=beq_eq_false_iff_ne.2 (by omega)
 have m1:=h1.hmax
 have m2:=h2.hmax
 have m3:=h1.hcap
 have m4:=h2.hcap
 by_cases hc:40<l1
 ·go_enter Tryz.func100,Tryz.ntmps100
  go_wp2_with fail
  refine bodyPost_ret (v:=.tuple #[.agg #[.slice none 0 0,.int .i64 0],.int .i64 5]) (by simp [results,Tryz.results100,go_sem]) rfl ?_
  unfold Joined
  rw [E.out]
  exact ⟨(Below.refl _ _).alloc (Nat.le_refl _) _,Or.inl ⟨by decide,rfl⟩⟩
 ·have hd:40<l2:=by omega
  go_enter Tryz.func100,Tryz.ntmps100
  go_wp2_with fail
  refine bodyPost_ret (v:=.tuple #[.agg #[.slice none 0 0,.int .i64 0],.int .i64 5]) (by simp [results,Tryz.results100,go_sem]) rfl ?_
  unfold Joined
  rw [E.out]
  exact ⟨(Below.refl _ _).alloc (Nat.le_refl _) _,Or.inl ⟨by decide,rfl⟩⟩
theorem Qn (h1:Ints w a1 l1 c1 z1) (h2:Ints w a2 l2 c2 z2) (h:¬ l2=0) (hw:¬ (40<l1∨40<l2)) (hl:¬ (bI z1=true∧bI z2=true)):Calls Tryz.prog 100 #[.slice a1 l1 c1,.slice a2 l2 c2] w (Joined z1 z2 w):=by
 have E:Hid (bV z1 z2=6):=hid (by unfold bV;rw [h1.hlen,h2.hlen,if_neg h,if_neg hw,if_neg hl])
 have k:((l2:Int)==0)=false:=beq_eq_false_iff_ne.2 (by omega)
 have k1:¬ 40<l1:=by omega
 have k2:¬ 40<l2:=by omega
 have C1:=iB a1 l1 c1 z1 _ (h1.below ((Below.refl _ _).alloc (Nat.le_refl _) (.cells #[.slice none 0 0,.int .i64 0] 180)))
 have C2:=iB a2 l2 c2 z2 _ (h2.below ((Below.refl _ _).alloc (Nat.le_refl _) (.cells #[.slice none 0 0,.int .i64 0] 180)))
 cases e1:bI z1 with
 | false=>
  have E1:=hid e1
  clear e1 hl hw
  go_enter Tryz.func100,Tryz.ntmps100
  go_wp2_with fail
  refine C1.mono ?_
  rintro e w' ⟨rfl,rfl⟩
  rw [E1.out]
  go_wp2_with fail
  refine C2.mono ?_
  rintro e w' ⟨rfl,rfl⟩
  go_wp2_with fail
  refine bodyPost_ret (v:=.tuple #[.agg #[.slice none 0 0,.int .i64 0],.int .i64 6]) (by simp [results,Tryz.results100,go_sem]) rfl ?_
  unfold Joined
  rw [E.out]
  exact ⟨(Below.refl _ _).alloc (Nat.le_refl _) _,Or.inl ⟨by decide,rfl⟩⟩
 | true=>
  have e2:bI z2=false:=by
   cases e2:bI z2 with
   | false=>rfl
   | true=>exact absurd ⟨e1,e2⟩ hl
  have E1:=hid e1
  have E2:=hid e2
  clear e1 e2 hl hw
  go_enter Tryz.func100,Tryz.ntmps100
  go_wp2_with fail
  refine C1.mono ?_
  rintro e w' ⟨rfl,rfl⟩
  rw [E1.out]
  go_wp2_with fail
  refine C2.mono ?_
  rintro e w' ⟨rfl,rfl⟩
  rw [E2.out]
  go_wp2_with fail
  refine bodyPost_ret (v:=.tuple #[.agg #[.slice none 0 0,.int .i64 0],.int .i64 6]) (by simp [results,Tryz.results100,go_sem]) rfl ?_
  unfold Joined
  rw [E.out]
  exact ⟨(Below.refl _ _).alloc (Nat.le_refl _) _,Or.inl ⟨by decide,rfl⟩⟩
theorem ac5 (h1:Ints w a1 l1 c1 z1) (h2:Ints w a2 l2 c2 z2) (h:¬ l2=0) (hw:¬ (40<l1∨40<l2)) (hl:bI z1=true∧bI z2=true):Calls Tryz.prog 100 #[.slice a1 l1 c1,.slice a2 l2 c2] w (Joined z1 z2 w):=by
 have E:Hid (bV z1 z2=0):=hid (by unfold bV;rw [h1.hlen,h2.hlen,if_neg h,if_neg hw,if_pos hl])
 have k:((l2:Int)==0)=false:=beq_eq_false_iff_ne.2 (by omega)
 have k1:¬ 40<l1:=by omega
 have k2:¬ 40<l2:=by omega
 have C1:=iB a1 l1 c1 z1 _ (h1.below ((Below.refl _ _).alloc (Nat.le_refl _) (.cells #[.slice none 0 0,.int .i64 0] 180)))
 have C2:=iB a2 l2 c2 z2 _ (h2.below ((Below.refl _ _).alloc (Nat.le_refl _) (.cells #[.slice none 0 0,.int .i64 0] 180)))
 have E1:=hid hl.1
 have E2:=hid hl.2
 have L1:=h1.hlen
 have L2:=h2.hlen
 obtain ⟨i0,hi,hz0,hz1,hz2⟩:=info_parts Tryz.qE
 clear hl hw
 go_enter Tryz.func100,Tryz.ntmps100
 go_wp2_with fail
 refine C1.mono ?_
 rintro e w' ⟨rfl,rfl⟩
 rw [E1.out]
 go_wp2_with fail
 refine C2.mono ?_
 rintro e w' ⟨rfl,rfl⟩
 rw [E2.out]
 clear C1 C2
 go_wp2_with (at_make;go_must (refine wpList_make_own _ rfl (.const (.int .i64 0)) (.tmp 37) 22 rfl (w.heap.size+1) 3 i0 (.int .i64 0) 1 Tryz.underlying22 hi hz0 hz1 .i64 .i64 _ (l1+l2) rfl rfl ?m1 ?m2 ?m3 ?m4 ?_))
 case m1=>omega
 case m2=>rw [hz2];omega
 case m3=>unfold maxLen;omega
 case m4=>simp
 intro w1 ay grow1
 try simp only [World.size_alloc] at ay
 have nL:Below (w.heap.size+1) (w.alloc (.cells #[.slice none 0 0,.int .i64 0] 180)) w1:=(Below.refl _ _).grown grow1 (by simp) (fun k h=>by cases h)
 have b0:Below w.heap.size w w1:=((Below.refl _ _).alloc (Nat.le_refl _) _).trans (nL.mono (Nat.le_succ _))
 have s1:=(h1.below b0).src
 have N1:=(h1.below b0).hnil
 have HB0:=hid b0
 have agm:=hid nL
 have hsz1:=b0.size
 clear b0 nL grow1
 go_wp2_with (at_builtin;go_must (refine wpList_append_fits_any _ rfl (.tmp 39) (.tmp 40) 22 rfl (w.heap.size+1) 3 i0 1 Tryz.underlying22 hi hz1 (w.heap.size+1) 0 (l1+l2) [] rfl ay a1 l1 c1 (z1.map (Value.int .i64)) rfl ?n1 N1 s1 (qD z1) ?n2 ?_))
 case n1=>simp [L1]
 case n2=>omega
 intro w2 eG grow2
 try simp only [Nat.zero_add,List.nil_append] at eG
 have b2:Below w.heap.size w w2:=HB0.out.grown grow2 (by omega) (fun k h=>by cases h;omega)
 have aZ:Below (w.heap.size+1) (w.alloc (.cells #[.slice none 0 0,.int .i64 0] 180)) w2:=agm.out.grown grow2 (by have:=agm.out.size;simpa using this) (fun k h=>by cases h;omega)
 have s2:=(h2.below b2).src
 have N2:=(h2.below b2).hnil
 have HB2:=hid b2
 have agl:=hid aZ
 have hsz2:=b2.size
 clear b2 aZ grow2 s1 N1 ay
 go_wp2_with (at_builtin;go_must (refine wpList_append_fits_any _ rfl (.tmp 42) (.tmp 43) 22 rfl (w.heap.size+1) 3 i0 1 Tryz.underlying22 hi hz1 (w.heap.size+1) l1 (l1+l2) (z1.map (Value.int .i64)) rfl eG a2 l2 c2 (z2.map (Value.int .i64)) rfl ?n3 N2 s2 (qD z2) ?n4 ?_))
 case n3=>simp [L2]
 case n4=>omega
 intro w3 own3 grow3
 rw [←List.map_append] at own3
 have b3:Below w.heap.size w w3:=HB2.out.grown grow3 (by omega) (fun k h=>by cases h;omega)
 have XL:Below (w.heap.size+1) (w.alloc (.cells #[.slice none 0 0,.int .i64 0] 180)) w3:=agl.out.grown grow3 (by have:=agl.out.size;simpa using this) (fun k h=>by cases h;omega)
 have r0:=(XL.cell (p:=⟨w.heap.size,0,none⟩) (Nat.lt_succ_self _)).trans (World.cell?_alloc_new w _ _ 0)
 have r1:=(XL.cell (p:=⟨w.heap.size,1,none⟩) (Nat.lt_succ_self _)).trans (World.cell?_alloc_new w _ _ 1)
 have q0:=(XL.frozen (p:=⟨w.heap.size,0,none⟩) (Nat.lt_succ_self _)).trans (World.frozen?_alloc_new w _ _ 0)
 have q1:=(XL.frozen (p:=⟨w.heap.size,1,none⟩) (Nat.lt_succ_self _)).trans (World.frozen?_alloc_new w _ _ 1)
 simp at r0 r1
 have HB3:=hid b3
 have O3:=hid own3
 clear b3 XL grow3 own3 eG s2 N2
 go_wp2_with fail
 refine bodyPost_ret (v:=.tuple #[.agg #[.slice (some ⟨w.heap.size+1,0,none⟩) (l1+l2) (l1+l2),.int .i64 l1],.int .i64 0]) (by simp [results,Tryz.results100,go_sem,r0,r1]) rfl ?_
 unfold Joined
 rw [E.out,L1,L2]
 refine ⟨(HB3.out.setCell (p:=⟨w.heap.size,0,none⟩) (Nat.le_refl _) _).setCell (p:=⟨w.heap.size,1,none⟩) (Nat.le_refl _) _,Or.inr ⟨rfl,w.heap.size+1,l1+l2,rfl,?_⟩⟩
 exact aY (ownsRow_setCell_below (ownsRow_setCell_below O3.out (a:=⟨w.heap.size,0,none⟩) (Nat.lt_succ_self _) _) (a:=⟨w.heap.size,1,none⟩) (Nat.lt_succ_self _) _) (Nat.le_succ _)
theorem Nf (h1:Ints w a1 l1 c1 z1) (h2:Ints w a2 l2 c2 z2):Calls Tryz.prog 100 #[.slice a1 l1 c1,.slice a2 l2 c2] w (Joined z1 z2 w):=by
 by_cases h:l2=0
 ·exact Wz a1 a2 l1 c1 l2 c2 z1 z2 w h1 h2 h
 by_cases hw:40<l1∨40<l2
 ·exact Wy a1 a2 l1 c1 l2 c2 z1 z2 w h1 h2 h hw
 by_cases hl:bI z1=true∧bI z2=true
 ·exact ac5 a1 a2 l1 c1 l2 c2 z1 z2 w h1 h2 h hw hl
 ·exact Qn a1 a2 l1 c1 l2 c2 z1 z2 w h1 h2 h hw hl
end
end Go.Proofs.YtjagijohfkffiabGreat
