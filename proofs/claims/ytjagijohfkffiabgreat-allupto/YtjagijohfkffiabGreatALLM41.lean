import Derived.Test.YtjagijohfkffiabGreatALLM04
import Derived.Test.YtjagijohfkffiabGreatALLM34
import Derived.Test.YtjagijohfkffiabGreatALLM40
import Derived.Deep.RegionLaw
import Derived.Deep.DrawnRows
import Derived.ProofKit
import Derived.OpenShut
import Derived.ShutString
import Derived.ChangeOld
import Derived.JoinedCond
set_option maxHeartbeats 16000000
set_option maxRecDepth 100000
namespace Go.Proofs.YtjagijohfkffiabGreat
open Go.RowKit
set_option linter.unusedVariables false
attribute [local go_sem ↓] Go.wp_at_zero Go.wp_at_succ
def tail (s:ByteArray) (a:Nat):ByteArray:=s.extract a s.size
theorem tail_size (s:ByteArray) (a:Nat):(tail s a).size=s.size - a:=by simp [tail,ByteArray.size_extract]
theorem ab5 (s:ByteArray) (a i:Nat):bt (tail s a) i=bt s (a+i):=by
 by_cases h:a+i<s.size
 ·have h2:i<(tail s a).size:=by rw [tail_size];omega
  rw [fJ h,fJ h2]
  simp [tail,ByteArray.getElem_extract]
 ·have h2:¬ i<(tail s a).size:=by rw [tail_size];omega
  rw [Ch h,Ch h2]
theorem U8 (s:ByteArray) (a k:Nat):(tail s a).extract k (tail s a).size=tail s (a+k):=by
 apply ByteArray.ext
 rw [tail_size]
 simp [tail,ByteArray.data_extract,Array.extract_extract]
 congr 1
 have:s.data.size=s.size:=rfl
 omega
theorem P5 {s:ByteArray} {n i:Nat} (hi:i<n):aM (aT s n) i=sI s i:=by simp [aM,aT,List.getD,List.getElem?_map,List.getElem?_range hi]
theorem adF (ss:List St):cK (fC ss ss.length) (gU ss ss.length)=ss:=by
 apply List.ext_getElem?
 intro i
 by_cases h:i<ss.length
 ·have h1:i<(cK (fC ss ss.length) (gU ss ss.length)).length:=by simp [cK,fC,gU];exact h
  rw [List.getElem?_eq_getElem h1,List.getElem?_eq_getElem h]
  simp [cK,fC,gU,aM,List.getD,List.getElem?_eq_getElem h]
 ·rw [List.getElem?_eq_none (by simp [cK,fC,gU];omega),List.getElem?_eq_none (by omega)]
theorem Xa {ss:List St} (h8:iM ss):dC (fC ss ss.length) (gU ss ss.length)=kN ss:=by
 have:=(ui (os:=fC ss ss.length) (ls:=gU ss ss.length) (by simp [fC,gU]) (fun i hi=>by
  have hi2:i<ss.length:=by simpa [gU] using hi
  rw [show (gU ss ss.length).getD i []=(aM ss i).next by simp [gU,List.getD,List.getElem?_map,List.getElem?_range hi2]]
  exact oo h8 hi2)).1
 rw [this,adF]
theorem Jl {s:ByteArray} (h:0<s.size):(s.toList==[])=false:=by
 rw [ByteArray.toList_eq]
 have:s.data.toList.length=s.size:=rfl
 cases e:s.data.toList with
 | nil=>rw [e] at this;simp at this;omega
 | cons a l=>rfl
theorem UY {s:ByteArray} (h:s.size=0):(s.toList==[])=true:=by
 rw [ByteArray.toList_eq]
 have:s.data.toList.length=s.size:=rfl
 cases e:s.data.toList with
 | nil=>rfl
 | cons a l=>rw [e] at this;simp at this;omega
theorem UK {m:Nat} (h:m≤1000):IntKind.i64.wrap (m:Int)=(m:Int):=by
 have:(m:Int) % 18446744073709551616=m:=by omega
 simp [IntKind.wrap,IntKind.bits,IntKind.signed]
 omega
def U9:Value→Nat
 | .string b=>b.size
 | _=>0
section
variable (s:ByteArray) (w:World)
theorem SQ (h:s.size=0):Calls Tryz.prog 14 #[.string s] w (jg s w):=by
 have E:Hid (eY s=false):=hid (sK fun e=>by have:=(qd e).1;omega)
 have HV:Hid (fe s=9):=hid (by unfold fe;rw [E.out];rfl)
 have hs:s=⟨#[]⟩:=by
  apply ByteArray.ext
  exact Array.eq_empty_of_size_eq_zero h
 have HS:=hid hs
 have t:=bF w (.slice none 0 0) (.slice none 0 0) 37
 have c0:=t.c0
 have c1:=t.c1
 subst hs
 go_enter Tryz.func14,Tryz.ntmps14
 go_wp2_with fail
 refine bodyPost_ret (v:=.tuple #[.agg #[.slice none 0 0,.slice none 0 0],.int .i64 9]) (by simp [results,Tryz.results14,go_sem]) rfl ?_
 unfold jg
 rw [HV.out]
 exact ⟨(((Below.refl w.heap.size w).alloc (Nat.le_refl _) _)),_,_,rfl,Or.inl ⟨E.out,rfl,rfl⟩⟩
theorem SI (hm:s.size≤1048576) (h:0<s.size) (N:Nat) (hN1:1+N*9≤s.size) (hN2:s.size<1+N*9+9):Calls Tryz.prog 14 #[.string s] w (jg s w):=by
 obtain ⟨i0,hi,hz0,hz1,hz2⟩:=info_parts Tryz.qE
 obtain ⟨i1,hi1,hz01,hz11,hz21⟩:=info_parts Tryz.Ex
 have hne:=Jl h
 go_enter Tryz.func14,Tryz.ntmps14
 go_wp2_with fail
 generalize hT1:s.extract 1 s.size=T1
 have HT2:Hid (T1=tail s (1+0*9)):=hid hT1.symm
 clear hT1 hne
 go_loopw [5] (fun r wr=>∃ (j:Nat) (v1 v2:Value) (V:Nat→Value),j≤N∧r=.string (tail s (1+j*9))∧Below w.heap.size w wr ∧
   Two wr w.heap.size (.slice none 0 0) (.slice none 0 0)∧Two wr (w.heap.size+1) v1 v2∧Hid (kQ wr (w.heap.size+2) v1 v2 V (aT s N) j)) (fun r _=>U9 r)
 case atStart=>
  refine ⟨0,_,_,fun _=>.bool false,Nat.zero_le _,by rw [HT2.out],((Below.refl _ _).alloc (Nat.le_refl _) _).alloc (by simp) _,?_,?_,hid (JO _ _ _ _)⟩
  ·exact (bF w _ _ _).below ((Below.refl (w.heap.size+1) _).alloc (by simp) _) (Nat.lt_succ_self _)
  ·have:=bF (w.alloc (.cells #[.slice none 0 0,.slice none 0 0] 37)) (.slice none 0 0) (.slice none 0 0) 37
   simpa using this
 case round=>
  obtain ⟨j,v1,v2,V,hj,rfl,hb,q0,q1,HL⟩:=hrel
  rename World=>W0
  have G8:=tail_size s (1+j*9)
  have jD:=hid (fun i=>ab5 s (1+j*9) i)
  have Rs:=hid (U8 s (1+j*9) 9)
  by_cases hlt:j<N
  ·have hst:=P5 (s:=s) (n:=N) hlt
   have HST:=hid hst
   have ht9:9≤(tail s (1+j*9)).size:=by rw [G8];omega
   have htm:(tail s (1+j*9)).size≤1048576:=by rw [G8];omega
   have gN:=hid (Dl (aT s N) j)
   have hM:=q1.lt
   have Yh:=hid q0
   have KP:=hid q1
   have G9:Hid ((tail s (1+(j+1)*9)).size<(tail s (1+j*9)).size):=hid (by rw [tail_size,tail_size];omega)
   have HT2:Hid (tail s (1+j*9+9)=tail s (1+(j+1)*9)):=hid (by congr 1;omega)
   clear G8 q0 q1 hst
   generalize tail s (1+j*9)=t at *
   have kd:decide ((9:Int)≤(t.size:Int))=true:=by simp;omega
   have kd2:decide (9≤t.size)=true:=by simp;omega
   go_wp2_with fail
   go_loopw [7,6] (fun i sv wq=>∃ (k:Nat),k≤8∧i=.int .i64 k∧Below W0.heap.size W0 wq ∧
     Hid (wq.ownsRow W0.heap.size 3 1 sv k (gZ ((sI s j).next.take k)))) (fun i _ _=>8 - (intOf i).toNat)
   case atStart=>exact ⟨0,Nat.zero_le _,rfl,Below.refl _ _,hid (World.ownsRow_nil _ _ _ _)⟩
   case round=>
    obtain ⟨k,hk,rfl,hbq,HO⟩:=hrel
    have hsz:=hbq.size
    by_cases hlk:k<8
    ·have hpk:1+k<t.size:=by omega
     have IK:(t[1+k]'hpk).toNat=bt s (1+j*9+(1+k)):=by rw [←fJ hpk];exact jD.out (1+k)
     have kx:=oq s (1+j*9+(1+k))
     have HT:Hid (gZ ((sI s j).next.take k)++[.int .i64 (bt s (1+j*9+(1+k)):Int)]=gZ ((sI s j).next.take (k+1))):=hid (by
      have:k<(sI s j).next.length:=by rw [zy];exact hlk
      have e:=Ve s j hlk
      rw [show 1+j*9+1+k=1+j*9+(1+k) by omega] at e
      unfold gZ
      rw [List.take_succ_eq_append_getElem this,List.map_append,←e]
      simp [List.getD,List.getElem?_eq_getElem this])
     generalize bt s (1+j*9+(1+k))=x at *
     have own:=HO.out
     go_wp2_with (at_builtin;go_must (refine wpList_append_own _ rfl (.tmp 21) (.tmp 27) 22 rfl _ 3 i0 (.int .i64 0) 1 8 Tryz.underlying22 hi hz0 hz1 hz2 rfl (by decide) _ _ _ rfl (own.alloc _) ⟨wr.heap.size,0,none⟩ 1 1 [.int .i64 x] rfl rfl ?c1 ?c2 ?c3 ?c4 ?c5 ?_))
     case c1=>exact ic _ [_] _
     case c2=>intro u hu;simp at hu;subst hu;rfl
     case c3=>unfold maxLen;omega
     case c4=>omega
     case c5=>simp;omega
     intro v' w1 hown hgrow _
     have B1:=hid ((hbq.alloc hsz _).grown hgrow (by simp;omega) (fun k h=>(own.lt k h).1))
     rw [HT.out] at hown
     have O1:=hid hown
     clear hown hgrow own HO IK hbq
     go_wp2_with fail
     go_roundw
     case rel=>exact ⟨k+1,by omega,by go_num,B1.out,O1⟩
     case measure=>simp [intOf];omega
    ·obtain rfl:k=8:=by omega
     have O6:=HO.out
     rw [List.take_of_length_le (by rw [zy];exact Nat.le_refl _),←HST.out] at O6
     have L:=HL.out.keeps hbq
     obtain ⟨g6,cap6,rfl,hg6,hg6',hc6⟩:=yH O6 (by decide)
     have h6:=aY O6 (B':=w.heap.size+2) (by omega)
     have hs6:∀ i,i<j→(V i).ownBlock≠(Value.slice (some ⟨g6,0,none⟩) 8 cap6).ownBlock:=fun i hi e=>by
      have:=(((HL.out).row i hi).lt g6 e).2
      omega
     have J6:v1.ownBlock≠(Value.slice (some ⟨g6,0,none⟩) 8 cap6).ownBlock:=fun e=>by
      have:=((HL.out).out.lt g6 e).2
      omega
     have t0:=Yh.out.below hbq (by omega)
     have t1:=KP.out.below hbq hM
     have h0t:0<t.size:=by omega
     have IK:(t[0]'h0t).toNat=bt s (1+j*9):=by rw [←fJ h0t];exact jD.out 0
     have kx:=oq s (1+j*9)
     have HOO:Hid ((aM (aT s N) j).out=(bt s (1+j*9):Int)):=hid (by rw [HST.out];rfl)
     rw [HOO.out] at gN
     clear HOO
     generalize bt s (1+j*9)=o at *
     have k0:=t1.c0
     have BB:=hid (hb.trans (hbq.mono hb.size))
     have HL6:=hid h6
     have Pj:=hid hs6
     have RF:=hid J6
     have pR:=hid L
     have T0:=hid t0
     have T1:=hid t1
     have l1:=L.out
     clear h6 hs6 J6 L O6 HO t0 t1 Yh KP HL jD
     go_wp2_with fail
     have hMw:w.heap.size+1<wr.heap.size:=by omega
     have wro:IntKind.i64.wrap (o:Int)=(o:Int):=UK (by omega)
     go_region_law ((refine step_append_lies _ (by rfl) (.tmp 30) (.tmp 34) 22 (by rfl) (w.heap.size+2) 3 i0 (.int .i64 0) 1 8 Tryz.underlying22 hi hz0 hz1 hz2 rfl (by decide) v1 j (gZ (fC (aT s N) j)) (by rfl) (l1.alloc _).drew ⟨wr.heap.size,0,none⟩ 1 1 [.int .i64 o] (by rfl) (by rfl) (World.news_of_block (cs:=#[.int .i64 o]) (t:=3) (fr:=(0,0)) (heap_alloc_last wr _)) (by simp [Value.oneCell']) (by decide) (by unfold maxLen;omega) (by omega) (by simp;omega) _ rfl ?_;intro gg cc w1 hown hgrow hat hlt1;have nL:Below (w.heap.size+2) wr w1:=(below_drewN ((Below.refl (w.heap.size+2) wr).alloc (by omega) (.cells #[.int .i64 o] 3)) 1).grown hgrow (by show w.heap.size+2≤(wr.alloc (.cells #[.int .i64 o] 3)).heap.size;rw [World.size_alloc];omega) (fun k h=>(l1.lt k h).1);have d0:=(T1.out.below nL (by omega)).c0;have d1:=(T1.out.below nL (by omega)).f0))
     all_goals
      rw [←gN.out] at hown
      have M:=VV (pR.out.keeps (w':=(wr.alloc (.cells #[.int .i64 o] 3)).drew) (below_drewN ((Below.refl _ _).alloc (Nat.le_refl _) _) 1)) (HL6.out.alloc _).drew Pj.out RF.out hgrow hown (by rcases hat with e | e;exact Or.inl e;exact Or.inr (by rw [e]))
      have s0:=T0.out.below nL (by omega)
      have s1:=T1.out.below nL (by omega)
      have hgs:=nL.size
      have M2:=hid (M.set (k:=w.heap.size+1) (by omega) 0 (.slice (some ⟨gg,0,none⟩) (j+1) cc))
      have U0:=hid (s0.other (k:=w.heap.size+1) (o:=0) (by omega) (.slice (some ⟨gg,0,none⟩) (j+1) cc))
      have u1:=s1.set0 (.slice (some ⟨gg,0,none⟩) (j+1) cc)
      have U1:=hid u1
      have k1:=u1.c1
      have BB1:=hid ((BB.out.trans (nL.mono (by omega))).setCell (p:=⟨w.heap.size+1,0,none⟩) (by show w.heap.size≤w.heap.size+1;omega) (.slice (some ⟨gg,0,none⟩) (j+1) cc))
      have n1:=M2.out.mV
      have hws:w.heap.size+2≤w1.heap.size:=by omega
      clear hown hgrow hat M s0 s1 u1 nL l1 k0 d0 d1
      go_wp2_with (at_builtin;go_must (refine wpList_append_lies _ rfl (.tmp 38) (.tmp 40) 23 rfl (w.heap.size+2) 22 i1 (.slice none 0 0) 1 24 Tryz.underlying23 hi1 hz01 hz11 hz21 rfl (by decide) _ _ _ rfl (n1.alloc _) ⟨w1.heap.size,0,none⟩ 1 1 [.slice (some ⟨g6,0,none⟩) 8 cap6] rfl rfl ?d1 ?d2 (by decide) ?d3 ?d4 ?d5 _ rfl ?_))
      case d1=>exact fun m u h=>by have:=ic (w1.setCell ⟨w.heap.size+1,0,none⟩ (.slice (some ⟨gg,0,none⟩) (j+1) cc)) [.slice (some ⟨g6,0,none⟩) 8 cap6] 22 m u h;rw [World.size_setCell] at this;exact this
      case d2=>intro u hu;simp at hu;subst hu;rfl
      case d3=>unfold maxLen;omega
      case d4=>omega
      case d5=>simp;omega
      intro g2 fP w2 hown hgrow hat hlt2
      have aZ:=((Below.refl (w.heap.size+2) _).alloc (by rw [World.size_setCell];exact hws) _).grown hgrow (by rw [World.size_alloc,World.size_setCell];omega) (fun k h=>(n1.lt k h).1)
      have L2:=QQ (M2.out.alloc _) hgrow hown
      have s0:=U0.out.below aZ (by omega)
      have s1:=U1.out.below aZ (by omega)
      have L3:=hid (L2.set (k:=w.heap.size+1) (by omega) 1 (.slice (some ⟨g2,0,none⟩) (j+1) fP))
      have V0:=hid (s0.other (k:=w.heap.size+1) (o:=1) (by omega) (.slice (some ⟨g2,0,none⟩) (j+1) fP))
      have V1:=hid (s1.set1 (.slice (some ⟨g2,0,none⟩) (j+1) fP))
      have e0:=s1.c1
      have e1:=s1.f1
      have PO:=hid ((BB1.out.trans (aZ.mono (by omega))).setCell (p:=⟨w.heap.size+1,1,none⟩) (by show w.heap.size≤w.heap.size+1;omega) (.slice (some ⟨g2,0,none⟩) (j+1) fP))
      clear hown hgrow hat L2 s0 s1 aZ n1 k1 IK
      go_wp2_with fail
      go_roundw
      case rel=>exact ⟨j+1,_,_,_,by omega,by rw [Rs.out,HT2.out],PO.out,V0.out,V1.out,L3⟩
      case measure=>simp [U9];omega
  ·obtain rfl:j=N:=by omega
   have h8:=lI s j
   have hlen:=jo s j
   have Yq:=Xa h8
   rw [hlen] at Yq
   obtain ⟨a1,jO,hv1,hI⟩:=HL.out.ints
   obtain ⟨a2,fP,hv2,hLs⟩:=HL.out.lists
   subst hv1 hv2
   have F:=zY a1 a2 j jO j fP _ _ W0 hI hLs
   rw [Yq] at F
   have IK:(s[0]'h).toNat=bt s 0:=(fJ h).symm
   have kx:=oq s 0
   have kd:decide ((9:Int)≤((tail s (1+j*9)).size:Int))=false:=by rw [G8];simp;omega
   have kd2:decide (9≤(tail s (1+j*9)).size)=false:=by rw [G8];simp;omega
   have htm:(tail s (1+j*9)).size≤1048576:=by rw [G8];omega
   have Rw:Hid (eY s=true→(tail s (1+j*9)).size=0∧bt s 0=j∧kN (aT s j)=true):=hid (fun e=>by
    have e2:=qd e
    have e3:bt s 0=j:=by omega
    refine ⟨by rw [G8];omega,e3,?_⟩
    rw [←e3];exact e2.2.2)
   have HRY:Hid ((tail s (1+j*9)).size=0→bt s 0=j→kN (aT s j)=true→eY s=true):=hid (fun e1 e2 e3=>by
    rw [G8] at e1
    unfold eY
    rw [e2,e3]
    simp
    omega)
   have y0:=q1.c0
   have y1:=q1.c1
   have pR:=hid HL.out
   have hMw:=q1.lt
   clear G8 Rs jD Yq hI hLs HL
   generalize tail s (1+j*9)=t at *
   cases ev:kN (aT s j) with
   | false=>
    rw [ev] at F
    have HE:Hid (eY s=false):=hid (sK fun e=>by have:=(Rw.out e).2.2;rw [ev] at this;cases this)
    have HV:Hid (fe s=9):=hid (by unfold fe;rw [HE.out];rfl)
    clear ev
    go_wp2_with fail
    refine F.mono ?_
    rintro e w2 ⟨rfl,hb2⟩
    have B2:=hid (hb.trans (hb2.mono hb.size))
    have t2:=q0.below hb2 q0.lt
    have t4:=q1.below hb2 q1.lt
    have c0:=t2.c0
    have c1:=t2.c1
    have f0:=t2.f0
    have f1:=t2.f1
    have m0:=t4.c0
    clear hb2 t2 t4 q0 q1
    generalize bt s 0=cnt at *
    clear F
    go_wp2_with fail
    go_quiet (fail)
    go_wp2_with fail
    refine bodyPost_ret (v:=.tuple #[.agg #[.slice none 0 0,.slice none 0 0],.int .i64 9]) (by simp [results,Tryz.results14,go_sem,c0,c1]) rfl ?_
    unfold jg
    rw [HV.out]
    exact ⟨((below_drewN B2.out _).setCell (p:=⟨w.heap.size,0,none⟩) (Nat.le_refl _) _).setCell (p:=⟨w.heap.size,1,none⟩) (Nat.le_refl _) _,_,_,rfl,Or.inl ⟨HE.out,rfl,rfl⟩⟩
   | true=>
    rw [ev] at F
    by_cases hr0:t.size=0
    ·have hne:=UY hr0
     by_cases hc:bt s 0=j
     ·have HR:=hid (HRY.out hr0 hc ev)
      have HV:Hid (fe s=0):=hid (by unfold fe;rw [HR.out];rfl)
      have HC:=hid hc
      have IK2:(s[0]'h).toNat=j:=by rw [IK];exact hc
      have hj8:j<256:=by omega
      clear ev hr0 IK hc
      go_wp2_with fail
      refine F.mono ?_
      rintro e w2 ⟨rfl,hb2⟩
      have B2:=hid (hb.trans (hb2.mono hb.size))
      have t2:=q0.below hb2 q0.lt
      have t4:=q1.below hb2 q1.lt
      have L2:=pR.out.keeps hb2
      have c0:=t2.c0
      have c1:=t2.c1
      have f0:=t2.f0
      have f1:=t2.f1
      have m0:=t4.c0
      have m1:=t4.c1
      have hne2:(t.toList!=[])=false:=by simpa [bne] using hne
      have hM2:=t4.lt
      clear hb2 q0 q1 F
      have Z8:w.heap.size<w.heap.size+2:=by omega
      have HL2:=hid (fun n=>((L2.keeps (below_drewN (Below.refl w2.heap.size w2) n)).set (k:=w.heap.size) Z8 0 (.slice a1 j jO)).set (k:=w.heap.size) Z8 1 (.slice a2 j fP))
      clear t2 t4 L2
      go_wp2_with fail
      go_quiet (fail)
      go_wp2_with fail
      refine bodyPost_ret (v:=.tuple #[.agg #[.slice a1 j jO,.slice a2 j fP],.int .i64 0]) (by simp [results,Tryz.results14,go_sem,c0,c1]) rfl ?_
      unfold jg
      rw [HV.out,HC.out]
      exact ⟨((below_drewN B2.out _).setCell (p:=⟨w.heap.size,0,none⟩) (Nat.le_refl _) _).setCell (p:=⟨w.heap.size,1,none⟩) (Nat.le_refl _) _,_,_,rfl,Or.inr ⟨HR.out,V,(HL2.out _).mono (by omega)⟩⟩
     ·have HE:Hid (eY s=false):=hid (sK fun e=>hc (Rw.out e).2.1)
      have HV:Hid (fe s=9):=hid (by unfold fe;rw [HE.out];rfl)
      have hne2:(t.toList!=[])=false:=by simpa [bne] using hne
      clear ev hr0
      go_wp2_with fail
      refine F.mono ?_
      rintro e w2 ⟨rfl,hb2⟩
      have B2:=hid (hb.trans (hb2.mono hb.size))
      have t2:=q0.below hb2 q0.lt
      have t4:=q1.below hb2 q1.lt
      have c0:=t2.c0
      have c1:=t2.c1
      have f0:=t2.f0
      have f1:=t2.f1
      have m0:=t4.c0
      clear hb2 t2 t4 q0 q1
      generalize bt s 0=cnt at *
      have kc:((j:Int)!=(cnt:Int))=true:=bne_iff_ne.2 (by omega)
      clear F
      go_wp2_with fail
      go_quiet (fail)
      go_wp2_with fail
      refine bodyPost_ret (v:=.tuple #[.agg #[.slice none 0 0,.slice none 0 0],.int .i64 9]) (by simp [results,Tryz.results14,go_sem,c0,c1]) rfl ?_
      unfold jg
      rw [HV.out]
      exact ⟨((below_drewN B2.out _).setCell (p:=⟨w.heap.size,0,none⟩) (Nat.le_refl _) _).setCell (p:=⟨w.heap.size,1,none⟩) (Nat.le_refl _) _,_,_,rfl,Or.inl ⟨HE.out,rfl,rfl⟩⟩
    ·have hne:=Jl (s:=t) (by omega)
     have hne2:(t.toList!=[])=true:=by simpa [bne] using hne
     have HE:Hid (eY s=false):=hid (sK fun e=>hr0 (Rw.out e).1)
     have HV:Hid (fe s=9):=hid (by unfold fe;rw [HE.out];rfl)
     clear ev
     go_wp2_with fail
     refine F.mono ?_
     rintro e w2 ⟨rfl,hb2⟩
     have B2:=hid (hb.trans (hb2.mono hb.size))
     have t2:=q0.below hb2 q0.lt
     have t4:=q1.below hb2 q1.lt
     have c0:=t2.c0
     have c1:=t2.c1
     have f0:=t2.f0
     have f1:=t2.f1
     have m0:=t4.c0
     clear hb2 t2 t4 q0 q1
     generalize bt s 0=cnt at *
     clear F
     go_wp2_with fail
     go_quiet (fail)
     go_wp2_with fail
     refine bodyPost_ret (v:=.tuple #[.agg #[.slice none 0 0,.slice none 0 0],.int .i64 9]) (by simp [results,Tryz.results14,go_sem,c0,c1]) rfl ?_
     unfold jg
     rw [HV.out]
     exact ⟨((below_drewN B2.out _).setCell (p:=⟨w.heap.size,0,none⟩) (Nat.le_refl _) _).setCell (p:=⟨w.heap.size,1,none⟩) (Nat.le_refl _) _,_,_,rfl,Or.inl ⟨HE.out,rfl,rfl⟩⟩
theorem Jw (hm:s.size≤1048576):Calls Tryz.prog 14 #[.string s] w (jg s w):=by
 by_cases h:s.size=0
 ·exact SQ s w h
 ·exact SI s w hm (by omega) ((s.size - 1) / 9) (by omega) (by omega)
end
theorem VR (ss:List St) {n k:Nat} (hk:k<n):(gU ss n).getD k []=(aM ss k).next:=by simp [gU,List.getD,List.getElem?_map,List.getElem?_range hk]
theorem VN (ss:List St) {n k:Nat} (hk:k<n):(fC ss n).getD k 0=(aM ss k).out:=by simp [fC,List.getD,List.getElem?_map,List.getElem?_range hk]
theorem Zj (s:ByteArray) (a1:Option Addr) (l1 c1:Nat) (u:List Int) (w:World) (hm:s.size≤1048576) (h1:Ints w a1 l1 c1 u) :
  Calls Tryz.prog 58 #[.string s,.slice a1 l1 c1] w fun e w'=>e=.returned (.tuple #[.int .i64 (kD s u),.int .i64 (kE s u)])∧Below w.heap.size w w':=by
 have F:=Jw s w hm
 have m1:=h1.hmax
 have m3:=h1.hcap
 have L1:=h1.hlen
 cases hr:eY s with
 | false=>
  have HV:Hid (kD s u=0∧kE s u=9):=hid ⟨by simp [kD,hr],by simp [kE,hr]⟩
  have HR:=hid hr
  have HE:Hid (fe s=9):=hid (by simp [fe,hr])
  clear hr
  go_enter Tryz.func58,Tryz.ntmps58
  go_wp2_with fail
  refine F.mono ?_
  rintro e w2 ⟨hb2,v1,v2,rfl,⟨_,rfl,rfl⟩ | ⟨hx,_⟩⟩
  ·have B2:=hid (hb2.alloc hb2.size (.cells #[.slice none 0 0,.slice none 0 0] 37))
   rw [HE.out]
   clear hb2 F
   go_wp2_with fail
   go_ret2
   exact ⟨by rw [HV.out.1,HV.out.2];rfl,B2.out⟩
  ·rw [HR.out] at hx;cases hx
 | true=>
  have HR:=hid hr
  have hs:=qd hr
  have HE:Hid (fe s=0):=hid (by simp [fe,hr])
  cases hu:bI u with
  | false=>
   have HV:Hid (kD s u=0∧kE s u=6):=hid ⟨by simp [kD,hu],by simp [kE,hr,hu]⟩
   have A:=fun W (b:Below w.heap.size w W)=>qy a1 l1 c1 u W (h1.below b)
   rw [hu] at A
   clear hr hu
   go_enter Tryz.func58,Tryz.ntmps58
   go_wp2_with fail
   refine F.mono ?_
   rintro e w2 ⟨hb2,v1,v2,rfl,⟨hx,_⟩ | ⟨_,V,L⟩⟩
   ·rw [HR.out] at hx;cases hx
   ·obtain ⟨ao1,jO,hv1⟩:=ag L.out
    obtain ⟨ao2,fP,hv2⟩:=ag L.mV
    subst hv1 hv2
    generalize bt s 0=n at *
    have B2:=hid (hb2.alloc hb2.size (.cells #[.slice ao1 n jO,.slice ao2 n fP] 37))
    rw [HE.out]
    clear hb2 F L hs
    go_wp2_with fail
    refine (A _ B2.out).mono ?_
    rintro e w3 ⟨rfl,rfl⟩
    go_wp2_with fail
    go_ret2
    exact ⟨by rw [HV.out.1,HV.out.2];rfl,B2.out⟩
  | true=>
   have HV:Hid (kD s u=(aM (aT s (bt s 0)) (nD (aT s (bt s 0)) u)).out∧kE s u=0):=hid ⟨by simp [kD,hu,hr],by simp [kE,hr,hu]⟩
   have A:=fun W (b:Below w.heap.size w W)=>qy a1 l1 c1 u W (h1.below b)
   rw [hu] at A
   have hw:=hs.2.2
   have h8:=lI s (bt s 0)
   have hlen:=jo s (bt s 0)
   obtain ⟨hn1,AR,_⟩:=iw.1 hw
   rw [hlen] at hn1 AR
   clear hr hs
   unfold jg at F
   generalize aT s (bt s 0)=ss at *
   generalize bt s 0=n at *
   go_enter Tryz.func58,Tryz.ntmps58
   go_wp2_with fail
   refine F.mono ?_
   rintro e w2 ⟨hb2,v1,v2,rfl,⟨hx,_⟩ | ⟨_,V,L⟩⟩
   ·rw [HR.out] at hx;cases hx
   ·obtain ⟨ao1,jO,hv1,hI⟩:=L.ints
    obtain ⟨ao2,fP,hv2,hLs⟩:=L.lists
    subst hv1 hv2
    rw [HE.out]
    have b3:=hb2.alloc hb2.size (.cells #[.slice ao1 n jO,.slice ao2 n fP] 37)
    have tw:=bF w2 (.slice ao1 n jO) (.slice ao2 n fP) 37
    have I3:=hI.below ((Below.refl w2.heap.size w2).alloc (Nat.le_refl _) (.cells #[.slice ao1 n jO,.slice ao2 n fP] 37))
    have L3:=hLs.below ((Below.refl w2.heap.size w2).alloc (Nat.le_refl _) (.cells #[.slice ao1 n jO,.slice ao2 n fP] 37))
    have U3:=h1.below b3
    have B3:=hid b3
    clear hb2 F L hI hLs b3
    go_wp2_with fail
    refine (A _ B3.out).mono ?_
    rintro e w3 ⟨rfl,rfl⟩
    generalize hW3:w2.alloc (.cells #[.slice ao1 n jO,.slice ao2 n fP] 37)=W3 at *
    generalize w2.heap.size=b6 at *
    clear hW3 A
    go_wp2_with fail
    go_loopw [10,9] (fun i a wr=>∃ j k:Nat,j≤l1∧i=.int .i64 j∧a=.int .i64 k∧k<n∧Hid (k=nD ss (u.take j))∧∃ m,wr=W3.drewN m) (fun i _ _=>l1 - (intOf i).toNat)
    case atStart=>exact ⟨0,0,Nat.zero_le _,rfl,rfl,by omega,hid (by simp [nD]),0,rfl⟩
    case round=>
     obtain ⟨j,k,hj,rfl,rfl,hk,HK,m,rfl⟩:=hrel
     by_cases hlt:j<l1
     ·obtain ⟨b1,o1,rfl,hlt1,hc1⟩:=U3.hcell (by omega)
      obtain ⟨b2,o2,rfl,hlt2,hc2⟩:=L3.hcell (by omega)
      obtain ⟨ra,rl,rc,cr,hr⟩:=hc2 k hk
      rw [VR ss hk] at hr
      have hx:=OT hu (j:=j) (by omega)
      have hst:=Mf hw h8 (k:=k) (by omega) hx
      have HS:Hid (nD ss (u.take (j+1))=tJ ss k (u.getD j 0)):=hid (by rw [HK.out];exact Ju (by omega))
      have hr8:rl=8:=by rw [←hr.hlen];exact oo h8 (by omega)
      subst hr8
      obtain ⟨b3,o3,rfl,hlt3,hc3⟩:=hr.hcell (by omega)
      have nE:=hr.hcap
      have Zm:=hr.hmax
      have cu:=hc1 j hlt
      have hxb:=gQ.1 hx
      generalize u.getD j 0=x at *
      obtain ⟨a,rfl⟩:=Int.eq_ofNat_of_zero_le hxb.1
      have ca:=hc3 a (by omega)
      have e2:=hst.2
      rw [Int.toNat_natCast] at e2
      rw [e2] at ca
      have abg:=hst.1
      rw [hlen] at abg
      have t0:=tw.c1
      have p1:=L3.hcap
      have p2:=L3.hmax
      clear hc1 hc2 hc3 hst e2 hr hx
      generalize tJ ss k (a:Int)=k2 at *
      go_wp2_with fail
      go_quiet (fail)
      go_wp2_with fail
      go_roundw
      case rel=>exact ⟨j+1,k2,by omega,by go_num,rfl,abg,hid HS.out.symm,_,rfl⟩
      case measure=>simp [intOf];omega
     ·have HEQ:Hid (k=nD ss u):=hid (by rw [HK.out,List.take_of_length_le (by omega)])
      obtain ⟨b1,o1,rfl,hlt1,hc1⟩:=I3.hcell (by omega)
      have co:=hc1 k hk
      rw [VN ss hk] at co
      have HO:Hid ((aM ss (nD ss u)).out=(aM ss k).out):=hid (by rw [HEQ.out])
      generalize (aM ss k).out=o at *
      have t0:=tw.c0
      have p1:=I3.hcap
      have p2:=I3.hmax
      clear hc1
      go_wp2_with fail
      go_ret2
      exact ⟨by rw [HV.out.1,HV.out.2,HO.out];rfl,below_drewN B3.out _⟩
end Go.Proofs.YtjagijohfkffiabGreat
namespace Go.Proofs.YtjagijohfkffiabGreat.reads
open Go.ChangeShapes Go.WideShapes Go.ChangeAt Go.RowKit
open Go.ChangeMaps (open_string shut_string)
set_option linter.unusedVariables false
theorem Fz {s:ByteArray} {w:World} {e:Ending} {w':World} (h:jg s w e w'):∃ a1 l1 c1 a2 l2 c2 os ls,e=.returned (.tuple #[.agg #[.slice a1 l1 c1,.slice a2 l2 c2],.int .i64 (fe s)])∧Below w.heap.size w w' ∧
  Ints w' a1 l1 c1 os∧Lists w' a2 l2 c2 ls∧l1=(if eY s=true then bt s 0 else 0)∧l2=(if eY s=true then bt s 0 else 0)∧os=(if eY s=true then fC (aT s (bt s 0)) (bt s 0) else [])∧ls=(if eY s=true then gU (aT s (bt s 0)) (bt s 0) else []):=by
 obtain ⟨hb,v1,v2,he,⟨hr,rfl,rfl⟩ | ⟨hr,V,L⟩⟩:=h
 ·refine ⟨none,0,0,none,0,0,[],[],he,hb,⟨rfl,Nat.le_refl _,by omega,fun _=>⟨rfl,rfl⟩,fun h=>by omega⟩,⟨rfl,Nat.le_refl _,by omega,fun _=>⟨rfl,rfl⟩,fun h=>by omega⟩,?_⟩
  simp [hr]
 ·obtain ⟨a1,c1,rfl,hI⟩:=L.ints
  obtain ⟨a2,c2,rfl,hL⟩:=L.lists
  refine ⟨a1,_,c1,a2,_,c2,_,_,he,hb,hI,hL,?_⟩
  simp [hr]
theorem Wp (s:ByteArray) (a1:Option Addr) (l1 c1:Nat) (u:List Int) (w:World) (hm:s.size≤1048576) (h1:Ints w a1 l1 c1 u) :
  Calls Tryz.prog 28 #[.string s,.slice a1 l1 c1] w fun e w'=>e=.returned (.bool true)∧Below w.heap.size w w':=by
 have hm2:s.size≤maxLen:=by unfold maxLen;omega
 have C1:=Zq s w hm2
 have C2:=fun W=>Jw s W hm
 have C3:=fun W (b:Below w.heap.size w W)=>YI s a1 l1 c1 u W hm2 (h1.below b)
 have C4:=fun W (b:Below w.heap.size w W)=>Zj s a1 l1 c1 u W hm (h1.below b)
 generalize kD s u=rv at *
 generalize kE s u=re at *
 go_enter Tryz.func28,Tryz.ntmps28
 go_wp2_with fail
 refine C1.mono ?_
 intro e w1 hd1
 obtain ⟨x1,y1,z1,x2,y2,z2,os,ls,rfl,hb1,I1,L1,ey1,ey2,eos,els⟩:=Fz hd1
 clear hd1 C1
 have EY1:=hid ey1
 have EY2:=hid ey2
 have EOS:=hid eos
 have ELS:=hid els
 clear ey1 ey2 eos els
 generalize hre:fe s=er at *
 have Yf:=hid hre
 clear hre
 have tw:=bF w1 (.slice x1 y1 z1) (.slice x2 y2 z2) 37
 have bx:=(Below.refl w1.heap.size w1).alloc (Nat.le_refl _) (.cells #[.slice x1 y1 z1,.slice x2 y2 z2] 37)
 go_wp2_with fail
 refine (C2 _).mono ?_
 intro e w2 hd2
 obtain ⟨x3,y3,z3,x4,y4,z4,os2,ls2,rfl,hb2,I2,L2,ey3,ey4,eos2,els2⟩:=Fz hd2
 obtain rfl:y3=y1:=by rw [ey3,EY1.out]
 obtain rfl:y4=y2:=by rw [ey4,EY2.out]
 obtain rfl:os2=os:=by rw [eos2,EOS.out]
 obtain rfl:ls2=ls:=by rw [els2,ELS.out]
 rw [Yf.out]
 have tw2:=tw.below hb2 (by simp)
 have I1':=(I1.below bx).below hb2
 have L1':=(L1.below bx).below hb2
 have bB:=hb1.trans ((bx.mono hb1.size).trans (hb2.mono (by have:=hb1.size;simp;omega)))
 have uO:=hid bB
 have tw3:=bF w2 (.slice x3 y3 z3) (.slice x4 y4 z4) 37
 have Oq:=(Below.refl w2.heap.size w2).alloc (Nat.le_refl _) (.cells #[.slice x3 y3 z3,.slice x4 y4 z4] 37)
 have tw4:=tw2.below Oq tw2.lt
 have S:=xh x1 x2 x3 x4 y3 z1 y4 z2 z3 z4 os2 ls2 _ (I1'.below Oq) (L1'.below Oq) (I2.below Oq) (L2.below Oq)
 have p0:=tw4.c0
 have p1:=tw4.c1
 have hsz:=bB.size
 clear hd2 ey3 ey4 eos2 els2 hb2 tw tw2 tw3 tw4 I1 L1 I1' L1' I2 L2 bx hb1 C2 bB
 go_wp2_with fail
 refine S.mono ?_
 rintro e w3 ⟨rfl,hb3⟩
 have B3:=hid (uO.out.trans ((Oq.mono hsz).trans (hb3.mono (by simp;omega))))
 clear hb3 S p0 p1 Oq
 go_wp2_with fail
 refine (C3 _ B3.out).mono ?_
 rintro e w4 ⟨rfl,hb4⟩
 have B4:=hid (B3.out.trans (hb4.mono B3.out.size))
 clear hb4 C3
 go_wp2_with fail
 refine (C4 _ B4.out).mono ?_
 rintro e w5 ⟨rfl,hb5⟩
 have B5:=hid (B4.out.trans (hb5.mono B4.out.size))
 clear hb5 C4
 go_wp2
 all_goals go_ret
 all_goals exact ⟨rfl,B5.out⟩
end Go.Proofs.YtjagijohfkffiabGreat.reads
namespace Go.Proofs.YtjagijohfkffiabGreat
open Go.RowKit
set_option linter.unusedVariables false
section
variable (ns:List Nd) (vs:List Nat) (out:Nat→Nat) (nx:Nat→Nat→Nat) (vd:Nat)
def Fp (k i a:Nat):List Nat:=if out k≠vd∧gB ns (aJ vs i) a=true∧out (nx k a)≠vd then (toS ns vs i).map (fun j=>nx k a*vs.length+j) else []
def lK (k i A:Nat):List Nat:=(List.range A).flatMap (Fp ns vs out nx vd k i)
def oV (q:Nat):List Nat:=lK ns vs out nx vd (q / vs.length) (q % vs.length) 8
def kY (p q:Nat):Bool:=uH ns vs p (q % vs.length)
theorem xc (k i A:Nat):lK ns vs out nx vd k i (A+1)=lK ns vs out nx vd k i A++Fp ns vs out nx vd k i A:=by simp [lK,List.range_succ]
theorem Bi {k i:Nat} (hi:i<vs.length):oV ns vs out nx vd (k*vs.length+i)=lK ns vs out nx vd k i 8:=by unfold oV;rw [Br hi,qZ hi]
theorem Mk {k i a:Nat} (h:¬ (out k≠vd∧gB ns (aJ vs i) a=true∧out (nx k a)≠vd)):Fp ns vs out nx vd k i a=[]:=if_neg h
theorem Ie {k i a:Nat} (h:out k≠vd∧gB ns (aJ vs i) a=true∧out (nx k a)≠vd):Fp ns vs out nx vd k i a=(toS ns vs i).map (fun j=>nx k a*vs.length+j):=if_pos h
theorem Js {k i:Nat} (h:out k=vd):∀ A,lK ns vs out nx vd k i A=[]
 | 0=>rfl
 | A+1=>by rw [xc,Js h A,Mk ns vs out nx vd (fun c=>c.1 h)];rfl
theorem ab9 (k i a:Nat):(Fp ns vs out nx vd k i a).length≤vs.length:=by
 unfold Fp
 split
 ·rw [List.length_map];exact vC ns vs i
 ·simp
theorem vY (k i:Nat):∀ A,(lK ns vs out nx vd k i A).length≤A*vs.length
 | 0=>by simp [lK]
 | A+1=>by
  rw [xc,List.length_append,Nat.succ_mul]
  have h1:=vY k i A
  have h2:=ab9 ns vs out nx vd k i A
  omega
theorem Dm {l:List Nat} (h:l.Nodup) (b:Nat):l.count b≤1:=by
 induction l with
 | nil=>simp
 | cons a l ih=>
  rw [List.nodup_cons] at h
  rw [List.count_cons]
  by_cases e:a=b
  ·subst e
   rw [List.count_eq_zero.2 h.1]
   simp
  ·have:=ih h.2
   simp [e]
   exact this
theorem Jk (i:Nat):(toS ns vs i).Nodup:=by
 unfold toS qw
 exact List.nodup_range.filter _
theorem Vh (k i a b:Nat):(Fp ns vs out nx vd k i a).count b≤1:=by
 unfold Fp
 split
 ·refine Dm ?_ b
  rw [List.nodup_iff_pairwise_ne,List.pairwise_map]
  exact (List.nodup_iff_pairwise_ne.1 (Jk ns vs i)).imp fun hne e=>hne (by omega)
 ·simp
theorem Fh (k i b:Nat):∀ A,(lK ns vs out nx vd k i A).count b≤A
 | 0=>by simp [lK]
 | A+1=>by
  rw [xc,List.count_append]
  have h1:=Fh k i b A
  have h2:=Vh ns vs out nx vd k i A b
  omega
theorem YW (k i b:Nat):∀ A,b∈lK ns vs out nx vd k i A↔∃ a,a<A∧b∈Fp ns vs out nx vd k i a:=fun A=>by
 unfold lK
 rw [List.mem_flatMap]
 simp
theorem Sn {K:Nat} (hc:∀ i a,i<K→a<8→nx i a<K):Gz ns vs K (adT out nx vd) (oV ns vs out nx vd) (kY ns vs):=by
 refine ⟨fun k i hk hi b=>?_,fun p k i hp hk hi=>?_⟩
 ·rw [Bi ns vs out nx vd hi,YW]
  constructor
  ·rintro ⟨a,ha,hb⟩
   by_cases c:out k≠vd∧gB ns (aJ vs i) a=true∧out (nx k a)≠vd
   ·rw [Ie ns vs out nx vd c] at hb
    obtain ⟨j,hj,rfl⟩:=List.mem_map.1 hb
    exact ⟨a,nx k a,j,ha,hc k a hk ha,⟨c.1,rfl,c.2.2⟩,l8.1 c.2.1,hj,rfl⟩
   ·rw [Mk ns vs out nx vd c] at hb
    simp at hb
  ·rintro ⟨a,k',j,ha,hk',⟨h1,rfl,h2⟩,hr,hj,rfl⟩
   refine ⟨a,ha,?_⟩
   rw [Ie ns vs out nx vd ⟨h1,l8.2 hr,h2⟩]
   exact List.mem_map.2 ⟨j,hj,rfl⟩
 ·unfold kY
  rw [qZ hi]
end
theorem M6 {ns:List Nd} (hg:Good ns) {M:Nat} {m:Nat→Nat→Bool} (hL:eQ ns M m):0<M:=by
 obtain ⟨S,_,hR⟩:=mF hg.wf (fun _=>0)
 obtain ⟨i,hi,_⟩:=hL.all (S 0) ⟨fun _=>0,S,fun _=>by show 0<8;omega,hR,dh.refl _ _⟩
 omega
theorem FJ (f:Nat→Bool) (n:Nat):aj f (n+1) (n+1)=aj f n n++[.bool (f n)]:=by
 unfold aj
 rw [List.range_succ,List.map_append]
 congr 1
 ·refine List.map_congr_left fun i hi=>?_
  have:i<n:=by simpa using hi
  simp [this,show i<n+1 by omega]
 ·simp
theorem wB (f:Nat→Bool) (n k:Nat):(aj f n k).length=n:=by simp [aj]
theorem QI {w:World} {B K N:Nat} {v:Value} {V:Nat→Value} {kp:Nat→Nat→Bool} (hN:0<N) (h:eD w B 132 4 v K V (fun q=>aj (kp q) N N)):RQ w v K N kp:=by
 rcases h.out.2 with ⟨rfl,h0⟩ | ⟨g,cap,cur,rfl,hb,hh,hc,hm,_⟩
 ·exact ⟨none,0,by rw [h0],by omega,fun h=>by omega⟩
 ·refine ⟨_,cap,rfl,hc,fun _=>⟨g,rfl,bO hh,fun i hi=>?_⟩⟩
  have hr:=h.row i hi
  rw [wB] at hr
  obtain ⟨b,c,e,_,hlt,hle⟩:=yH hr hN
  refine ⟨b,c,?_,hle,hlt,fun q hq=>?_⟩
  ·rw [h.out.cellAt i (by omega)]
   simp [List.getElem?_map,List.getElem?_range hi,e]
  ·rw [e] at hr
   rw [hr.cellAt q (by omega)]
   exact jv _ _ _ hq
end Go.Proofs.YtjagijohfkffiabGreat
