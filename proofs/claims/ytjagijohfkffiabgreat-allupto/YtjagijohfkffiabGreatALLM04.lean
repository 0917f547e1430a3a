import Derived.Test.YtjagijohfkffiabGreatALLM03
import Derived.Deep.QuietTactic
import Derived.BigQuiet
import Derived.Laws.CopyOwn
set_option maxHeartbeats 16000000
set_option maxRecDepth 100000
namespace Go.Proofs.YtjagijohfkffiabGreat
open Go.RowKit
set_option linter.unusedVariables false
def tJ (ss:List St) (k:Nat) (z:Int):Nat:=((aM ss k).next.getD z.toNat 0).toNat
def nD (ss:List St) (u:List Int):Nat:=u.foldl (tJ ss) 0
theorem ab8 {ss:List St} (hw:kN ss=true) {k:Nat} (hk:k<ss.length):nJ ss.length k (aM ss k)=true:=(iw.1 hw).2.2 k hk
theorem Mf {ss:List St} (hw:kN ss=true) (h8:iM ss) {k:Nat} (hk:k<ss.length) {z:Int} (hz:nY z=true):tJ ss k z<ss.length∧(aM ss k).next.getD z.toNat 0=(tJ ss k z:Int):=by
 have hz2:=gQ.1 hz
 have h:=(Bh (ab8 hw hk)).2.2 z.toNat (by rw [oo h8 hk];omega)
 unfold tJ
 omega
theorem Ju {ss:List St} {u:List Int} {j:Nat} (hj:j<u.length):nD ss (u.take (j+1))=tJ ss (nD ss (u.take j)) (u.getD j 0):=by
 unfold nD
 rw [List.take_succ_eq_append_getElem hj,List.foldl_append]
 simp [List.getD,List.getElem?_eq_getElem hj]
theorem OT {u:List Int} (hu:bI u=true) {j:Nat} (hj:j<u.length):nY (u.getD j 0)=true:=by
 unfold bI at hu
 rw [List.all_eq_true] at hu
 simpa [List.getD,List.getElem?_eq_getElem hj] using hu _ (List.getElem_mem hj)
theorem ZI (g n cap B:Nat) (ss:List St) (a1:Option Addr) (l1 c1:Nat) (u:List Int) (w:World) (hr:w.ownsRow B 119 9 (.slice (some ⟨g,0,none⟩) n cap) n (dY ss)) (h8:iM ss) (hl:ss.length=n) (hw:kN ss=true) (hcap:n≤cap) (h1:Ints w a1 l1 c1 u) (hu:bI u=true) :
  Calls Tryz.prog 107 #[.slice (some ⟨g,0,none⟩) n cap,.slice a1 l1 c1] w fun e w'=>e=.returned (.int .i64 (aM ss (nD ss u)).out)∧w'=w:=by
 have HR:=hid hr
 have m1:=h1.hmax
 have m3:=h1.hcap
 have L1:=h1.hlen
 obtain ⟨hn1,AR,_⟩:=iw.1 hw
 rw [hl] at hn1 AR
 clear hr
 go_enter Tryz.func107,Tryz.ntmps107
 go_wp2_with fail
 go_loop [10,5] (fun i a=>∃ j k:Nat,j≤l1∧i=.int .i64 j∧a=.int .i64 k∧k<n∧Hid (k=nD ss (u.take j))) (fun i _=>l1 - (intOf i).toNat)
 case atStart=>exact ⟨0,0,Nat.zero_le _,rfl,rfl,by omega,hid (by simp [nD])⟩
 case round=>
  obtain ⟨j,k,hj,rfl,rfl,hk,HK⟩:=hrel
  by_cases hlt:j<l1
  ·obtain ⟨b1,o1,rfl,hlt1,hc1⟩:=h1.hcell (by omega)
   have c:=hc1 j hlt
   have hx:=OT hu (j:=j) (by omega)
   have hs:=Mf hw h8 (k:=k) (by omega) hx
   have HS:Hid (nD ss (u.take (j+1))=tJ ss k (u.getD j 0)):=hid (by rw [HK.out];exact Ju (by omega))
   have hxb:=gQ.1 hx
   generalize u.getD j 0=x at *
   obtain ⟨a,rfl⟩:=Int.eq_ofNat_of_zero_le hxb.1
   have ca:=tZ HR.out h8 hl (j:=k) hk (1+a) (by omega)
   have he:(fH (aM ss k))[1+a]?=some (.int .i64 (tJ ss k (a:Int):Nat)):=by
    have h9:(aM ss k).next.length=8:=oo h8 (by omega)
    have:a<(aM ss k).next.length:=by omega
    rw [←hs.2,show 1+a=a+1 by omega]
    simp [fH,List.getD,List.getElem?_eq_getElem this]
   rw [he,←Nat.add_assoc] at ca
   clear he hc1
   have hlt2:=hs.1
   rw [hl] at hlt2
   clear hs
   generalize tJ ss k (a:Int)=k2 at *
   have d1:decide ((k:Int)<0)=false:=by simp
   have d2:decide ((n:Int)≤(k:Int))=false:=by simp;omega
   have d3:decide ((a:Int)<0)=false:=by simp
   have d4:decide (8≤(a:Int))=false:=by simp;omega
   go_wp2_with fail
   go_round
   case rel=>exact ⟨j+1,k2,by omega,by go_num,rfl,hlt2,hid HS.out.symm⟩
   case measure=>simp [intOf];omega
  ·have HE:Hid (k=nD ss u):=hid (by rw [HK.out,List.take_of_length_le (by omega)])
   have ca:=tZ HR.out h8 hl (j:=k) hk 0 (by decide)
   rw [show (fH (aM ss k))[0]?=some (.int .i64 (aM ss k).out) from rfl,Nat.add_zero] at ca
   have d1:decide ((k:Int)<0)=false:=by simp
   have d2:decide ((n:Int)≤(k:Int))=false:=by simp;omega
   have HO:Hid ((aM ss (nD ss u)).out=(aM ss k).out):=hid (by rw [HE.out])
   generalize (aM ss k).out=o at *
   go_wp2_with fail
   go_ret
   exact ⟨by rw [HO.out];rfl,rfl⟩
def kE (s:ByteArray) (u:List Int):Nat:=if eY s=true then (if bI u=true then 0 else 6) else 9
def kD (s:ByteArray) (u:List Int):Int:=if eY s=true∧bI u=true then (aM (aT s (bt s 0)) (nD (aT s (bt s 0)) u)).out else 0
theorem YI (s:ByteArray) (a1:Option Addr) (l1 c1:Nat) (u:List Int) (w:World) (hm:s.size≤maxLen) (h1:Ints w a1 l1 c1 u) :
  Calls Tryz.prog 57 #[.string s,.slice a1 l1 c1] w fun e w'=>e=.returned (.tuple #[.int .i64 (kD s u),.int .i64 (kE s u)])∧Below w.heap.size w w':=by
 have F:=NC s w hm
 cases hr:eY s with
 | false=>
  have HV:Hid (kD s u=0∧kE s u=9):=hid ⟨by simp [kD,hr],by simp [kE,hr]⟩
  have HR:=hid hr
  clear hr
  go_enter Tryz.func57,Tryz.ntmps57
  go_wp2_with fail
  refine F.mono ?_
  rintro e w2 ⟨hb2,⟨_,rfl⟩ | ⟨hx,_⟩⟩
  ·have B2:=hid hb2
   clear hb2 F
   go_wp2_with fail
   go_ret2
   exact ⟨by rw [HV.out.1,HV.out.2];rfl,B2.out⟩
  ·rw [HR.out] at hx;cases hx
 | true=>
  have HR:=hid hr
  have hs:=qd hr
  cases hu:bI u with
  | false=>
   have HV:Hid (kD s u=0∧kE s u=6):=hid ⟨by simp [kD,hu],by simp [kE,hr,hu]⟩
   have A:=fun W (b:Below w.heap.size w W)=>iB a1 l1 c1 u W (h1.below b)
   rw [hu] at A
   clear hr hu
   go_enter Tryz.func57,Tryz.ntmps57
   go_wp2_with fail
   refine F.mono ?_
   rintro e w2 ⟨hb2,⟨hx,_⟩ | ⟨_,g,cap,rfl,own⟩⟩
   ·rw [HR.out] at hx;cases hx
   ·have B2:=hid hb2
    clear hb2 F own hs
    generalize bt s 0=n at *
    go_wp2_with fail
    refine (A _ B2.out).mono ?_
    rintro e w3 ⟨rfl,rfl⟩
    go_wp2_with fail
    go_ret2
    exact ⟨by rw [HV.out.1,HV.out.2];rfl,B2.out⟩
  | true=>
   have HV:Hid (kD s u=(aM (aT s (bt s 0)) (nD (aT s (bt s 0)) u)).out∧kE s u=0):=hid ⟨by simp [kD,hu,hr],by simp [kE,hr,hu]⟩
   have A:=fun W (b:Below w.heap.size w W)=>iB a1 l1 c1 u W (h1.below b)
   rw [hu] at A
   have R:=fun W g cap (b:Below w.heap.size w W) own hcap=>ZI g (bt s 0) cap w.heap.size (aT s (bt s 0)) a1 l1 c1 u W own (lI s _) (jo s _) hs.2.2 hcap (h1.below b) hu
   have hpos:=(iw.1 hs.2.2).1
   rw [jo] at hpos
   clear hr hu hs
   generalize hst:aT s (bt s 0)=ss at *
   unfold ql at F
   rw [hst] at F
   generalize bt s 0=n at *
   go_enter Tryz.func57,Tryz.ntmps57
   go_wp2_with fail
   refine F.mono ?_
   rintro e w2 ⟨hb2,⟨hx,_⟩ | ⟨_,g,cap,rfl,own⟩⟩
   ·rw [HR.out] at hx;cases hx
   ·have B2:=hid hb2
    obtain ⟨g',eg,_,_,hcap⟩:=dH own (by omega)
    cases eg
    have R2:=R w2 g cap hb2 own hcap
    clear hb2 F own R
    generalize (aM ss (nD ss u)).out=o at *
    go_wp2_with fail
    refine (A _ B2.out).mono ?_
    rintro e w3 ⟨rfl,rfl⟩
    go_wp2_with fail
    refine R2.mono ?_
    rintro e w4 ⟨rfl,rfl⟩
    go_wp2_with fail
    go_ret2
    exact ⟨by rw [HV.out.1,HV.out.2];rfl,B2.out⟩
theorem Tryz.Ex:(Tryz.prog.info? 22).map (fun i=>(i.zero,i.size,i.bytes))=some (some (.slice none 0 0),1,24):=by kernel_rfl
def gZ (l:List Int):List Value:=l.map (Value.int .i64)
def fC (ss:List St) (j:Nat):List Int:=(List.range j).map fun i=>(aM ss i).out
theorem Dl (ss:List St) (j:Nat):gZ (fC ss (j+1))=gZ (fC ss j)++[.int .i64 (aM ss j).out]:=by simp [fC,gZ,List.range_succ]
theorem abY (V:Nat→Value) (j:Nat) (v:Value):(List.range (j+1)).map (fun i=>if i=j then v else V i)=(List.range j).map V++[v]:=by
 rw [List.range_succ,List.map_append]
 congr 1
 ·apply List.map_congr_left
  intro i hi
  rw [List.mem_range] at hi
  rw [if_neg (by omega)]
 ·simp
structure kQ (w:World) (B:Nat) (v1 v2:Value) (V:Nat→Value) (ss:List St) (j:Nat):Prop where
 out:w.ownsRow B 3 1 v1 j (gZ (fC ss j))
 mV:w.ownsRow B 22 1 v2 j ((List.range j).map V)
 row:∀ i,i<j→w.ownsRow B 3 1 (V i) 8 (gZ (aM ss i).next)
 sep:∀ i k,i<k→k<j→(V i).ownBlock≠(V k).ownBlock
 far:∀ i,i<j→v1.ownBlock≠(V i).ownBlock
theorem JO (w:World) (B:Nat) (V:Nat→Value) (ss:List St):kQ w B (.slice none 0 0) (.slice none 0 0) V ss 0:=
 ⟨World.ownsRow_nil _ _ _ _,World.ownsRow_nil _ _ _ _,fun i h=>by omega,fun i k _ h=>by omega,fun i h=>by omega⟩
theorem kQ.keeps {w w':World} {B:Nat} {v1 v2:Value} {V:Nat→Value} {ss:List St} {j:Nat} (h:kQ w B v1 v2 V ss j) (hb:Below w.heap.size w w'):kQ w' B v1 v2 V ss j:=
 ⟨ae h.out hb,ae h.mV hb,fun i hi=>ae (h.row i hi) hb,h.sep,h.far⟩
theorem kQ.mono {w:World} {B B':Nat} {v1 v2:Value} {V:Nat→Value} {ss:List St} {j:Nat} (h:kQ w B v1 v2 V ss j) (hb:B'≤B):kQ w B' v1 v2 V ss j:=
 ⟨aY h.out hb,aY h.mV hb,fun i hi=>aY (h.row i hi) hb,h.sep,h.far⟩
theorem kQ.set {w:World} {B:Nat} {v1 v2:Value} {V:Nat→Value} {ss:List St} {j:Nat} (h:kQ w B v1 v2 V ss j) {k:Nat} (hk:k<B) (o:Nat) (u:Value):kQ (w.setCell ⟨k,o,none⟩ u) B v1 v2 V ss j:=
 ⟨ak h.out hk o u,ak h.mV hk o u,fun i hi=>ak (h.row i hi) hk o u,h.sep,h.far⟩
structure Mid (w:World) (B:Nat) (v1 v2:Value) (V:Nat→Value) (ss:List St) (j:Nat) (v6:Value):Prop where
 out:w.ownsRow B 3 1 v1 (j+1) (gZ (fC ss (j+1)))
 mV:w.ownsRow B 22 1 v2 j ((List.range j).map V)
 row:∀ i,i<j→w.ownsRow B 3 1 (V i) 8 (gZ (aM ss i).next)
 SX:w.ownsRow B 3 1 v6 8 (gZ (aM ss j).next)
 sep:∀ i k,i<k→k<j→(V i).ownBlock≠(V k).ownBlock
 Zb:∀ i,i<j→(V i).ownBlock≠v6.ownBlock
 far:∀ i,i<j→v1.ownBlock≠(V i).ownBlock
 aat:v1.ownBlock≠v6.ownBlock
theorem Mid.set {w:World} {B:Nat} {v1 v2 v6:Value} {V:Nat→Value} {ss:List St} {j:Nat} (h:Mid w B v1 v2 V ss j v6) {k:Nat} (hk:k<B) (o:Nat) (u:Value):Mid (w.setCell ⟨k,o,none⟩ u) B v1 v2 V ss j v6:=
 ⟨ak h.out hk o u,ak h.mV hk o u,fun i hi=>ak (h.row i hi) hk o u,ak h.SX hk o u,h.sep,h.Zb,h.far,h.aat⟩
theorem Mid.alloc {w:World} {B:Nat} {v1 v2 v6:Value} {V:Nat→Value} {ss:List St} {j:Nat} (h:Mid w B v1 v2 V ss j v6) (o:Obj):Mid (w.alloc o) B v1 v2 V ss j v6:=
 ⟨h.out.alloc o,h.mV.alloc o,fun i hi=>(h.row i hi).alloc o,h.SX.alloc o,h.sep,h.Zb,h.far,h.aat⟩
theorem acK {w:World} {B e:Nat} {v:Value} {n:Nat} {xs:List Value} (h:w.ownsRow B e 1 v n xs) (hn:0<n):∃ g,v.ownBlock=some g∧B≤g∧g<w.heap.size:=by
 obtain ⟨g,cap,rfl,h1,h2,_⟩:=yH h hn
 exact ⟨g,rfl,h1,h2⟩
theorem VV {w w1:World} {B:Nat} {v1 v2 v6:Value} {V:Nat→Value} {ss:List St} {j gg cc:Nat} (h:kQ w B v1 v2 V ss j) (h6:w.ownsRow B 3 1 v6 8 (gZ (aM ss j).next)) (hs6:∀ i,i<j→(V i).ownBlock≠v6.ownBlock) (J6:v1.ownBlock≠v6.ownBlock)
  (hgrow:w.grownBy w1 v1.ownBlock) (hown:w1.ownsRow B 3 1 (.slice (some ⟨gg,0,none⟩) (j+1) cc) (j+1) (gZ (fC ss (j+1)))) (hat:v1.ownBlock=some gg∨gg=w.heap.size):Mid w1 B (.slice (some ⟨gg,0,none⟩) (j+1) cc) v2 V ss j v6:=by
 have key:∀ v xs,w.ownsRow B 3 1 v 8 xs→v1.ownBlock≠v.ownBlock→(Value.slice (some ⟨gg,0,none⟩) (j+1) cc).ownBlock≠v.ownBlock:=by
  intro v xs ho hne
  obtain ⟨g,hg,_,hlt⟩:=acK ho (by decide)
  rw [hg] at hne ⊢
  rcases hat with e | e
  ·rw [e] at hne;exact hne
  ·intro e2
   simp [Value.ownBlock] at e2
   omega
 exact ⟨hown,h.mV.kept hgrow (aD h.mV h.out (by decide)),fun i hi=>(h.row i hi).kept hgrow (Or.inr (h.far i hi).symm),h6.kept hgrow (Or.inr J6.symm),h.sep,hs6,fun i hi=>key _ _ (h.row i hi) (h.far i hi),key _ _ h6 J6⟩
theorem QQ {w w1:World} {B:Nat} {v1 v2 v2' v6:Value} {V:Nat→Value} {ss:List St} {j:Nat} (h:Mid w B v1 v2 V ss j v6) (hgrow:w.grownBy w1 v2.ownBlock)
  (hown:w1.ownsRow B 22 1 v2' (j+1) ((List.range j).map V++[v6])):kQ w1 B v1 v2' (fun i=>if i=j then v6 else V i) ss (j+1):=by
 refine ⟨h.out.kept hgrow (aD h.out h.mV (by decide)),by rw [abY];exact hown,fun i hi=>?_,fun i k hik hk=>?_,fun i hi=>?_⟩
 ·by_cases e:i=j
  ·subst e;simp only [if_true];exact h.SX.kept hgrow (aD h.SX h.mV (by decide))
  ·simp only [if_neg e];exact (h.row i (by omega)).kept hgrow (aD (h.row i (by omega)) h.mV (by decide))
 ·have e1:¬ i=j:=by omega
  simp only [if_neg e1]
  by_cases e:k=j
  ·subst e;simp only [if_true];exact h.Zb i hik
  ·simp only [if_neg e];exact h.sep i k hik (by omega)
 ·by_cases e:i=j
  ·subst e;simp only [if_true];exact h.aat
  ·simp only [if_neg e];exact h.far i (by omega)
theorem JD (g n cap B:Nat) (ss:List St) (w:World) (hr:w.ownsRow B 119 9 (.slice (some ⟨g,0,none⟩) n cap) n (dY ss)) (h8:iM ss) (hl:ss.length=n) (hn:n≤1000) (hg:g<w.heap.size) (hcap:n≤cap) :
  Calls Tryz.prog 34 #[.slice (some ⟨g,0,none⟩) n cap] w fun e w'=>∃ v1 v2 V,e=.returned (.agg #[v1,v2])∧kQ w' w.heap.size v1 v2 V ss n∧Below w.heap.size w w':=by
 have HR:=hid hr
 clear hr
 obtain ⟨i0,hi,hz0,hz1,hz2⟩:=info_parts Tryz.qE
 obtain ⟨i1,hi1,hz01,hz11,hz21⟩:=info_parts Tryz.Ex
 go_enter Tryz.func34,Tryz.ntmps34
 go_wp2_with fail
 go_loopw [12] (fun i wr=>∃ (j:Nat) (v1 v2:Value) (V:Nat→Value),j≤n∧i=.int .i64 j∧Below w.heap.size w wr ∧
   Two wr w.heap.size (.slice none 0 0) (.slice none 0 0)∧Two wr (w.heap.size+1) v1 v2∧Hid (kQ wr (w.heap.size+2) v1 v2 V ss j)) (fun i _=>n - (intOf i).toNat)
 case atStart=>
  refine ⟨0,_,_,fun _=>.bool false,Nat.zero_le _,rfl,((Below.refl _ _).alloc (Nat.le_refl _) _).alloc (by simp) _,?_,?_,hid (JO _ _ _ _)⟩
  ·exact (bF w _ _ _).below ((Below.refl (w.heap.size+1) _).alloc (by simp) _) (Nat.lt_succ_self _)
  ·have:=bF (w.alloc (.cells #[.slice none 0 0,.slice none 0 0] 37)) (.slice none 0 0) (.slice none 0 0) 37
   simpa using this
 case round=>
  obtain ⟨j,v1,v2,V,hj,rfl,hb,q0,q1,HL⟩:=hrel
  rename World=>W0
  by_cases hlt:j<n
  ·have S:=tZ HR.out h8 hl hlt
   have pG:=oo h8 (i:=j) (by omega)
   obtain ⟨a0,a1,a2,a3,a4,a5,a6,a7,ea,HX⟩:=vW (aM ss j).out pG
   rw [show (⟨(aM ss j).out,(aM ss j).next⟩:St)=aM ss j from rfl] at ea
   have ec:fH (aM ss j)=[.int .i64 (aM ss j).out,.int .i64 a0,.int .i64 a1,.int .i64 a2,.int .i64 a3,.int .i64 a4,.int .i64 a5,.int .i64 a6,.int .i64 a7]:=by
    have:=congrArg Array.toList ea
    simpa [uS] using this
   rw [ec] at S
   have gN:=hid (Dl ss j)
   have wU:=hid pG
   have c0:=(hb.cell (p:=⟨g,j*9,none⟩) hg).trans (S 0 (by decide))
   have c1:=(hb.cell (p:=⟨g,j*9+1,none⟩) hg).trans (S 1 (by decide))
   have c2:=(hb.cell (p:=⟨g,j*9+2,none⟩) hg).trans (S 2 (by decide))
   have c3:=(hb.cell (p:=⟨g,j*9+3,none⟩) hg).trans (S 3 (by decide))
   have c4:=(hb.cell (p:=⟨g,j*9+4,none⟩) hg).trans (S 4 (by decide))
   have c5:=(hb.cell (p:=⟨g,j*9+5,none⟩) hg).trans (S 5 (by decide))
   have c6:=(hb.cell (p:=⟨g,j*9+6,none⟩) hg).trans (S 6 (by decide))
   have c7:=(hb.cell (p:=⟨g,j*9+7,none⟩) hg).trans (S 7 (by decide))
   have c8:=(hb.cell (p:=⟨g,j*9+8,none⟩) hg).trans (S 8 (by decide))
   simp only [List.getElem?_cons_succ,List.getElem?_cons_zero] at c0 c1 c2 c3 c4 c5 c6 c7 c8
   clear S ea ec pG
   generalize (aM ss j).out=o at *
   have hM:=q1.lt
   have Yh:=hid q0
   have KP:=hid q1
   clear q0 q1
   go_wp2_with fail
   generalize (#[Value.int .i64 a0,.int .i64 a1,.int .i64 a2,.int .i64 a3,.int .i64 a4,.int .i64 a5,.int .i64 a6,.int .i64 a7]:Array Value)=X at *
   go_loopw [18,6] (fun i s wq=>∃ (k:Nat),k≤8∧i=.int .i64 k∧Below (W0.heap.size+1) (W0.alloc (.cells #[.int .i64 o,.int .i64 a0,.int .i64 a1,.int .i64 a2,.int .i64 a3,.int .i64 a4,.int .i64 a5,.int .i64 a6,.int .i64 a7] 119)) wq ∧
     Hid (wq.ownsRow (W0.heap.size+1) 3 1 s k (gZ ((aM ss j).next.take k)))) (fun i _ _=>8 - (intOf i).toNat)
   case atStart=>exact ⟨0,Nat.zero_le _,rfl,Below.refl _ _,hid (World.ownsRow_nil _ _ _ _)⟩
   case round=>
    obtain ⟨k,hk,rfl,hbq,HO⟩:=hrel
    have hsz:=hbq.size
    rw [World.size_alloc] at hsz
    by_cases hlk:k<8
    ·have IX:=fun W=>gY (P:=Tryz.prog) W Tryz.underlying117 (jG Tryz.underlying3) (by kernel_rfl) hlk (HX.out k hlk)
     have HT:Hid (gZ ((aM ss j).next.take k)++[.int .i64 ((aM ss j).next.getD k 0)]=gZ ((aM ss j).next.take (k+1))):=hid (by
      have:k<(aM ss j).next.length:=by rw [wU.out];exact hlk
      unfold gZ
      rw [List.take_succ_eq_append_getElem this,List.map_append]
      simp [List.getD,List.getElem?_eq_getElem this])
     generalize (aM ss j).next.getD k 0=x at *
     have own:=HO.out
     go_wp2_with (at_builtin;go_must (refine wpList_append_own _ rfl (.tmp 21) (.tmp 23) 22 rfl (_+1) 3 i0 (.int .i64 0) 1 8 Tryz.underlying22 hi hz0 hz1 hz2 rfl (by decide) _ _ _ rfl (own.alloc _) ⟨wr.heap.size,0,none⟩ 1 1 [.int .i64 x] rfl rfl ?c1 ?c2 ?c3 ?c4 ?c5 ?_))
     case c1=>exact ic _ [_] _
     case c2=>intro u hu;simp at hu;subst hu;rfl
     case c3=>unfold maxLen;omega
     case c4=>omega
     case c5=>simp;omega
     intro v' w1 hown hgrow _
     have B1:=hid ((hbq.alloc hsz _).grown hgrow (by simp;omega) (fun k h=>(own.lt k h).1))
     rw [HT.out] at hown
     have O1:=hid hown
     clear hown hgrow own HO IX hbq
     go_wp2_with fail
     go_roundw
     case rel=>exact ⟨k+1,by omega,by go_num,B1.out,O1⟩
     case measure=>simp [intOf];omega
    ·obtain rfl:k=8:=by omega
     have O6:=HO.out
     rw [List.take_of_length_le (by rw [wU.out];exact Nat.le_refl _)] at O6
     have bw:Below W0.heap.size W0 wr:=((Below.refl _ _).alloc (Nat.le_refl _) _).trans (hbq.mono (Nat.le_succ _))
     have L:=HL.out.keeps bw
     obtain ⟨g6,cap6,rfl,hg6,hg6',hc6⟩:=yH O6 (by decide)
     have h6:=aY O6 (B':=w.heap.size+2) (by omega)
     have hs6:∀ i,i<j→(V i).ownBlock≠(Value.slice (some ⟨g6,0,none⟩) 8 cap6).ownBlock:=fun i hi e=>by
      have:=(((HL.out).row i hi).lt g6 e).2
      omega
     have J6:v1.ownBlock≠(Value.slice (some ⟨g6,0,none⟩) 8 cap6).ownBlock:=fun e=>by
      have:=((HL.out).out.lt g6 e).2
      omega
     have t0:=Yh.out.below bw (by omega)
     have t1:=KP.out.below bw hM
     have cO:=(hbq.cell (p:=⟨W0.heap.size,0,none⟩) (Nat.lt_succ_self _)).trans (World.cell?_alloc_new W0 _ _ 0)
     simp at cO
     have k0:=t1.c0
     have BB:=hid (hb.trans (bw.mono hb.size))
     have HL6:=hid h6
     have Pj:=hid hs6
     have RF:=hid J6
     have pR:=hid L
     have T0:=hid t0
     have T1:=hid t1
     have l1:=L.out
     clear h6 hs6 J6 L O6 HO t0 t1 HX Yh KP HL
     go_wp2_with (at_builtin;go_must (refine wpList_append_lies _ rfl (.tmp 27) (.tmp 30) 22 rfl (w.heap.size+2) 3 i0 (.int .i64 0) 1 8 Tryz.underlying22 hi hz0 hz1 hz2 rfl (by decide) _ _ _ rfl (l1.alloc _) ⟨wr.heap.size,0,none⟩ 1 1 [.int .i64 o] rfl rfl ?c1 ?c2 (by decide) ?c3 ?c4 ?c5 _ rfl ?_))
     case c1=>exact ic _ [_] _
     case c2=>intro u hu;simp at hu;subst hu;rfl
     case c3=>unfold maxLen;omega
     case c4=>omega
     case c5=>simp;omega
     intro gg cc w1 hown hgrow hat hlt1
     have nL:Below (w.heap.size+2) wr w1:=((Below.refl _ _).alloc (by omega) _).grown hgrow (by simp;omega) (fun k h=>(l1.lt k h).1)
     rw [←gN.out] at hown
     have M:=VV (pR.out.keeps ((Below.refl _ _).alloc (Nat.le_refl _) _)) (HL6.out.alloc _) Pj.out RF.out hgrow hown (by rw [World.size_alloc];exact hat)
     have s0:=T0.out.below nL (by omega)
     have s1:=T1.out.below nL (by omega)
     have hgs:=hgrow.size
     have M2:=hid (M.set (k:=w.heap.size+1) (by omega) 0 (.slice (some ⟨gg,0,none⟩) (j+1) cc))
     have U0:=hid (s0.other (k:=w.heap.size+1) (o:=0) (by omega) (.slice (some ⟨gg,0,none⟩) (j+1) cc))
     have u1:=s1.set0 (.slice (some ⟨gg,0,none⟩) (j+1) cc)
     have d0:=s1.c0
     have d1:=s1.f0
     have U1:=hid u1
     have k1:=u1.c1
     have BB1:=hid ((BB.out.trans (nL.mono (by omega))).setCell (p:=⟨w.heap.size+1,0,none⟩) (by show w.heap.size≤w.heap.size+1;omega) (.slice (some ⟨gg,0,none⟩) (j+1) cc))
     have n1:=M2.out.mV
     have hws:w.heap.size+2≤w1.heap.size:=by rw [World.size_alloc] at hgs;omega
     clear hown hgrow hat M s0 s1 u1 nL l1 k0 cO
     go_wp2_with (at_builtin;go_must (refine wpList_append_lies _ rfl (.tmp 34) (.tmp 36) 23 rfl (w.heap.size+2) 22 i1 (.slice none 0 0) 1 24 Tryz.underlying23 hi1 hz01 hz11 hz21 rfl (by decide) _ _ _ rfl (n1.alloc _) ⟨w1.heap.size,0,none⟩ 1 1 [.slice (some ⟨g6,0,none⟩) 8 cap6] rfl rfl ?d1 ?d2 (by decide) ?d3 ?d4 ?d5 _ rfl ?_))
     case d1=>exact fun m u h=>by have:=ic (w1.setCell ⟨w.heap.size+1,0,none⟩ (.slice (some ⟨gg,0,none⟩) (j+1) cc)) [.slice (some ⟨g6,0,none⟩) 8 cap6] 22 m u h;rw [World.size_setCell] at this;exact this
     case d2=>intro u hu;simp at hu;subst hu;rfl
     case d3=>unfold maxLen;omega
     case d4=>omega
     case d5=>simp;omega
     intro g2 fP w2 hown hgrow hat hlt2
     have aZ:=((Below.refl (w.heap.size+2) _).alloc (by rw [World.size_setCell];exact hws) _).grown hgrow (by rw [World.size_alloc,World.size_setCell];omega) (fun k h=>(n1.lt k h).1)
     have L2:=QQ (M2.out.alloc _) hgrow hown
     have s0:=U0.out.below aZ (by omega)
     have s1:=U1.out.below aZ (by omega)
     have L3:=hid (L2.set (k:=w.heap.size+1) (by omega) 1 (.slice (some ⟨g2,0,none⟩) (j+1) fP))
     have V0:=hid (s0.other (k:=w.heap.size+1) (o:=1) (by omega) (.slice (some ⟨g2,0,none⟩) (j+1) fP))
     have V1:=hid (s1.set1 (.slice (some ⟨g2,0,none⟩) (j+1) fP))
     have e0:=s1.c1
     have e1:=s1.f1
     have PO:=hid ((BB1.out.trans (aZ.mono (by omega))).setCell (p:=⟨w.heap.size+1,1,none⟩) (by show w.heap.size≤w.heap.size+1;omega) (.slice (some ⟨g2,0,none⟩) (j+1) fP))
     clear hown hgrow hat L2 s0 s1 aZ n1 k1 d0 d1
     go_wp2_with fail
     go_roundw
     case rel=>exact ⟨j+1,_,_,_,by omega,by go_num,PO.out,V0.out,V1.out,L3⟩
     case measure=>simp [intOf];omega
  ·obtain rfl:j=n:=by omega
   obtain ⟨ao1,jO,rfl⟩:=ag HL.out.out
   obtain ⟨ao2,fP,rfl⟩:=ag HL.out.mV
   have k0:=q1.c0
   have k1:=q1.c1
   have r0:=q0.c0
   have r1:=q0.c1
   have f0:=q0.f0
   have f1:=q0.f1
   have L:=hid ((HL.out.set (k:=w.heap.size) (by omega) 0 (.slice ao1 j jO)).set (k:=w.heap.size) (by omega) 1 (.slice ao2 j fP))
   have BB:=hid ((hb.setCell (p:=⟨w.heap.size,0,none⟩) (Nat.le_refl _) (.slice ao1 j jO)).setCell (p:=⟨w.heap.size,1,none⟩) (Nat.le_refl _) (.slice ao2 j fP))
   have t:=(q0.set0 (.slice ao1 j jO)).set1 (.slice ao2 j fP)
   have g0:=t.c0
   have g1:=t.c1
   go_wp2_with fail
   refine bodyPost_ret (v:=.agg #[.slice ao1 j jO,.slice ao2 j fP]) (by simp [results,Tryz.results34,go_sem,g0,g1]) rfl ?_
   exact ⟨_,_,V,rfl,L.out.mono (by omega),BB.out⟩
def fe (s:ByteArray):Nat:=if eY s=true then 0 else 9
def jg (s:ByteArray) (w:World) (e:Ending) (w':World):Prop:=
 Below w.heap.size w w'∧∃ v1 v2,e=.returned (.tuple #[.agg #[v1,v2],.int .i64 (fe s)]) ∧
 ((eY s=false∧v1=.slice none 0 0∧v2=.slice none 0 0)∨(eY s=true∧∃ V,kQ w' w.heap.size v1 v2 V (aT s (bt s 0)) (bt s 0)))
theorem Zq (s:ByteArray) (w:World) (hm:s.size≤maxLen):Calls Tryz.prog 13 #[.string s] w (jg s w):=by
 have F:=NC s (w.alloc (.cells #[.slice none 0 0,.slice none 0 0] 37)) hm
 have t:=bF w (.slice none 0 0) (.slice none 0 0) 37
 cases hr:eY s with
 | false=>
  have HV:Hid (fe s=9):=hid (by simp [fe,hr])
  have HR:=hid hr
  clear hr
  go_enter Tryz.func13,Tryz.ntmps13
  go_wp2_with fail
  refine F.mono ?_
  rintro e w2 ⟨hb2,⟨_,rfl⟩ | ⟨hx,_⟩⟩
  ·have t2:=t.below hb2 (by simp)
   have B2:=hid (((Below.refl w.heap.size w).alloc (Nat.le_refl _) _).trans (hb2.mono (by simp)))
   have c0:=t2.c0
   have c1:=t2.c1
   have f0:=t2.f0
   have f1:=t2.f1
   have t3:=(t2.set0 (.slice none 0 0)).set1 (.slice none 0 0)
   have g0:=t3.c0
   have g1:=t3.c1
   clear hb2 F t t2 t3
   go_wp2_with fail
   refine bodyPost_ret (v:=.tuple #[.agg #[.slice none 0 0,.slice none 0 0],.int .i64 9]) (by simp [results,Tryz.results13,go_sem,g0,g1]) rfl ?_
   unfold jg
   rw [HV.out]
   exact ⟨(B2.out.setCell (p:=⟨w.heap.size,0,none⟩) (Nat.le_refl _) _).setCell (p:=⟨w.heap.size,1,none⟩) (Nat.le_refl _) _,_,_,rfl,Or.inl ⟨HR.out,rfl,rfl⟩⟩
  ·rw [HR.out] at hx;cases hx
 | true=>
  have HR:=hid hr
  have hs:=qd hr
  have HV:Hid (fe s=0):=hid (by simp [fe,hr])
  have h8:=lI s (bt s 0)
  have hlen:=jo s (bt s 0)
  have hw:=hs.2.2
  have hn:=iw.1 hw
  rw [hlen] at hn
  clear hr hs
  unfold jg ql at *
  generalize aT s (bt s 0)=ss at *
  generalize bt s 0=n at *
  go_enter Tryz.func13,Tryz.ntmps13
  go_wp2_with fail
  refine F.mono ?_
  rintro e w2 ⟨hb2,⟨hx,_⟩ | ⟨_,g,cap,rfl,own⟩⟩
  ·rw [HR.out] at hx;cases hx
  ·obtain ⟨g',eg,hg0,hg1,hg2⟩:=dH own (by omega)
   cases eg
   have P:=JD g n cap _ ss w2 own h8 hlen (by omega) hg1 hg2
   have t2:=t.below hb2 (by simp)
   have B2:=hid (((Below.refl w.heap.size w).alloc (Nat.le_refl _) _).trans (hb2.mono (by simp)))
   have hs2:=B2.out.size
   clear hb2 F t own
   go_wp2_with fail
   refine P.mono ?_
   rintro e w3 ⟨v1,v2,V,rfl,L,hb3⟩
   obtain ⟨ao1,jO,hv1⟩:=ag L.out
   obtain ⟨ao2,fP,hv2⟩:=ag L.mV
   subst hv1 hv2
   have t3:=t2.below hb3 t2.lt
   have c0:=t3.c0
   have c1:=t3.c1
   have f0:=t3.f0
   have f1:=t3.f1
   have t4:=(t3.set0 (.slice ao1 n jO)).set1 (.slice ao2 n fP)
   have g0:=t4.c0
   have g1:=t4.c1
   have B3:=hid (B2.out.trans (hb3.mono hs2))
   have L3:=hid ((L.set (k:=w.heap.size) t2.lt 0 (.slice ao1 n jO)).set (k:=w.heap.size) t2.lt 1 (.slice ao2 n fP))
   clear hb3 P t2 t3 t4 L
   go_wp2_with fail
   refine bodyPost_ret (v:=.tuple #[.agg #[.slice ao1 n jO,.slice ao2 n fP],.int .i64 0]) (by simp [results,Tryz.results13,go_sem,g0,g1]) rfl ?_
   rw [HV.out]
   exact ⟨(B3.out.setCell (p:=⟨w.heap.size,0,none⟩) (Nat.le_refl _) _).setCell (p:=⟨w.heap.size,1,none⟩) (Nat.le_refl _) _,_,_,rfl,Or.inr ⟨HR.out,V,L3.out.mono hs2⟩⟩
theorem wo (a1 a2:Option Addr) (l c1 c2:Nat) (zs:List Int) (w:World) (h1:Ints w a1 l c1 zs) (h2:Ints w a2 l c2 zs) :
  Calls Tryz.prog 21 #[.slice a1 l c1,.slice a2 l c2] w fun e w'=>e=.returned (.bool true)∧∃ n,w'=w.drewN n:=by
 have m1:=h1.hmax
 have m3:=h1.hcap
 have m2:=h2.hmax
 have m4:=h2.hcap
 go_enter Tryz.func21,Tryz.ntmps21
 go_wp2_with fail
 go_loopw [5] (fun i wr=>∃ j:Nat,j≤l∧i=.int .i64 j∧∃ n,wr=w.drewN n) (fun i _=>l - (intOf i).toNat)
 case atStart=>exact ⟨0,Nat.zero_le _,rfl,0,rfl⟩
 case round=>
  obtain ⟨j,hj,rfl,n,rfl⟩:=hrel
  by_cases hlt:j<l
  ·obtain ⟨b1,o1,rfl,hlt1,hc1⟩:=h1.hcell (by omega)
   obtain ⟨b2,o2,rfl,hlt2,hc2⟩:=h2.hcell (by omega)
   have c:=hc1 j hlt
   have d:=hc2 j hlt
   generalize zs.getD j 0=x at *
   clear hc1 hc2
   go_wp2_with fail
   go_quiet (fail)
   go_wp2_with fail
   go_roundw
   case rel=>exact ⟨j+1,by omega,by go_num,_,rfl⟩
   case measure=>simp [intOf];omega
  ·go_wp2_with fail
   go_ret
   exact ⟨rfl,n,rfl⟩
theorem Ints.drewN {w:World} {a:Option Addr} {l c:Nat} {zs:List Int} (h:Ints w a l c zs) (n:Nat):Ints (w.drewN n) a l c zs:=h.below (below_drewN (Below.refl _ _) n)
theorem AA (a1 a2:Option Addr) (l c1 c2:Nat) (zs:List (List Int)) (w:World) (h1:Lists w a1 l c1 zs) (h2:Lists w a2 l c2 zs) :
  Calls Tryz.prog 22 #[.slice a1 l c1,.slice a2 l c2] w fun e w'=>e=.returned (.bool true)∧∃ n,w'=w.drewN n:=by
 have m1:=h1.hmax
 have m3:=h1.hcap
 have m2:=h2.hmax
 have m4:=h2.hcap
 go_enter Tryz.func22,Tryz.ntmps22
 go_wp2_with fail
 go_loopw [5] (fun i wr=>∃ j:Nat,j≤l∧i=.int .i64 j∧∃ n,wr=w.drewN n) (fun i _=>l - (intOf i).toNat)
 case atStart=>exact ⟨0,Nat.zero_le _,rfl,0,rfl⟩
 case round=>
  obtain ⟨j,hj,rfl,n,hw⟩:=hrel
  have HW:=hid hw
  by_cases hlt:j<l
  ·obtain ⟨b1,o1,rfl,hlt1,hc1⟩:=h1.hcell (by omega)
   obtain ⟨b2,o2,rfl,hlt2,hc2⟩:=h2.hcell (by omega)
   obtain ⟨r1,k1,e1,c,i1⟩:=hc1 j hlt
   obtain ⟨r2,k2,e2,d,i2⟩:=hc2 j hlt
   obtain rfl:k2=k1:=by rw [←i1.hlen,←i2.hlen]
   have c':wr.cell? ⟨b1,o1+j,none⟩=some (.slice r1 k2 e1):=by rw [hw];exact c
   have d':wr.cell? ⟨b2,o2+j,none⟩=some (.slice r2 k2 e2):=by rw [hw];exact d
   have C:=fun m=>wo r1 r2 k2 e1 e2 _ (wr.drewN m) (by rw [hw];exact (i1.drewN n).drewN m) (by rw [hw];exact (i2.drewN n).drewN m)
   clear c d
   clear hc1 hc2 i1 i2 hw
   go_wp2_with fail
   go_quiet ((go_at_call 21;exact Calls.quiet_of (C _)))
   go_wp2_with fail
   go_roundw
   case rel=>exact ⟨j+1,by omega,by go_num,_,by rw [HW.out,World.drewN_drewN]⟩
   case measure=>simp [intOf];omega
  ·go_wp2_with fail
   go_ret
   exact ⟨rfl,n,rfl⟩
theorem xh (a1 a2 b1 b2:Option Addr) (l1 c1 l2 c2 d1 d2:Nat) (os:List Int) (ls:List (List Int)) (w:World) (h1:Ints w a1 l1 c1 os) (h2:Lists w a2 l2 c2 ls) (k1:Ints w b1 l1 d1 os) (k2:Lists w b2 l2 d2 ls) :
  Calls Tryz.prog 15 #[.agg #[.slice a1 l1 c1,.slice a2 l2 c2],.agg #[.slice b1 l1 d1,.slice b2 l2 d2]] w fun e w'=>e=.returned (.bool true)∧Below w.heap.size w w':=by
 have C1:=fun W (b:Below w.heap.size w W)=>wo a1 b1 l1 c1 d1 os W (h1.below b) (k1.below b)
 have C2:=fun W (b:Below w.heap.size w W)=>AA a2 b2 l2 c2 d2 ls W (h2.below b) (k2.below b)
 have B:=((Below.refl w.heap.size w).alloc (Nat.le_refl _) (.cells #[.slice a1 l1 c1,.slice a2 l2 c2] 37)).alloc (by simp) (.cells #[.slice b1 l1 d1,.slice b2 l2 d2] 37)
 have HB:=hid B
 clear B
 go_enter Tryz.func15,Tryz.ntmps15
 go_wp2_with fail
 refine (C1 _ HB.out).mono ?_
 rintro e w1 ⟨rfl,n,rfl⟩
 go_wp2_with fail
 refine (C2 _ (below_drewN HB.out n)).mono ?_
 rintro e w2 ⟨rfl,m,rfl⟩
 clear C1 C2
 go_wp2_with fail
 go_ret
 exact ⟨rfl,below_drewN HB.out _⟩
theorem kQ.ints {w:World} {B:Nat} {v1 v2:Value} {V:Nat→Value} {ss:List St} {j:Nat} (h:kQ w B v1 v2 V ss j):∃ a c,v1=.slice a j c∧Ints w a j c (fC ss j):=by
 have hl:(fC ss j).length=j:=by simp [fC]
 rcases h.out.2 with ⟨rfl,rfl⟩ | ⟨g,cap,cur,rfl,hb,hh,hc,hm,_⟩
 ·exact ⟨none,0,rfl,hl,Nat.le_refl _,by omega,fun _=>⟨rfl,rfl⟩,fun h=>by omega⟩
 ·refine ⟨_,cap,rfl,hl,hc,by unfold maxLen at hm;omega,fun h=>by simp at h,fun _=>⟨g,0,rfl,(Array.getElem?_eq_some_iff.1 hh).1,fun i hi=>?_⟩⟩
  rw [Nat.zero_add,h.out.cellAt i (by omega)]
  simp [gZ,List.getD,List.getElem?_eq_getElem (show i<(fC ss j).length by omega)]
def gU (ss:List St) (j:Nat):List (List Int):=(List.range j).map fun i=>(aM ss i).next
theorem wy {w:World} {B n:Nat} {v:Value} {zs:List Int} (h:w.ownsRow B 3 1 v n (gZ zs)):∃ a c,v=.slice a n c∧Ints w a n c zs:=by
 have hl:zs.length=n:=by have:=h.1;simp [gZ] at this;exact this
 rcases h.2 with ⟨rfl,rfl⟩ | ⟨g,cap,cur,rfl,hb,hh,hc,hm,_⟩
 ·exact ⟨none,0,rfl,hl,Nat.le_refl _,by omega,fun _=>⟨rfl,rfl⟩,fun h=>by omega⟩
 ·refine ⟨_,cap,rfl,hl,hc,by unfold maxLen at hm;omega,fun h=>by simp at h,fun _=>⟨g,0,rfl,(Array.getElem?_eq_some_iff.1 hh).1,fun i hi=>?_⟩⟩
  rw [Nat.zero_add,h.cellAt i (by omega)]
  simp [gZ,List.getD,List.getElem?_eq_getElem (show i<zs.length by omega)]
theorem kQ.lists {w:World} {B:Nat} {v1 v2:Value} {V:Nat→Value} {ss:List St} {j:Nat} (h:kQ w B v1 v2 V ss j):∃ a c,v2=.slice a j c∧Lists w a j c (gU ss j):=by
 have hl:(gU ss j).length=j:=by simp [gU]
 rcases h.mV.2 with ⟨rfl,rfl⟩ | ⟨g,cap,cur,rfl,hb,hh,hc,hm,_⟩
 ·exact ⟨none,0,rfl,hl,Nat.le_refl _,by omega,fun _=>⟨rfl,rfl⟩,fun h=>by omega⟩
 ·refine ⟨_,cap,rfl,hl,hc,by unfold maxLen at hm;omega,fun h=>by simp at h,fun _=>⟨g,0,rfl,(Array.getElem?_eq_some_iff.1 hh).1,fun i hi=>?_⟩⟩
  obtain ⟨a,c,hv,hi2⟩:=wy (h.row i hi)
  refine ⟨a,8,c,?_,?_⟩
  ·rw [Nat.zero_add,h.mV.cellAt i (by omega)]
   simp [List.getElem?_map,List.getElem?_range hi,hv]
  ·rw [show (gU ss j).getD i []=(aM ss i).next by simp [gU,List.getD,List.getElem?_map,List.getElem?_range hi]]
   exact hi2
theorem JG {w:World} {B:Nat} {e:TypeId} {g n:Nat} {xs:List Value} (h:w.ownsRow B e 1 (.slice (some ⟨g,0,none⟩) n n) n xs):w.heap[g]?=some (.cells xs.toArray e (0,0)):=by
 rcases h.2 with ⟨e1,_⟩ | ⟨g',cap,cur,e1,hb,hh,hc,hm,hs,ht⟩
 ·simp at e1
 ·cases e1
  rw [hh]
  congr 2
  rw [←ht,List.take_of_length_le (by rw [Array.length_toList,hs];exact Nat.le_refl _)]
theorem ig {w:World} {g o:Nat} {cs:Array Value} {t:TypeId} (h:w.heap[g]?=some (.cells cs t (0,0))):w.cell? ⟨g,o,none⟩=cs[o]?:=cell_of_row w g o cs t (0,0) h
theorem nZ {w:World} {g o:Nat} {cs:Array Value} {t:TypeId} (h:w.heap[g]?=some (.cells cs t (0,0))):w.frozen? ⟨g,o,none⟩=false:=by
 simp [World.frozen?,h]
structure gJ (w:World) (g l:Nat) (zs:List Int):Prop where
 hlen:zs.length=l
 blk:w.heap[g]?=some (.cells (zs.map (Value.int .i64)++[Value.int .i64 77,Value.int .i64 77]).toArray 3 (0,0))
theorem gJ.lt {w:World} {g l:Nat} {zs:List Int} (h:gJ w g l zs):g<w.heap.size:=(Array.getElem?_eq_some_iff.1 h.blk).1
theorem gJ.c {w:World} {g l:Nat} {zs:List Int} (h:gJ w g l zs) (i:Nat) (hi:i<l):w.cell? ⟨g,i,none⟩=some (.int .i64 (zs.getD i 0)):=by
 have hl:=h.hlen
 rw [ig h.blk,List.getElem?_toArray,List.getElem?_append_left (by simp;omega)]
 simp [List.getD,List.getElem?_eq_getElem (show i<zs.length by omega)]
theorem gJ.m0 {w:World} {g l:Nat} {zs:List Int} (h:gJ w g l zs):w.cell? ⟨g,l,none⟩=some (.int .i64 77):=by
 have hl:=h.hlen
 rw [ig h.blk,List.getElem?_toArray,List.getElem?_append_right (by simp;omega)]
 simp [hl]
theorem gJ.m1 {w:World} {g l:Nat} {zs:List Int} (h:gJ w g l zs):w.cell? ⟨g,l+1,none⟩=some (.int .i64 77):=by
 have hl:=h.hlen
 rw [ig h.blk,List.getElem?_toArray,List.getElem?_append_right (by simp;omega)]
 simp [hl]
theorem gJ.fz {w:World} {g l:Nat} {zs:List Int} (h:gJ w g l zs) (o:Nat):w.frozen? ⟨g,o,none⟩=false:=nZ h.blk
theorem gJ.same {w w':World} {g l:Nat} {zs:List Int} (h:gJ w g l zs) (hb:w'.heap[g]?=w.heap[g]?):gJ w' g l zs:=⟨h.hlen,hb.trans h.blk⟩
theorem gJ.below {w w':World} {g l:Nat} {zs:List Int} (h:gJ w g l zs) (hb:Below w.heap.size w w'):gJ w' g l zs:=h.same (hb.block g h.lt)
theorem gJ.ints {w:World} {g l:Nat} {zs:List Int} (h:gJ w g l zs) (hm:l≤2097152):Ints w (some ⟨g,0,none⟩) l (l+2) zs:=
 ⟨h.hlen,by omega,by omega,fun e=>by simp at e,fun _=>⟨g,0,rfl,h.lt,fun i hi=>by rw [Nat.zero_add];exact h.c i hi⟩⟩
theorem jI {w:World} {g o:Nat} {cs:Array Value} {t:TypeId} (h:w.heap[g]?=some (.cells cs t (0,0))) (v:Value):(w.setCell ⟨g,o,none⟩ v).heap[g]?=some (.cells (cs.setIfInBounds o v) t (0,0)):=by
 simp [World.setCell,Array.getElem?_modify,h]
theorem lL (a:Option Addr) (l c:Nat) (zs:List Int) (w:World) (h:Ints w a l c zs) (Nn:l≤1048576) :
  Calls Tryz.prog 5 #[.slice a l c] w fun e w'=>e=.returned (.slice (some ⟨w.heap.size,0,none⟩) l (l+2))∧gJ w' w.heap.size l zs∧Below w.heap.size w w':=by
 have L:=h.hlen
 have hc:=h.hcap
 have hm:=h.hmax
 have HI:=hid h
 have N:=h.hnil
 obtain ⟨i0,hi,hz0,hz1,hz2⟩:=info_parts Tryz.qE
 have hsz:(Tryz.prog.info? 3).map (·.size)=some 1:=by rw [hi];simp [hz1]
 have wl:Hid ((l:Int)+2=((l+2:Nat):Int)):=hid (by omega)
 clear h
 go_enter Tryz.func5,Tryz.ntmps5
 go_wp2_with (at_make;go_must (refine wpList_make_full _ rfl (.tmp 8) (.tmp 8) 22 rfl w.heap.size 3 i0 (.int .i64 0) 1 Tryz.underlying22 hi hz0 hz1 .i64 .i64 _ _ (l+2) rfl rfl ?m0 ?m1 ?m2 ?m3 (Nat.le_refl _) ?_))
 case m0=>first | exact wl.out | simp | omega
 case m1=>first | exact wl.out | simp | omega
 case m2=>rw [hz2];omega
 case m3=>unfold maxLen;omega
 intro w1 ay grow1
 have b1:Below w.heap.size w w1:=(Below.refl _ _).grown grow1 (Nat.le_refl _) (fun k h=>by cases h)
 have hb1:=JG ay
 have hlz:(madeCells #[Value.int .i64 0] (l+2)).toList.length=l+2:=by have:=ay.1;omega
 have I1:=HI.out.below b1
 have s1:=I1.src
 generalize (madeCells #[Value.int .i64 0] (l+2)).toList=Z at *
 have HZ:=hid hlz
 have HB1:=hid b1
 have HS1:=hid hb1
 clear ay grow1 b1 hb1 hlz
 go_wp2_with (refine wpList_copy_splice rfl (.tmp 10) (.tmp 11) 22 22 rfl 3 Tryz.underlying22 hsz (some ⟨w.heap.size,0,none⟩) a (l+2) (l+2) l c rfl rfl w.heap.size 0 Z 3 HS1.out (zs.map (Value.int .i64)) ?k1 ?k2 ?k3 (qD zs) w.heap.size w HB1.out (Nat.le_refl _) ?_)
 case k1=>rw [List.length_map,L];exact (Nat.min_eq_left (by omega)).symm
 case k2=>
  intro hp
  try rw [List.length_map,L] at hp
  cases a with
  | none=>have:=(N rfl).1;omega
  | some ad=>exact ⟨ad,rfl,fun j z hz=>s1 ad rfl j (.int .i64 z) (by rw [List.getElem?_map,hz];rfl)⟩
 case k3=>rw [List.length_map,L,HZ.out];omega
 intro w2 hg2 b2
 have hcells:Hid (w2.heap[w.heap.size]?=some (.cells ((zs.map (Value.int .i64))++Z.drop l).toArray 3 (0,0))):=hid (by
  have h9:=hg2.out
  unfold splice at h9
  simp only [List.take_zero,List.nil_append,Nat.zero_add,List.length_map,L] at h9
  exact h9)
 have HDL:Hid ((Z.drop l).length=2):=hid (by rw [List.length_drop,HZ.out];omega)
 have F2:=hid (fun o=>nZ (o:=o) hcells.out)
 have C2:=hid (fun o=>ig (o:=o) hcells.out)
 have hlt2:w.heap.size<w2.heap.size:=(Array.getElem?_eq_some_iff.1 hcells.out).1
 have HB2:=hid b2
 obtain ⟨u0,hu0⟩:∃ u,w2.cell? ⟨w.heap.size,l,none⟩=some u:=⟨_,by
  rw [C2.out l]
  exact Array.getElem?_eq_getElem (by simp [L,HDL.out] <;> (have:=HZ.out;omega))⟩
 obtain ⟨u1,hu1⟩:∃ u,w2.cell? ⟨w.heap.size,l+1,none⟩=some u:=⟨_,by
  rw [C2.out (l+1)]
  exact Array.getElem?_eq_getElem (by simp [L,HDL.out] <;> (have:=HZ.out;omega))⟩
 have f0:=F2.out l
 have f1:=F2.out (l+1)
 have d0:(0:Int)≤(l:Int):=by omega
 have d1:(l:Int)<(l:Int)+2:=by omega
 have d2:(l:Int)+1<(l:Int)+2:=by omega
 have d3:(0:Int)≤(l:Int)+1:=by omega
 have amE:(w2.setCell ⟨w.heap.size,l,none⟩ (.int .i64 77)).cell? ⟨w.heap.size,l+1,none⟩=some u1:=by
  rw [World.cell?_setCell_other _ _ _ _ (by simp)];exact hu1
 have SP:Hid (gJ ((w2.setCell ⟨w.heap.size,l,none⟩ (.int .i64 77)).setCell ⟨w.heap.size,l+1,none⟩ (.int .i64 77)) w.heap.size l zs):=hid ⟨L,by
  obtain ⟨x,y,hxy⟩:∃ x y,Z.drop l=[x,y]:=by
   have h2:=HDL.out
   match hd:Z.drop l,h2 with
   | [x,y],_=>exact ⟨x,y,rfl⟩
  have h9:=hcells.out
  rw [hxy] at h9
  rw [jI (jI h9 _) _]
  congr 2
  have e1:(zs.map (Value.int .i64)++[x,y]).set l (.int .i64 77)=zs.map (Value.int .i64)++[Value.int .i64 77,y]:=by
   rw [List.set_append_right _ _ (by simp;omega)]
   simp [L]
  have e2:(zs.map (Value.int .i64)++[Value.int .i64 77,y]).set (l+1) (.int .i64 77)=zs.map (Value.int .i64)++[Value.int .i64 77,Value.int .i64 77]:=by
   rw [List.set_append_right _ _ (by simp;omega)]
   simp [L]
  simp only [List.setIfInBounds_toArray]
  rw [e1,e2]⟩
 have HB3:=hid ((HB2.out.setCell (p:=⟨w.heap.size,l,none⟩) (Nat.le_refl _) (.int .i64 77)).setCell (p:=⟨w.heap.size,l+1,none⟩) (Nat.le_refl _) (.int .i64 77))
 clear hg2 b2 s1 I1
 go_wp2_with fail
 go_ret
 exact ⟨rfl,SP.out,HB3.out⟩
theorem jc (g:Nat) (a:Option Addr) (l c:Nat) (zs:List Int) (w:World) (hS:gJ w g l zs) (h:Ints w a l c zs) (Nn:l≤1048576) :
  Calls Tryz.prog 8 #[.slice (some ⟨g,0,none⟩) l (l+2),.slice a l c] w fun e w'=>e=.returned (.bool true)∧Below w.heap.size w w':=by
 have S:=hid (wo (some ⟨g,0,none⟩) a l (l+2) c zs w (hS.ints (by omega)) h)
 have hc:=h.hcap
 have hm:=h.hmax
 have dW:=hid hS.m0
 have KT:=hid hS.m1
 have hlt:=hS.lt
 clear h hS
 go_enter Tryz.func8,Tryz.ntmps8
 go_wp2_with fail
 refine S.out.mono ?_
 rintro e w1 ⟨rfl,nq,rfl⟩
 have b1:=below_drewN (Below.refl w.heap.size w) nq
 generalize w.drewN nq=w1 at *
 have m0:=(b1.cell (p:=⟨g,l,none⟩) hlt).trans dW.out
 have m1:=(b1.cell (p:=⟨g,l+1,none⟩) hlt).trans KT.out
 have HB1:=hid b1
 have d0:(0:Int)≤(l:Int):=by omega
 have d1:(l:Int)<(l:Int)+2:=by omega
 have d2:(l:Int)+1<(l:Int)+2:=by omega
 have d3:(0:Int)≤(l:Int)+1:=by omega
 have d4:(0:Int)≤(l:Int)+2:=by omega
 clear b1 S
 go_wp2_with fail
 go_ret
 exact ⟨rfl,HB1.out⟩
end Go.Proofs.YtjagijohfkffiabGreat
