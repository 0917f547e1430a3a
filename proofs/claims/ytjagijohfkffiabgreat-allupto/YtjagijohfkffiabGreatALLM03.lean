import Derived.Test.YtjagijohfkffiabGreatALLM02
import Derived.Outline
import Derived.Laws.IdiomStrings
import Derived.Laws.BitsLemmas
import Derived.Deep.AppendLies
set_option maxHeartbeats 16000000
set_option maxRecDepth 100000
namespace Go.Proofs.YtjagijohfkffiabGreat
open Go.RowKit
set_option linter.unusedVariables false
structure Lists (w:World) (ao:Option Addr) (len cap:Nat) (zss:List (List Int)):Prop where
 hlen:zss.length=len
 hcap:len≤cap
 hmax:cap≤9223372036854775807
 hnil:ao=none→len=0∧cap=0
 hcell:0<len→∃ b off,ao=some ⟨b,off,none⟩∧b<w.heap.size∧∀ i,i<len→∃ a l c,w.cell? ⟨b,off+i,none⟩=some (.slice a l c)∧Ints w a l c (zss.getD i [])
theorem Lists.below {w w':World} {ao:Option Addr} {len cap:Nat} {zss:List (List Int)} (h:Lists w ao len cap zss) (hb:Below w.heap.size w w'):Lists w' ao len cap zss:=by
 refine ⟨h.hlen,h.hcap,h.hmax,h.hnil,fun h0=>?_⟩
 obtain ⟨b,off,e,hlt,hc⟩:=h.hcell h0
 refine ⟨b,off,e,Nat.lt_of_lt_of_le hlt hb.size,fun i hi=>?_⟩
 obtain ⟨a,l,c,h1,h2⟩:=hc i hi
 exact ⟨a,l,c,by rw [hb.cell (p:=⟨b,off+i,none⟩) hlt];exact h1,h2.below hb⟩
theorem Tryz.JW:(Tryz.prog.info? 119).map (fun i=>(i.zero,i.size,i.bytes))=some (some (.agg #[.int .i64 0,.int .i64 0,.int .i64 0,.int .i64 0,.int .i64 0,.int .i64 0,.int .i64 0,.int .i64 0,.int .i64 0]),9,72):=by kernel_rfl
structure Jb (w:World) (b:Nat) (f:Nat→Int):Prop where
 cell:∀ i,i<9→w.cell? ⟨b,i,none⟩=some (.int .i64 (f i))
 free:∀ i,i<9→w.frozen? ⟨b,i,none⟩=false
theorem Jb.set {w:World} {b:Nat} {f:Nat→Int} (h:Jb w b f) {k:Nat} (hk:k<9) (z:Int):Jb (w.setCell ⟨b,k,none⟩ (.int .i64 z)) b (fun i=>if i=k then z else f i):=by
 refine ⟨fun i hi=>?_,fun i hi=>by rw [World.frozen?_setCell];exact h.free i hi⟩
 by_cases e:i=k
 ·subst e
  simp only [if_true]
  exact World.cell?_setCell_same _ _ _ (h.cell i hi)
 ·simp only [if_neg e]
  rw [World.cell?_setCell_other _ _ _ _ (fun h=>e (by have:=congrArg Addr.off h;simp at this;omega))]
  exact h.cell i hi
theorem JJ (w:World) (a0 a1 a2 a3 a4 a5 a6 a7 a8:Int) (t:TypeId):Jb (w.alloc (.cells #[.int .i64 a0,.int .i64 a1,.int .i64 a2,.int .i64 a3,.int .i64 a4,.int .i64 a5,.int .i64 a6,.int .i64 a7,.int .i64 a8] t)) w.heap.size (fun i=>[a0,a1,a2,a3,a4,a5,a6,a7,a8].getD i 0):=by
 refine ⟨fun i hi=>?_,fun i hi=>by simp⟩
 rw [World.cell?_alloc_new]
 match i,hi with
 | 0,_ | 1,_ | 2,_ | 3,_ | 4,_ | 5,_ | 6,_ | 7,_ | 8,_=>rfl
theorem ic (w:World) (xs:List Value) (t:TypeId):∀ j u,xs[j]?=some u→(w.alloc (.cells xs.toArray t)).cell? ((⟨w.heap.size,0,none⟩:Addr).add j)=some u:=by
 intro j u hj
 rw [qN,Nat.zero_add,World.cell?_alloc_new]
 simpa using hj
def yu (os:List Int) (ls:List (List Int)) (w:World) (e:Ending) (w':World):Prop:=
 Below w.heap.size w w' ∧
 ((dC os ls=false∧e=.returned (.tuple #[.slice none 0 0,.bool false])) ∨
 (dC os ls=true∧∃ g cap,e=.returned (.tuple #[.slice (some ⟨g,0,none⟩) os.length cap,.bool true]) ∧
  w'.ownsRow w.heap.size 119 9 (.slice (some ⟨g,0,none⟩) os.length cap) os.length (dY (cK os ls))))
theorem mr {os:List Int} {ls:List (List Int)} (h:dC os ls=true):ls.length=os.length∧(∀ i,i<ls.length→(ls.getD i []).length=8)∧kN (cK os ls)=true:=by
 unfold dC at h
 simp only [Bool.and_eq_true,decide_eq_true_eq,List.all_eq_true] at h
 refine ⟨h.1.1,fun i hi=>?_,h.2⟩
 have:=h.1.2 ls[i] (List.getElem_mem hi)
 simpa [List.getD,List.getElem?_eq_getElem hi] using this
theorem ui {os:List Int} {ls:List (List Int)} (h1:ls.length=os.length) (h2:∀ i,i<ls.length→(ls.getD i []).length=8):dC os ls=kN (cK os ls)∧iM (cK os ls):=by
 have h3:ls.all (fun l=>decide (l.length=8))=true:=by
  rw [List.all_eq_true]
  intro x hx
  obtain ⟨i,hi,rfl⟩:=List.getElem_of_mem hx
  have:=h2 i hi
  simpa [List.getD,List.getElem?_eq_getElem hi] using this
 exact ⟨by unfold dC;rw [h3];simp [h1],UF h3⟩
theorem qH {os:List Int} {ls:List (List Int)} (h:dC os ls=true→False):dC os ls=false:=by
 cases e:dC os ls with
 | false=>rfl
 | true=>exact (h e).elim
section
variable (a1 a2:Option Addr) (l1 c1 l2 c2:Nat) (os:List Int) (ls:List (List Int)) (w:World)
theorem YR (h1:Ints w a1 l1 c1 os) (h2:Lists w a2 l2 c2 ls) (h:8<l1):Calls Tryz.prog 105 #[.agg #[.slice a1 l1 c1,.slice a2 l2 c2]] w (yu os ls w):=by
 have E:Hid (dC os ls=false):=hid (qH fun e=>by
  have e2:=mr e
  have e3:=(iw.1 e2.2.2).2.1
  rw [lD e2.1,h1.hlen] at e3
  omega)
 have m1:=h1.hmax
 have m3:=h1.hcap
 go_enter Tryz.func105,Tryz.ntmps105
 go_wp2_with fail
 go_ret2
 unfold yu
 exact ⟨(Below.refl _ _).alloc (Nat.le_refl _) _,Or.inl ⟨E.out,rfl⟩⟩
theorem PW (h1:Ints w a1 l1 c1 os) (h2:Lists w a2 l2 c2 ls) (h:¬ 8<l1) (hd:¬ l2=l1):Calls Tryz.prog 105 #[.agg #[.slice a1 l1 c1,.slice a2 l2 c2]] w (yu os ls w):=by
 have E:Hid (dC os ls=false):=hid (qH fun e=>by
  have e2:=(mr e).1
  rw [h1.hlen,h2.hlen] at e2
  exact hd e2)
 have k:((l2:Int)!=(l1:Int))=true:=bne_iff_ne.2 (by omega)
 have m1:=h1.hmax
 have m3:=h1.hcap
 have m2:=h2.hmax
 have m4:=h2.hcap
 go_enter Tryz.func105,Tryz.ntmps105
 go_wp2_with fail
 go_ret2
 unfold yu
 exact ⟨(Below.refl _ _).alloc (Nat.le_refl _) _,Or.inl ⟨E.out,rfl⟩⟩
theorem U2 (h1:Ints w a1 l1 c1 os) (h2:Lists w a2 l1 c2 ls) (h:¬ 8<l1):Calls Tryz.prog 105 #[.agg #[.slice a1 l1 c1,.slice a2 l1 c2]] w (yu os ls w):=by
 have m1:=h1.hcap
 have m2:=h2.hcap
 have L1:=h1.hlen
 have L2:=h2.hlen
 have ha1:=h1.hmax
 have ha2:=h2.hmax
 obtain ⟨i0,hi,hz0,hz1,hz2⟩:=info_parts Tryz.JW
 go_enter Tryz.func105,Tryz.ntmps105
 go_wp2_with fail
 go_loopw [26,5] (fun i s wr=>∃ (j:Nat) (ao:Option Addr) (cap:Nat),j≤l1∧i=.int .i64 j∧s=.slice ao j cap∧Hid (∀ m,m<j→(ls.getD m []).length=8)∧Below w.heap.size w wr ∧
   wr.cell? ⟨w.heap.size,0,none⟩=some (.slice a1 l1 c1) ∧
   Hid (wr.ownsRow (w.heap.size+1) 119 9 (.slice ao j cap) j (dY ((cK os ls).take j)))) (fun i _ _=>l1 - (intOf i).toNat)
 case atStart=>exact ⟨0,none,0,Nat.zero_le _,rfl,rfl,hid (fun m hm=>by omega),(Below.refl _ _).alloc (Nat.le_refl _) _,by simp,hid (World.ownsRow_nil _ _ _ _)⟩
 case round=>
  obtain ⟨j,ao,cap,hj,rfl,rfl,HI,hb,q0,HO⟩:=hrel
  by_cases hlt:j<l1
  ·obtain ⟨b2,o2,rfl,hlt2,hc2⟩:=h2.hcell (by omega)
   obtain ⟨ra,rl,rc,cr,hr⟩:=hc2 j hlt
   have Xx:=(hb.cell (p:=⟨b2,o2+j,none⟩) hlt2).trans cr
   have rl':=hr.hlen
   have nE:=hr.hcap
   have Zm:=hr.hmax
   by_cases h8:rl=8
   ·subst h8
    obtain ⟨b3,o3,rfl,hlt3,hc3⟩:=hr.hcell (by omega)
    obtain ⟨b1,o1,rfl,hlt1,hc1⟩:=h1.hcell (by omega)
    have cO:=(hb.cell (p:=⟨b1,o1+j,none⟩) hlt1).trans (hc1 j hlt)
    have HR:Hid (∀ m,m<8→wr.cell? ⟨b3,o3+m,none⟩=some (.int .i64 ((ls.getD j []).getD m 0))):=hid (fun m hm=>(hb.cell (p:=⟨b3,o3+m,none⟩) hlt3).trans (hc3 m hm))
    have agJ:b3<wr.heap.size:=Nat.lt_of_lt_of_le hlt3 hb.size
    have HZ:Hid ((cK os ls).take (j+1)=(cK os ls).take j++[⟨os.getD j 0,ls.getD j []⟩]):=hid (by
     have hz:=lD (os:=os) (ls:=ls) (by omega)
     rw [List.take_succ_eq_append_getElem (by omega),←EU (os:=os) (ls:=ls) (by omega) (by omega)]
     simp [aM,List.getD,List.getElem?_eq_getElem (show j<(cK os ls).length by omega)])
    have HL8:=hid rl'
    generalize hrow:ls.getD j []=row at *
    have HRW:=hid hrow
    clear hrow
    generalize os.getD j 0=o at *
    clear hc1 hc2 hc3 cr hr
    go_wp2_with fail
    go_loopw [42] (fun i wq=>∃ (k:Nat) (f:Nat→Int),k≤8∧i=.int .i64 k∧Below wr.heap.size wr wq∧Jb wq wr.heap.size f∧Hid (f 0=o)∧Hid (∀ m,m<k→f (m+1)=row.getD m 0)) (fun i _=>8 - (intOf i).toNat)
    case atStart=>exact ⟨0,_,Nat.zero_le _,rfl,(Below.refl _ _).alloc (Nat.le_refl _) _,JJ wr o 0 0 0 0 0 0 0 0 _,hid rfl,hid (fun m hm=>by omega)⟩
    case round=>
     obtain ⟨k,f,hk,rfl,hbq,hn,HF,HI2⟩:=hrel
     by_cases hlk:k<8
     ·have c:=(hbq.cell (p:=⟨b3,o3+k,none⟩) agJ).trans (HR.out k hlk)
      have e1:=hn.cell (1+k) (by omega)
      have e2:=hn.free (1+k) (by omega)
      have HN:=hid (hn.set (k:=1+k) (by omega) (row.getD k 0))
      clear hn
      generalize hx:row.getD k 0=x at *
      have HX:=hid hx
      clear hx
      go_wp2_with fail
      go_roundw
      case rel=>
       refine ⟨k+1,_,by omega,by go_num,hbq.setCell (p:=⟨_,1+k,none⟩) (Nat.le_refl _) _,HN.out,hid ?_,hid (fun m hm=>?_)⟩
       ·rw [if_neg (by omega)];exact HF.out
       ·by_cases e:m<k
        ·rw [if_neg (by omega)];exact HI2.out m e
        ·rw [if_pos (by omega),show m=k by omega];exact HX.out.symm
      case measure=>simp [intOf];omega
     ·have JY:k=8:=by omega
      subst JY
      have e0:=hn.cell 0 (by decide)
      have e1:=hn.cell 1 (by decide)
      have e2:=hn.cell 2 (by decide)
      have e3:=hn.cell 3 (by decide)
      have e4:=hn.cell 4 (by decide)
      have e5:=hn.cell 5 (by decide)
      have e6:=hn.cell 6 (by decide)
      have e7:=hn.cell 7 (by decide)
      have e8:=hn.cell 8 (by decide)
      have HS:Hid (fH ⟨o,row⟩=[.int .i64 (f 0),.int .i64 (f 1),.int .i64 (f 2),.int .i64 (f 3),.int .i64 (f 4),.int .i64 (f 5),.int .i64 (f 6),.int .i64 (f 7),.int .i64 (f 8)]):=hid (by
       obtain ⟨x0,x1,x2,x3,x4,x5,x6,x7,rfl⟩:=ym HL8.out
       have:=HI2.out
       rw [HF.out,this 0 (by decide),this 1 (by decide),this 2 (by decide),this 3 (by decide),this 4 (by decide),this 5 (by decide),this 6 (by decide),this 7 (by decide)]
       rfl)
      have own:=ae HO.out hbq
      have hsz:=hbq.size
      have hsz2:=hb.size
      have Iw:w.heap.size<_:=World.block_lt_of_cell? _ ⟨w.heap.size,0,none⟩ q0
      have q1:=(hbq.cell (p:=⟨w.heap.size,0,none⟩) (World.block_lt_of_cell? _ ⟨w.heap.size,0,none⟩ q0)).trans q0
      have DZ:=hid hbq
      clear hn hbq HF HI2 HO
      generalize f 0=f0 at *
      generalize f 1=f1 at *
      generalize f 2=f2 at *
      generalize f 3=f3 at *
      generalize f 4=f4 at *
      generalize f 5=f5 at *
      generalize f 6=f6 at *
      generalize f 7=f7 at *
      generalize f 8=f8 at *
      go_wp2_with (at_builtin;go_must (refine wpList_append_own _ rfl (.tmp 52) (.tmp 54) 65 rfl (w.heap.size+1) 119 i0 (.agg #[.int .i64 0,.int .i64 0,.int .i64 0,.int .i64 0,.int .i64 0,.int .i64 0,.int .i64 0,.int .i64 0,.int .i64 0]) 9 72 Tryz.underlying65 hi hz0 hz1 hz2 rfl (by decide) _ _ _ rfl (own.alloc _) ⟨wr.heap.size,0,none⟩ 1 1 [.int .i64 f0,.int .i64 f1,.int .i64 f2,.int .i64 f3,.int .i64 f4,.int .i64 f5,.int .i64 f6,.int .i64 f7,.int .i64 f8] rfl rfl ?c1 ?c2 ?c3 ?c4 ?c5 ?_))
      case c1=>exact ic _ _ _
      case c2=>intro u hu;simp at hu;rcases hu with rfl | rfl | rfl | rfl | rfl | rfl | rfl | rfl | rfl <;> rfl
      case c3=>unfold maxLen;omega
      case c4=>omega
      case c5=>simp;omega
      intro v' w1 hown hgrow _
      have hbel:Below (w.heap.size+1) wr w1:=((Below.refl _ _).alloc (by omega) _).grown hgrow (by simp;omega) (fun k h=>(own.lt k h).1)
      rw [←HS.out,←rE,←HZ.out] at hown
      obtain ⟨ao',cap',hv⟩:∃ ao' cap',v'=.slice ao' (j+1) cap':=by
       rcases hown.2 with ⟨h,h0⟩ | ⟨g,cap',_,h,_⟩
       ·omega
       ·exact ⟨_,cap',h⟩
      subst hv
      have B1:=hid ((hb.trans (DZ.out.mono hsz2)).trans (hbel.mono (Nat.le_succ _)))
      have q2:=(hbel.cell (p:=⟨w.heap.size,0,none⟩) (Nat.lt_succ_self _)).trans q1
      have O1:=hid hown
      have Q2:=hid q2
      clear hown hgrow hbel own e0 e1 e2 e3 e4 e5 e6 e7 e8 cO Xx q0 q1 q2
      go_wp2_with fail
      go_roundw
      case rel=>
       refine ⟨j+1,ao',cap',by omega,by go_num,rfl,hid (fun m hm=>?_),B1.out,Q2.out,O1⟩
       by_cases e:m<j
       ·exact HI.out m e
       ·rw [show m=j by omega,HRW.out];exact HL8.out
      case measure=>simp [intOf];omega
   ·have E:Hid (dC os ls=false):=hid (qH fun e=>by
     have e2:=(mr e).2.1 j (by omega)
     rw [rl'] at e2
     exact h8 e2)
    have k8:((rl:Int)!=8)=true:=bne_iff_ne.2 (by omega)
    clear HO q0
    go_wp2_with fail
    go_ret2
    unfold yu
    exact ⟨hb,Or.inl ⟨E.out,rfl⟩⟩
  ·obtain rfl:j=l1:=by omega
   have hf:=ui (os:=os) (ls:=ls) (by omega) (fun i hi=>HI.out i (by omega))
   have hz:=lD (os:=os) (ls:=ls) (by omega)
   have O:=HO.out
   rw [List.take_of_length_le (by omega)] at O
   have HF:=hid hf.1
   have H8:=hf.2
   clear hf HI q0 HO
   by_cases hpos:1≤j
   ·obtain ⟨g,rfl,hg0,hg1,hg2⟩:=dH O (by omega)
    have F:=fun W (hW:W.ownsRow (w.heap.size+1) 119 9 (.slice (some ⟨g,0,none⟩) j cap) j (dY (cK os ls))) (hg:g<W.heap.size)=>Qy g j cap (w.heap.size+1) (cK os ls) W hW H8 (by omega) hpos (by omega) hg hg2
    have HO:=hid O
    clear O
    cases ev:kN (cK os ls) with
    | true=>
     have HV:=hid ev
     clear ev
     go_wp2_with fail
     refine (F _ HO.out hg1).mono ?_
     rintro e w2 ⟨rfl,hb2⟩
     rw [HV.out]
     have B2:=hid (hb.trans (hb2.mono hb.size))
     have O2:=hid (ae HO.out hb2)
     clear hb2 F
     go_wp2_with fail
     go_ret2
     unfold yu
     rw [L1]
     exact ⟨B2.out,Or.inr ⟨by rw [HF.out];exact HV.out,g,cap,rfl,aY O2.out (Nat.le_succ _)⟩⟩
    | false=>
     have HV:=hid ev
     clear ev
     go_wp2_with fail
     refine (F _ HO.out hg1).mono ?_
     rintro e w2 ⟨rfl,hb2⟩
     rw [HV.out]
     have B2:=hid (hb.trans (hb2.mono hb.size))
     clear hb2 F
     go_wp2_with fail
     go_ret2
     unfold yu
     exact ⟨B2.out,Or.inl ⟨by rw [HF.out];exact HV.out,rfl⟩⟩
   ·obtain rfl:j=0:=by omega
    have F:=fun W=>UL ao 0 cap (cK os ls) W (by omega) (Or.inl (by decide)) (by decide)
    have HV:Hid (kN (cK os ls)=false):=hid (by
     cases e:kN (cK os ls) with
     | false=>rfl
     | true=>rw [iw] at e;omega)
    clear O
    go_wp2_with fail
    refine (F _).mono ?_
    rintro e w2 ⟨rfl,hb2⟩
    rw [HV.out]
    have B2:=hid (hb.trans (hb2.mono hb.size))
    clear hb2 F
    go_wp2_with fail
    go_ret2
    unfold yu
    exact ⟨B2.out,Or.inl ⟨by rw [HF.out];exact HV.out,rfl⟩⟩
theorem VU (h1:Ints w a1 l1 c1 os) (h2:Lists w a2 l2 c2 ls):Calls Tryz.prog 105 #[.agg #[.slice a1 l1 c1,.slice a2 l2 c2]] w (yu os ls w):=by
 by_cases h:8<l1
 ·exact YR a1 a2 l1 c1 l2 c2 os ls w h1 h2 h
 by_cases hd:l2=l1
 ·subst hd;exact U2 a1 a2 l2 c1 c2 os ls w h1 h2 h
 ·exact PW a1 a2 l1 c1 l2 c2 os ls w h1 h2 h hd
end
theorem Tryz.infoByte:(Tryz.prog.info? 5).map (fun i=>(i.zero,i.size,i.bytes))=some (some (.int .u8 0),1,1):=by kernel_rfl
def mZ (l:List UInt8):List Value:=l.map fun b=>Value.int .u8 (b.toNat:Int)
theorem Dx (l:List UInt8) (b:UInt8):mZ (l++[b])=mZ l++[.int .u8 (b.toNat:Int)]:=by simp [mZ]
theorem VM (w:World) (base:Nat) (e:TypeId) (v:Value) (hb:base≤w.heap.size):(w.alloc (.cells #[v] e)).ownsRow base e 1 (.slice (some ⟨w.heap.size,0,none⟩) 1 1) 1 [v]:=
 ⟨rfl,Or.inr ⟨w.heap.size,1,#[v],rfl,hb,heap_alloc_last w _,Nat.le_refl _,by unfold maxLen;omega,rfl,rfl⟩⟩
theorem cell_one_new (w:World) (a:Value) (t:TypeId):∀ j u,[a][j]?=some u→(w.alloc (.cells #[a] t)).cell? ((⟨w.heap.size,0,none⟩:Addr).add j)=some u:=ic w [a] t
theorem wrap_u8 {x:Int} (h0:0≤x) (h1:x<256):IntKind.u8.wrap x=x:=by
 rw [IntKind.wrap_u8];omega
def dL (ss:List St) (j:Nat):List UInt8:=uq (ss.length:Int)::(ss.take j).flatMap nz
theorem PZ {s:St} (h:s.next.length=8):(nz s).length=9:=by simp [nz,h]
theorem yo {ss:List St} (h:iM ss) {j:Nat} (hj:j≤ss.length):(dL ss j).length=1+j*9:=by
 unfold dL
 rw [List.length_cons]
 have:∀ (l:List St),iM l→(l.flatMap nz).length=l.length*9:=by
  intro l hl
  induction l with
  | nil=>rfl
  | cons s l ih=>
   rw [List.flatMap_cons,List.length_append,ih (fun x hx=>hl x (by simp [hx])),PZ (hl s (by simp)),List.length_cons]
   omega
 rw [this _ (fun s hs=>h s (List.mem_of_mem_take hs)),List.length_take]
 omega
theorem Cf {ss:List St} {j:Nat} (hj:j<ss.length):dL ss (j+1)=dL ss j++nz (aM ss j):=by
 unfold dL
 rw [List.take_succ_eq_append_getElem hj,List.flatMap_append]
 simp [aM,List.getD,List.getElem?_eq_getElem hj]
theorem Du (ss:List St):dL ss ss.length=bytesOf ss:=by unfold dL bytesOf;rw [List.take_length]
def fK (s:St) (k:Nat):List UInt8:=uq s.out::(s.next.take k).map uq
theorem Dk {s:St} {k:Nat} (hk:k<s.next.length):fK s (k+1)=fK s k++[uq (s.next.getD k 0)]:=by
 unfold fK
 rw [List.take_succ_eq_append_getElem hk,List.map_append,←List.cons_append]
 simp [List.getD,List.getElem?_eq_getElem hk]
theorem Ff {s:St}:fK s s.next.length=nz s:=by unfold fK nz;rw [List.take_length]
theorem Sk {s:St} {k:Nat} (hk:k≤s.next.length):(fK s k).length=1+k:=by simp [fK];omega
theorem Bh {n i:Nat} {s:St} (h:nJ n i s=true):0≤s.out∧s.out≤2∧∀ k,k<s.next.length→0≤s.next.getD k 0∧s.next.getD k 0<n:=by
 unfold nJ sU at h
 simp only [Bool.and_eq_true,Bool.or_eq_true,decide_eq_true_eq,List.all_eq_true] at h
 refine ⟨by omega,by omega,fun k hk=>?_⟩
 have:=jJ.1 (h.2 s.next[k] (List.getElem_mem hk))
 simp [List.getD,List.getElem?_eq_getElem hk]
 exact ⟨this.1,this.2.1⟩
theorem XJ (g n cap B:Nat) (ss:List St) (w:World) (hr:w.ownsRow B 119 9 (.slice (some ⟨g,0,none⟩) n cap) n (dY ss)) (h8:iM ss) (hl:ss.length=n) (hw:kN ss=true) (hg:g<w.heap.size) (hcap:n≤cap) :
  Calls Tryz.prog 106 #[.slice (some ⟨g,0,none⟩) n cap] w fun e w'=>e=.returned (.string ⟨(bytesOf ss).toArray⟩)∧Below w.heap.size w w':=by
 obtain ⟨hn1,AR,hall⟩:=iw.1 hw
 rw [hl] at hn1 AR hall
 have HR:=hid hr
 clear hr
 obtain ⟨i0,hi,hz0,hz1,hz2⟩:=info_parts Tryz.infoByte
 have wr0:IntKind.u8.wrap (n:Int)=n:=wrap_u8 (by omega) (by omega)
 have Yl:Hid ([Value.int .u8 (n:Int)]=mZ (dL ss 0)):=hid (by
  simp [dL,mZ]
  rw [hl,xI (by omega) (by omega)])
 go_enter Tryz.func106,Tryz.ntmps106
 go_wp2_with fail
 go_loopw [14,3] (fun i s wr=>∃ (j:Nat),j≤n∧i=.int .i64 j∧Below w.heap.size w wr∧Hid (wr.ownsRow w.heap.size 5 1 s (1+j*9) (mZ (dL ss j)))) (fun i _ _=>n - (intOf i).toNat)
 case atStart=>exact ⟨0,Nat.zero_le _,rfl,(Below.refl _ _).alloc (Nat.le_refl _) _,hid (by rw [←Yl.out];exact VM w w.heap.size 5 _ (Nat.le_refl _))⟩
 case round=>
  obtain ⟨j,hj,rfl,hb,HO⟩:=hrel
  by_cases hlt:j<n
  ·have S:=tZ HR.out h8 hl hlt
   have pG:=oo h8 (i:=j) (by omega)
   obtain ⟨a0,a1,a2,a3,a4,a5,a6,a7,ea,HX⟩:=vW (aM ss j).out pG
   rw [show (⟨(aM ss j).out,(aM ss j).next⟩:St)=aM ss j from rfl] at ea
   have ec:fH (aM ss j)=[.int .i64 (aM ss j).out,.int .i64 a0,.int .i64 a1,.int .i64 a2,.int .i64 a3,.int .i64 a4,.int .i64 a5,.int .i64 a6,.int .i64 a7]:=by
    have:=congrArg Array.toList ea
    simpa [uS] using this
   rw [ec] at S
   have hsm:=Bh (hall j hlt)
   have lh:=hid (yo h8 (j:=j) (by omega))
   have DJ:=hid (Cf (ss:=ss) (j:=j) (by omega))
   have HP0:Hid (mZ (dL ss j)++[.int .u8 (aM ss j).out]=mZ (dL ss j++fK (aM ss j) 0)):=hid (by
    rw [show fK (aM ss j) 0=[uq (aM ss j).out] by simp [fK],Dx,xI hsm.1 (by omega)])
   have wU:=hid pG
   have Ru:=hid hsm.2.2
   have s1:=hsm.1
   have s2:=hsm.2.1
   generalize hst:aM ss j=st at *
   generalize st.out=o at *
   have c0:=(hb.cell (p:=⟨g,j*9,none⟩) hg).trans (S 0 (by decide))
   have c1:=(hb.cell (p:=⟨g,j*9+1,none⟩) hg).trans (S 1 (by decide))
   have c2:=(hb.cell (p:=⟨g,j*9+2,none⟩) hg).trans (S 2 (by decide))
   have c3:=(hb.cell (p:=⟨g,j*9+3,none⟩) hg).trans (S 3 (by decide))
   have c4:=(hb.cell (p:=⟨g,j*9+4,none⟩) hg).trans (S 4 (by decide))
   have c5:=(hb.cell (p:=⟨g,j*9+5,none⟩) hg).trans (S 5 (by decide))
   have c6:=(hb.cell (p:=⟨g,j*9+6,none⟩) hg).trans (S 6 (by decide))
   have c7:=(hb.cell (p:=⟨g,j*9+7,none⟩) hg).trans (S 7 (by decide))
   have c8:=(hb.cell (p:=⟨g,j*9+8,none⟩) hg).trans (S 8 (by decide))
   simp only [List.getElem?_cons_succ,List.getElem?_cons_zero] at c0 c1 c2 c3 c4 c5 c6 c7 c8
   clear S ea ec pG hsm hst
   have wro:IntKind.u8.wrap o=o:=wrap_u8 s1 (by omega)
   have own:=HO.out
   have hsz:=hb.size
   go_wp2_with (at_builtin;go_must (refine wpList_append_own _ rfl (.tmp 18) (.tmp 22) 188 rfl w.heap.size 5 i0 (.int .u8 0) 1 1 Tryz.underlying188 hi hz0 hz1 hz2 rfl (by decide) _ _ _ rfl ((own.alloc _).alloc _) ⟨wr.heap.size+1,0,none⟩ 1 1 [.int .u8 o] rfl rfl ?c1 ?c2 ?c3 ?c4 ?c5 ?_))
   case c1=>have:=cell_one_new (wr.alloc (.cells #[.int .i64 o,.int .i64 a0,.int .i64 a1,.int .i64 a2,.int .i64 a3,.int .i64 a4,.int .i64 a5,.int .i64 a6,.int .i64 a7] 119)) (.int .u8 o) 5;simpa using this
   case c2=>intro u hu;simp at hu;subst hu;rfl
   case c3=>unfold maxLen;omega
   case c4=>omega
   case c5=>simp;omega
   intro v1 w1 hown hgrow _
   have nb:∀ i v,((wr.alloc (.cells #[.int .i64 o,.int .i64 a0,.int .i64 a1,.int .i64 a2,.int .i64 a3,.int .i64 a4,.int .i64 a5,.int .i64 a6,.int .i64 a7] 119)).alloc (.cells #[.int .u8 o] 5)).cell? ⟨wr.heap.size,i,none⟩=some v→w1.cell? ⟨wr.heap.size,i,none⟩=some v:=fun i v h=>hgrow.cell h (fun e=>by
    have:=(own.lt _ e.symm).2
    exact absurd this (Nat.lt_irrefl _))
   have k1:=nb 1 (.int .i64 a0) (by simp)
   have k2:=nb 2 (.int .i64 a1) (by simp)
   have k3:=nb 3 (.int .i64 a2) (by simp)
   have k4:=nb 4 (.int .i64 a3) (by simp)
   have k5:=nb 5 (.int .i64 a4) (by simp)
   have k6:=nb 6 (.int .i64 a5) (by simp)
   have k7:=nb 7 (.int .i64 a6) (by simp)
   have k8:=nb 8 (.int .i64 a7) (by simp)
   have hbel:Below w.heap.size wr w1:=(((Below.refl _ _).alloc hsz _).alloc (by simp;omega) _).grown hgrow (by simp;omega) (fun k h=>(own.lt k h).1)
   rw [HP0.out] at hown
   have O1:=hid hown
   have B1:=hid (hb.trans hbel)
   clear hown hgrow hbel own nb c0 c1 c2 c3 c4 c5 c6 c7 c8 HO
   go_wp2_with fail
   generalize (#[Value.int .i64 a0,.int .i64 a1,.int .i64 a2,.int .i64 a3,.int .i64 a4,.int .i64 a5,.int .i64 a6,.int .i64 a7]:Array Value)=X at *
   go_loopw [26,3] (fun i s wr=>∃ (k:Nat),k≤8∧i=.int .i64 k∧Below w.heap.size w wr∧Hid (wr.ownsRow w.heap.size 5 1 s (1+j*9+1+k) (mZ (dL ss j++fK st k)))) (fun i _ _=>8 - (intOf i).toNat)
   case atStart=>exact ⟨0,Nat.zero_le _,rfl,B1.out,O1⟩
   case round=>
    obtain ⟨k,hk,rfl,hbq,HO⟩:=hrel
    by_cases hlk:k<8
    ·have IX:=fun W=>gY (P:=Tryz.prog) W Tryz.underlying117 (jG Tryz.underlying3) (by kernel_rfl) hlk (HX.out k hlk)
     have hx:=Ru.out k (by rw [wU.out];exact hlk)
     have Yi:Hid (mZ (dL ss j++fK st k)++[.int .u8 (st.next.getD k 0)]=mZ (dL ss j++fK st (k+1))):=hid (by
      rw [Dk (by rw [wU.out];exact hlk),←List.append_assoc,Dx,xI hx.1 (by omega)])
     generalize st.next.getD k 0=x at *
     have wrx:IntKind.u8.wrap x=x:=wrap_u8 hx.1 (by omega)
     have own:=HO.out
     have hsz:=hbq.size
     go_wp2_with (at_builtin;go_must (refine wpList_append_own _ rfl (.tmp 29) (.tmp 32) 188 rfl w.heap.size 5 i0 (.int .u8 0) 1 1 Tryz.underlying188 hi hz0 hz1 hz2 rfl (by decide) _ _ _ rfl (own.alloc _) ⟨wr.heap.size,0,none⟩ 1 1 [.int .u8 x] rfl rfl ?c1 ?c2 ?c3 ?c4 ?c5 ?_))
     case c1=>exact cell_one_new _ _ _
     case c2=>intro u hu;simp at hu;subst hu;rfl
     case c3=>unfold maxLen;omega
     case c4=>omega
     case c5=>simp;omega
     intro v2 w2 hown hgrow _
     have hbel:Below w.heap.size wr w2:=((Below.refl _ _).alloc hsz _).grown hgrow (by simp;omega) (fun k h=>(own.lt k h).1)
     rw [Yi.out] at hown
     have O2:=hid hown
     have B2:=hid (hbq.trans hbel)
     clear hown hgrow hbel own HO IX
     go_wp2_with fail
     go_roundw
     case rel=>exact ⟨k+1,by omega,by go_num,B2.out,O2⟩
     case measure=>simp [intOf];omega
    ·obtain rfl:k=8:=by omega
     have O3:=HO.out
     rw [show fK st 8=nz st by rw [←wU.out];exact Ff,←DJ.out,show 1+j*9+1+8=1+(j+1)*9 by omega] at O3
     have O4:=hid O3
     clear O3 HO
     go_wp2_with fail
     go_roundw
     case rel=>exact ⟨j+1,by omega,by go_num,hbq,O4⟩
     case measure=>simp [intOf];omega
  ·obtain rfl:j=n:=by omega
   have own:=HO.out
   have HL:=yo h8 (j:=j) (by omega)
   rw [show dL ss j=bytesOf ss by rw [←hl];exact Du ss] at own HL
   obtain ⟨gb,bcap,hv,_⟩:∃ gb bcap,u3=.slice (some ⟨gb,0,none⟩) (1+j*9) bcap∧True:=by
    rcases own.2 with ⟨h,h0⟩ | ⟨g,cap',_,h,_⟩
    ·omega
    ·exact ⟨g,cap',h,trivial⟩
   subst hv
   have CV:=run_convert_bytes_back (P:=Tryz.prog) wr 188 9 5 ⟨gb,0,none⟩ bcap (bytesOf ss) Tryz.underlying188 Tryz.underlying5 Tryz.underlying9 (fun k hk=>by
    rw [qN,Nat.zero_add,own.cellAt k (by omega)]
    simp [mZ,List.getElem?_eq_getElem hk])
   rw [HL] at CV
   clear own HO HL
   go_wp2_with fail
   go_ret
   exact ⟨rfl,hb⟩
section
variable (a1 a2:Option Addr) (l1 c1 l2 c2:Nat) (os:List Int) (ls:List (List Int)) (w:World)
theorem UJ (h1:Ints w a1 l1 c1 os) (h2:Lists w a2 l2 c2 ls) :
  Calls Tryz.prog 55 #[.agg #[.slice a1 l1 c1,.slice a2 l2 c2]] w fun e w'=>e=.returned (.tuple #[.string (iX os ls),.int .i64 (iY os ls)])∧Below w.heap.size w w':=by
 have T:=fun W (b:Below w.heap.size w W)=>VU a1 a2 l1 c1 l2 c2 os ls W (h1.below b) (h2.below b)
 cases ef:dC os ls with
 | false=>
  have HE:Hid (iX os ls=⟨#[]⟩∧iY os ls=8):=hid ⟨by simp [iX,ef],by simp [iY,ef]⟩
  have HF:=hid ef
  clear ef
  go_enter Tryz.func55,Tryz.ntmps55
  go_wp2_with fail
  refine (T _ ((Below.refl _ _).alloc (Nat.le_refl _) _)).mono ?_
  rintro e w2 ⟨hb2,⟨_,rfl⟩ | ⟨hx,_⟩⟩
  ·have B2:=hid (((Below.refl w.heap.size w).alloc (Nat.le_refl _) _).trans (hb2.mono (by simp)))
   clear hb2 T
   go_wp2_with fail
   go_ret2
   exact ⟨by rw [HE.out.1,HE.out.2];rfl,B2.out⟩
  ·rw [HF.out] at hx;cases hx
 | true=>
  have HE:Hid (iX os ls=⟨(bytesOf (cK os ls)).toArray⟩∧iY os ls=0):=hid ⟨by simp [iX,ef],by simp [iY,ef]⟩
  have HF:=hid ef
  have hl:=mr ef
  have h8:=(ui hl.1 hl.2.1).2
  clear ef
  go_enter Tryz.func55,Tryz.ntmps55
  go_wp2_with fail
  refine (T _ ((Below.refl _ _).alloc (Nat.le_refl _) _)).mono ?_
  rintro e w2 ⟨hb2,⟨hx,_⟩ | ⟨_,g,cap,rfl,own⟩⟩
  ·rw [HF.out] at hx;cases hx
  ·have hpos:=(iw.1 hl.2.2).1
   rw [lD hl.1] at hpos
   obtain ⟨g',eg,hg0,hg1,hg2⟩:=dH own (by omega)
   cases eg
   have F:=XJ g os.length cap _ (cK os ls) w2 own h8 (lD hl.1) hl.2.2 hg1 hg2
   have B2:=hid (((Below.refl w.heap.size w).alloc (Nat.le_refl _) _).trans (hb2.mono (by simp)))
   clear hb2 T own hl h8
   go_wp2_with fail
   refine F.mono ?_
   rintro e w3 ⟨rfl,hb3⟩
   have B3:=hid (B2.out.trans (hb3.mono B2.out.size))
   clear hb3 F
   go_wp2_with fail
   go_ret2
   exact ⟨by rw [HE.out.1,HE.out.2];rfl,B3.out⟩
end
def sI (s:ByteArray) (i:Nat):St:=⟨(bt s (1+i*9):Int),(List.range 8).map fun a=>(bt s (1+i*9+1+a):Int)⟩
def aT (s:ByteArray) (n:Nat):List St:=(List.range n).map (sI s)
def eY (s:ByteArray):Bool:=decide (0<s.size)&&decide (s.size=1+bt s 0*9)&&kN (aT s (bt s 0))
theorem jo (s:ByteArray) (n:Nat):(aT s n).length=n:=by simp [aT]
theorem K7 (s:ByteArray) (n:Nat):aT s (n+1)=aT s n++[sI s n]:=by simp [aT,List.range_succ]
theorem zy (s:ByteArray) (i:Nat):(sI s i).next.length=8:=by simp [sI]
theorem Ve (s:ByteArray) (i:Nat) {k:Nat} (hk:k<8):(sI s i).next.getD k 0=(bt s (1+i*9+1+k):Int):=by
 simp [sI,List.getD,List.getElem?_map,List.getElem?_range hk]
theorem lI (s:ByteArray) (n:Nat):iM (aT s n):=by
 intro x hx
 simp [aT] at hx
 obtain ⟨i,_,rfl⟩:=hx
 exact zy s i
def ql (s:ByteArray) (w:World) (e:Ending) (w':World):Prop:=
 Below w.heap.size w w' ∧
 ((eY s=false∧e=.returned (.tuple #[.slice none 0 0,.bool false])) ∨
 (eY s=true∧∃ g cap,e=.returned (.tuple #[.slice (some ⟨g,0,none⟩) (bt s 0) cap,.bool true]) ∧
  w'.ownsRow w.heap.size 119 9 (.slice (some ⟨g,0,none⟩) (bt s 0) cap) (bt s 0) (dY (aT s (bt s 0)))))
theorem sK {s:ByteArray} (h:eY s=true→False):eY s=false:=by
 cases e:eY s with
 | false=>rfl
 | true=>exact (h e).elim
theorem qd {s:ByteArray} (h:eY s=true):0<s.size∧s.size=1+bt s 0*9∧kN (aT s (bt s 0))=true:=by
 unfold eY at h
 simpa [and_assoc] using h
section
variable (s:ByteArray) (w:World)
theorem WZ (hm:s.size≤maxLen) (h:s.size=0):Calls Tryz.prog 40 #[.string s] w (ql s w):=by
 have E:Hid (eY s=false):=hid (sK fun e=>by have:=(qd e).1;omega)
 unfold maxLen at hm
 have k:((s.size:Int)==0)=true:=beq_iff_eq.2 (by omega)
 go_enter Tryz.func40,Tryz.ntmps40
 go_wp2_with fail
 go_ret2
 exact ⟨Below.refl _ _,Or.inl ⟨E.out,rfl⟩⟩
theorem Qp (hm:s.size≤maxLen) (h:0<s.size) (hd:s.size≠1+bt s 0*9):Calls Tryz.prog 40 #[.string s] w (ql s w):=by
 have E:Hid (eY s=false):=hid (sK fun e=>hd (qd e).2.1)
 unfold maxLen at hm
 have k:((s.size:Int)==0)=false:=beq_eq_false_iff_ne.2 (by omega)
 have IX:(s[0]'h).toNat=bt s 0:=(fJ h).symm
 have hb:=oq s 0
 generalize bt s 0=c at *
 have k2:((s.size:Int)!=1+(c:Int)*9)=true:=bne_iff_ne.2 (by omega)
 go_enter Tryz.func40,Tryz.ntmps40
 go_wp2_with fail
 go_ret2
 exact ⟨Below.refl _ _,Or.inl ⟨E.out,rfl⟩⟩
theorem WY (hm:s.size≤maxLen) (h:0<s.size) (n:Nat) (hn:bt s 0=n) (hd:s.size=1+n*9):Calls Tryz.prog 40 #[.string s] w (ql s w):=by
 have k:((s.size:Int)==0)=false:=beq_eq_false_iff_ne.2 (by omega)
 have hn2:n<256:=by rw [←hn];exact oq s 0
 have IX:(s[0]'h).toNat=n:=by rw [←fJ h];exact hn
 have k2:((s.size:Int)!=1+(n:Int)*9)=false:=by rw [bne_eq_false_iff_eq];omega
 obtain ⟨i0,hi,hz0,hz1,hz2⟩:=info_parts Tryz.JW
 unfold maxLen at hm
 have HN:=hid hn
 have HD:=hid hd
 have hd1:s.size≤1+n*9:=Nat.le_of_eq hd
 have hd2:1+n*9≤s.size:=Nat.le_of_eq hd.symm
 clear hn hd
 go_enter Tryz.func40,Tryz.ntmps40
 go_wp2_with fail
 clear IX
 go_loopw [6,5] (fun i sv wr=>∃ (j:Nat) (ao:Option Addr) (cap:Nat),j≤n∧i=.int .i64 ((1+j*9:Nat):Int)∧sv=.slice ao j cap∧Below w.heap.size w wr ∧
   Hid (wr.ownsRow w.heap.size 119 9 (.slice ao j cap) j (dY (aT s j)))) (fun i _ _=>s.size - (intOf i).toNat)
 case atStart=>exact ⟨0,none,0,Nat.zero_le _,rfl,rfl,Below.refl _ _,hid (World.ownsRow_nil _ _ _ _)⟩
 case round=>
  obtain ⟨j,ao,cap,hj,rfl,rfl,hb,HO⟩:=hrel
  by_cases hlt:j<n
  ·have hpl:1+j*9<s.size:=by omega
   have IX:(s[1+j*9]'hpl).toNat=bt s (1+j*9):=(fJ hpl).symm
   have kd:decide (((1+j*9:Nat):Int)+9≤(s.size:Int))=true:=by simp;omega
   have ko:=oq s (1+j*9)
   have HOo:Hid ((sI s j).out=(bt s (1+j*9):Int)):=hid rfl
   have HZ:=hid (K7 s j)
   generalize bt s (1+j*9)=o at *
   go_wp2_with fail
   go_loopw [33] (fun i wq=>∃ (k:Nat) (f:Nat→Int),k≤8∧i=.int .i64 k∧Below wr.heap.size wr wq∧Jb wq wr.heap.size f∧Hid (f 0=(o:Int))∧Hid (∀ m,m<k→f (m+1)=(bt s (1+j*9+1+m):Int))) (fun i _=>8 - (intOf i).toNat)
   case atStart=>exact ⟨0,_,Nat.zero_le _,rfl,(Below.refl _ _).alloc (Nat.le_refl _) _,JJ wr o 0 0 0 0 0 0 0 0 _,hid rfl,hid (fun m hm=>by omega)⟩
   case round=>
    obtain ⟨k,f,hk,rfl,hbq,hnn,HF,HI2⟩:=hrel
    by_cases hlk:k<8
    ·have hpk:1+j*9+1+k<s.size:=by omega
     have IK:(s[1+j*9+1+k]'hpk).toNat=bt s (1+j*9+1+k):=(fJ hpk).symm
     have kx:=oq s (1+j*9+1+k)
     have e1:=hnn.cell (1+k) (by omega)
     have e2:=hnn.free (1+k) (by omega)
     have Hg:=hid (hnn.set (k:=1+k) (by omega) (bt s (1+j*9+1+k)))
     clear hnn
     generalize hx:bt s (1+j*9+1+k)=x at *
     have HX:=hid hx
     clear hx IX
     go_wp2_with fail
     go_roundw
     case rel=>
      refine ⟨k+1,_,by omega,by go_num,hbq.setCell (p:=⟨_,1+k,none⟩) (Nat.le_refl _) _,Hg.out,hid ?_,hid (fun m hm=>?_)⟩
      ·rw [if_neg (by omega)];exact HF.out
      ·by_cases e:m<k
       ·rw [if_neg (by omega)];exact HI2.out m e
       ·rw [if_pos (by omega),show m=k by omega,HX.out]
     case measure=>simp [intOf];omega
    ·have JY:k=8:=by omega
     subst JY
     have e0:=hnn.cell 0 (by decide)
     have e1:=hnn.cell 1 (by decide)
     have e2:=hnn.cell 2 (by decide)
     have e3:=hnn.cell 3 (by decide)
     have e4:=hnn.cell 4 (by decide)
     have e5:=hnn.cell 5 (by decide)
     have e6:=hnn.cell 6 (by decide)
     have e7:=hnn.cell 7 (by decide)
     have e8:=hnn.cell 8 (by decide)
     have HS:Hid (fH (sI s j)=[.int .i64 (f 0),.int .i64 (f 1),.int .i64 (f 2),.int .i64 (f 3),.int .i64 (f 4),.int .i64 (f 5),.int .i64 (f 6),.int .i64 (f 7),.int .i64 (f 8)]):=hid (by
      have:=HI2.out
      rw [HF.out,this 0 (by decide),this 1 (by decide),this 2 (by decide),this 3 (by decide),this 4 (by decide),this 5 (by decide),this 6 (by decide),this 7 (by decide),←HOo.out]
      rfl)
     have own:=ae HO.out hbq
     have hsz:=hbq.size
     have hsz2:=hb.size
     have DZ:=hid hbq
     clear hnn hbq HF HI2 HO IX
     generalize f 0=f0 at *
     generalize f 1=f1 at *
     generalize f 2=f2 at *
     generalize f 3=f3 at *
     generalize f 4=f4 at *
     generalize f 5=f5 at *
     generalize f 6=f6 at *
     generalize f 7=f7 at *
     generalize f 8=f8 at *
     go_wp2_with (at_builtin;go_must (refine wpList_append_own _ rfl (.tmp 47) (.tmp 49) 65 rfl w.heap.size 119 i0 (.agg #[.int .i64 0,.int .i64 0,.int .i64 0,.int .i64 0,.int .i64 0,.int .i64 0,.int .i64 0,.int .i64 0,.int .i64 0]) 9 72 Tryz.underlying65 hi hz0 hz1 hz2 rfl (by decide) _ _ _ rfl (own.alloc _) ⟨wr.heap.size,0,none⟩ 1 1 [.int .i64 f0,.int .i64 f1,.int .i64 f2,.int .i64 f3,.int .i64 f4,.int .i64 f5,.int .i64 f6,.int .i64 f7,.int .i64 f8] rfl rfl ?c1 ?c2 ?c3 ?c4 ?c5 ?_))
     case c1=>exact ic _ _ _
     case c2=>intro u hu;simp at hu;rcases hu with rfl | rfl | rfl | rfl | rfl | rfl | rfl | rfl | rfl <;> rfl
     case c3=>unfold maxLen;omega
     case c4=>omega
     case c5=>simp;omega
     intro v' w1 hown hgrow _
     have hbel:Below w.heap.size wr w1:=((Below.refl _ _).alloc (by omega) _).grown hgrow (by simp;omega) (fun k h=>(own.lt k h).1)
     rw [←HS.out,←rE,←HZ.out] at hown
     obtain ⟨ao',cap',hv⟩:∃ ao' cap',v'=.slice ao' (j+1) cap':=by
      rcases hown.2 with ⟨h,h0⟩ | ⟨g,cap',_,h,_⟩
      ·omega
      ·exact ⟨_,cap',h⟩
     subst hv
     have B1:=hid ((hb.trans (DZ.out.mono hsz2)).trans hbel)
     have O1:=hid hown
     clear hown hgrow hbel own e0 e1 e2 e3 e4 e5 e6 e7 e8
     go_wp2_with fail
     go_roundw
     case rel=>exact ⟨j+1,ao',cap',by omega,congrArg (Value.int .i64) (by omega),rfl,B1.out,O1⟩
     case measure=>simp [intOf];omega
  ·obtain rfl:j=n:=by omega
   have kd:decide (((1+j*9:Nat):Int)+9≤(s.size:Int))=false:=by simp;omega
   have HR:Hid (eY s=kN (aT s j)):=hid (by unfold eY;rw [HN.out,HD.out];simp;intro;omega)
   have H8:=lI s j
   have O:=HO.out
   clear HO
   by_cases hpos:1≤j∧j≤8
   ·obtain ⟨g,rfl,hg0,hg1,hg2⟩:=dH O (by omega)
    have F:=fun W (hW:W.ownsRow w.heap.size 119 9 (.slice (some ⟨g,0,none⟩) j cap) j (dY (aT s j))) (hg:g<W.heap.size)=>Qy g j cap w.heap.size (aT s j) W hW H8 (jo s j) hpos.1 hpos.2 hg hg2
    have HO:=hid O
    clear O
    cases ev:kN (aT s j) with
    | true=>
     have HV:=hid ev
     clear ev
     go_wp2_with fail
     refine (F _ HO.out hg1).mono ?_
     rintro e w2 ⟨rfl,hb2⟩
     rw [HV.out]
     have B2:=hid (hb.trans (hb2.mono hb.size))
     have O2:=hid (ae HO.out hb2)
     clear hb2 F
     go_wp2_with fail
     go_ret2
     unfold ql
     rw [HN.out]
     exact ⟨B2.out,Or.inr ⟨by rw [HR.out];exact HV.out,g,cap,rfl,O2.out⟩⟩
    | false=>
     have HV:=hid ev
     clear ev
     go_wp2_with fail
     refine (F _ HO.out hg1).mono ?_
     rintro e w2 ⟨rfl,hb2⟩
     rw [HV.out]
     have B2:=hid (hb.trans (hb2.mono hb.size))
     clear hb2 F
     go_wp2_with fail
     go_ret2
     exact ⟨B2.out,Or.inl ⟨by rw [HR.out];exact HV.out,rfl⟩⟩
   ·have F:=fun W=>UL ao j cap (aT s j) W (jo s j) (by omega) (by omega)
    have HV:Hid (kN (aT s j)=false):=hid (by
     cases e:kN (aT s j) with
     | false=>rfl
     | true=>rw [iw,jo] at e;omega)
    clear O
    go_wp2_with fail
    refine (F _).mono ?_
    rintro e w2 ⟨rfl,hb2⟩
    rw [HV.out]
    have B2:=hid (hb.trans (hb2.mono hb.size))
    clear hb2 F
    go_wp2_with fail
    go_ret2
    exact ⟨B2.out,Or.inl ⟨by rw [HR.out];exact HV.out,rfl⟩⟩
theorem NC (hm:s.size≤maxLen):Calls Tryz.prog 40 #[.string s] w (ql s w):=by
 by_cases h:s.size=0
 ·exact WZ s w hm h
 by_cases hd:s.size=1+bt s 0*9
 ·exact WY s w hm (by omega) _ rfl hd
 ·exact Qp s w hm (by omega) hd
end
end Go.Proofs.YtjagijohfkffiabGreat
