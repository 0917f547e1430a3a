import Derived.Test.YtjagijohfkffiabGreatALLM08
import Derived.Test.YtjagijohfkffiabGreatALLM27
import Derived.Test.YtjagijohfkffiabGreatALLM30
import Derived.Laws.ResultCell
set_option maxHeartbeats 16000000
set_option maxRecDepth 100000
namespace Go.Proofs.YtjagijohfkffiabGreat
open Go.RowKit
set_option linter.unusedVariables false
theorem lq.Vn {w:World} {T g2 n:Nat} {V:Nat→Value} {tl:Nat→List (Nat × Nat)} (h:lq w T g2 n V tl) {b:Nat} (hb:b<g2) (o:Nat) (u:Value):lq (w.setCell ⟨b,o,none⟩ u) T g2 n V tl:=
 ⟨h.lt,by rw [World.cell?_setCell_other _ ⟨b,o,none⟩ ⟨T,0,none⟩ _ (fun q=>by have:=congrArg Addr.block q;have h2:=h.lt;simp at this;omega)];exact h.cell,ak h.out hb o u,fun j hj=>ak (h.row j hj) (by have:=h.lt;omega) o u,h.sep⟩
theorem Tryz.ZV:(Tryz.prog.info? 3).map (·.size)=some 1:=by kernel_rfl
theorem P8 (f:Nat→Nat) {l:Nat} (hl:l<8) (W:World):(Instr.index 117 (.agg #[.int .i64 (f 0:Nat),.int .i64 (f 1:Nat),.int .i64 (f 2:Nat),.int .i64 (f 3:Nat),.int .i64 (f 4:Nat),.int .i64 (f 5:Nat),.int .i64 (f 6:Nat),.int .i64 (f 7:Nat)]) (.int .i64 (l:Nat))).run Tryz.prog W=.ok (.int .i64 (f l:Nat)) W:=by
 refine gY W Tryz.underlying117 (fun w=>jG Tryz.underlying3 w) Tryz.ZV hl ?_
 have:l=0∨l=1∨l=2∨l=3∨l=4∨l=5∨l=6∨l=7:=by omega
 rcases this with rfl | rfl | rfl | rfl | rfl | rfl | rfl | rfl <;> rfl
theorem PR (g n cap vd:Nat) (out:Nat→Nat) (nx:Nat→Nat→Nat) (w:World) (h0:0<n) (hn:n≤8589934592) (h:OZ w g n out nx) (hnx:∀ i l,i<n→l<8→nx i l<n) :
  Calls Tryz.prog 148 #[.slice (some ⟨g,0,none⟩) n cap,.int .i64 (vd:Nat)] w fun e w'=>∃ g2 tl,e=.returned (.agg #[.slice (some ⟨g2,0,none⟩) n n])∧mI w' g2 n tl∧yO out nx vd n 0 tl∧Below w.heap.size w w':=by
 have HR:=hid h
 have hg:=h.lt
 have uu:=hid hnx
 clear h hnx
 obtain ⟨i0,hi,hz0,hz1,hz2⟩:=info_parts Tryz.BH
 go_enter Tryz.func148,Tryz.ntmps148
 go_wp2_with (at_make;go_must (refine wpList_make_full _ rfl (.tmp 11) (.tmp 11) 157 rfl (w.heap.size+1) 222 i0 (.slice none 0 0) 1 Tryz.underlying157 hi hz0 hz1 .i64 .i64 n n n rfl rfl rfl rfl ?m2 ?m3 (by simp) ?_))
 case m2=>rw [hz2];omega
 case m3=>unfold maxLen;omega
 intro w1 ay grow1
 have eo:(madeCells #[Value.slice none 0 0] n).toList=(List.range n).map (fun _=>Value.slice none 0 0):=by
  rw [toList_madeCells_one]
  exact (List.eq_replicate_iff.2 ⟨by simp,fun b hb=>by obtain ⟨_,_,rfl⟩:=List.mem_map.1 hb;rfl⟩).symm
 have o1:w1.ownsRow (w.heap.size+1) 222 1 (.slice (some ⟨w.heap.size+1,0,none⟩) n n) n ((List.range n).map (fun _=>Value.slice none 0 0)):=by
  rw [←eo]
  exact ay
 have hlt:w.heap.size+1<w1.heap.size:=(o1.lt _ rfl).2
 have b0:=((Below.refl (w.heap.size+1) (w.alloc (.cells #[.slice none 0 0] 159))).grown grow1 (by simp) (fun k h=>by cases h))
 have R0:w1.cell? ⟨w.heap.size,0,none⟩=some (.slice none 0 0):=(b0.cell (p:=⟨w.heap.size,0,none⟩) (by show w.heap.size<w.heap.size+1;omega)).trans (by simp)
 have R1:w1.frozen? ⟨w.heap.size,0,none⟩=false:=(b0.frozen (p:=⟨w.heap.size,0,none⟩) (by show w.heap.size<w.heap.size+1;omega)).trans (by simp)
 have HB1:Hid (Below w.heap.size w w1):=hid (((Below.refl w.heap.size w).alloc (Nat.le_refl _) (.cells #[.slice none 0 0] 159)).trans (b0.mono (by omega)))
 have M1:Hid (lq (w1.alloc (.cells #[.slice (some ⟨w.heap.size+1,0,none⟩) n n] 159)) w1.heap.size (w.heap.size+1) n (fun _=>.slice none 0 0) (fun _=>[])):=hid ⟨hlt,by simp,o1.alloc _,fun j hj=>World.ownsRow_nil _ _ _ _,fun i j hi hj h=>Or.inl rfl⟩
 have HR1:Hid ((w1.alloc (.cells #[.slice (some ⟨w.heap.size+1,0,none⟩) n n] 159)).cell? ⟨w.heap.size,0,none⟩=some (.slice none 0 0)∧(w1.alloc (.cells #[.slice (some ⟨w.heap.size+1,0,none⟩) n n] 159)).frozen? ⟨w.heap.size,0,none⟩=false):=hid ⟨by rw [World.cell?_alloc_lt _ _ _ (by show w.heap.size<w1.heap.size;omega)];exact R0,by rw [World.frozen?_alloc_past _ _ _ (by show w.heap.size<w1.heap.size;omega)];exact R1⟩
 have HB2:=hid (HB1.out.alloc (by omega) (.cells #[.slice (some ⟨w.heap.size+1,0,none⟩) n n] 159))
 clear ay grow1 eo o1 b0 R0 R1 HB1
 go_wp2_with fail
 generalize w1.heap.size=T at *
 go_loopw [16] (fun i wq=>∃ (k:Nat) (V:Nat→Value) (tl:Nat→List (Nat × Nat)),k≤n∧i=.int .i64 k∧Hid (yO out nx vd k 0 tl)∧Hid (lq wq T (w.heap.size+1) n V tl)∧Hid (wq.cell? ⟨w.heap.size,0,none⟩=some (.slice none 0 0)∧wq.frozen? ⟨w.heap.size,0,none⟩=false)∧Hid (Below w.heap.size w wq)) (fun i _=>n - (intOf i).toNat)
 case atStart=>exact ⟨0,_,_,by omega,rfl,hid (YD out nx vd),M1,HR1,HB2⟩
 case round=>
  obtain ⟨k,V,tl,hk,rfl,HW,HM,HRR,HB⟩:=hrel
  rename World=>W0
  have rC:=HM.out.Rm
  by_cases hlk:k<n
  ·have r:=HR.out.below HB.out hg
   have q0:=r.c0 k hlk
   have q1:W0.cell? ⟨g,k*9+1,none⟩=some (.int .i64 (nx k 0:Nat)):=r.c k 0 hlk (by omega)
   have q2:W0.cell? ⟨g,k*9+2,none⟩=some (.int .i64 (nx k 1:Nat)):=r.c k 1 hlk (by omega)
   have q3:W0.cell? ⟨g,k*9+3,none⟩=some (.int .i64 (nx k 2:Nat)):=r.c k 2 hlk (by omega)
   have q4:W0.cell? ⟨g,k*9+4,none⟩=some (.int .i64 (nx k 3:Nat)):=r.c k 3 hlk (by omega)
   have q5:W0.cell? ⟨g,k*9+5,none⟩=some (.int .i64 (nx k 4:Nat)):=r.c k 4 hlk (by omega)
   have q6:W0.cell? ⟨g,k*9+6,none⟩=some (.int .i64 (nx k 5:Nat)):=r.c k 5 hlk (by omega)
   have q7:W0.cell? ⟨g,k*9+7,none⟩=some (.int .i64 (nx k 6:Nat)):=r.c k 6 hlk (by omega)
   have q8:W0.cell? ⟨g,k*9+8,none⟩=some (.int .i64 (nx k 7:Nat)):=r.c k 7 hlk (by omega)
   have hs:=HB.out.size
   clear r
   have uI:=hid ((Below.refl W0.heap.size W0).alloc (Nat.le_refl _) (.cells #[.int .i64 (out k:Nat),.int .i64 (nx k 0:Nat),.int .i64 (nx k 1:Nat),.int .i64 (nx k 2:Nat),.int .i64 (nx k 3:Nat),.int .i64 (nx k 4:Nat),.int .i64 (nx k 5:Nat),.int .i64 (nx k 6:Nat),.int .i64 (nx k 7:Nat)] 119))
   have DY:=hid (HM.out.keeps uI.out)
   have HR2:=hid (And.intro ((uI.out.cell (p:=⟨w.heap.size,0,none⟩) (by show w.heap.size<W0.heap.size;omega)).trans HRR.out.1) ((uI.out.frozen (p:=⟨w.heap.size,0,none⟩) (by show w.heap.size<W0.heap.size;omega)).trans HRR.out.2))
   have HB3:=hid (HB.out.trans (uI.out.mono hs))
   clear uI HM HRR
   go_wp2_with fail
   clear q0 q1 q2 q3 q4 q5 q6 q7 q8
   go_loopw [23] (fun i wq=>∃ (l:Nat) (V:Nat→Value) (tl:Nat→List (Nat × Nat)),l≤8∧i=.int .i64 l∧Hid (yO out nx vd k l tl)∧Hid (lq wq T (w.heap.size+1) n V tl)∧Hid (wq.cell? ⟨w.heap.size,0,none⟩=some (.slice none 0 0)∧wq.frozen? ⟨w.heap.size,0,none⟩=false)∧Hid (Below w.heap.size w wq)) (fun i _=>8 - (intOf i).toNat)
   case atStart=>exact ⟨0,V,tl,by omega,rfl,HW,DY,HR2,HB3⟩
   case round=>
    obtain ⟨l,V,tl,hl,rfl,HW,HM,HRR,HB⟩:=hrel
    rename World=>W3
    by_cases hll:l<8
    ·have ix:=fun W=>P8 (nx k) hll W
     have hto:=uu.out k l hlk hll
     have co:=(HR.out.below HB.out hg).c0 (nx k l) hto
     have HLEN:=hid (HW.out.len (nx k l))
     have dk:decide (n≤nx k l)=false:=by simp;omega
     by_cases he:out (nx k l)=vd
     ·have ni:=hid (abU HW.out hll he)
      have ke:((out (nx k l):Int)!=(vd:Int))=false:=by rw [he];simp
      clear he
      generalize out (nx k l)=ov at *
      generalize nx k l=to at *
      go_wp2_with fail
      go_roundw
      case rel=>exact ⟨l+1,V,tl,by omega,by go_num,ni,HM,HRR,HB⟩
      case measure=>simp [intOf];omega
     ·have HAD:=hid (adG HW.out hll he)
      have ke:((out (nx k l):Int)!=(vd:Int))=true:=by rw [bne_iff_ne];omega
      have AW:=hid (LJ T (w.heap.size+1) n k l (nx k l) V tl W3 HM.out (by omega) hlk hll hto (by have:=HLEN.out;omega))
      clear he
      generalize out (nx k l)=ov at *
      generalize nx k l=to at *
      go_wp2_with fail
      refine AW.out.mono ?_
      rintro e w5 ⟨rfl,⟨V5,hm5⟩,hb5⟩
      have HM5:=hid hm5
      have Yg:=hid (And.intro ((hb5.cell (p:=⟨w.heap.size,0,none⟩) (by show w.heap.size<w.heap.size+1;omega)).trans HRR.out.1) ((hb5.frozen (p:=⟨w.heap.size,0,none⟩) (by show w.heap.size<w.heap.size+1;omega)).trans HRR.out.2))
      have dV:=hid (HB.out.trans (hb5.mono (by omega)))
      clear hm5 hb5 AW HM HRR HB
      go_wp2_with fail
      go_roundw
      case rel=>exact ⟨l+1,V5,_,by omega,by go_num,HAD,HM5,Yg,dV⟩
      case measure=>simp [intOf];omega
    ·obtain rfl:l=8:=by omega
     have aaX:=hid (abV HW.out)
     go_wp2_with fail
     go_roundw
     case rel=>exact ⟨k+1,V,tl,by omega,by go_num,aaX,HM,HRR,HB⟩
     case measure=>simp [intOf];omega
  ·obtain rfl:k=n:=by omega
   have c1:=HM.out.cell
   have r0:=HRR.out.1
   have r1:=HRR.out.2
   have HWW:=hid (HM.out.Vn (b:=w.heap.size) (by omega) 0 (.slice (some ⟨w.heap.size+1,0,none⟩) k k)).ways
   have dm:=hid (HB.out.setCell (p:=⟨w.heap.size,0,none⟩) (Nat.le_refl _) (.slice (some ⟨w.heap.size+1,0,none⟩) k k))
   have CE:Hid ((W0.setCell ⟨w.heap.size,0,none⟩ (.slice (some ⟨w.heap.size+1,0,none⟩) k k)).cell? ⟨w.heap.size,0,none⟩=some (.slice (some ⟨w.heap.size+1,0,none⟩) k k)):=hid (World.cell?_setCell_same _ _ _ r0)
   go_wp2_with fail
   refine Ej Tryz.results148 ?_ ?_ CE.out ?_
   ·rfl
   ·rfl
   ·exact ⟨_,tl,rfl,HWW.out,HW.out,dm.out⟩
theorem abT {out:Nat→Nat} {nx:Nat→Nat→Nat} {vd n:Nat} {tl:Nat→List (Nat × Nat)} (h:yO out nx vd n 0 tl) (hn:n≤8589934592):rP n tl:=
 ⟨hn,fun t ht st hs=>by obtain ⟨⟨a,b⟩,_⟩:=(h.mem t st).1 hs;exact ⟨by omega,b⟩,fun t ht=>by have:=h.len t;omega⟩
def EvP (ns:List Nd) (cs:List (Nat→Bool)) (aA:Nat→Bool) (out:Nat→Nat) (nx:Nat→Nat→Nat) (n vd:Nat) (hd b:Bool):Prop:=
 ∃ tl,yO out nx vd n 0 tl∧(b=true↔∃ v,v<256∧gu (Ew n ns tl) (spreads cs) v∧aA v=hd)
theorem Gj (P g n cap vd:Nat) (hd:Bool) (ns:List Nd) (aa aA:Nat→Bool) (cs:List (Nat→Bool)) (out:Nat→Nat) (nx:Nat→Nat→Nat) (w:World) (h8:ns.length≤8) (h0:0<n) (hn:n≤8589934592) (ho:rR w P ns aa aA) (hcm:mO w P cs) (hcl:cs.length≤8) (h:OZ w g n out nx) (hnx:∀ i l,i<n→l<8→nx i l<n) :
  Calls Tryz.prog 140 #[.pointer (some ⟨P,0,none⟩),.slice (some ⟨g,0,none⟩) n cap,.int .i64 (vd:Nat),.bool hd] w fun e w'=>∃ b:Bool,e=.returned (.bool b)∧EvP ns cs aA out nx n vd hd b∧Below w.heap.size w w':=by
 have hP:=ho.lt
 have HO:=hid ho
 have HC:=hid hcm
 have WA:=hid (PR g n cap vd out nx w h0 hn h hnx)
 clear ho hcm h hnx
 have kn:((n:Int)==0)=false:=beq_eq_false_iff_ne.2 (by omega)
 go_enter Tryz.func140,Tryz.ntmps140
 go_wp2_with fail
 refine WA.out.mono ?_
 rintro e w1 ⟨g2,tl,rfl,hw,hwo,hb1⟩
 have Ph:=hid hwo
 have hs1:=hb1.size
 have HW:=hid (hw.below ((Below.refl w1.heap.size w1).alloc (Nat.le_refl _) (.cells #[.slice (some ⟨g2,0,none⟩) n n] 159)))
 have HB2:=hid (hb1.alloc hs1 (.cells #[.slice (some ⟨g2,0,none⟩) n n] 159))
 clear hw hwo hb1 WA
 go_wp2_with fail
 refine (x9 P g2 n n ns tl cs _ h8 (abT Ph.out hn) (fun x N hx hN=>(HO.out.below HB2.out hP).eT x N hx hN) (by simp;omega) (HC.out.below HB2.out hP) hcl HW.out).mono ?_
 rintro e w3 ⟨g3,f,rfl,hg3,hg3s,F3,HL,hb3⟩
 simp only [World.size_alloc] at hb3 hg3
 have HB3:=hid (HB2.out.trans (hb3.mono (by omega)))
 have F3:Hid (aN w3 g3 0 f):=hid (by have:=F3.wI (t:=0) (by omega);simpa using this)
 have kK:=hid HL
 have OM3:=hid (HO.out.below HB3.out hP)
 clear hb3 HL HB2 HW
 go_wp2_with (refine aC rfl (.tmp 23) rfl g3 0 f rfl F3.out ?_)
 go_loopw [25] (fun i wq=>∃ v:Nat,v≤256∧i=.int .i64 v∧wq=w3∧Hid (∀ u,u<v→¬ (f u=true∧aA u=hd))) (fun i _=>256 - (intOf i).toNat)
 case atStart=>exact ⟨0,by omega,rfl,rfl,hid (fun u hu=>by omega)⟩
 case round=>
  obtain ⟨v,hv,rfl,rfl,HA⟩:=hrel
  by_cases hlv:v<256
  ·have ix:=fun W=>pU f hlv W
   have cb:=OM3.out.aA.c v hlv
   cases hf:f v with
   | false=>
    rw [hf] at ix
    have HF:=hid hf
    clear hf
    go_wp2_with fail
    go_roundw
    case rel=>exact ⟨v+1,by omega,by go_num,trivial,hid (fun u hu h=>by
     by_cases e:u=v
     ·subst e;rw [HF.out] at h;cases h.1
     ·exact HA.out u (by omega) h)⟩
    case measure=>simp [intOf];omega
   | true=>
    rw [hf] at ix
    have HF:=hid hf
    clear hf
    cases he:(aA v==hd) with
    | true=>
     have HE:=hid (beq_iff_eq.1 he)
     go_wp2_with fail
     go_ret
     exact ⟨true,rfl,⟨tl,Ph.out,⟨fun _=>⟨v,hlv,(kK.out v).1 HF.out,HE.out⟩,fun _=>rfl⟩⟩,HB3.out⟩
    | false=>
     have HE:=hid (beq_eq_false_iff_ne.1 he)
     go_wp2_with fail
     go_roundw
     case rel=>exact ⟨v+1,by omega,by go_num,trivial,hid (fun u hu h=>by
      by_cases e:u=v
      ·subst e;exact HE.out h.2
      ·exact HA.out u (by omega) h)⟩
     case measure=>simp [intOf];omega
  ·obtain rfl:v=256:=by omega
   go_wp2_with fail
   go_ret
   exact ⟨false,rfl,⟨tl,Ph.out,⟨fun h=>(by cases h),fun ⟨v,h1,h2,h3⟩=>absurd ⟨(kK.out v).2 h2,h3⟩ (HA.out v h1)⟩⟩,HB3.out⟩
def bQ (ns:List Nd) (aa aA:Nat→Bool) (us:List (List Nat)):Nat→Nat:=fun i=>oJ aa (cZ ns aa aA (us.getD i []))
theorem adS {w:World} {B g cap:Nat} {ns:List Nd} {aa aA:Nat→Bool} {us:List (List Nat)} {xs:List Nat} {SS:List St} (hS:yw ns aa aA us xs SS) (hl:SS.length=us.length) (ho:w.ownsRow B 119 9 (.slice (some ⟨g,0,none⟩) us.length cap) us.length (dY SS)):OZ w g us.length (bQ ns aa aA us) (aL xs):=by
 have he:=Sl hS
 have key:∀ i,i<us.length→aM SS i=⟨bQ ns aa aA us i,(List.range 8).map fun l=>((aL xs i l:Nat):Int)⟩:=fun i hi=>by
  have hi2:i<SS.length:=by omega
  obtain ⟨u,h1,h2,h3⟩:=hS i SS[i] (List.getElem?_eq_getElem hi2)
  have:aM SS i=SS[i]:=by simp [aM,List.getD,List.getElem?_eq_getElem hi2]
  rw [this,h3]
  have e:us.getD i []=u:=by simp [List.getD,h1]
  unfold bQ aL
  rw [e]
 refine ⟨(ho.lt _ rfl).2,fun i hi=>?_,fun i m hi hm=>?_⟩
 ·have:=uj he (show i<SS.length by omega) (show 0<9 by omega)
  rw [Nat.add_zero] at this
  rw [ho.cellAt (i*9) (by omega),this,key i hi]
  rfl
 ·have:=uj he (show i<SS.length by omega) (show 1+m<9 by omega)
  rw [show i*9+1+m=i*9+(1+m) by omega,ho.cellAt (i*9+(1+m)) (by omega),this,key i hi,Nat.add_comm 1 m]
  simp [fH,hm]
theorem adh {ns:List Nd} {aa aA:Nat→Bool} {us:List (List Nat)} {xs:List Nat} (h:eX ns aa aA us xs) (he:xs.length=8*us.length):∀ i l,i<us.length→l<8→aL xs i l<us.length:=fun i l hi hl=>by
 obtain ⟨u0,u1,_,h2,_⟩:=h.ok (8*i+l) (by omega)
 exact (List.getElem?_eq_some_iff.1 h2).1
theorem Tryz.um:(Tryz.prog.info? 102).map (·.size)=some 3:=by kernel_rfl
def YB (ns:List Nd) (aa aA:Nat→Bool) (cs:List (Nat→Bool)) (sf co lv:Bool):Prop:=
 ∃ us xs,eX ns aa aA us xs∧xs.length=8*us.length∧EvP ns cs aA (bQ ns aa aA us) (aL xs) us.length 2 false (!sf)∧EvP ns cs aA (bQ ns aa aA us) (aL xs) us.length 1 true (!co)∧(lv=false↔∃ i,i<us.length∧bQ ns aa aA us i=2)
theorem Tx (P:Nat) (ns:List Nd) (aa aA:Nat→Bool) (cs:List (Nat→Bool)) (w:World) (h8:ns.length≤8) (hfew:∀ us xs,eX ns aa aA us xs→us.length≤796594185) (ho:rR w P ns aa aA) (hcm:mO w P cs) (hcl:cs.length≤8) :
  Calls Tryz.prog 108 #[.pointer (some ⟨P,0,none⟩)] w fun e w'=>∃ sf co lv:Bool,e=.returned (.agg #[.bool sf,.bool co,.bool lv])∧YB ns aa aA cs sf co lv∧Below w.heap.size w w':=by
 have hP:=ho.lt
 have HO:=hid ho
 have HC:=hid hcm
 have oF:=hid hfew
 clear ho hcm hfew
 go_enter Tryz.func108,Tryz.ntmps108
 go_wp2_with fail
 have ba:=hid ((Below.refl w.heap.size w).alloc (Nat.le_refl _) (.cells #[.bool false,.bool false,.bool false] 102))
 refine (Fe P ns aa aA _ h8 oF.out (HO.out.below ba.out hP)).mono ?_
 unfold Am
 rintro e w1 ⟨us,xs,SS,v,rfl,hE,hxl,lm,hS,hown,hb1⟩
 simp only [World.size_alloc] at hown hb1
 have hup:0<us.length:=(List.getElem?_eq_some_iff.1 hE.first).1
 have hfw:=oF.out us xs hE
 obtain ⟨ao,cap,rfl⟩:=ag hown
 obtain ⟨g,rfl,hgB,hgs,_⟩:=dH hown hup
 have HR:=hid (adS hS lm hown)
 have uu:=hid (adh hE hxl)
 have HE:=hid (And.intro hE hxl)
 have Cb:w1.cell? ⟨w.heap.size,0,none⟩=some (.bool false):=(hb1.cell (p:=⟨w.heap.size,0,none⟩) (by show w.heap.size<w.heap.size+1;omega)).trans (by simp)
 have jO:w1.cell? ⟨w.heap.size,1,none⟩=some (.bool false):=(hb1.cell (p:=⟨w.heap.size,1,none⟩) (by show w.heap.size<w.heap.size+1;omega)).trans (by simp)
 have fP:w1.cell? ⟨w.heap.size,2,none⟩=some (.bool false):=(hb1.cell (p:=⟨w.heap.size,2,none⟩) (by show w.heap.size<w.heap.size+1;omega)).trans (by simp)
 have ff:∀ o,w1.frozen? ⟨w.heap.size,o,none⟩=false:=fun o=>(hb1.frozen (p:=⟨w.heap.size,o,none⟩) (by show w.heap.size<w.heap.size+1;omega)).trans (by simp)
 have hsz1:w.heap.size<w1.heap.size:=by have:=hb1.size;simp at this;omega
 have HB1:=hid (ba.out.trans (hb1.mono (by omega)))
 have CE:=hid (And.intro Cb (And.intro jO (And.intro fP ff)))
 clear hown hb1 ba hE hS Cb jO fP ff
 generalize hnn:us.length=n at *
 have Hg:=hid hnn
 clear hnn
 go_wp2_with fail
 refine (Gj P g n cap 2 false ns aa aA cs _ _ w1 h8 hup (by omega) (HO.out.below HB1.out hP) (HC.out.below HB1.out hP) hcl HR.out uu.out).mono ?_
 rintro e w2 ⟨b1,rfl,hv1,hb2⟩
 have HV1:=hid hv1
 have HR2:=hid (HR.out.below hb2 hgs)
 have HB2:=hid (HB1.out.trans (hb2.mono (by omega)))
 have hsz2:=hb2.size
 have PE:=hid (And.intro ((hb2.cell (p:=⟨w.heap.size,0,none⟩) hsz1).trans CE.out.1) (And.intro ((hb2.cell (p:=⟨w.heap.size,1,none⟩) hsz1).trans CE.out.2.1) (And.intro ((hb2.cell (p:=⟨w.heap.size,2,none⟩) hsz1).trans CE.out.2.2.1) (fun o=>(hb2.frozen (p:=⟨w.heap.size,o,none⟩) hsz1).trans (CE.out.2.2.2 o)))))
 clear hv1 hb2 HR HB1 CE
 go_wp2_with fail
 refine (Gj P g n cap 1 true ns aa aA cs _ _ w2 h8 hup (by omega) (HO.out.below HB2.out hP) (HC.out.below HB2.out hP) hcl HR2.out uu.out).mono ?_
 rintro e w3 ⟨b2,rfl,hv2,hb3⟩
 have pQ:=hid hv2
 have HR3:=hid (HR2.out.below hb3 (by omega))
 have HB3:=hid (HB2.out.trans (hb3.mono (by omega)))
 have Iw:=hb3.size
 have hl2:w.heap.size<w2.heap.size:=by omega
 have ES:=hid (And.intro ((hb3.cell (p:=⟨w.heap.size,0,none⟩) hl2).trans PE.out.1) (And.intro ((hb3.cell (p:=⟨w.heap.size,1,none⟩) hl2).trans PE.out.2.1) (And.intro ((hb3.cell (p:=⟨w.heap.size,2,none⟩) hl2).trans PE.out.2.2.1) (fun o=>(hb3.frozen (p:=⟨w.heap.size,o,none⟩) hl2).trans (PE.out.2.2.2 o)))))
 clear hv2 hb3 HR2 HB2 PE
 go_wp2_with fail
 refine (UZ g n cap 2 _ _ w3 (by omega) HR3.out).mono ?_
 rintro e w4 ⟨b3,rfl,hv3,hb4⟩
 have pO:=hid hv3
 have dm:=hid (HB3.out.trans (hb4.mono (by omega)))
 have hl3:w.heap.size<w3.heap.size:=by omega
 have d0:=(hb4.cell (p:=⟨w.heap.size,0,none⟩) hl3).trans ES.out.1
 have d1:=(hb4.cell (p:=⟨w.heap.size,1,none⟩) hl3).trans ES.out.2.1
 have d2:=(hb4.cell (p:=⟨w.heap.size,2,none⟩) hl3).trans ES.out.2.2.1
 have e0:=(hb4.frozen (p:=⟨w.heap.size,0,none⟩) hl3).trans (ES.out.2.2.2 0)
 have e1:=(hb4.frozen (p:=⟨w.heap.size,1,none⟩) hl3).trans (ES.out.2.2.2 1)
 have e2:=(hb4.frozen (p:=⟨w.heap.size,2,none⟩) hl3).trans (ES.out.2.2.2 2)
 clear hv3 hb4 HR3 HB3 ES
 go_wp2_with fail
 refine tX (cs:=[.bool !b1,.bool !b2,.bool !b3]) (b:=w.heap.size) Tryz.results108 ?_ ?_ ?_ Tryz.underlying102 rfl Tryz.um ?_
 ·rfl
 ·rfl
 ·exact nO d0 d1 d2 _ _ _
 ·refine ⟨!b1,!b2,!b3,rfl,⟨us,xs,HE.out.1,by rw [Hg.out];exact HE.out.2,by rw [Hg.out,Bool.not_not];exact HV1.out,by rw [Hg.out,Bool.not_not];exact pQ.out,by rw [Hg.out,←pO.out];simp⟩,?_⟩
  exact ((dm.out.setCell (p:=⟨w.heap.size,0,none⟩) (Nat.le_refl _) _).setCell (p:=⟨w.heap.size,1,none⟩) (Nat.le_refl _) _).setCell (p:=⟨w.heap.size,2,none⟩) (Nat.le_refl _) _
theorem Dw {A B:List Nat} {x:Nat→Nat} (h:oI (A++B) x):oI A x:=fun i hi=>by
 rw [h i (by rw [List.length_append];omega),Lb hi]
theorem Ml {ns:List Nd} {A B:List Nat} {v u:Nat} (hab:∀ x∈A++B,x<8) (hv:iC ns A v) (hu:iC ns (A++B) u):(v=1→u=1)∧(v=2→u=2):=by
 have d1:=Df (fun x hx=>hab x (by simp [hx])) hv
 have d2:=Df hab hu
 exact ⟨fun h=>d2.1.2 fun x h1 h2=>d1.1.1 h x h1 (Dw h2),fun h=>d2.2.2 fun x h1 h2=>d1.2.1 h x h1 (Dw h2)⟩
def pre (x:Nat→Nat) (k:Nat):List Nat:=(List.range k).map x
theorem zK (x:Nat→Nat) (k:Nat):pre x (k+1)=pre x k++[x k]:=by simp [pre,List.range_succ]
theorem VJ {x:Nat→Nat} (h:dM x) (k:Nat):∀ y∈pre x k,y<8:=fun y hy=>by
 obtain ⟨i,_,rfl⟩:=List.mem_map.1 hy
 exact h i
def Hw (ns:List Nd) (vd:Nat) (hd:Bool):Prop:=∃ x,dM x∧(dz (fun i=>i+1) x ns (ns.length - 1) 0↔hd=true)∧∀ k,¬ iC ns (pre x k) vd
theorem aaf {g h:Nat→Bool} (k:geq g h=true):geq h g=true:=iN.2 fun j hj=>(iN.1 k j hj).symm
theorem BQ {g h i:Nat→Bool} (k:geq g h=true) (l:geq h i=true):geq g i=true:=iN.2 fun j hj=>(iN.1 k j hj).trans (iN.1 l j hj)
theorem aag {ns:List Nd} (h8:ns.length≤8) {aa g h:Nat→Bool} (k:geq g h=true) (l:Nat):geq (stepG ns aa g l) (stepG ns aa h l)=true:=iN.2 fun j hj=>by
 unfold stepG
 rw [iN.1 k _ (rJ h8 l j)]
theorem aae {aa g h:Nat→Bool} (k:geq g h=true):oJ aa g=oJ aa h:=by
 have e:∀ i,geq g i=geq h i:=fun i=>by
  rw [Bool.eq_iff_iff]
  exact ⟨fun a=>BQ (aaf k) a,fun a=>BQ k a⟩
 unfold oJ
 rw [e,e]
section
variable {ns:List Nd} {aa:Nat→Bool} {us:List (List Nat)} {xs:List Nat}
theorem qW (hg:Good ns) (hl:gW ns (aI ns ns.length) aa) (hE:eX ns aa (aB ns aa) us xs) (hx:xs.length=8*us.length) {x:Nat→Nat} (hL:dM x) {sp:Nat→Nat} (h0:sp 0=0) (hs:∀ t,sp (t+1)=aL xs (sp t) (x t)) :
  ∀ t,sp t<us.length∧geq (cZ ns aa (aB ns aa) (us.getD (sp t) [])) (cZ ns aa (aB ns aa) (pre x t))=true
 | 0=>by
  have hp:=(List.getElem?_eq_some_iff.1 hE.first).1
  rw [h0]
  refine ⟨hp,?_⟩
  have:us.getD 0 []=[]:=by simp [List.getD,hE.first]
  rw [this]
  exact iN.2 fun _ _=>rfl
 | t+1=>by
  obtain ⟨h1,h2⟩:=qW hg hl hE hx hL h0 hs t
  have h3:=hL t
  obtain ⟨u0,u1,e0,e1,hq⟩:=hE.ok (8*sp t+x t) (by omega)
  rw [show (8*sp t+x t) / 8=sp t by omega] at e0
  rw [show (8*sp t+x t) % 8=x t by omega] at hq
  have hn:aL xs (sp t) (x t)=xs.getD (8*sp t+x t) 0:=rfl
  rw [hs,hn]
  refine ⟨(List.getElem?_eq_some_iff.1 e1).1,?_⟩
  have a1:us.getD (xs.getD (8*sp t+x t) 0) []=u1:=by simp only [List.getD] at e1 ⊢;rw [e1];rfl
  have a0:us.getD (sp t) []=u0:=by simp [List.getD,e0]
  rw [a0] at h2
  rw [a1,zK,nR]
  exact BQ hq (aag hg.le h2 _)
theorem lJ (hg:Good ns) (hl:gW ns (aI ns ns.length) aa) (hE:eX ns aa (aB ns aa) us xs) (hx:xs.length=8*us.length) {x:Nat→Nat} (hL:dM x) {sp:Nat→Nat} (h0:sp 0=0) (hs:∀ t,sp (t+1)=aL xs (sp t) (x t)) (t:Nat) :
  iC ns (pre x t) (bQ ns aa (aB ns aa) us (sp t)):=by
 unfold bQ
 rw [aae (qW hg hl hE hx hL h0 hs t).2]
 exact mP hg hl (VJ hL t)
theorem Od {n:Nat} {tl:Nat→List (Nat × Nat)} {out:Nat→Nat} {nx:Nat→Nat→Nat} {vd:Nat} (h8:ns.length≤8) (hw:yO out nx vd n 0 tl) {y a:Nat}:Ew n ns tl y a↔a<n*256∧∃ i l,i<n∧l<8∧nx i l=a / 256∧out (a / 256)≠vd∧y=i*256+eT ns l (a % 256):=by
 unfold Ew
 constructor
 ·rintro ⟨ha,st,hs,rfl⟩
  obtain ⟨⟨h1,h2⟩,h3,h4⟩:=(hw.mem _ _).1 hs
  exact ⟨ha,st.1,st.2,by omega,h2,h3,h4,rfl⟩
 ·rintro ⟨ha,i,l,h1,h2,h3,h4,rfl⟩
  exact ⟨ha,(i,l),(hw.mem _ _).2 ⟨⟨by simp only;omega,h2⟩,h3,h4⟩,rfl⟩
theorem Km (hg:Good ns) (hl:gW ns (aI ns ns.length) aa) (hE:eX ns aa (aB ns aa) us xs) (hx:xs.length=8*us.length) {vd:Nat} (hv:vd=1∨vd=2) {hd b:Bool} (h:EvP ns (aI ns ns.length) (aB ns aa) (bQ ns aa (aB ns aa) us) (aL xs) us.length vd hd b):b=true↔Hw ns vd hd:=by
 have h8:=hg.le
 have hpos:=hg.pos
 obtain ⟨tl,hw,hb⟩:=h
 rw [hb]
 constructor
 ·rintro ⟨v,hv256,⟨q,hq0,hq,hm⟩,hbeg⟩
  have pt:∀ t,∃ l,l<8∧q (t+1) / 256=aL xs (q t / 256) l∧bQ ns aa (aB ns aa) us (q (t+1) / 256)≠vd∧q t % 256=eT ns l (q (t+1) % 256):=fun t=>by
   obtain ⟨_,i,l,h1,h2,h3,h4,h5⟩:=(Od h8 hw).1 (hq t)
   have hbl:=rJ h8 l (q (t+1) % 256)
   refine ⟨l,h2,?_,h4,?_⟩
   ·rw [←h3,h5,show (i*256+eT ns l (q (t+1) % 256)) / 256=i by omega]
   ·omega
  let x:Nat→Nat:=fun t=>Classical.choose (pt t)
  have hxs:∀ t,x t<8∧q (t+1) / 256=aL xs (q t / 256) (x t)∧bQ ns aa (aB ns aa) us (q (t+1) / 256)≠vd∧q t % 256=eT ns (x t) (q (t+1) % 256):=fun t=>Classical.choose_spec (pt t)
  have hL:dM x:=fun t=>(hxs t).1
  have hv0:q 0 % 256=v:=by rw [hq0];omega
  have lives:rV ns v:=by
   refine ⟨fun t=>q t % 256,hv0,fun t=>wN.2 ⟨Nat.mod_lt _ (by omega),x t,(hxs t).1,(hxs t).2.2.2⟩,nW fun c hc t=>?_⟩
   obtain ⟨t',h1,h2⟩:=nX hm c hc t
   refine ⟨t',h1,?_⟩
   obtain ⟨k,_,_,rfl⟩:=kr.1 hc
   unfold spread at h2 ⊢
   rw [Nat.mod_mod]
   exact h2
  have row:uC ns x (fun t=>tb (q t % 256)):=by
   refine ⟨fun t=>?_,fun k nd hn t=>?_⟩
   ·have:=jd hg (x t) (q (t+1) % 256)
    rw [←(hxs t).2.2.2] at this
    exact this
   ·obtain ⟨h1,h2,h3⟩:=lF hg.wf hn
    have hnd:ai ns k=nd:=by have:=jZ (ns:=ns) h1;rw [hn] at this;exact (Option.some.inj this).symm
    cases hww:ky nd.op with
    | false=>exact ⟨t,Nat.le_refl _,BC hww⟩
    | true=>
     obtain ⟨t',h4,h5⟩:=nX hm _ (kr.2 ⟨k,h1,by rw [hnd];exact hww,rfl⟩) t
     refine ⟨t',h4,?_⟩
     have hst:=jd hg (x t') (q (t'+1) % 256) k nd hn
     rw [←(hxs t').2.2.2] at hst
     rw [qL hst hww]
     simp only [spread,jm,hnd] at h5
     exact h5
  refine ⟨x,hL,?_,fun k hk=>?_⟩
  ·rw [←Af hg.wf row _ (by omega)]
   show (q 0 % 256).testBit (ns.length - 1)=true↔_
   rw [hv0]
   unfold aB at hbeg
   rw [(hl v).2 lives,Bool.true_and] at hbeg
   rw [hbeg]
  ·have sv:=lJ hg hl hE hx hL (sp:=fun t=>q t / 256) (by show q 0 / 256=0;rw [hq0];omega) (fun t=>(hxs t).2.1)
   cases k with
   | zero=>
    have h1:=sv 1
    have h2:=Ml (A:=pre x 0) (B:=[x 0]) (v:=vd) (fun y hy=>VJ hL 1 y (by rw [zK];exact hy)) hk (u:=bQ ns aa (aB ns aa) us (q 1 / 256)) (by rw [←zK];exact h1)
    rcases hv with rfl | rfl
    ·exact (hxs 0).2.2.1 (h2.1 rfl)
    ·exact (hxs 0).2.2.1 (h2.2 rfl)
   | succ k=>exact (hxs k).2.2.1 (jW (sv (k+1)) hk)
 ·rintro ⟨x,hL,hsem,hno⟩
  obtain ⟨S,hS,hR⟩:=mF hg.wf x
  let sp:Nat→Nat:=fun t=>Nat.rec 0 (fun t s=>aL xs s (x t)) t
  have s0:sp 0=0:=rfl
  have ss:∀ t,sp (t+1)=aL xs (sp t) (x t):=fun t=>rfl
  have stl:=qW hg hl hE hx hL s0 ss
  have sv:=lJ hg hl hE hx hL s0 ss
  have vl:∀ t,bY (S t) ns.length<256:=fun t=>qK _ _ h8
  have chn:chain ns [] (S 0):=⟨x,S,hL,hR,dh.refl _ _⟩
  have lives:=tO hg chn
  refine ⟨bY (S 0) ns.length,vl 0,⟨fun t=>sp t*256+bY (S t) ns.length,by simp [s0],fun t=>?_,nW fun c hc t=>?_⟩,?_⟩
  ·have v1:=vl (t+1)
   have d1:(sp (t+1)*256+bY (S (t+1)) ns.length) / 256=sp (t+1):=by omega
   have d2:(sp (t+1)*256+bY (S (t+1)) ns.length) % 256=bY (S (t+1)) ns.length:=by omega
   have hlt:=(stl (t+1)).1
   refine (Od h8 hw).2 ⟨by show sp (t+1)*256+bY (S (t+1)) ns.length<us.length*256;omega,sp t,x t,(stl t).1,hL t,by rw [d1,ss],?_,?_⟩
   ·rw [d1]
    intro e
    have:=sv (t+1)
    rw [e] at this
    exact hno _ this
   ·rw [d2,wQ hg (hR.step t) (iA hg _)]
  ·obtain ⟨k,h1,h2,rfl⟩:=kr.1 hc
   have hn:=jZ (ns:=ns) h1
   obtain ⟨_,h3,h4⟩:=lF hg.wf hn
   obtain ⟨t',h5,h6⟩:=hR.kept k _ hn t
   refine ⟨t',h5,?_⟩
   rw [qL (hR.step t' k _ hn) h2] at h6
   have e1:=iA hg (S t') k h1
   have hen:gF (ai ns k)<ns.length:=by unfold gF;split <;> omega
   have e2:=iA hg (S t') _ hen
   have v1:=vl t'
   have d2:(sp t'*256+bY (S t') ns.length) % 256=bY (S t') ns.length:=by omega
   simp only [tb] at e1 e2
   simp only [spread,jm,d2,e1,e2]
   exact h6
  ·unfold aB
   rw [(hl _).2 lives,Bool.true_and]
   have e1:(bY (S 0) ns.length).testBit (ns.length - 1)=S 0 (ns.length - 1):=iA hg (S 0) (ns.length - 1) (by omega)
   rw [e1,Bool.eq_iff_iff,hS,hsem]
end
structure Kind (ns:List Nd) (sf co lv:Bool):Prop where
 safe:sf=true↔¬ Hw ns 2 false
 Xy:co=true↔¬ Hw ns 1 true
 live:lv=true↔∀ u,(∀ x∈u,x<8)→¬ iC ns u 2
theorem ZQ {ns:List Nd} {a b c a' b' c':Bool} (h:Kind ns a b c) (k:Kind ns a' b' c'):a=a'∧b=b'∧c=c':=
 ⟨by rw [Bool.eq_iff_iff,h.safe,k.safe],by rw [Bool.eq_iff_iff,h.Xy,k.Xy],by rw [Bool.eq_iff_iff,h.live,k.live]⟩
theorem Jg {ns:List Nd} (hg:Good ns) {aa:Nat→Bool} {us:List (List Nat)} {xs:List Nat} (hl:gW ns (aI ns ns.length) aa) (hE:eX ns aa (aB ns aa) us xs) (hx:xs.length=8*us.length) {u:List Nat} (hu:∀ x∈u,x<8):∃ i,i<us.length∧iC ns u (bQ ns aa (aB ns aa) us i):=by
 let x:Nat→Nat:=fun i=>u.getD i 0
 have hL:dM x:=fun t=>by
  show u.getD t 0<8
  rw [List.getD]
  cases e:u[t]? with
  | none=>simp
  | some y=>exact hu y (List.mem_of_getElem? e)
 let sp:Nat→Nat:=fun t=>Nat.rec 0 (fun t s=>aL xs s (x t)) t
 have e:pre x u.length=u:=by
  unfold pre
  apply List.ext_getElem
  ·simp
  ·intro i h1 h2
   simp [x,List.getD,List.getElem?_eq_getElem h2]
 refine ⟨sp u.length,(qW hg hl hE hx hL (sp:=sp) rfl (fun t=>rfl) u.length).1,?_⟩
 have:=lJ hg hl hE hx hL (sp:=sp) rfl (fun t=>rfl) u.length
 rw [e] at this
 exact this
theorem Uq {ns:List Nd} (hg:Good ns) {aa:Nat→Bool} (hl:gW ns (aI ns ns.length) aa) {sf co lv:Bool} (h:YB ns aa (aB ns aa) (aI ns ns.length) sf co lv):Kind ns sf co lv:=by
 obtain ⟨us,xs,hE,hx,h1,h2,h3⟩:=h
 have e1:=Km hg hl hE hx (Or.inr rfl) h1
 have e2:=Km hg hl hE hx (Or.inl rfl) h2
 refine ⟨by rw [←e1];cases sf <;> simp,by rw [←e2];cases co <;> simp,?_⟩
 constructor
 ·intro hlv u hu hv
  obtain ⟨i,hi,h4⟩:=Jg hg hl hE hx hu
  have:=h3.2 ⟨i,hi,jW h4 hv⟩
  rw [hlv] at this
  cases this
 ·intro hall
  cases e:lv with
  | true=>rfl
  | false=>
   obtain ⟨i,hi,h4⟩:=h3.1 e
   exfalso
   have hm:us.getD i []∈us:=by simp [List.getD,List.getElem?_eq_getElem hi]
   refine hall _ (hE.wE _ hm) ?_
   have:=mP hg hl (hE.wE _ hm)
   unfold bQ at h4
   rw [h4] at this
   exact this
def lY (s:ByteArray) (w:World) (e:Ending) (w':World):Prop:=
 ∃ sf co lv:Bool,e=.returned (.tuple #[.agg #[.bool sf,.bool co,.bool lv],.int .i64 (af s).1])∧((af s).1=0→Kind (af s).2 sf co lv)∧((af s).1≠0→sf=false∧co=false∧lv=false)∧Below w.heap.size w w'
theorem df {fn:Func} {p q b:Nat} {ty:TypeId} {d:TypeDesc} {cs:List Value} {v:Value} {a:Act} {w:World} {R:Ending→World→Prop} (h:fn.results=#[.cell p ty,.tmp q]) (hd:a.defers=[]) (hp:a.tmps.getD p undef=.pointer (some ⟨b,0,none⟩)) (hq:a.tmps.getD q undef=v)
  (hg:w.rangeAt b 0 cs) (hu:Tryz.prog.underlying ty=some d) (hr:d.isRow=true) (hs:(Tryz.prog.info? ty).map (·.size)=some cs.length) (hR:R (.returned (.tuple #[.agg cs.toArray,v])) w):bodyPost Tryz.prog fn R .ret a w:=by
 refine bodyPost_ret (v:=.tuple #[.agg cs.toArray,v]) ?_ hd hR
 rw [results_cell_tmp h,hp,hq]
 simp only [asAddr,Sem.run_pure,Result.andThen_ok]
 rw [run_loadVar_mid w b 0 _ cs d hg hu hr hs]
 rfl
section
variable (s:ByteArray) (w:World)
theorem aay (hm:s.size≤maxLen) (h:(af s).1≠0):Calls Tryz.prog 59 #[.string s] w (lY s w):=by
 have C:=fun W=>jr s W hm
 unfold jP at C
 unfold lY
 generalize af s=p at *
 have k:((p.1:Int)!=0)=true:=by rw [bne_iff_ne];omega
 go_enter Tryz.func59,Tryz.ntmps59
 go_wp2_with fail
 refine (C _).mono ?_
 rintro e w1 ⟨ao,cap,rfl,_,hb⟩
 have hsz:w.heap.size<w1.heap.size:=by have:=hb.size;simp at this;omega
 simp only [World.size_alloc] at hb
 have d0:w1.cell? ⟨w.heap.size,0,none⟩=some (.bool false):=(hb.cell (p:=⟨w.heap.size,0,none⟩) (by show w.heap.size<w.heap.size+1;omega)).trans (by simp)
 have d1:w1.cell? ⟨w.heap.size,1,none⟩=some (.bool false):=(hb.cell (p:=⟨w.heap.size,1,none⟩) (by show w.heap.size<w.heap.size+1;omega)).trans (by simp)
 have d2:w1.cell? ⟨w.heap.size,2,none⟩=some (.bool false):=(hb.cell (p:=⟨w.heap.size,2,none⟩) (by show w.heap.size<w.heap.size+1;omega)).trans (by simp)
 have e0:w1.frozen? ⟨w.heap.size,0,none⟩=false:=(hb.frozen (p:=⟨w.heap.size,0,none⟩) (by show w.heap.size<w.heap.size+1;omega)).trans (by simp)
 have e1:w1.frozen? ⟨w.heap.size,1,none⟩=false:=(hb.frozen (p:=⟨w.heap.size,1,none⟩) (by show w.heap.size<w.heap.size+1;omega)).trans (by simp)
 have e2:w1.frozen? ⟨w.heap.size,2,none⟩=false:=(hb.frozen (p:=⟨w.heap.size,2,none⟩) (by show w.heap.size<w.heap.size+1;omega)).trans (by simp)
 have HB:=hid (((Below.refl w.heap.size w).alloc (Nat.le_refl _) (.cells #[.bool false,.bool false,.bool false] 102)).trans (hb.mono (by omega)))
 clear C hb
 go_wp2_with fail
 refine df (cs:=[.bool false,.bool false,.bool false]) (v:=.int .i64 (p.1:Nat)) (b:=w.heap.size) Tryz.results59 ?_ ?_ ?_ ?_ Tryz.underlying102 rfl Tryz.um ?_
 ·rfl
 ·rfl
 ·rfl
 ·exact nO d0 d1 d2 _ _ _
 ·exact ⟨false,false,false,rfl,fun h0=>absurd h0 h,fun _=>⟨rfl,rfl,rfl⟩,((HB.out.setCell (p:=⟨w.heap.size,0,none⟩) (Nat.le_refl _) _).setCell (p:=⟨w.heap.size,1,none⟩) (Nat.le_refl _) _).setCell (p:=⟨w.heap.size,2,none⟩) (Nat.le_refl _) _⟩
theorem XA (hm:s.size≤maxLen) (h:(af s).1=0):Calls Tryz.prog 59 #[.string s] w (lY s w):=by
 have C:=fun W=>jr s W hm
 unfold jP at C
 have G:=hid (fV h)
 have SG:=hid (xw h)
 unfold lY
 generalize af s=p at *
 obtain ⟨p1,ns⟩:=p
 dsimp only at *
 subst h
 have hpos:=G.out.pos
 obtain ⟨m1',hlen⟩:∃ m1',ns.length=m1'+1:=⟨ns.length - 1,by omega⟩
 have bg:=hid hlen
 rw [hlen] at C
 clear hlen hpos
 have qP:=hid Tryz.wC
 go_enter Tryz.func59,Tryz.ntmps59
 go_wp2_with fail
 refine (C _).mono ?_
 rintro e w1 ⟨ao,cap,rfl,own,hb⟩
 simp only [World.size_alloc] at hb
 obtain ⟨gn,rfl,_,hgn,_⟩:=pu own (by omega)
 have ND:=hid (FP own bg.out)
 have HB1:=hid hb
 clear C own hb
 go_wp2_with fail
 refine (zO gn m1' cap ns _ ND.out G.out bg.out).mono ?_
 rintro e w3 ⟨sl,aa,rfl,hlv,hcv,hon,hb3⟩
 have kK:=hid hlv
 have hs1:w.heap.size<w1.heap.size:=by have:=HB1.out.size;simp at this;omega
 have HB3:=hid (HB1.out.trans (hb3.mono (by omega)))
 have hs3:w.heap.size+1≤w3.heap.size:=by have:=hb3.size;omega
 have Pz:=hid (hcv.below ((Below.refl w3.heap.size w3).alloc (Nat.le_refl _) (.cells Tryz.zeroCells63 63)))
 clear hlv hb3 hcv ND HB1
 have hth:(w3.alloc (.cells Tryz.zeroCells63 63)).there w3.heap.size 0 2561:=by
  have:=kS w3 (bX (fun _=>0) (.slice none 0 0) (fun _=>false) (fun _=>false)) 2561 63
  rw [←qP.out] at this
  exact this.there 0 2561 (by omega)
 have Cv:=hid hth
 clear hth
 go_wp2_with (refine dE rfl 63 (.tmp 6) (.tmp 17) rfl w3.heap.size 2561 (bX (lS ns) sl aa (aB ns aa)) rfl rfl Cv.out Tryz.qz (sN _ _ _ hon) ?_)
 intro w4 S4
 have OM:=hid (CP S4.at_)
 have Cg:Below w3.heap.size w3 w4:=S4.aO _ _ (Nat.le_refl _) ((Below.refl _ _).alloc (Nat.le_refl _) _)
 have hcm:mO w4 w3.heap.size (aI ns ns.length):=by
  obtain ⟨aoc,cpc,rfl,h2⟩:=Pz.out
  refine ⟨aoc,cpc,Bp S4.at_,fun h0=>?_⟩
  obtain ⟨gc,h3,h4,h5⟩:=h2 h0
  have hne:gc≠w3.heap.size:=fun e=>by
   have c1:=(h5 0 _ (List.getElem?_eq_getElem h0)).c 0 (by omega)
   rw [e,Nat.zero_mul] at c1
   have c2:=kS w3 (bX (fun _=>0) (.slice none 0 0) (fun _=>false) (fun _=>false)) 2561 63
   rw [←qP.out] at c2
   have c3:=c2.c 0 (by omega)
   rw [Nat.zero_add] at c1
   rw [c1] at c3
   simp [bX] at c3
  refine ⟨gc,h3,by rw [S4.size];exact h4,fun k c hk=>⟨fun j hj=>?_,fun j hj=>?_⟩⟩
  ·rw [S4.cell ⟨gc,k*256+j,none⟩ hne];exact (h5 k c hk).c j hj
  ·rw [S4.fz];exact (h5 k c hk).f j hj
 have HCM:=hid hcm
 have dm:=hid (HB3.out.trans (Cg.mono hs3))
 have hcl:=pK ns ns.length
 have h8:=G.out.le
 clear S4 Cv HB3 hcm Cg Pz
 go_wp2_with fail
 refine (Tx w3.heap.size ns aa (aB ns aa) (aI ns ns.length) w4 h8 (fun us xs hE=>wL G.out SG.out kK.out hE) OM.out HCM.out (by omega)).mono ?_
 rintro e w5 ⟨sf,co,lv,rfl,hcp,hb5⟩
 have HK:=hid (Uq G.out kK.out hcp)
 have hs4:=dm.out.size
 simp only [World.size_alloc] at hs4
 have bb:=dm.out.trans (hb5.mono (by omega))
 have d0:w5.cell? ⟨w.heap.size,0,none⟩=some (.bool false):=(bb.cell (p:=⟨w.heap.size,0,none⟩) (by show w.heap.size<w.heap.size+1;omega)).trans (by simp)
 have d1:w5.cell? ⟨w.heap.size,1,none⟩=some (.bool false):=(bb.cell (p:=⟨w.heap.size,1,none⟩) (by show w.heap.size<w.heap.size+1;omega)).trans (by simp)
 have d2:w5.cell? ⟨w.heap.size,2,none⟩=some (.bool false):=(bb.cell (p:=⟨w.heap.size,2,none⟩) (by show w.heap.size<w.heap.size+1;omega)).trans (by simp)
 have e0:w5.frozen? ⟨w.heap.size,0,none⟩=false:=(bb.frozen (p:=⟨w.heap.size,0,none⟩) (by show w.heap.size<w.heap.size+1;omega)).trans (by simp)
 have e1:w5.frozen? ⟨w.heap.size,1,none⟩=false:=(bb.frozen (p:=⟨w.heap.size,1,none⟩) (by show w.heap.size<w.heap.size+1;omega)).trans (by simp)
 have e2:w5.frozen? ⟨w.heap.size,2,none⟩=false:=(bb.frozen (p:=⟨w.heap.size,2,none⟩) (by show w.heap.size<w.heap.size+1;omega)).trans (by simp)
 have dV:=hid (((Below.refl w.heap.size w).alloc (Nat.le_refl _) (.cells #[.bool false,.bool false,.bool false] 102)).trans (bb.mono (by omega)))
 clear hcp hb5 bb dm OM HCM
 go_wp2_with fail
 refine df (cs:=[.bool sf,.bool co,.bool lv]) (v:=.int .i64 (0:Nat)) (b:=w.heap.size) Tryz.results59 ?_ ?_ ?_ ?_ Tryz.underlying102 rfl Tryz.um ?_
 ·rfl
 ·rfl
 ·rfl
 ·exact nO d0 d1 d2 _ _ _
 ·exact ⟨sf,co,lv,rfl,fun _=>HK.out,fun h0=>absurd rfl h0,((dV.out.setCell (p:=⟨w.heap.size,0,none⟩) (Nat.le_refl _) _).setCell (p:=⟨w.heap.size,1,none⟩) (Nat.le_refl _) _).setCell (p:=⟨w.heap.size,2,none⟩) (Nat.le_refl _) _⟩
theorem XB (hm:s.size≤maxLen):Calls Tryz.prog 59 #[.string s] w (lY s w):=by
 by_cases h:(af s).1=0
 ·exact XA s w hm h
 ·exact aay s w hm h
end
end Go.Proofs.YtjagijohfkffiabGreat
