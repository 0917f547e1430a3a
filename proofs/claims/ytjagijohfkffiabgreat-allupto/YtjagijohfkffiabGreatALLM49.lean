import Derived.Test.YtjagijohfkffiabGreatALLM02
import Derived.Test.YtjagijohfkffiabGreatALLM07
import Derived.Test.YtjagijohfkffiabGreatALLM24
import Derived.Test.YtjagijohfkffiabGreatALLM45
set_option maxHeartbeats 16000000
set_option maxRecDepth 100000
namespace Go.Proofs.YtjagijohfkffiabGreat
open Go.RowKit
set_option linter.unusedVariables false
def Az (x:Nat):Value:=.agg #[.int .i64 (x / 256:Nat),.int .u8 (x % 256:Nat)]
structure vz (w:World) (ao:Option Addr) (cap:Nat) (ls:List (Nat × Nat)):Prop where
 le:ls.length≤cap
 max:cap≤9223372036854775807
 row:0<ls.length→∃ g,ao=some ⟨g,0,none⟩∧g<w.heap.size∧∀ (i:Nat) p,ls[i]?=some p→w.cell? ⟨g,i*3,none⟩=some (.int .i64 (p.1 / 256:Nat))∧w.cell? ⟨g,i*3+1,none⟩=some (.int .u8 (p.1 % 256:Nat))∧w.cell? ⟨g,i*3+2,none⟩=some (.int .i64 (p.2:Nat))
theorem vz.below {w w':World} {ao:Option Addr} {cap:Nat} {ls:List (Nat × Nat)} (h:vz w ao cap ls) (hb:Below w.heap.size w w'):vz w' ao cap ls:=by
 refine ⟨h.le,h.max,fun h0=>?_⟩
 obtain ⟨g,e,hg,hc⟩:=h.row h0
 refine ⟨g,e,Nat.lt_of_lt_of_le hg hb.size,fun i p hp=>?_⟩
 obtain ⟨h1,h2,h3⟩:=hc i p hp
 exact ⟨(hb.cell (p:=⟨g,i*3,none⟩) hg).trans h1,(hb.cell (p:=⟨g,i*3+1,none⟩) hg).trans h2,(hb.cell (p:=⟨g,i*3+2,none⟩) hg).trans h3⟩
theorem zP {w:World} {B:Nat} {v:Value} {ls:List (Nat × Nat)} (h:w.ownsRow B 221 3 v ls.length (iJ ls)):∃ ao cap,v=.slice ao ls.length cap∧vz w ao cap ls:=by
 rcases h.2 with ⟨rfl,h0⟩ | ⟨g,cap,cur,rfl,hb,hh,hc,hm,_⟩
 ·exact ⟨none,0,by rw [h0],by omega,by omega,fun h=>by omega⟩
 ·refine ⟨_,cap,rfl,hc,by unfold maxLen at hm;omega,fun _=>⟨g,rfl,(Array.getElem?_eq_some_iff.1 hh).1,fun i p hp=>?_⟩⟩
  have hi:=(List.getElem?_eq_some_iff.1 hp).1
  obtain ⟨k1,k2,k3⟩:=Ab hp
  exact ⟨(h.cellAt (i*3) (by omega)).trans k1,(h.cellAt (i*3+1) (by omega)).trans k2,(h.cellAt (i*3+2) (by omega)).trans k3⟩
structure O0 (w:World) (ao:Option Addr) (cap:Nat) (xs:List Nat):Prop where
 le:xs.length≤cap
 max:cap≤9223372036854775807
 row:0<xs.length→∃ g,ao=some ⟨g,0,none⟩∧g<w.heap.size∧∀ (i x:Nat),xs[i]?=some x→w.cell? ⟨g,i*2,none⟩=some (.int .i64 (x / 256:Nat))∧w.cell? ⟨g,i*2+1,none⟩=some (.int .u8 (x % 256:Nat))
theorem O0.below {w w':World} {ao:Option Addr} {cap:Nat} {xs:List Nat} (h:O0 w ao cap xs) (hb:Below w.heap.size w w'):O0 w' ao cap xs:=by
 refine ⟨h.le,h.max,fun h0=>?_⟩
 obtain ⟨g,e,hg,hc⟩:=h.row h0
 refine ⟨g,e,Nat.lt_of_lt_of_le hg hb.size,fun i x hx=>?_⟩
 obtain ⟨h1,h2⟩:=hc i x hx
 exact ⟨(hb.cell (p:=⟨g,i*2,none⟩) hg).trans h1,(hb.cell (p:=⟨g,i*2+1,none⟩) hg).trans h2⟩
theorem Mr {w:World} {B:Nat} {v:Value} {xs:List Nat} (h:w.ownsRow B 166 2 v xs.length (bM xs)):∃ ao cap,v=.slice ao xs.length cap∧O0 w ao cap xs:=by
 rcases h.2 with ⟨rfl,h0⟩ | ⟨g,cap,cur,rfl,hb,hh,hc,hm,_⟩
 ·exact ⟨none,0,by rw [h0],by omega,by omega,fun h=>by omega⟩
 ·refine ⟨_,cap,rfl,hc,by unfold maxLen at hm;omega,fun _=>⟨g,rfl,(Array.getElem?_eq_some_iff.1 hh).1,fun i x hx=>?_⟩⟩
  have hi:=(List.getElem?_eq_some_iff.1 hx).1
  obtain ⟨k1,k2⟩:=uX hx
  exact ⟨(h.cellAt (i*2) (by omega)).trans k1,(h.cellAt (i*2+1) (by omega)).trans k2⟩
theorem WJ (x g n cap:Nat) (f:Nat→Bool) (w:World) (hn:n≤17179869184) (hf:bC w g (n*256) f) (hg:g<w.heap.size) (hx:x<n*256) :
  Calls Tryz.prog 135 #[Az x,.slice (some ⟨g,0,none⟩) n cap] w fun e w'=>e=.returned (.bool (f x))∧Below w.heap.size w w':=by
 unfold Az
 have hx1:x / 256<n:=by omega
 have hx2:x % 256<256:=Nat.mod_lt _ (by omega)
 have ba:=(Below.refl w.heap.size w).alloc (Nat.le_refl _) (.cells #[.int .i64 (x / 256:Nat),.int .u8 (x % 256:Nat)] 166)
 have cf:(w.alloc (.cells #[.int .i64 (x / 256:Nat),.int .u8 (x % 256:Nat)] 166)).cell? ⟨g,x / 256*256+x % 256,none⟩=some (.bool (f x)):=by
  have:=(hf.below ba hg).c x hx
  rw [show x / 256*256+x % 256=x by omega]
  exact this
 have T0:=bF w (.int .i64 (x / 256:Nat)) (.int .u8 (x % 256:Nat)) 166
 have c0:=T0.c0
 have c1:=T0.c1
 have HB:=hid ba
 clear ba hf T0
 generalize f x=fv at *
 generalize x / 256=sp at *
 generalize x % 256=vw at *
 have i1:(0:Int)≤(sp:Int):=by omega
 have i2:(sp:Int)<(n:Int):=by omega
 have i3:(0:Int)≤(vw:Int):=by omega
 have i4:(vw:Int)<256:=by omega
 go_enter Tryz.func135,Tryz.ntmps135
 go_wp2_with fail
 go_quiet (fail)
 go_wp2_with fail
 go_ret
 exact ⟨rfl,below_drewN HB.out nq⟩
theorem xW (S x:Nat) (vf:Value) (ao:Option Addr) (cap gl:Nat) (ls:List (Nat × Nat)) (w:World) (hS:Three w S vf (.slice ao ls.length cap) (.int .i64 (gl:Nat))) (hl:vz w ao cap ls) (hle:ls.length≤1099511627776) (hgl:gl≤1099511627776) (hx:∃ i t:Nat,gl≤i∧ls[i]?=some (x,t)) :
  Calls Tryz.prog 134 #[.pointer (some ⟨S,0,none⟩),Az x] w fun e w'=>∃ i t:Nat,e=.returned (.int .i64 (i:Nat))∧gl≤i∧ls[i]?=some (x,t)∧Below w.heap.size w w':=by
 unfold Az
 obtain ⟨i0,t0,hgi,hi0⟩:=hx
 have ai7:=(List.getElem?_eq_some_iff.1 hi0).1
 obtain ⟨g,rfl,hg,hc⟩:=hl.row (by omega)
 have HC:=hid hc
 have HS:=hid hS
 have Nr:=hS.lt
 have HI0:=hid hi0
 have HXA:Hid (x / 256=x / 256∧x % 256=x % 256):=hid ⟨rfl,rfl⟩
 generalize hxa:x / 256=xa at *
 generalize hxb:x % 256=xb at *
 have Rq:=hid (And.intro hxa hxb)
 have amC:xb<256:=by omega
 clear hxa hxb HXA
 have ba:=hid ((Below.refl w.heap.size w).alloc (Nat.le_refl _) (.cells #[.int .i64 (xa:Nat),.int .u8 (xb:Nat)] 166))
 have T0:=hid (bF w (.int .i64 (xa:Nat)) (.int .u8 (xb:Nat)) 166)
 have S0:=hS.below ba.out Nr
 have s1:=S0.c1
 have s2:=S0.c2
 have hcap:=hl.le
 have hmax:=hl.max
 clear hc hS hl hi0 S0
 go_enter Tryz.func134,Tryz.ntmps134
 go_wp2_with fail
 generalize hW:(w.alloc (.cells #[.int .i64 (xa:Nat),.int .u8 (xb:Nat)] 166))=W at *
 have hWs:W.heap.size=w.heap.size+1:=by rw [←hW];simp
 clear hW s1 s2
 go_loopw [12] (fun k wq=>∃ i:Nat,i≤i0∧k=.int .i64 i∧Hid (Two wq w.heap.size (.int .i64 (xa:Nat)) (.int .u8 (xb:Nat)))∧Hid (Below w.heap.size w wq)∧w.heap.size<wq.heap.size) (fun k _=>ls.length - (intOf k).toNat)
 case atStart=>exact ⟨0,Nat.zero_le _,rfl,T0,ba,by omega⟩
 case round=>
  obtain ⟨i,hi,rfl,HT,HB,hsz⟩:=hrel
  rename World=>W0
  clear T0 ba
  obtain ⟨⟨y,t⟩,hp⟩:∃ p,ls[i]?=some p:=⟨ls[i]'(by omega),List.getElem?_eq_getElem (by omega)⟩
  obtain ⟨k0,k1,k2⟩:=HC.out i _ hp
  dsimp only at k0 k1 k2
  have Ya:Hid (y / 256=xa→y % 256=xb→y=x):=hid (fun h1 h2=>by have:=Rq.out.1;have:=Rq.out.2;omega)
  have X9:Hid (y=x→y / 256=xa∧y % 256=xb):=hid (fun h=>by rw [h];exact Rq.out)
  generalize y / 256=ya at *
  have hyb:y % 256<256:=Nat.mod_lt _ (by omega)
  generalize y % 256=yb at *
  have l0:=(HB.out.cell (p:=⟨g,i*3,none⟩) hg).trans k0
  have l1:=(HB.out.cell (p:=⟨g,i*3+1,none⟩) hg).trans k1
  have l2:=(HB.out.cell (p:=⟨g,i*3+2,none⟩) hg).trans k2
  have bb:=(Below.refl W0.heap.size W0).alloc (Nat.le_refl _) (.cells #[.int .i64 (ya:Nat),.int .u8 (yb:Nat),.int .i64 (t:Nat)] 221)
  have SB:=(HS.out.below HB.out Nr)
  have jD:=hid (HT.out.below bb hsz)
  have uO:=hid (HB.out.trans (bb.mono (by omega)))
  have SBB:=SB.below bb (by omega)
  have s1:=SBB.c1
  have s2:=SBB.c2
  have t0':=jD.out.c0
  have t1':=jD.out.c1
  have HP:=hid hp
  have i1:(i:Int)<(ls.length:Int):=by omega
  have i2:(0:Int)≤(i:Int):=by omega
  have fu:Hid (¬ (ya=xa∧yb=xb)→i≠i0):=hid (fun hn e=>by
   subst e
   have h9:=HI0.out
   rw [HP.out] at h9
   cases h9
   exact hn (X9.out rfl))
  clear k0 k1 k2 hp bb SB SBB
  by_cases hgi2:gl≤i
  ·have j1:(gl:Int)≤(i:Int):=by omega
   by_cases e1:ya=xa
   ·by_cases e2:yb=xb
    ·have hyx:=Ya.out e1 e2
     subst hyx
     subst e1
     subst e2
     have b1:((ya:Int)==(ya:Int))=true:=by simp
     have b2:((yb:Int)==(yb:Int))=true:=by simp
     clear Ya X9 fu
     go_wp2_with fail
     go_ret
     exact ⟨i,t,rfl,hgi2,HP.out,uO.out⟩
    ·have h9:=fu.out (fun h=>e2 h.2)
     subst e1
     have b1:((ya:Int)==(ya:Int))=true:=by simp
     have b2:((yb:Int)==(xb:Int))=false:=beq_eq_false_iff_ne.2 (by omega)
     clear Ya X9 fu
     go_wp2_with fail
     go_roundw
     case rel=>exact ⟨i+1,by omega,by go_num,jD,uO,by simp;omega⟩
     case measure=>simp [intOf] <;> omega
   ·have h9:=fu.out (fun h=>e1 h.1)
    have b1:((ya:Int)==(xa:Int))=false:=beq_eq_false_iff_ne.2 (by omega)
    clear Ya X9 fu
    go_wp2_with fail
    go_roundw
    case rel=>exact ⟨i+1,by omega,by go_num,jD,uO,by simp;omega⟩
    case measure=>simp [intOf] <;> omega
  ·have j1:decide ((gl:Int)≤(i:Int))=false:=by simp;omega
   have j1n:decide (gl≤i)=false:=by simp;omega
   clear Ya X9 fu
   go_wp2_with fail
   go_roundw
   case rel=>exact ⟨i+1,by omega,by go_num,jD,uO,by simp;omega⟩
   case measure=>simp [intOf] <;> omega
theorem Qh (S g2 n gcap:Nat) (f:Nat→Bool) (vf vg:Value) (ao:Option Addr) (cap:Nat) (ls:List (Nat × Nat)) (w:World) (hS:Three w S vf (.slice ao ls.length cap) vg) (hl:vz w ao cap ls) (hle:ls.length≤1099511627776) (hn:n≤17179869184) (hf:bC w g2 (n*256) f) (hg2:g2<w.heap.size) (hN:∀ p∈ls,p.1<n*256) (hx:∃ (i:Nat) (p:Nat × Nat),ls[i]?=some p∧f p.1=true) :
  Calls Tryz.prog 96 #[.pointer (some ⟨S,0,none⟩),.slice (some ⟨g2,0,none⟩) n gcap] w fun e w'=>∃ (i:Nat) (p:Nat × Nat),e=.returned (.int .i64 (i:Nat))∧ls[i]?=some p∧f p.1=true∧Below w.heap.size w w':=by
 obtain ⟨i0,p0,hi0,hfx⟩:=hx
 have ai7:=(List.getElem?_eq_some_iff.1 hi0).1
 obtain ⟨g,rfl,hg,hc⟩:=hl.row (by omega)
 have HC:=hid hc
 have Nr:=hS.lt
 have HI0:=hid hi0
 have HFX:=hid hfx
 have HN:=hid hN
 have HF:=hid hf
 have s1:=hS.c1
 have hcap:=hl.le
 have hmax:=hl.max
 clear hc hS hl hi0 hfx hN hf
 go_enter Tryz.func96,Tryz.ntmps96
 go_wp2_with fail
 go_loopw [12] (fun k wq=>∃ i:Nat,i≤i0∧k=.int .i64 i∧Hid (Below w.heap.size w wq)) (fun k _=>ls.length - (intOf k).toNat)
 case atStart=>exact ⟨0,Nat.zero_le _,rfl,hid (Below.refl _ _)⟩
 case round=>
  obtain ⟨i,hi,rfl,HB⟩:=hrel
  rename World=>W0
  obtain ⟨⟨y,t⟩,hp⟩:∃ p,ls[i]?=some p:=⟨ls[i]'(by omega),List.getElem?_eq_getElem (by omega)⟩
  obtain ⟨k0,k1,k2⟩:=HC.out i _ hp
  dsimp only at k0 k1 k2
  have IN:=fun W h1 h2=>WJ y g2 n gcap f W hn h1 h2 (HN.out _ (List.mem_of_getElem? hp))
  unfold Az at IN
  generalize y / 256=ya at *
  generalize y % 256=yb at *
  have l0:=(HB.out.cell (p:=⟨g,i*3,none⟩) hg).trans k0
  have l1:=(HB.out.cell (p:=⟨g,i*3+1,none⟩) hg).trans k1
  have l2:=(HB.out.cell (p:=⟨g,i*3+2,none⟩) hg).trans k2
  have bb:=(Below.refl W0.heap.size W0).alloc (Nat.le_refl _) (.cells #[.int .i64 (ya:Nat),.int .u8 (yb:Nat),.int .i64 (t:Nat)] 221)
  have hs0:=HB.out.size
  have uO:=hid (HB.out.trans (bb.mono hs0))
  have IN:=IN _ (HF.out.below uO.out hg2) (by simp;omega)
  have HIN:=hid IN
  have HP:=hid hp
  have i1:(i:Int)<(ls.length:Int):=by omega
  have i2:(0:Int)≤(i:Int):=by omega
  have hne:f y=false→i≠i0:=fun hfy e=>by
   subst e
   have h9:=HI0.out
   rw [HP.out] at h9
   cases h9
   rw [HFX.out] at hfy
   cases hfy
  have fu:=hid hne
  have HFY:=hid (show f y=f y from rfl)
  clear k0 k1 k2 hp bb IN hne
  go_wp2_with fail
  refine HIN.out.mono ?_
  rintro e w3 ⟨rfl,hb3⟩
  simp only [World.size_alloc] at hb3
  have HB3:=hid (uO.out.trans (hb3.mono (by omega)))
  cases hfy:f y with
  | true=>
   have Yq:=hid hfy
   clear hfy hb3
   go_wp2_with fail
   go_ret
   exact ⟨i,(y,t),rfl,HP.out,Yq.out,HB3.out⟩
  | false=>
   have h9:=fu.out hfy
   clear hfy hb3
   go_wp2_with fail
   go_roundw
   case rel=>exact ⟨i+1,by omega,by go_num,HB3⟩
   case measure=>simp [intOf] <;> omega
def qB (c:Nat→Bool) (xs:List Nat):Bool:=xs.any fun x=>c (x % 256)
theorem VY (ao:Option Addr) (cap:Nat) (xs:List Nat) (c:Nat→Bool) (w:World) (hl:O0 w ao cap xs) (hle:xs.length≤1099511627776) :
  Calls Tryz.prog 136 #[.slice ao xs.length cap,.agg (gv c).toArray] w fun e w'=>e=.returned (.bool (qB c xs))∧Below w.heap.size w w':=by
 have HL:=hid hl
 have hcap:=hl.le
 have hmax:=hl.max
 clear hl
 have G0:=hid (sS w c 61)
 have ba:=hid ((Below.refl w.heap.size w).alloc (Nat.le_refl _) (.cells (gv c).toArray 61))
 go_enter Tryz.func136,Tryz.ntmps136
 go_wp2_with fail
 generalize hW:(w.alloc (.cells (gv c).toArray 61))=W at *
 have hWs:W.heap.size=w.heap.size+1:=by rw [←hW];simp
 clear hW
 go_loopw [9] (fun k wq=>∃ i:Nat,i≤xs.length∧k=.int .i64 i∧Hid (∀ j x,j<i→xs[j]?=some x→c (x % 256)=false)∧Hid (aN wq w.heap.size 0 c)∧Hid (Below w.heap.size w wq)∧w.heap.size<wq.heap.size) (fun k _=>xs.length - (intOf k).toNat)
 case atStart=>exact ⟨0,Nat.zero_le _,rfl,hid (fun j x hj=>by omega),G0,ba,by omega⟩
 case round=>
  obtain ⟨i,hi,rfl,HN,HG,HB,hsz⟩:=hrel
  rename World=>W0
  clear G0 ba
  by_cases hli:i<xs.length
  ·obtain ⟨x,hx⟩:∃ x,xs[i]?=some x:=⟨xs[i],List.getElem?_eq_getElem hli⟩
   obtain ⟨g,e,hg,hc⟩:=HL.out.row (by omega)
   subst e
   obtain ⟨k0,k1⟩:=hc i x hx
   have vx:x % 256<256:=Nat.mod_lt _ (by omega)
   have HME:Hid (c (x % 256)=true→qB c xs=true):=hid (fun hcx=>by
    unfold qB
    rw [List.any_eq_true]
    exact ⟨x,List.mem_of_getElem? hx,hcx⟩)
   have HMN:Hid (c (x % 256)=false→∀ j y,j<i+1→xs[j]?=some y→c (y % 256)=false):=hid (fun hcx j y hj hy=>by
    by_cases e:j=i
    ·subst e
     rw [hx] at hy
     cases hy
     exact hcx
    ·exact HN.out j y (by omega) hy)
   generalize x / 256=xa at *
   generalize x % 256=xb at *
   have l0:=(HB.out.cell (p:=⟨g,i*2,none⟩) hg).trans k0
   have l1:=(HB.out.cell (p:=⟨g,i*2+1,none⟩) hg).trans k1
   have bb:=(Below.refl W0.heap.size W0).alloc (Nat.le_refl _) (.cells #[.int .i64 (xa:Nat),.int .u8 (xb:Nat)] 166)
   have xP:=hid (HG.out.below bb hsz)
   have uO:=hid (HB.out.trans (bb.mono (by omega)))
   have cx:(W0.alloc (.cells #[.int .i64 (xa:Nat),.int .u8 (xb:Nat)] 166)).cell? ⟨w.heap.size,xb,none⟩=some (.bool (c xb)):=by
    have:=xP.out.c xb vx
    rwa [Nat.zero_add] at this
   have i1:(i:Int)<(xs.length:Int):=by omega
   have i2:(0:Int)≤(i:Int):=by omega
   have i3:(xb:Int)<256:=by omega
   have i4:(0:Int)≤(xb:Int):=by omega
   clear k0 k1 hc hx bb
   cases hcx:c xb with
   | true=>
    have HE:=hid (HME.out hcx)
    rw [hcx] at cx
    clear hcx
    go_wp2_with fail
    go_ret
    exact ⟨by rw [HE.out];rfl,uO.out⟩
   | false=>
    have uM:=hid (HMN.out hcx)
    rw [hcx] at cx
    clear hcx
    go_wp2_with fail
    go_roundw
    case rel=>exact ⟨i+1,by omega,by go_num,uM,xP,uO,by simp;omega⟩
    case measure=>simp [intOf] <;> omega
  ·obtain rfl:i=xs.length:=by omega
   have HE:Hid (qB c xs=false):=hid (by
    unfold qB
    rw [List.any_eq_false]
    intro x hx
    obtain ⟨j,hj,e⟩:=List.getElem_of_mem hx
    rw [HN.out j x hj (by rw [List.getElem?_eq_getElem hj,e])]
    simp)
   go_wp2_with fail
   go_ret
   exact ⟨by rw [HE.out];rfl,HB.out⟩
theorem Jq (ao:Option Addr) (cap:Nat) (xs:List Nat) (w:World) (hl:O0 w ao cap xs) (hle:xs.length≤1099511627776) :
  Calls Tryz.prog 98 #[.slice ao xs.length cap] w fun e w'=>∃ v,e=.returned v∧w'.ownsRow w.heap.size 3 1 v xs.length (bD (xs.map (· / 256)))∧Below w.heap.size w w':=by
 have HL:=hid hl
 have hcap:=hl.le
 have hmax:=hl.max
 obtain ⟨i1,hi1,hz01,hz11,hz21⟩:=info_parts Tryz.qE
 clear hl
 go_enter Tryz.func98,Tryz.ntmps98
 go_wp2_with fail
 go_loopw [3,8] (fun v k wq=>∃ i:Nat,i≤xs.length∧k=.int .i64 i∧Hid (wq.ownsRow w.heap.size 3 1 v i (bD ((xs.take i).map (· / 256))))∧Hid (Below w.heap.size w wq)) (fun _ k _=>xs.length - (intOf k).toNat)
 case atStart=>exact ⟨0,Nat.zero_le _,rfl,hid (World.ownsRow_nil _ _ _ _),hid (Below.refl _ _)⟩
 case round=>
  obtain ⟨i,hi,rfl,HO,HB⟩:=hrel
  rename World=>W0
  obtain ⟨aoT,cpT,rfl⟩:=ag HO.out
  by_cases hli:i<xs.length
  ·obtain ⟨x,hx⟩:∃ x,xs[i]?=some x:=⟨xs[i],List.getElem?_eq_getElem hli⟩
   obtain ⟨g,e,hg,hc⟩:=HL.out.row (by omega)
   subst e
   obtain ⟨k0,k1⟩:=hc i x hx
   have hs0:=HB.out.size
   have DI:Hid (bD ((xs.take (i+1)).map (· / 256))=bD ((xs.take i).map (· / 256))++[.int .i64 (x / 256:Nat)]):=hid (by
    rw [List.take_add_one,hx]
    simp [bD])
   have jD:=hid (fun q h=>(HO.out.lt q h).1)
   generalize x / 256=xa at *
   generalize x % 256=xb at *
   have l0:=(HB.out.cell (p:=⟨g,i*2,none⟩) hg).trans k0
   have l1:=(HB.out.cell (p:=⟨g,i*2+1,none⟩) hg).trans k1
   clear k0 k1 hc hx
   go_wp2_with (at_builtin;go_must (refine wpList_append_lies _ rfl (.tmp 12) (.tmp 15) 22 rfl w.heap.size 3 i1 (.int .i64 0) 1 8 Tryz.underlying22 hi1 hz01 hz11 hz21 rfl (by decide) _ i _ rfl ((HO.out.alloc _).alloc _) ⟨W0.heap.size+1,0,none⟩ 1 1 [.int .i64 (xa:Nat)] rfl rfl (by simpa using uo (W0.alloc (.cells #[.int .i64 (xa:Nat),.int .u8 (xb:Nat)] 166)) [.int .i64 (xa:Nat)] 3) (by intro y hy;simp at hy;rcases hy with rfl;rfl) (by decide) (by unfold maxLen;omega) (by omega) (by simp;omega) (W0.heap.size+2) (by simp) ?_))
   intro gg cc w7 hown hgrow hat hlt7
   have D1:Hid (w7.ownsRow w.heap.size 3 1 (.slice (some ⟨gg,0,none⟩) (i+1) cc) (i+1) (bD ((xs.take (i+1)).map (· / 256)))):=hid (by rw [DI.out,List.map_take];exact hown)
   have D2:=hid ((((HB.out.alloc HB.out.size (.cells #[.int .i64 (xa:Nat),.int .u8 (xb:Nat)] 166)).alloc (by simp;omega) (.cells #[.int .i64 (xa:Nat)] 3))).grown hgrow (by simp;omega) (fun q h=>jD.out q h))
   clear hown hgrow hat
   go_wp2_with fail
   go_roundw
   case rel=>exact ⟨i+1,by omega,by go_num,D1,D2⟩
   case measure=>simp [intOf] <;> omega
  ·obtain rfl:i=xs.length:=by omega
   have HT:Hid (W0.ownsRow w.heap.size 3 1 (.slice aoT xs.length cpT) xs.length (bD (xs.map (· / 256)))):=hid (by have:=HO.out;rwa [List.take_length] at this)
   go_wp2_with fail
   go_ret
   exact ⟨_,rfl,HT.out,HB.out⟩
end Go.Proofs.YtjagijohfkffiabGreat
