import Derived.Test.YtjagijohfkffiabGreatALLM03
import Derived.Test.YtjagijohfkffiabGreatALLM08
import Derived.Test.YtjagijohfkffiabGreatALLM25
import Derived.Test.YtjagijohfkffiabGreatALLM26
import Derived.Test.YtjagijohfkffiabGreatALLM31
import Derived.Test.YtjagijohfkffiabGreatALLM32
import Derived.Test.YtjagijohfkffiabGreatALLM42
import Derived.ProofKit
import Derived.OpenShut
import Derived.ShutString
import Derived.ChangeOld
import Derived.Deep.RegionHeld3
set_option maxHeartbeats 16000000
set_option maxRecDepth 100000
namespace Go.Proofs.YtjagijohfkffiabGreat
open Go.RowKit
set_option linter.unusedVariables false
theorem Jr (R F gp cap P:Nat) (ns:List Nd) (bs vs:List Nat) (aa:Nat→Bool) (us:List (List Nat)) (xs:List Nat) (hd:Bool) (vd:Nat) (w:World) (h:p9 w R F gp cap ns bs vs) (hf:xR w P us.length (bQ ns aa (aB ns aa) us) (jY xs)) (hg:Good ns) (hM:vs.length≤256) (hl:gW ns (aI ns ns.length) aa) (hL:eQ ns vs.length (aJ vs))
  (hE:eX ns aa (aB ns aa) us xs) (hx:xs.length=8*us.length) (hK:us.length≤796594185) :
  Calls Tryz.prog 109 #[.pointer (some ⟨R,0,none⟩),.pointer (some ⟨P,0,none⟩),.bool hd,.int .i64 (vd:Nat)] w fun e w'=>∃ b:Bool,e=.returned (.bool b)∧(b=true↔Hw ns vd hd)∧Below w.heap.size w w':=by
 have hM0:=M6 hg hL
 have qG:0<us.length:=(List.getElem?_eq_some_iff.1 hE.first).1
 have hc:=vI hE hx
 have hpr:=Sn ns vs (bQ ns aa (aB ns aa) us) (aL xs) vd hc
 have h8:=hg.le
 have hN:us.length*vs.length≤274877906944:=Nat.le_trans (Nat.mul_le_mul hK hM) (by omega)
 refine (Vg R F gp cap P us.length ns bs vs _ xs hd vd w h hf hg hM hM0 qG hK hc (fun W P' hn=>?_)).mono ?_
 ·exact yj Ee P' _ ns.length _ _ W hn (Nat.mul_pos qG hM0) (fun a ha b hb=>Il hpr ha hb)
   (fun a ha=>Nat.le_trans (vY ns vs _ _ vd _ _ 8) (Nat.le_trans (Nat.mul_le_mul_left 8 hM) (by omega))) (fun a ha j=>Fh ns vs _ _ vd _ _ j 8) hN (by omega)
 ·rintro e w' ⟨b,good,rfl,hb,hgd,hbl⟩
  refine ⟨b,rfl,?_,hbl⟩
  rw [hb,←P6 hg hl hE hx vd hd,←zJ hg hL hpr hgd qG hd]
  simp only [Nat.zero_mul,Nat.zero_add]
section
variable (s:ByteArray) (w:World)
theorem VF (hm:s.size≤maxLen) (h:(af s).1≠0):Calls Tryz.prog 60 #[.string s] w (lY s w):=by
 have C:=fun W=>dK s W hm
 unfold bU at C
 unfold lY
 generalize af s=p at *
 have k:((p.1:Int)!=0)=true:=by rw [bne_iff_ne];omega
 go_enter Tryz.func60,Tryz.ntmps60
 go_wp2_with fail
 refine (C _).mono ?_
 rintro e w1 ⟨hb,⟨_,rfl⟩ | ⟨h0,_⟩⟩
 ·simp only [World.size_alloc] at hb
  have T1:=(bK w (.bool false) (.bool false) (.bool false) 102).below hb (by omega)
  have d0:=T1.c0
  have d1:=T1.c1
  have d2:=T1.c2
  have e0:=T1.fz 0 (by omega)
  have e1:=T1.fz 1 (by omega)
  have e2:=T1.fz 2 (by omega)
  have HB:=hid (((Below.refl w.heap.size w).alloc (Nat.le_refl _) (.cells #[.bool false,.bool false,.bool false] 102)).trans (hb.mono (by omega)))
  clear C hb T1
  go_wp2_with fail
  refine df (cs:=[.bool false,.bool false,.bool false]) (v:=.int .i64 (p.1:Nat)) (b:=w.heap.size) Tryz.results60 ?_ ?_ ?_ ?_ Tryz.underlying102 rfl Tryz.um ?_
  ·rfl
  ·rfl
  ·rfl
  ·exact nO d0 d1 d2 _ _ _
  ·exact ⟨false,false,false,rfl,fun h0=>absurd h0 h,fun _=>⟨rfl,rfl,rfl⟩,((HB.out.setCell (p:=⟨w.heap.size,0,none⟩) (Nat.le_refl _) _).setCell (p:=⟨w.heap.size,1,none⟩) (Nat.le_refl _) _).setCell (p:=⟨w.heap.size,2,none⟩) (Nat.le_refl _) _⟩
 ·exact absurd h0 h
theorem Ti (hm:s.size≤maxLen) (h:(af s).1=0):Calls Tryz.prog 60 #[.string s] w (lY s w):=by
 have C:=fun W=>dK s W hm
 unfold bU at C
 have G:=hid (fV h)
 have SG:=hid (xw h)
 unfold lY
 generalize af s=p at *
 obtain ⟨p1,ns⟩:=p
 dsimp only at *
 subst h
 obtain ⟨aa,hlv⟩:=Wj ns (aI ns ns.length)
 have kK:=hid hlv
 have oF:=hid (fun us xs (h:eX ns aa (aB ns aa) us xs)=>wL G.out SG.out hlv h)
 clear hlv
 go_enter Tryz.func60,Tryz.ntmps60
 go_wp2_with fail
 refine (C _).mono ?_
 rintro e w1 ⟨hb,⟨h0,_⟩ | ⟨_,bs,rfl,hf⟩⟩
 ·exact absurd rfl h0
 simp only [World.size_alloc] at hb hf
 have T1:=hid ((bK w (.bool false) (.bool false) (.bool false) 102).below hb (by omega))
 have HB1:=hid (((Below.refl w.heap.size w).alloc (Nat.le_refl _) (.cells #[.bool false,.bool false,.bool false] 102)).trans (hb.mono (by omega)))
 have hs1:=hb.size
 simp only [World.size_alloc] at hs1
 obtain ⟨gp,cap,hfr⟩:=LB hf G.out.pos
 have RW:=hid (zF _ gp cap ns bs w1 hfr G.out)
 clear C hb hf hfr
 go_wp2_with fail
 refine RW.out.mono ?_
 rintro e w3 ⟨R,vs,rfl,hRM,hLS,hM,hb3⟩
 have DL:=hid hRM
 have Cy:=hid hLS
 have HB3:=hid (HB1.out.trans (hb3.mono (by omega)))
 have T3:=hid (T1.out.below hb3 (by omega))
 have hs3:=hb3.size
 clear hRM hLS hb3 RW HB1 T1
 go_wp2_with fail
 refine (Nz R _ gp cap ns bs vs aa w3 DL.out G.out hM kK.out Cy.out oF.out).mono ?_
 rintro e w4 ⟨us,xs,rfl,hE,hx,hFR,hb4⟩
 have HE:=hid hE
 have HX:=hid hx
 have hK:=oF.out us xs hE
 have wW:=hid hFR
 have aaT:=hid (DL.out.below hb4)
 have dm:=hid (HB3.out.trans (hb4.mono (by omega)))
 have T4:=hid (T3.out.below hb4 (by omega))
 have hs4:=hb4.size
 have hP:=hFR.lt
 clear hE hx hFR hb4 DL HB3 T3
 go_wp2_with fail
 refine (Jr R _ gp cap w3.heap.size ns bs vs aa us xs false 2 w4 aaT.out wW.out G.out hM kK.out Cy.out HE.out HX.out hK).mono ?_
 rintro e w5 ⟨b1,rfl,hb1,hb5⟩
 have HV1:=hid hb1
 have Cz:=hid (wW.out.below hb5)
 have afy:=hid (aaT.out.below hb5)
 have dV:=hid (dm.out.trans (hb5.mono (by omega)))
 have T5:=hid (T4.out.below hb5 (by omega))
 have hs5:=hb5.size
 clear hb1 hb5 wW aaT dm T4
 go_wp2_with fail
 refine (Jr R _ gp cap w3.heap.size ns bs vs aa us xs true 1 w5 afy.out Cz.out G.out hM kK.out Cy.out HE.out HX.out hK).mono ?_
 rintro e w6 ⟨b2,rfl,hb2,hb6⟩
 have pQ:=hid hb2
 have af8:=hid (Cz.out.below hb6)
 have iQ:=hid (dV.out.trans (hb6.mono (by omega)))
 have T6:=hid (T5.out.below hb6 (by omega))
 have hs6:=hb6.size
 clear hb2 hb6 Cz afy dV T5
 have TC:=hid (bK w6 (.bool !b1) (.bool !b2) (.bool true) 102)
 have b7:=(Below.refl w6.heap.size w6).alloc (Nat.le_refl _) (.cells #[.bool !b1,.bool !b2,.bool true] 102)
 obtain ⟨vO,f1,aoO,capO,rfl,hocap,horow⟩:=af8.out.c1
 have hol:((List.range us.length).map (bQ ns aa (aB ns aa) us)).length=us.length:=by simp
 rw [hol] at f1 hocap horow
 have LD:=hid horow
 have wX:=hid f1
 have UB:Hid (∀ i,i<us.length→bG ((List.range us.length).map (bQ ns aa (aB ns aa) us)) i=bQ ns aa (aB ns aa) us i):=hid (fun i hi=>by simp [bG,List.getD,hi])
 have hPl:w3.heap.size<w6.heap.size:=by omega
 have B70:=hid b7
 clear b7 af8 horow f1
 go_wp2_with fail
 go_loopw [11] (fun i wq=>∃ (k:Nat) (lv:Bool),k≤us.length∧i=.int .i64 k∧Hid (lv=true↔∀ j,j<k→bQ ns aa (aB ns aa) us j≠2)∧Hid (Three wq w6.heap.size (.bool !b1) (.bool !b2) (.bool lv))∧Hid (Below w6.heap.size w6 wq)) (fun i _=>us.length - (intOf i).toNat)
 case atStart=>exact ⟨0,true,Nat.zero_le _,rfl,hid ⟨fun _ j h=>by omega,fun _=>rfl⟩,TC,B70⟩
 case round=>
  obtain ⟨k,lv,hk,rfl,HL,HT,HB⟩:=hrel
  rename World=>W0
  clear TC B70
  have p1:=(HB.out.cell (p:=⟨w3.heap.size,1,none⟩) hPl).trans wX.out
  by_cases hlk:k<us.length
  ·obtain ⟨gO,e,hgO,hoc⟩:=LD.out (by omega)
   subst e
   have ok:W0.cell? ⟨gO,k,none⟩=some (.int .i64 (bQ ns aa (aB ns aa) us k:Nat)):=(HB.out.cell (p:=⟨gO,k,none⟩) hgO).trans (by have h9:=hoc k hlk;rw [UB.out k hlk] at h9;exact h9)
   have hW6:=HT.out.lt
   clear hoc
   by_cases ho:bQ ns aa (aB ns aa) us k=2
   ·have HL2:Hid (false=true↔∀ j,j<k+1→bQ ns aa (aB ns aa) us j≠2):=hid ⟨fun h=>(by cases h),fun h=>absurd ho (h k (by omega))⟩
    rw [ho] at ok
    have q2:=HT.out.c2
    have z2:=HT.out.fz 2 (by omega)
    have D1:=hid (HT.out.set2 (.bool false))
    have D2:=hid (HB.out.setCell (p:=⟨w6.heap.size,2,none⟩) (Nat.le_refl _) (.bool false))
    clear ho
    go_wp2_with fail
    go_roundw
    case rel=>exact ⟨k+1,false,by omega,by go_num,HL2,D1,D2⟩
    case measure=>simp [intOf];omega
   ·have HL2:Hid (lv=true↔∀ j,j<k+1→bQ ns aa (aB ns aa) us j≠2):=hid ⟨fun h j hj=>by
      by_cases c:j=k
      ·subst c;exact ho
      ·exact HL.out.1 h j (by omega),fun h=>HL.out.2 fun j hj=>h j (by omega)⟩
    have ho1:¬ ((bQ ns aa (aB ns aa) us k:Int)=2):=by omega
    clear ho
    go_wp2_with fail
    go_roundw
    case rel=>exact ⟨k+1,lv,by omega,by go_num,HL2,HT,HB⟩
    case measure=>simp [intOf];omega
  ·obtain rfl:k=us.length:=by omega
   have KD:=hid (show Kind ns (!b1) (!b2) lv from ⟨by rw [←HV1.out];simp,by rw [←pQ.out];simp,by rw [HL.out];exact WX G.out kK.out HE.out HX.out⟩)
   have TF:=hid (T6.out.below HB.out (by omega))
   have Hu:=hid (iQ.out.trans (HB.out.mono (by omega)))
   have d0:=TF.out.c0
   have d1:=TF.out.c1
   have d2:=TF.out.c2
   have e0:=TF.out.fz 0 (by omega)
   have e1:=TF.out.fz 1 (by omega)
   have e2:=TF.out.fz 2 (by omega)
   have g0:=HT.out.c0
   have g1:=HT.out.c1
   have g2:=HT.out.c2
   go_wp2_with fail
   refine df (cs:=[.bool !b1,.bool !b2,.bool lv]) (v:=.int .i64 0) (b:=w.heap.size) Tryz.results60 ?_ ?_ ?_ ?_ Tryz.underlying102 rfl Tryz.um ?_
   ·rfl
   ·rfl
   ·rfl
   ·exact nO d0 d1 d2 _ _ _
   ·exact ⟨!b1,!b2,lv,rfl,fun _=>KD.out,fun h=>absurd rfl h,((Hu.out.setCell (p:=⟨w.heap.size,0,none⟩) (Nat.le_refl _) _).setCell (p:=⟨w.heap.size,1,none⟩) (Nat.le_refl _) _).setCell (p:=⟨w.heap.size,2,none⟩) (Nat.le_refl _) _⟩
theorem Tj (hm:s.size≤maxLen):Calls Tryz.prog 60 #[.string s] w (lY s w):=by
 by_cases h:(af s).1=0
 ·exact Ti s w hm h
 ·exact VF s w hm h
end
end Go.Proofs.YtjagijohfkffiabGreat
namespace Go.Proofs.YtjagijohfkffiabGreat.classes
open Go.ChangeShapes Go.WideShapes Go.ChangeAt Go.RowKit
open Go.ChangeMaps (open_string shut_string)
set_option linter.unusedVariables false
theorem Qm (a0:ByteArray) (w0:a0.size≤maxLen) (w:World) :
  Calls Tryz.prog 29 #[.string a0] w fun e w'=>e=.returned (.bool true)∧Below w.heap.size w w':=by
 have C1:=XB a0 w w0
 have C2:=fun W=>Tj a0 W w0
 unfold lY at C1 C2
 generalize af a0=p at *
 go_enter Tryz.func29,Tryz.ntmps29
 go_wp2_with fail
 refine C1.mono ?_
 rintro e w1 ⟨s1,c1,l1,rfl,p1,q1,hb1⟩
 go_wp2_with fail
 refine (C2 _).mono ?_
 rintro e w2 ⟨s2,c2,l2,rfl,p2,q2,hb2⟩
 obtain ⟨rfl,rfl,rfl⟩:s1=s2∧c1=c2∧l1=l2:=by
  by_cases h0:p.1=0
  ·exact ZQ (p1 h0) (p2 h0)
  ·obtain ⟨rfl,rfl,rfl⟩:=q1 h0
   obtain ⟨rfl,rfl,rfl⟩:=q2 h0
   exact ⟨rfl,rfl,rfl⟩
 have B:=hid ((hb1.alloc hb1.size _).trans (hb2.mono (by have:=hb1.size;simp;omega)))
 have T1:=(bK w1 (.bool s1) (.bool c1) (.bool l1) 102).below hb2 (by simp)
 have t0:=T1.c0
 have t1:=T1.c1
 have t2:=T1.c2
 have tl:=T1.lt
 clear C1 C2 hb1 hb2 p1 p2 q1 q2 T1
 go_wp2
 go_ret
 first | exact ⟨rfl,B.out⟩ | exact ⟨rfl,B.out.alloc B.out.size _⟩
end Go.Proofs.YtjagijohfkffiabGreat.classes
namespace Go.Proofs.YtjagijohfkffiabGreat
open Go.RowKit
set_option linter.unusedVariables false
def mW (zs:List Int) (j:Nat):Bool:=zs.any fun z=>z==(j:Int)
def eH (n:Nat) (zs:List Int):Bool:=zs.all fun z=>decide (0≤z)&&decide (z<(n:Int))
theorem nV {n:Nat} {zs:List Int}:eH n zs=true↔∀ z∈zs,0≤z∧z<(n:Int):=by simp [eH,List.all_eq_true]
theorem vG {zs:List Int} {j:Nat}:mW zs j=true↔(j:Int)∈zs:=by
 unfold mW
 rw [List.any_eq_true]
 constructor
 ·rintro ⟨z,h1,h2⟩
  have:z=(j:Int):=by simpa using h2
  rw [←this];exact h1
 ·intro h
  exact ⟨_,h,by simp⟩
theorem ZZ {zs:List Int} {k:Nat} {z:Int} (h:zs[k]?=some z) (j:Nat):mW (zs.take (k+1)) j=(mW (zs.take k) j||z==(j:Int)):=by
 unfold mW
 rw [List.take_add_one,h]
 simp
def six (e:Nat→Bool):Array Value:=#[.bool (e 0),.bool (e 1),.bool (e 2),.bool (e 3),.bool (e 4),.bool (e 5)]
theorem Tryz.kw:(Tryz.prog.info? 151).map (·.size)=some 6:=by kernel_rfl
theorem yD (e:Nat→Bool):One (fun i=>Value.bool (e i)) 6:=fun i _=>rfl
def lZ (n:Nat) (zs:List Int) (w:World) (e:Ending) (w':World):Prop:=
 ∃ f,e=.returned (.tuple #[.agg (six f),.bool (eH n zs)])∧(eH n zs=true→∀ j,j<6→f j=mW zs j)∧Below w.heap.size w w'
theorem Cm (a:Option Addr) (l c n:Nat) (zs:List Int) (w:World) (h:Ints w a l c zs) (hn:n≤6) :
  Calls Tryz.prog 87 #[.slice a l c,.int .i64 (n:Nat)] w (lZ n zs w):=by
 have hl:=h.hlen
 have hcap:=h.hcap
 have hmax:=h.hmax
 have HI:=hid (fun W (b:Below w.heap.size w W)=>h.below b)
 clear h
 have R0:bW (w.alloc (.cells #[.bool false,.bool false,.bool false,.bool false,.bool false,.bool false] 151)) w.heap.size 6 (fun _=>Value.bool false):=kS w (fun _=>Value.bool false) 6 151
 have I0:bW ((w.alloc (.cells #[.bool false,.bool false,.bool false,.bool false,.bool false,.bool false] 151)).alloc (.cells #[.bool false,.bool false,.bool false,.bool false,.bool false,.bool false] 151)) (w.heap.size+1) 6 (fun i=>Value.bool (mW (zs.take 0) i)):=by
  have h1:=kS (w.alloc (.cells #[.bool false,.bool false,.bool false,.bool false,.bool false,.bool false] 151)) (fun _=>Value.bool false) 6 151
  rw [show (w.alloc (.cells #[.bool false,.bool false,.bool false,.bool false,.bool false,.bool false] 151)).heap.size=w.heap.size+1 by simp] at h1
  exact h1
 have ba:=(Below.refl w.heap.size w).alloc (Nat.le_refl _) (.cells #[.bool false,.bool false,.bool false,.bool false,.bool false,.bool false] 151)
 have HR0:=hid (R0.below ((Below.refl (w.heap.size+1) (w.alloc (.cells #[.bool false,.bool false,.bool false,.bool false,.bool false,.bool false] 151))).alloc (by simp) (.cells #[.bool false,.bool false,.bool false,.bool false,.bool false,.bool false] 151)) (by omega))
 have HI0:=hid I0
 have HB0:=hid (ba.alloc (by simp) (.cells #[.bool false,.bool false,.bool false,.bool false,.bool false,.bool false] 151))
 clear R0 I0 ba
 go_enter Tryz.func87,Tryz.ntmps87
 go_wp2_with fail
 generalize hW:((w.alloc (.cells #[.bool false,.bool false,.bool false,.bool false,.bool false,.bool false] 151)).alloc (.cells #[.bool false,.bool false,.bool false,.bool false,.bool false,.bool false] 151))=W at *
 have hWs:W.heap.size=w.heap.size+2:=by rw [←hW];simp
 clear hW
 go_loopw [12] (fun i wq=>∃ k:Nat,k≤l∧i=.int .i64 k∧Hid (eH n (zs.take k)=true)∧Hid (bW wq (w.heap.size+1) 6 (fun i=>Value.bool (mW (zs.take k) i)))∧Hid (bW wq w.heap.size 6 (fun _=>Value.bool false))∧Hid (Below w.heap.size w wq)∧wq.heap.size=w.heap.size+2) (fun i _=>l - (intOf i).toNat)
 case atStart=>exact ⟨0,Nat.zero_le _,rfl,hid (by simp [eH]),HI0,HR0,HB0,hWs⟩
 case round=>
  obtain ⟨k,hk,rfl,HN,HA,HR,HB,hsz⟩:=hrel
  rename World=>W0
  clear HI0 HR0 HB0
  by_cases hlk:k<l
  ·obtain ⟨z,hz⟩:∃ z,zs[k]?=some z:=⟨_,List.getElem?_eq_getElem (by omega)⟩
   obtain ⟨b,o,eb,hb,hc⟩:=(HI.out W0 HB.out).hcell (by omega)
   subst eb
   have ck:=hc k hlk
   rw [show zs.getD k 0=z by simp [List.getD,hz]] at ck
   have HZM:=hid (List.mem_of_getElem? hz)
   have Rx:Hid (eH n (zs.take (k+1))=(eH n (zs.take k)&&(decide (0≤z)&&decide (z<(n:Int))))):=hid (by unfold eH;rw [List.take_add_one,hz];simp)
   have HIT:=hid (ZZ hz)
   clear hc hz
   by_cases g1:z<0
   ·have lu:Hid (eH n zs=false):=hid (by
     cases e:eH n zs with
     | false=>rfl
     | true=>have:=nV.1 e z HZM.out;omega)
    go_wp2_with (first | (refine nH rfl 151 (.tmp 6) rfl (w.heap.size+1) 6 _ _ rfl HA.out Tryz.underlying151 rfl Tryz.kw ?_) | (refine dE rfl 151 (.tmp 4) (.tmp 27) rfl w.heap.size 6 _ rfl rfl (HR.out.there 0 6 (by omega)) Tryz.kw (yD _) ?_))
    intro w3 S3
    have HB3:=hid (S3.aO _ _ (Nat.le_refl _) HB.out)
    have RG:=S3.at_.r9
    clear S3
    go_wp2_with fail
    refine df (cs:=rv (fun i=>Value.bool (mW (zs.take k) i)) 6) (v:=.bool false) (b:=w.heap.size) Tryz.results87 ?_ ?_ ?_ ?_ Tryz.underlying151 rfl (by rw [nQ];exact Tryz.kw) ?_
    ·rfl
    ·rfl
    ·rfl
    ·exact RG
    ·unfold lZ
     exact ⟨mW (zs.take k),(by rw [lu.out];rfl),(fun h=>by rw [lu.out] at h;cases h),HB3.out⟩
   ·have g1':decide (z<0)=false:=by simp;omega
    by_cases g2:(n:Int)≤z
    ·have lu:Hid (eH n zs=false):=hid (by
      cases e:eH n zs with
      | false=>rfl
      | true=>have:=nV.1 e z HZM.out;omega)
     go_wp2_with (first | (refine nH rfl 151 (.tmp 6) rfl (w.heap.size+1) 6 _ _ rfl HA.out Tryz.underlying151 rfl Tryz.kw ?_) | (refine dE rfl 151 (.tmp 4) (.tmp 27) rfl w.heap.size 6 _ rfl rfl (HR.out.there 0 6 (by omega)) Tryz.kw (yD _) ?_))
     intro w3 S3
     have HB3:=hid (S3.aO _ _ (Nat.le_refl _) HB.out)
     have RG:=S3.at_.r9
     clear S3
     go_wp2_with fail
     refine df (cs:=rv (fun i=>Value.bool (mW (zs.take k) i)) 6) (v:=.bool false) (b:=w.heap.size) Tryz.results87 ?_ ?_ ?_ ?_ Tryz.underlying151 rfl (by rw [nQ];exact Tryz.kw) ?_
     ·rfl
     ·rfl
     ·rfl
     ·exact RG
     ·unfold lZ
      exact ⟨mW (zs.take k),(by rw [lu.out];rfl),(fun h=>by rw [lu.out] at h;cases h),HB3.out⟩
    ·have g2':decide ((n:Int)≤z)=false:=by simp;omega
     obtain ⟨m,rfl⟩:∃ m:Nat,z=(m:Int):=⟨z.toNat,by omega⟩
     have g2n:decide (n≤m)=false:=by simp;omega
     have g3:decide ((6:Int)≤(m:Int))=false:=by simp;omega
     have g3n:decide (6≤m)=false:=by simp;omega
     have hm6:m<6:=by omega
     have uM:Hid (eH n (zs.take (k+1))=true):=hid (by
      rw [Rx.out,HN.out]
      have e1:decide ((0:Int)≤(m:Int))=true:=by simp
      have e2:decide ((m:Int)<(n:Int))=true:=by simp;omega
      rw [e1,e2];rfl)
     have a0:=HA.out.c m hm6
     have a1:=HA.out.f m hm6
     have HA2:=hid (HA.out.set m (.bool true))
     have RO:=hid (HA2.out.congr (d:=fun i=>Value.bool (mW (zs.take (k+1)) i)) (fun j hj=>by
      unfold xU
      rw [HIT.out j]
      by_cases e:j=m
      ·subst e;simp
      ·rw [if_neg e]
       have:((m:Int)==(j:Int))=false:=beq_eq_false_iff_ne.2 (by omega)
       rw [this];simp))
     have HR2:=hid (HR.out.other ⟨w.heap.size+1,m,none⟩ (.bool true) (by show w.heap.size+1≠w.heap.size;omega))
     have HB2:=hid (HB.out.setCell (p:=⟨w.heap.size+1,m,none⟩) (by show w.heap.size≤w.heap.size+1;omega) (.bool true))
     have i1:(0:Int)≤(m:Int):=by omega
     have i2:(m:Int)<6:=by omega
     clear g1 g2
     go_wp2_with fail
     go_roundw
     case rel=>exact ⟨k+1,by omega,by go_num,uM,RO,HR2,HB2,by simp;omega⟩
     case measure=>simp [intOf] <;> omega
  ·obtain rfl:k=l:=by omega
   have Px:Hid (zs.take k=zs):=hid (List.take_of_length_le (by omega))
   have ajj:Hid (eH n zs=true):=hid (by have:=HN.out;rwa [Px.out] at this)
   rw [Px.out] at HA
   go_wp2_with (first | (refine nH rfl 151 (.tmp 6) rfl (w.heap.size+1) 6 _ _ rfl HA.out Tryz.underlying151 rfl Tryz.kw ?_) | (refine dE rfl 151 (.tmp 4) (.tmp 31) rfl w.heap.size 6 _ rfl rfl (HR.out.there 0 6 (by omega)) Tryz.kw (yD _) ?_))
   intro w3 S3
   have HB3:=hid (S3.aO _ _ (Nat.le_refl _) HB.out)
   have RG:=S3.at_.r9
   clear S3
   go_wp2_with fail
   refine df (cs:=rv (fun i=>Value.bool (mW zs i)) 6) (v:=.bool true) (b:=w.heap.size) Tryz.results87 ?_ ?_ ?_ ?_ Tryz.underlying151 rfl (by rw [nQ];exact Tryz.kw) ?_
   ·rfl
   ·rfl
   ·rfl
   ·exact RG
   ·unfold lZ
    exact ⟨mW zs,by rw [ajj.out];rfl,fun _ j _=>rfl,HB3.out⟩
def o6 (i:Nat) (zs:List Int):List Int:=if zs.length=0 then [(i:Int)] else zs
theorem Xq (a:Option Addr) (l c i n:Nat) (zs:List Int) (w:World) (h:Ints w a l c zs) (hn:n≤6) :
  Calls Tryz.prog 88 #[.slice a l c,.int .i64 (i:Nat),.int .i64 (n:Nat)] w (lZ n (o6 i zs) w):=by
 have hl:=h.hlen
 have hcap:=h.hcap
 have hmax:=h.hmax
 have ba:=(Below.refl w.heap.size w).alloc (Nat.le_refl _) (.cells #[.bool false,.bool false,.bool false,.bool false,.bool false,.bool false] 151)
 have R0:bW (w.alloc (.cells #[.bool false,.bool false,.bool false,.bool false,.bool false,.bool false] 151)) w.heap.size 6 (fun _=>Value.bool false):=kS w (fun _=>Value.bool false) 6 151
 have HR0:=hid R0
 have HB0:=hid ba
 by_cases h0:l=0
 ·subst h0
  have HO:Hid (o6 i zs=[(i:Int)]):=hid (by unfold o6;rw [if_pos hl])
  have b1:=(Below.refl (w.heap.size+1) (w.alloc (.cells #[.bool false,.bool false,.bool false,.bool false,.bool false,.bool false] 151))).alloc (by simp) (.cells #[.int .i64 (i:Nat)] 3)
  have HR1:=hid (R0.below b1 (by omega))
  have HB1:=hid (ba.trans (b1.mono (by omega)))
  have I1:Ints ((w.alloc (.cells #[.bool false,.bool false,.bool false,.bool false,.bool false,.bool false] 151)).alloc (.cells #[.int .i64 (i:Nat)] 3)) (some ⟨w.heap.size+1,0,none⟩) 1 1 [(i:Int)]:=by
   have h1:=ZU (w.alloc (.cells #[.bool false,.bool false,.bool false,.bool false,.bool false,.bool false] 151)) i
   rw [show (w.alloc (.cells #[.bool false,.bool false,.bool false,.bool false,.bool false,.bool false] 151)).heap.size=w.heap.size+1 by simp] at h1
   exact h1
  have AM:=hid (Cm _ 1 1 n [(i:Int)] _ I1 hn)
  clear ba R0 b1 I1 h
  rw [HO.out]
  go_enter Tryz.func88,Tryz.ntmps88
  go_wp2_with fail
  refine (AM.out.mono ?_)
  intro e w2 ham
  unfold lZ at ham
  obtain ⟨f,rfl,hf,hb2⟩:=ham
  simp only [World.size_alloc] at hb2
  have HR2:=hid (HR1.out.below hb2 (by omega))
  have HB2:=hid (HB1.out.trans (hb2.mono (by omega)))
  have HF:=hid hf
  clear hf hb2 AM
  go_wp2_with (refine dE rfl 151 (.tmp 6) (.tmp 15) rfl w.heap.size 6 (fun i=>Value.bool (f i)) rfl rfl (HR2.out.there 0 6 (by omega)) Tryz.kw (yD _) ?_)
  intro w3 S3
  have HB3:=hid (S3.aO _ _ (Nat.le_refl _) HB2.out)
  have RG:=S3.at_.r9
  clear S3
  go_wp2_with fail
  refine df (cs:=rv (fun i=>Value.bool (f i)) 6) (v:=.bool (eH n [(i:Int)])) (b:=w.heap.size) Tryz.results88 ?_ ?_ ?_ ?_ Tryz.underlying151 rfl (by rw [nQ];exact Tryz.kw) ?_
  ·rfl
  ·rfl
  ·rfl
  ·exact RG
  ·unfold lZ
   exact ⟨f,rfl,HF.out,HB3.out⟩
 ·have HO:Hid (o6 i zs=zs):=hid (by unfold o6;rw [if_neg (by omega)])
  have AM:=hid (Cm a l c n zs _ (h.below ba) hn)
  have hz:((l:Int)==0)=false:=beq_eq_false_iff_ne.2 (by omega)
  clear ba R0 h
  rw [HO.out]
  go_enter Tryz.func88,Tryz.ntmps88
  go_wp2_with fail
  refine (AM.out.mono ?_)
  intro e w2 ham
  unfold lZ at ham
  obtain ⟨f,rfl,hf,hb2⟩:=ham
  simp only [World.size_alloc] at hb2
  have HR2:=hid (HR0.out.below hb2 (by omega))
  have HB2:=hid (HB0.out.trans (hb2.mono (by omega)))
  have HF:=hid hf
  clear hf hb2 AM
  go_wp2_with (refine dE rfl 151 (.tmp 6) (.tmp 20) rfl w.heap.size 6 (fun i=>Value.bool (f i)) rfl rfl (HR2.out.there 0 6 (by omega)) Tryz.kw (yD _) ?_)
  intro w3 S3
  have HB3:=hid (S3.aO _ _ (Nat.le_refl _) HB2.out)
  have RG:=S3.at_.r9
  clear S3
  go_wp2_with fail
  refine df (cs:=rv (fun i=>Value.bool (f i)) 6) (v:=.bool (eH n zs)) (b:=w.heap.size) Tryz.results88 ?_ ?_ ?_ ?_ Tryz.underlying151 rfl (by rw [nQ];exact Tryz.kw) ?_
  ·rfl
  ·rfl
  ·rfl
  ·exact RG
  ·unfold lZ
   exact ⟨f,rfl,HF.out,HB3.out⟩
theorem UV (T g2 n fr l to:Nat) (V:Nat→Value) (tl:Nat→List (Nat × Nat)) (w:World) (hm:lq w T g2 n V tl) (hn:n≤1099511627776) (hfr:fr<n) (hl:l<8) (hto:to<n) (hlen:(tl to).length≤1099511627776) :
  Calls Tryz.prog 130 #[.pointer (some ⟨T,0,none⟩),.int .i64 fr,.int .i64 l,.int .i64 to] w fun e w'=>e=.returned (.tuple #[])∧(∃ V',lq w' T g2 n V' (uy tl to (tl to++[(fr,l)]))∧∀ NB,NB<w.heap.size→NB≠g2→(∀ j,j<n→(V j).ownBlock≠some NB)→(∀ o,w'.cell? ⟨NB,o,none⟩=w.cell? ⟨NB,o,none⟩)∧∀ j,j<n→(V' j).ownBlock≠some NB)∧Below g2 w w':=by
 obtain ⟨i0,hi,hz0,hz1,hz2⟩:=info_parts Tryz.Ni
 have cT:=hm.cell
 have hT:=hm.Rm
 have hgT:=hm.lt
 have own:=hm.row to hto
 have cV:w.cell? ⟨g2,to,none⟩=some (V to):=(hm.out.cellAt to (by omega)).trans (by simp [List.getElem?_map,List.getElem?_range hto])
 have HM:=hid hm
 have hg2:g2<w.heap.size:=by omega
 obtain ⟨ao,cp,eV⟩:=ag own
 have HV:=hid eV
 rw [eV] at cV own
 generalize hln:(tl to).length=ln at *
 have bg:=hid hln
 have OW:=hid own
 clear hm eV hln own
 go_enter Tryz.func130,Tryz.ntmps130
 go_wp2_with fail
 refine wp_region_held_drew (S:=fun w'=>w'.cell? ⟨T,0,none⟩=some (.slice (some ⟨g2,0,none⟩) n n)) (by kernel_rfl) cT (fun hHeld=>?_)
 refine wpAnyH_take (i:=0) (oi:={ dst:=some 36,op:=Op.move (.tmp 0),type:=_,pos:=_,after:=_,guard:=none }) (v:=(Value.pointer (some ⟨T,0,none⟩))) rfl (by kernel_rfl) (by kernel_rfl) (by kernel_rfl) (fun _ _ _ h=>h) (Or.inl ⟨by rfl,by intro w' hSw;(try dsimp only at hSw);go_simp⟩) (by assumption) ?_
 simp only [Act.put,List.setIfInBounds_toArray,List.set_cons_zero,List.set_cons_succ]
 refine wpAnyH_take (i:=1) (oi:={ dst:=some 37,op:=Op.nilCheck (.tmp 36),type:=_,pos:=_,after:=_,guard:=none }) (v:=(Value.pointer (some ⟨T,0,none⟩))) rfl (by kernel_rfl) (by kernel_rfl) (by kernel_rfl) (fun _ _ _ h=>h) (Or.inl ⟨by rfl,by intro w' hSw;(try dsimp only at hSw);go_simp⟩) (by assumption) ?_
 simp only [Act.put,List.setIfInBounds_toArray,List.set_cons_zero,List.set_cons_succ]
 refine wpAnyH_take (i:=2) (oi:={ dst:=some 38,op:=Op.fieldAddr _ (.tmp 37) 0,type:=_,pos:=_,after:=_,guard:=none }) (v:=(Value.pointer (some ⟨T,0,none⟩))) rfl (by kernel_rfl) (by kernel_rfl) (by kernel_rfl) (fun _ _ _ h=>h) (Or.inl ⟨by rfl,by intro w' hSw;(try dsimp only at hSw);go_simp⟩) (by assumption) ?_
 simp only [Act.put,List.setIfInBounds_toArray,List.set_cons_zero,List.set_cons_succ]
 refine wpAnyH_take (i:=3) (oi:={ dst:=some 39,op:=Op.load _ (.tmp 38),type:=_,pos:=_,after:=_,guard:=none }) (v:=(Value.slice (some ⟨g2,0,none⟩) n n)) rfl (by kernel_rfl) (by kernel_rfl) (by kernel_rfl) (fun _ _ _ h=>h) (Or.inl ⟨by rfl,by intro w' hSw;(try dsimp only at hSw);go_simp⟩) (by assumption) ?_
 simp only [Act.put,List.setIfInBounds_toArray,List.set_cons_zero,List.set_cons_succ]
 refine wpAnyH_take (i:=4) (oi:={ dst:=some 40,op:=Op.move (.tmp 3),type:=_,pos:=_,after:=_,guard:=none }) (v:=(Value.int .i64 (to:Nat))) rfl (by kernel_rfl) (by kernel_rfl) (by kernel_rfl) (fun _ _ _ h=>h) (Or.inl ⟨by rfl,by intro w' hSw;(try dsimp only at hSw);go_simp⟩) (by assumption) ?_
 simp only [Act.put,List.setIfInBounds_toArray,List.set_cons_zero,List.set_cons_succ]
 refine wpAnyH_take (i:=5) (oi:={ dst:=some 41,op:=Op.move (.tmp 0),type:=_,pos:=_,after:=_,guard:=none }) (v:=(Value.pointer (some ⟨T,0,none⟩))) rfl (by kernel_rfl) (by kernel_rfl) (by kernel_rfl) (fun _ _ _ h=>h) (Or.inl ⟨by rfl,by intro w' hSw;(try dsimp only at hSw);go_simp⟩) (by assumption) ?_
 simp only [Act.put,List.setIfInBounds_toArray,List.set_cons_zero,List.set_cons_succ]
 refine wpAnyH_take (i:=6) (oi:={ dst:=some 42,op:=Op.nilCheck (.tmp 41),type:=_,pos:=_,after:=_,guard:=none }) (v:=(Value.pointer (some ⟨T,0,none⟩))) rfl (by kernel_rfl) (by kernel_rfl) (by kernel_rfl) (fun _ _ _ h=>h) (Or.inl ⟨by rfl,by intro w' hSw;(try dsimp only at hSw);go_simp⟩) (by assumption) ?_
 simp only [Act.put,List.setIfInBounds_toArray,List.set_cons_zero,List.set_cons_succ]
 refine wpAnyH_take (i:=7) (oi:={ dst:=some 43,op:=Op.fieldAddr _ (.tmp 42) 0,type:=_,pos:=_,after:=_,guard:=none }) (v:=(Value.pointer (some ⟨T,0,none⟩))) rfl (by kernel_rfl) (by kernel_rfl) (by kernel_rfl) (fun _ _ _ h=>h) (Or.inl ⟨by rfl,by intro w' hSw;(try dsimp only at hSw);go_simp⟩) (by assumption) ?_
 simp only [Act.put,List.setIfInBounds_toArray,List.set_cons_zero,List.set_cons_succ]
 refine wpAnyH_take (i:=8) (oi:={ dst:=some 44,op:=Op.load _ (.tmp 43),type:=_,pos:=_,after:=_,guard:=none }) (v:=(Value.slice (some ⟨g2,0,none⟩) n n)) rfl (by kernel_rfl) (by kernel_rfl) (by kernel_rfl) (fun _ _ _ h=>h) (Or.inl ⟨by rfl,by intro w' hSw;(try dsimp only at hSw);go_simp⟩) (by assumption) ?_
 simp only [Act.put,List.setIfInBounds_toArray,List.set_cons_zero,List.set_cons_succ]
 refine wpAnyH_take (i:=9) (oi:={ dst:=some 45,op:=Op.move (.tmp 3),type:=_,pos:=_,after:=_,guard:=none }) (v:=(Value.int .i64 (to:Nat))) rfl (by kernel_rfl) (by kernel_rfl) (by kernel_rfl) (fun _ _ _ h=>h) (Or.inl ⟨by rfl,by intro w' hSw;(try dsimp only at hSw);go_simp⟩) (by assumption) ?_
 simp only [Act.put,List.setIfInBounds_toArray,List.set_cons_zero,List.set_cons_succ]
 refine wpAnyH_take (i:=10) (oi:={ dst:=some 46,op:=Op.indexAddr _ (.tmp 44) (.tmp 45),type:=_,pos:=_,after:=_,guard:=none }) (v:=(Value.pointer (some ⟨g2,to,none⟩))) rfl (by kernel_rfl) (by kernel_rfl) (by kernel_rfl) (fun _ _ _ h=>h) (Or.inl ⟨by rfl,by intro w' hSw;(try dsimp only at hSw);go_simp⟩) (by assumption) ?_
 simp only [Act.put,List.setIfInBounds_toArray,List.set_cons_zero,List.set_cons_succ]
 refine wpAnyH_take (i:=12) (oi:={ dst:=some 48,op:=Op.move (.tmp 1),type:=_,pos:=_,after:=_,guard:=none }) (v:=(Value.int .i64 (fr:Nat))) rfl (by kernel_rfl) (by kernel_rfl) (by kernel_rfl) (fun _ _ _ h=>h) (Or.inl ⟨by rfl,by intro w' hSw;(try dsimp only at hSw);go_simp⟩) (by assumption) ?_
 simp only [Act.put,List.setIfInBounds_toArray,List.set_cons_zero,List.set_cons_succ]
 refine wpAnyH_take (i:=13) (oi:={ dst:=some 49,op:=Op.move (.tmp 2),type:=_,pos:=_,after:=_,guard:=none }) (v:=(Value.int .i64 (l:Nat))) rfl (by kernel_rfl) (by kernel_rfl) (by kernel_rfl) (fun _ _ _ h=>h) (Or.inl ⟨by rfl,by intro w' hSw;(try dsimp only at hSw);go_simp⟩) (by assumption) ?_
 simp only [Act.put,List.setIfInBounds_toArray,List.set_cons_zero,List.set_cons_succ]
 refine wpAnyH_take (i:=14) (oi:={ dst:=some 50,op:=Op.build _ #[(0,.tmp 48),(1,.tmp 49)],type:=_,pos:=_,after:=_,guard:=none }) (v:=(Value.agg #[Value.int .i64 (fr:Nat),Value.int .i64 (l:Nat)])) rfl (by kernel_rfl) (by kernel_rfl) (by kernel_rfl) (fun _ _ _ h=>h) (Or.inl ⟨by rfl,by intro w' hSw;(try dsimp only at hSw);go_simp⟩) (by assumption) ?_
 simp only [Act.put,List.setIfInBounds_toArray,List.set_cons_zero,List.set_cons_succ]
 refine wpAnyH_ready (rs:=[11,15]) (by kernel_rfl) (by simp) ?_
 refine AllReadyH.cons rfl (fun K hK=>?_) (AllReadyH.cons rfl (fun K hK=>?_) AllReadyH.nil)
 ·go_simp
  refine hK.out _ _ (by assumption) (fun hHeld=>?_)
  clear hK K
  refine wpAnyH_ready (rs:=[15]) (by kernel_rfl) (by simp) ?_
  refine AllReadyH.cons rfl (fun K hK=>?_) AllReadyH.nil
  go_simp
  refine hK.out _ _ ?hs (fun hHeld=>?_)
  case hs=>first | go_keep | simp [*]
  clear hK K
  refine wpAnyH_ready (rs:=[16]) (by kernel_rfl) (by simp) ?_
  refine AllReadyH.cons rfl (fun K hK=>?_) AllReadyH.nil
  refine step_append_lies _ (by rfl) (.tmp 47) (.tmp 51) 222 (by rfl) (T+1) 224 i0 (.agg #[.int .i64 0,.int .i64 0]) 2 16 Tryz.underlying222 hi hz0 hz1 hz2 rfl (by decide) _ ln (mD (tl to)) (by rfl) ((OW.out.alloc _).drew) ⟨w.heap.size,0,none⟩ 1 1 [.int .i64 (fr:Nat),.int .i64 (l:Nat)] (by rfl) (by rfl) (World.news_of_block (cs:=#[.int .i64 (fr:Nat),.int .i64 (l:Nat)]) (t:=224) (fr:=(0,0)) (heap_alloc_new w _)) (by simp [Value.oneCell']) (by decide) (by unfold maxLen;omega) (by omega) (by simp;omega) (w.heap.size+1) (by simp) ?_
  intro gg cc w2 hown hgrow hat hlt2
  have iE:lq (w.alloc (.cells #[.int .i64 (fr:Nat),.int .i64 (l:Nat)] 224)).drew T g2 n V tl:=HM.out.keeps (below_drewN ((Below.refl w.heap.size w).alloc (Nat.le_refl _) (.cells #[.int .i64 (fr:Nat),.int .i64 (l:Nat)] 224)) 1)
  have hgrow':(w.alloc (.cells #[.int .i64 (fr:Nat),.int .i64 (l:Nat)] 224)).drew.grownBy w2 (V to).ownBlock:=by rw [HV.out];exact hgrow
  have O2:=iE.out.kept hgrow' (aD iE.out (iE.row to hto) (by decide))
  have d1:=O2.frozenAt to
  have d0:w2.cell? ⟨g2,to,none⟩=some (V to):=(O2.cellAt to (by omega)).trans (by simp [List.getElem?_map,List.getElem?_range hto])
  have aZ:Below (T+1) w w2:=(below_drewN ((Below.refl (T+1) w).alloc (by omega) (.cells #[.int .i64 (fr:Nat),.int .i64 (l:Nat)] 224)) 1).grown hgrow (by show T+1≤(w.alloc (.cells #[.int .i64 (fr:Nat),.int .i64 (l:Nat)] 224)).heap.size;rw [World.size_alloc];omega) (fun x h=>(OW.out.lt x h).1)
  have TM:=hid (zk iE hto (s:=(fr,l)) hgrow' (by rw [bg.out];exact hown) (by rw [HV.out];rcases hat with h | h;exact Or.inl h;exact Or.inr (by rw [h];exact (World.size_alloc ..).symm)))
  rw [bg.out] at TM
  have BB:=hid ((aZ.mono (by omega:g2≤T+1)).setCell (p:=⟨g2,to,none⟩) (Nat.le_refl _) (.slice (some ⟨gg,0,none⟩) (ln+1) cc))
  have MORE:Hid (∀ NB,NB<w.heap.size→NB≠g2→(∀ j,j<n→(V j).ownBlock≠some NB)→(∀ o,(w2.setCell ⟨g2,to,none⟩ (.slice (some ⟨gg,0,none⟩) (ln+1) cc)).cell? ⟨NB,o,none⟩=w.cell? ⟨NB,o,none⟩)∧∀ j,j<n→((fun i=>if i=to then Value.slice (some ⟨gg,0,none⟩) (ln+1) cc else V i) j).ownBlock≠some NB):=hid (fun NB h1 h2 h3=>by
   refine ⟨fun o=>?_,fun j hj=>?_⟩
   ·rw [World.cell?_setCell_other _ _ _ _ (fun e=>h2 (by have:=congrArg Addr.block e;simpa using this.symm))]
    rw [hgrow'.cell_far ⟨NB,o,none⟩ (by show NB<(w.alloc (.cells #[.int .i64 (fr:Nat),.int .i64 (l:Nat)] 224)).heap.size;rw [World.size_alloc];omega) (fun e=>h3 to hto e.symm)]
    show (w.alloc (.cells #[.int .i64 (fr:Nat),.int .i64 (l:Nat)] 224)).cell? ⟨NB,o,none⟩=_
    rw [World.cell?_alloc_lt _ _ _ h1]
   ·by_cases e:j=to
    ·simp only [e,if_true]
     rcases hat with h | h
     ·intro e2
      have h4:=h3 to hto
      rw [HV.out,h] at h4
      exact h4 e2
     ·intro e2
      simp [Value.ownBlock] at e2
      omega
    ·simp only [e,if_false]
     exact h3 j hj)
  have e1:w2.cell? ⟨T,0,none⟩=some (.slice (some ⟨g2,0,none⟩) n n):=(aZ.cell (p:=⟨T,0,none⟩) (Nat.lt_succ_self _)).trans cT
  have iW:=hid (TM.out.cell)
  refine hK.out _ _ e1 (fun hHeld=>?_)
  clear hK K O2 iE aZ hown hgrow hgrow' hat
  simp only [Act.put,List.setIfInBounds_toArray]
  refine wpAnyH_take (i:=17) (oi:={ dst:=some 53,op:=Op.indexAddr _ (.tmp 39) (.tmp 40),type:=_,pos:=_,after:=_,guard:=none }) (v:=(Value.pointer (some ⟨g2,to,none⟩))) rfl (by kernel_rfl) (by kernel_rfl) (by kernel_rfl) (fun _ _ _ h=>h) (Or.inl ⟨by rfl,by intro w' hSw;(try dsimp only at hSw);go_simp⟩) (by assumption) ?_
  simp only [Act.put]
  refine wpAnyH_ready (rs:=[18]) (by kernel_rfl) (by simp) ?_
  refine AllReadyH.cons rfl (fun K hK=>?_) AllReadyH.nil
  go_simp
  refine hK.out _ _ iW.out (fun hHeld=>?_)
  clear hK K
  refine wpAnyH_done (by kernel_rfl) ?_ _
  clear hHeld e1 d0 d1
  go_wp2_with fail
  go_end0
  exact ⟨rfl,⟨_,TM.out,MORE.out⟩,BB.out⟩
 ·go_simp
  refine hK.out _ _ ?hs (fun hHeld=>?_)
  case hs=>first | go_keep | simp [*]
  clear hK K
  refine wpAnyH_ready (rs:=[11]) (by kernel_rfl) (by simp) ?_
  refine AllReadyH.cons rfl (fun K hK=>?_) AllReadyH.nil
  go_simp
  refine hK.out _ _ (by assumption) (fun hHeld=>?_)
  clear hK K
  refine wpAnyH_ready (rs:=[16]) (by kernel_rfl) (by simp) ?_
  refine AllReadyH.cons rfl (fun K hK=>?_) AllReadyH.nil
  refine step_append_lies _ (by rfl) (.tmp 47) (.tmp 51) 222 (by rfl) (T+1) 224 i0 (.agg #[.int .i64 0,.int .i64 0]) 2 16 Tryz.underlying222 hi hz0 hz1 hz2 rfl (by decide) _ ln (mD (tl to)) (by rfl) ((OW.out.alloc _).drew) ⟨w.heap.size,0,none⟩ 1 1 [.int .i64 (fr:Nat),.int .i64 (l:Nat)] (by rfl) (by rfl) (World.news_of_block (cs:=#[.int .i64 (fr:Nat),.int .i64 (l:Nat)]) (t:=224) (fr:=(0,0)) (heap_alloc_new w _)) (by simp [Value.oneCell']) (by decide) (by unfold maxLen;omega) (by omega) (by simp;omega) (w.heap.size+1) (by simp) ?_
  intro gg cc w2 hown hgrow hat hlt2
  have iE:lq (w.alloc (.cells #[.int .i64 (fr:Nat),.int .i64 (l:Nat)] 224)).drew T g2 n V tl:=HM.out.keeps (below_drewN ((Below.refl w.heap.size w).alloc (Nat.le_refl _) (.cells #[.int .i64 (fr:Nat),.int .i64 (l:Nat)] 224)) 1)
  have hgrow':(w.alloc (.cells #[.int .i64 (fr:Nat),.int .i64 (l:Nat)] 224)).drew.grownBy w2 (V to).ownBlock:=by rw [HV.out];exact hgrow
  have O2:=iE.out.kept hgrow' (aD iE.out (iE.row to hto) (by decide))
  have d1:=O2.frozenAt to
  have d0:w2.cell? ⟨g2,to,none⟩=some (V to):=(O2.cellAt to (by omega)).trans (by simp [List.getElem?_map,List.getElem?_range hto])
  have aZ:Below (T+1) w w2:=(below_drewN ((Below.refl (T+1) w).alloc (by omega) (.cells #[.int .i64 (fr:Nat),.int .i64 (l:Nat)] 224)) 1).grown hgrow (by show T+1≤(w.alloc (.cells #[.int .i64 (fr:Nat),.int .i64 (l:Nat)] 224)).heap.size;rw [World.size_alloc];omega) (fun x h=>(OW.out.lt x h).1)
  have TM:=hid (zk iE hto (s:=(fr,l)) hgrow' (by rw [bg.out];exact hown) (by rw [HV.out];rcases hat with h | h;exact Or.inl h;exact Or.inr (by rw [h];exact (World.size_alloc ..).symm)))
  rw [bg.out] at TM
  have BB:=hid ((aZ.mono (by omega:g2≤T+1)).setCell (p:=⟨g2,to,none⟩) (Nat.le_refl _) (.slice (some ⟨gg,0,none⟩) (ln+1) cc))
  have MORE:Hid (∀ NB,NB<w.heap.size→NB≠g2→(∀ j,j<n→(V j).ownBlock≠some NB)→(∀ o,(w2.setCell ⟨g2,to,none⟩ (.slice (some ⟨gg,0,none⟩) (ln+1) cc)).cell? ⟨NB,o,none⟩=w.cell? ⟨NB,o,none⟩)∧∀ j,j<n→((fun i=>if i=to then Value.slice (some ⟨gg,0,none⟩) (ln+1) cc else V i) j).ownBlock≠some NB):=hid (fun NB h1 h2 h3=>by
   refine ⟨fun o=>?_,fun j hj=>?_⟩
   ·rw [World.cell?_setCell_other _ _ _ _ (fun e=>h2 (by have:=congrArg Addr.block e;simpa using this.symm))]
    rw [hgrow'.cell_far ⟨NB,o,none⟩ (by show NB<(w.alloc (.cells #[.int .i64 (fr:Nat),.int .i64 (l:Nat)] 224)).heap.size;rw [World.size_alloc];omega) (fun e=>h3 to hto e.symm)]
    show (w.alloc (.cells #[.int .i64 (fr:Nat),.int .i64 (l:Nat)] 224)).cell? ⟨NB,o,none⟩=_
    rw [World.cell?_alloc_lt _ _ _ h1]
   ·by_cases e:j=to
    ·simp only [e,if_true]
     rcases hat with h | h
     ·intro e2
      have h4:=h3 to hto
      rw [HV.out,h] at h4
      exact h4 e2
     ·intro e2
      simp [Value.ownBlock] at e2
      omega
    ·simp only [e,if_false]
     exact h3 j hj)
  have e1:w2.cell? ⟨T,0,none⟩=some (.slice (some ⟨g2,0,none⟩) n n):=(aZ.cell (p:=⟨T,0,none⟩) (Nat.lt_succ_self _)).trans cT
  have iW:=hid (TM.out.cell)
  refine hK.out _ _ e1 (fun hHeld=>?_)
  clear hK K O2 iE aZ hown hgrow hgrow' hat
  simp only [Act.put,List.setIfInBounds_toArray]
  refine wpAnyH_take (i:=17) (oi:={ dst:=some 53,op:=Op.indexAddr _ (.tmp 39) (.tmp 40),type:=_,pos:=_,after:=_,guard:=none }) (v:=(Value.pointer (some ⟨g2,to,none⟩))) rfl (by kernel_rfl) (by kernel_rfl) (by kernel_rfl) (fun _ _ _ h=>h) (Or.inl ⟨by rfl,by intro w' hSw;(try dsimp only at hSw);go_simp⟩) (by assumption) ?_
  simp only [Act.put]
  refine wpAnyH_ready (rs:=[18]) (by kernel_rfl) (by simp) ?_
  refine AllReadyH.cons rfl (fun K hK=>?_) AllReadyH.nil
  go_simp
  refine hK.out _ _ iW.out (fun hHeld=>?_)
  clear hK K
  refine wpAnyH_done (by kernel_rfl) ?_ _
  clear hHeld e1 d0 d1
  go_wp2_with fail
  go_end0
  exact ⟨rfl,⟨_,TM.out,MORE.out⟩,BB.out⟩
end Go.Proofs.YtjagijohfkffiabGreat
