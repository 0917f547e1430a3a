import Derived.Test.YtjagijohfkffiabGreatALLM04
import Derived.Test.YtjagijohfkffiabGreatALLM35
import Derived.Test.YtjagijohfkffiabGreatALLM38
set_option maxHeartbeats 16000000
set_option maxRecDepth 100000
namespace Go.Proofs.YtjagijohfkffiabGreat
open Go.RowKit
set_option linter.unusedVariables false
def ry (l:List Nat):List Int:=l.map fun x:Nat=>(x:Int)
theorem FQ (l:List Nat):au l=gZ (ry l):=by simp [au,gZ,ry]
theorem Vp {w:World} {B n:Nat} {v:Value} {V:Nat→Value} {xs:List Nat} (h:eD w B 22 3 v n V (fun q=>au (jY xs q))):∃ a c,v=.slice a n c∧Lists w a n c ((List.range n).map fun i=>ry (jY xs i)):=by
 have hl:((List.range n).map fun i=>ry (jY xs i)).length=n:=by simp
 rcases h.out.2 with ⟨rfl,rfl⟩ | ⟨g,cap,cur,rfl,hb,hh,hc,hm,_⟩
 ·exact ⟨none,0,rfl,hl,Nat.le_refl _,by omega,fun _=>⟨rfl,rfl⟩,fun h=>by omega⟩
 ·refine ⟨_,cap,rfl,hl,hc,by unfold maxLen at hm;omega,fun h=>by simp at h,fun _=>⟨g,0,rfl,(Array.getElem?_eq_some_iff.1 hh).1,fun i hi=>?_⟩⟩
  have hr:=h.row i hi
  rw [kg,sO,FQ] at hr
  obtain ⟨a,c,hv,hi2⟩:=wy hr
  refine ⟨a,8,c,?_,?_⟩
  ·rw [Nat.zero_add,h.out.cellAt i (by omega)]
   simp [List.getElem?_map,List.getElem?_range hi,hv]
  ·rw [show ((List.range n).map fun i=>ry (jY xs i)).getD i []=ry (jY xs i) by simp [List.getD,List.getElem?_map,List.getElem?_range hi]]
   exact hi2
def tq (s:ByteArray) (w:World) (e:Ending) (w':World):Prop:=
 ∃ v1 v2 er,e=.returned (.tuple #[.agg #[v1,v2],.int .i64 (er:Nat)])∧((af s).1≠0→er=(af s).1∧v1=.slice none 0 0∧v2=.slice none 0 0) ∧
  ((af s).1=0→(er=0∧∃ n out nx,Ap (af s).2 n out nx∧n≤8∧(∃ a c,v1=.slice a n c∧Ints w' a n c (ry ((List.range n).map out)))∧∃ a c,v2=.slice a n c∧Lists w' a n c ((List.range n).map fun i=>ry ((List.range 8).map fun l=>nx i l)))∨(er=7∧v1=.slice none 0 0∧v2=.slice none 0 0∧Big (af s).2))∧Below w.heap.size w w'
def Pb (out:Nat→Nat) (ms os:List Nat) (k:Nat):Prop:=os.length=k∧∀ i,i<k→os.getD i 0=out (qM ms i)
theorem acP {out:Nat→Nat} {ms os:List Nat} {k n:Nat} (h:Pb out ms os k) (hk:k≤ms.length):Pb out (ms++[n]) os k:=⟨h.1,fun i hi=>by
 rw [h.2 i hi]
 unfold qM
 rw [dU (by omega)]⟩
theorem QN {out:Nat→Nat} {ms os:List Nat} {k m:Nat} (h:Pb out ms os k) (hm:ms[k]?=some m):Pb out ms (os++[out m]) (k+1):=⟨by simp [h.1],fun i hi=>by
 by_cases c:i=k
 ·subst c
  have:=h.1
  rw [←this,di]
  simp [qM,List.getD,this,hm]
 ·rw [dU (by rw [h.1];omega)]
  exact h.2 i (by omega)⟩
theorem vU {w w':World} {b:Nat} {x y:Value} {r:Option Nat} (h:Two w b x y) (hg:w.grownBy w' r) (hne:r≠some b):Two w' b x y:=by
 have hb:=hg.block b h.lt (fun e=>hne e.symm)
 exact ⟨(World.cell?_of_block (a:=⟨b,0,none⟩) hb).trans h.c0,(World.cell?_of_block (a:=⟨b,1,none⟩) hb).trans h.c1,(World.frozen?_of_block (a:=⟨b,0,none⟩) hb).trans h.f0,(World.frozen?_of_block (a:=⟨b,1,none⟩) hb).trans h.f1⟩
section
variable (s:ByteArray) (w:World)
theorem Vr (hm:s.size≤maxLen) (h:(af s).1≠0):Calls Tryz.prog 12 #[.string s] w (tq s w):=by
 have C:=fun W=>dK s W hm
 unfold bU at C
 unfold tq
 generalize af s=p at *
 have k:((p.1:Int)!=0)=true:=by rw [bne_iff_ne];omega
 go_enter Tryz.func12,Tryz.ntmps12
 go_wp2_with fail
 refine (C _).mono ?_
 rintro e w1 ⟨hb,⟨_,rfl⟩ | ⟨h0,_⟩⟩
 ·simp only [World.size_alloc] at hb
  have T1:=(bF w (.slice none 0 0) (.slice none 0 0) 37).below hb (by omega)
  have d0:=T1.c0
  have d1:=T1.c1
  have e0:=T1.f0
  have e1:=T1.f1
  have HB:=hid (((Below.refl w.heap.size w).alloc (Nat.le_refl _) (.cells #[.slice none 0 0,.slice none 0 0] 37)).trans (hb.mono (by omega)))
  clear C hb T1
  go_wp2_with fail
  refine df (cs:=[.slice none 0 0,.slice none 0 0]) (v:=.int .i64 (p.1:Nat)) (b:=w.heap.size) Tryz.results12 ?_ ?_ ?_ ?_ Tryz.underlying37 rfl Tryz.sP ?_
  ·rfl
  ·rfl
  ·rfl
  ·exact sH d0 d1 _ _
  ·exact ⟨_,_,p.1,rfl,fun _=>⟨rfl,rfl,rfl⟩,fun h0=>absurd h0 h,(HB.out.setCell (p:=⟨w.heap.size,0,none⟩) (Nat.le_refl _) _).setCell (p:=⟨w.heap.size,1,none⟩) (Nat.le_refl _) _⟩
 ·exact absurd h0 h
theorem Sz (hm:s.size≤maxLen) (h:(af s).1=0):Calls Tryz.prog 12 #[.string s] w (tq s w):=by
 have C:=fun W=>dK s W hm
 unfold bU at C
 have G:=hid (fV h)
 have SG:=hid (xw h)
 unfold tq
 generalize af s=p at *
 obtain ⟨p1,ns⟩:=p
 dsimp only at *
 subst h
 obtain ⟨aa,hlv⟩:=Wj ns (aI ns ns.length)
 have kK:=hid hlv
 have oF:=hid (fun us xs (h:eX ns aa (aB ns aa) us xs)=>wL G.out SG.out hlv h)
 obtain ⟨i0,hi,hz0,hz1,hz2⟩:=info_parts Tryz.kG
 obtain ⟨i1,hi1,hz01,hz11,hz21⟩:=info_parts Tryz.sQ
 clear hlv
 go_enter Tryz.func12,Tryz.ntmps12
 go_wp2_with fail
 refine (C _).mono ?_
 rintro e w1 ⟨hb,⟨h0,_⟩ | ⟨_,bs,rfl,hf⟩⟩
 ·exact absurd rfl h0
 simp only [World.size_alloc] at hb hf
 have T1:=hid ((bF w (.slice none 0 0) (.slice none 0 0) 37).below hb (by omega))
 have HB1:=hid (((Below.refl w.heap.size w).alloc (Nat.le_refl _) (.cells #[.slice none 0 0,.slice none 0 0] 37)).trans (hb.mono (by omega)))
 have hs1:w.heap.size<w1.heap.size:=T1.out.lt
 obtain ⟨gp,cap,hfr⟩:=LB hf G.out.pos
 have RW:=hid (zF _ gp cap ns bs w1 hfr G.out)
 clear C hb hf hfr
 go_wp2_with fail
 refine RW.out.mono ?_
 rintro e w3 ⟨R,vs,rfl,hRM,hLS,hM,hb3⟩
 have DL:=hid hRM
 have Cy:=hid hLS
 have HB3:=hid (HB1.out.trans (hb3.mono (by omega)))
 have T3:=hid (T1.out.below hb3 (by omega))
 have hs3:=T3.out.lt
 clear hRM hLS hb3 RW HB1 T1
 go_wp2_with fail
 refine (Nz R _ gp cap ns bs vs aa w3 DL.out G.out hM kK.out Cy.out oF.out).mono ?_
 rintro e w4 ⟨us,ys,rfl,hE,hx,hFR,hb4⟩
 have hK:=oF.out us ys hE
 have qG:0<us.length:=(List.getElem?_eq_some_iff.1 hE.first).1
 have oG:=hid (vI hE hx)
 have HWM:=hid (fun ms xs h he=>YE (ms:=ms) (xs:=xs) G.out kK.out hE hx h he)
 have dm:=hid (HB3.out.trans (hb4.mono (by omega)))
 have T4:=hid (T3.out.below hb4 (by omega))
 have hs4:=T4.out.lt
 have wW:=hid hFR
 generalize bQ ns aa (aB ns aa) us=out at *
 generalize hKE:us.length=K at *
 clear hE hx hFR hb4 HB3 T3 DL hKE
 go_wp2_with fail
 refine (XT w3.heap.size K out ys w4 wW.out qG hK oG.out).mono ?_
 rintro e w5 ⟨vt,tb,t,rfl,Q3,hti,hb5⟩
 have HTI:=hid hti
 have Cz:=hid (wW.out.below hb5)
 have dV:=hid (dm.out.trans (hb5.mono (by omega)))
 have T5:=hid (T4.out.below hb5 (by omega))
 have hs5:=T5.out.lt
 obtain ⟨aot,cpt,rfl⟩:=ag Q3.out
 have jD:=hid Q3
 clear Q3 hti hb5 wW dm T4
 obtain ⟨vO0,f1,aoO,capO,rfl,hocap,horow⟩:=Cz.out.c1
 obtain ⟨vX,f2,aoX,capX,rfl,hxcap,hxrow⟩:=Cz.out.c2
 have hP:=Cz.out.lt
 have hol:((List.range K).map out).length=K:=by simp
 rw [hol] at f1 hocap horow
 obtain ⟨gO,rfl,hgO,hoc⟩:=horow qG
 obtain ⟨gX,rfl,hgX,hxc⟩:=hxrow qG
 have qP:Hid (∀ x,x<K→w5.cell? ⟨gO,x,none⟩=some (.int .i64 (out x:Nat))):=hid (fun x hx=>by
  have h9:=hoc x hx
  rw [show bG ((List.range K).map out) x=out x by simp [bG,List.getD,hx]] at h9
  exact h9)
 have HXC:Hid (∀ x,x<K→∃ gR capR,w5.cell? ⟨gX,x,none⟩=some (.slice (some ⟨gR,0,none⟩) 8 capR)∧gR<w5.heap.size∧∀ a,a<8→w5.cell? ⟨gR,a,none⟩=some (.int .i64 (aL ys x a:Nat))):=hid (fun x hx=>by
  obtain ⟨r,hr,aoR,capR,rfl,hcR,hrr⟩:=hxc x hx
  rw [sO] at hr hcR hrr
  obtain ⟨gR,rfl,hgR,hv⟩:=hrr (by omega)
  exact ⟨gR,capR,hr,hgR,fun a ha=>by have h9:=hv a ha;rw [MO ys ha] at h9;exact h9⟩)
 clear horow hxrow hoc hxc Cz
 generalize aL ys=nx at *
 go_wp2_with fail
 have bA:=(Below.refl w5.heap.size w5).alloc (Nat.le_refl _) (.cells #[.int .i64 0] 3)
 have bB:=hid (bA.alloc (by simp) (.cells #[.slice none 0 0,.slice none 0 0] 37))
 have OM0:=hid ((QM (w:=w5) (cs:=#[.int .i64 0]) (t:=3) (n:=1) (size:=1) rfl (by unfold maxLen;omega)).alloc (.cells #[.slice none 0 0,.slice none 0 0] 37))
 have XX:=bF (w5.alloc (.cells #[.int .i64 0] 3)) (.slice none 0 0) (.slice none 0 0) 37
 rw [show (w5.alloc (.cells #[.int .i64 0] 3)).heap.size=w5.heap.size+1 by simp] at XX
 have XX:=hid XX
 clear bA
 go_loopw [8,10] (fun vM x wq=>∃ (k:Nat) (ms xs os:List Nat) (vO vN:Value) (V:Nat→Value),x=.int .i64 k∧k≤ms.length∧xs.length=8*k∧Hid (AV out nx K ms xs)∧Hid (Pb out ms os k)∧Hid (wq.ownsRow w5.heap.size 3 1 vM ms.length (au ms))∧Hid (vM.ownBlock≠some (w5.heap.size+1))∧Hid (Two wq (w5.heap.size+1) vO vN)∧Hid (wq.ownsRow (w5.heap.size+2) 3 1 vO k (au os))∧Hid (vO.ownBlock=none∨vO.ownBlock≠vM.ownBlock)∧Hid (eD wq (w5.heap.size+2) 22 3 vN k V (fun q=>au (jY xs q)))∧Hid (∀ i,i<k→(V i).ownBlock≠vM.ownBlock∧(V i).ownBlock≠vO.ownBlock)∧Hid (Below w5.heap.size w5 wq)∧w5.heap.size+2≤wq.heap.size) (fun _ x _=>796594190 - (intOf x).toNat)
 case atStart=>exact ⟨0,[0],[],[],_,_,fun _=>.slice none 0 0,rfl,by simp,rfl,hid (UM qG),hid ⟨rfl,fun i h=>by omega⟩,OM0,hid (by simp [Value.ownBlock]),XX,hid (World.ownsRow_nil _ _ _ _),hid (Or.inl rfl),hid (qx _ _ _ _ _ _),hid (fun i h=>by omega),bB,by simp⟩
 case round=>
  obtain ⟨k,ms,xs,os,vO,vN,V,rfl,hk,hxl,HE,gN,HM,HMT,HT,HO,HOM,HN,HD,HB,hsz⟩:=hrel
  rename World=>W0
  clear bB OM0 XX
  have hmK:=Hz HE.out
  obtain ⟨aoM,cpM,hvM⟩:=ag HM.out
  by_cases hlk:k<ms.length
  ·obtain ⟨m0,hm0⟩:∃ m0,ms[k]?=some m0:=⟨ms[k],List.getElem?_eq_getElem hlk⟩
   have dW:=hid hm0
   have Z7:=HE.out.lt m0 (List.mem_of_getElem? hm0)
   obtain ⟨gR,capR,xr,hgR,xv⟩:=HXC.out m0 Z7
   have HXR:=hid xr
   have HXV:=hid xv
   have yV:=hid (fun i (hi:i<k) q (h:(V i).ownBlock=some q)=>((HN.out.row i hi).lt q h).2)
   have He:=hid (fun q (h:vO.ownBlock=some q)=>(HO.out.lt q h).2)
   have HNB:=hid (fun q (h:vN.ownBlock=some q)=>(HN.out.out.lt q h).2)
   clear hm0 xr xv
   subst hvM
   go_wp2_with fail
   go_loopw [8,11,12] (fun vM vL x wq=>∃ (l:Nat) (ms xs:List Nat),x=.int .i64 l∧l≤8∧xs.length=8*k+l∧Hid (ms[k]?=some m0)∧Hid (AV out nx K ms xs)∧Hid (Pb out ms os k)∧Hid (wq.ownsRow w5.heap.size 3 1 vM ms.length (au ms))∧Hid (vM.ownBlock≠some (w5.heap.size+1))∧Hid (Two wq (w5.heap.size+1) vO vN)∧Hid (wq.ownsRow (w5.heap.size+2) 3 1 vO k (au os))∧Hid (vO.ownBlock=none∨vO.ownBlock≠vM.ownBlock)∧Hid (eD wq (w5.heap.size+2) 22 3 vN k V (fun q=>au (jY xs q)))∧Hid (∀ i,i<k→(V i).ownBlock≠vM.ownBlock∧(V i).ownBlock≠vO.ownBlock)∧Hid (wq.ownsRow W0.heap.size 3 1 vL l (au (xs.drop (8*k))))∧Hid (vL.ownBlock=none∨vL.ownBlock≠vM.ownBlock)∧Hid (Below w5.heap.size w5 wq)∧W0.heap.size≤wq.heap.size) (fun _ _ x _=>8 - (intOf x).toNat)
   case atStart=>exact ⟨0,ms,xs,rfl,by omega,by omega,dW,HE,gN,HM,HMT,HT,HO,HOM,HN,HD,by rw [List.drop_of_length_le (by omega)];exact hid (World.ownsRow_nil _ _ _ _),hid (Or.inl rfl),HB,Nat.le_refl _⟩
   case round=>
    obtain ⟨l,ms,xs,rfl,hl8,hxl,dW,HE,gN,HM,HMT,HT,HO,HOM,HN,HD,HLs,nu,HB,iP⟩:=hrel
    rename World=>W3
    obtain ⟨aoM2,cpM2,rfl⟩:=ag HM.out
    have Np:=(List.getElem?_eq_some_iff.1 dW.out).1
    have amL:=Hz HE.out
    obtain ⟨gM,eM,hgMB,hgMs,hcM⟩:=dH HM.out (by omega)
    subst eM
    have c1:W3.cell? ⟨gM,k,none⟩=some (.int .i64 (m0:Nat)):=by
     rw [HM.out.cellAt k (by omega)]
     simp [au,List.getElem?_map,dW.out]
    by_cases hll:l<8
    ·have p2:=(HB.out.cell (p:=⟨w3.heap.size,2,none⟩) hP).trans f2
     have xr:=(HB.out.cell (p:=⟨gX,m0,none⟩) hgX).trans HXR.out
     have xv:=(HB.out.cell (p:=⟨gR,l,none⟩) hgR).trans (HXV.out l hll)
     have hnK:=oG.out m0 l Z7 hll
     have hxm:xs.length / 8=k∧xs.length % 8=l:=by omega
     have Ph:=hid (fun (j m1:Nat) (hj:ms[j]?=some m1) hq=>abW HE.out (m0:=m0) (j:=j) (m1:=m1) (by rw [hxm.1];exact dW.out) hj (by rw [hxm.2];exact hq))
     have HWN:=hid (fun hall=>abX HE.out (m0:=m0) (by rw [hxm.1];exact dW.out) (by rw [hxm.2];exact hnK) (by rw [hxm.2];exact hall))
     rw [hxm.2] at HWN
     generalize nx m0 l=n at *
     have c1':∀ m,(W3.drewN m).cell? ⟨gM,k,none⟩=some (.int .i64 (m0:Nat)):=fun m=>c1
     go_wp2_with fail
     go_quiet (fail)
     have bq:=below_drewN (Below.refl W3.heap.size W3) nq
     have HM4:=hid (ae HM.out bq)
     have KM:=hid (HT.out.below bq HT.out.lt)
     have DT:=hid (ae HO.out bq)
     have HN4:=hid (HN.out.keeps bq)
     have HL4:=hid (ae HLs.out bq)
     have PL:=hid (below_drewN HB.out nq)
     have aiX:W0.heap.size≤(W3.drewN nq).heap.size:=iP
     clear bq c1 c1' p2 xr xv HM HT HO HN HLs HB hgMs
     generalize W3.drewN nq=W4 at *
     go_wp2_with fail
     refine (ZO _ K n _ _ tb t ms W4 (jD.out.keeps PL.out) hnK hK (yI HM4.out) (by omega) HE.out.lt).mono ?_
     rintro e w6 ⟨hcase,mm,rfl⟩
     have bq:=below_drewN (Below.refl W4.heap.size W4) mm
     have Cx:=hid (ae HM4.out bq)
     have GZ:=hid (KM.out.below bq KM.out.lt)
     have Pm:=hid (ae DT.out bq)
     have DU:=hid (HN4.out.keeps bq)
     have ze:=hid (ae HL4.out bq)
     have zg:=hid (below_drewN PL.out mm)
     have aiW:W0.heap.size≤(W4.drewN mm).heap.size:=aiX
     clear bq HM4 KM DT HN4 HL4 PL
     generalize W4.drewN mm=W5 at *
     have Pp:=HMT
     have Pn:=HOM
     have RH:=HD
     have Au:=nu
     have Yb:=hid (fun m (hm:m<K)=>HTI.out n m hnK hm)
     rcases hcase with ⟨j,m1,rfl,hj,htf⟩ | ⟨rfl,hall⟩
     ·have ai4:=HE.out.lt m1 (List.mem_of_getElem? hj)
      have hjl:=(List.getElem?_eq_some_iff.1 hj).1
      have HEx:=hid (Ph.out j m1 hj (Classical.byContradiction fun hne=>by
       rw [(Yb.out m1 ai4).2 hne] at htf
       cases htf))
      have aaY:=dW
      have aaV:=gN
      have jn:¬ ((j:Int)<0):=by omega
      clear hj htf Ph HWN
      obtain ⟨aoL,cpL,rfl⟩:=ag ze.out
      have lh:=hid (fun q h=>(ze.out.lt q h).1)
      go_wp2_with (at_builtin;go_must (refine wpList_append_lies _ rfl (.tmp 65) (.tmp 67) 22 rfl W0.heap.size 3 i0 (.int .i64 0) 1 8 Tryz.underlying22 hi hz0 hz1 hz2 rfl (by decide) _ l (au (xs.drop (8*k))) rfl (ze.out.alloc _) ⟨W5.heap.size,0,none⟩ 1 1 [.int .i64 (j:Nat)] rfl rfl (bE W5 [.int .i64 (j:Nat)] _) (by intro y hy;simp at hy;rcases hy with rfl;rfl) (by decide) (by unfold maxLen;omega) (by omega) (by simp;omega) (W5.heap.size+1) (by simp) ?_))
      intro gg cc w7 hown hgrow hat hlt7
      have b6:=(Below.refl W5.heap.size W5).alloc (Nat.le_refl _) (.cells #[.int .i64 (j:Nat)] 3)
      have hs7:W5.heap.size≤w7.heap.size:=by
       have:=hgrow.size
       simp at this
       omega
      have Nt:(Value.slice aoL l cpL).ownBlock≠some (w5.heap.size+1):=fun e=>by have:=lh.out _ e;omega
      have T7:=hid (vU (GZ.out.below b6 GZ.out.lt) hgrow Nt)
      have WQ:(Value.slice (some ⟨gM,0,none⟩) ms.length cpM2).ownBlock=none∨(Value.slice (some ⟨gM,0,none⟩) ms.length cpM2).ownBlock≠(Value.slice aoL l cpL).ownBlock:=by
       rcases Au.out with h | h
       ·rw [h]
        cases (Value.slice (some ⟨gM,0,none⟩) ms.length cpM2).ownBlock <;> simp
       ·exact Or.inr fun e=>h e.symm
      have M7:=hid ((ae Cx.out b6).kept hgrow WQ)
      have far:∀ q,q<W0.heap.size→some q≠(Value.slice aoL l cpL).ownBlock:=fun q hq e=>by have:=lh.out q e.symm;omega
      have O7:=hid ((ae Pm.out b6).kept hgrow (by
       cases hv:vO.ownBlock with
       | none=>exact Or.inl rfl
       | some q=>exact Or.inr (far q (He.out q hv))))
      have N7:=(DU.out.keeps b6).tL hgrow (aD (DU.out.keeps b6).out (ze.out.alloc (.cells #[.int .i64 (j:Nat)] 3)) (by decide)) (fun q hq=>by
       cases hv:(V q).ownBlock with
       | none=>exact Or.inl rfl
       | some z=>exact Or.inr (far z (yV.out q hq z hv)))
      have N7:Hid (eD w7 (w5.heap.size+2) 22 3 vN k V (fun q=>au (jY (xs++[j]) q))):=hid ⟨N7.out,fun q hq=>by
       rw [Em (by omega)]
       exact N7.row q hq⟩
      have L7:Hid (w7.ownsRow W0.heap.size 3 1 (.slice (some ⟨gg,0,none⟩) (l+1) cc) (l+1) (au ((xs++[j]).drop (8*k)))):=hid (by
       rw [List.drop_append_of_le_length (by omega),show au (xs.drop (8*k)++[j])=au (xs.drop (8*k))++[.int .i64 (j:Nat)] by simp [au]]
       exact hown)
      have LM7:Hid ((Value.slice (some ⟨gg,0,none⟩) (l+1) cc).ownBlock=none∨(Value.slice (some ⟨gg,0,none⟩) (l+1) cc).ownBlock≠(Value.slice (some ⟨gM,0,none⟩) ms.length cpM2).ownBlock):=hid (Or.inr fun e=>by
       have e2:(Value.slice (some ⟨gM,0,none⟩) ms.length cpM2).ownBlock=some gg:=e.symm
       rcases hat with h | h
       ·rcases Au.out with h2 | h2
        ·rw [h] at h2;cases h2
        ·exact h2 (by rw [h,e2])
       ·have:=(Cx.out.lt gg e2).2
        omega)
      have fI:=hid ((zg.out.alloc zg.out.size (.cells #[.int .i64 (j:Nat)] 3)).grown hgrow (by have:=zg.out.size;simp;omega) (fun q h=>by have:=lh.out q h;omega))
      clear hown hgrow hat b6 Cx GZ Pm DU ze Au zg WQ far
      go_wp2_with fail
      go_roundw
      case rel=>exact ⟨l+1,ms,xs++[j],by go_num,by omega,by rw [List.length_append,List.length_singleton];omega,aaY,HEx,aaV,M7,Pp,T7,O7,Pn,N7,RH,L7,LM7,fI,by omega⟩
      case measure=>simp [intOf];omega
     ·have HEn:=hid (HWN.out (fun m hm hlk=>(Yb.out m (HE.out.lt m hm)).1 (hall m hm) hlk))
      have ai3:=Hz HEn.out
      rw [List.length_append,List.length_singleton] at ai3
      clear hall Ph HWN
      have HMB:=hid (fun q h=>(Cx.out.lt q h).1)
      have HMs:=hid (fun q (h:(Value.slice (some ⟨gM,0,none⟩) ms.length cpM2).ownBlock=some q)=>(Cx.out.lt q h).2)
      go_wp2_with (at_builtin;go_must (refine wpList_append_lies _ rfl (.tmp 61) (.tmp 63) 22 rfl w5.heap.size 3 i0 (.int .i64 0) 1 8 Tryz.underlying22 hi hz0 hz1 hz2 rfl (by decide) _ ms.length (au ms) rfl (Cx.out.alloc _) ⟨W5.heap.size,0,none⟩ 1 1 [.int .i64 (n:Nat)] rfl rfl (bE W5 [.int .i64 (n:Nat)] _) (by intro y hy;simp at hy;rcases hy with rfl;rfl) (by decide) (by unfold maxLen;omega) (by omega) (by have:=zg.out.size;simp;omega) (W5.heap.size+1) (by simp) ?_))
      intro g9 c9 w9 hown hgrow hat hlt9
      have b6:=(Below.refl W5.heap.size W5).alloc (Nat.le_refl _) (.cells #[.int .i64 (n:Nat)] 3)
      have hs9:W5.heap.size≤w9.heap.size:=by
       have:=hgrow.size
       simp at this
       omega
      have OLt:=hid (fun q (h:vO.ownBlock=some q)=>(Pm.out.lt q h).2)
      have VLt:=hid (fun i (hi:i<k) q (h:(V i).ownBlock=some q)=>((DU.out.row i hi).lt q h).2)
      have LLt:=hid (fun q (h:u11.ownBlock=some q)=>(ze.out.lt q h).2)
      have aeH:=GZ.out.lt
      have T9:=hid (vU (GZ.out.below b6 aeH) hgrow Pp.out)
      have O9:=hid ((ae Pm.out b6).kept hgrow Pn.out)
      have N9:=hid ((DU.out.keeps b6).tL hgrow (aD (DU.out.keeps b6).out (Cx.out.alloc (.cells #[.int .i64 (n:Nat)] 3)) (by decide)) (fun q hq=>Or.inr (RH.out q hq).1))
      have L9:=hid ((ae ze.out b6).kept hgrow Au.out)
      have M9:Hid (w9.ownsRow w5.heap.size 3 1 (.slice (some ⟨g9,0,none⟩) (ms.length+1) c9) (ms++[n]).length (au (ms++[n]))):=hid (by
       rw [List.length_append,show au (ms++[n])=au ms++[.int .i64 (n:Nat)] by simp [au]]
       exact hown)
      have fresh:∀ q,q<W5.heap.size→q≠gM→q≠g9:=fun q hq hne e=>by
       rcases hat with h | h
       ·exact hne (e.trans (Option.some.inj h).symm)
       ·omega
      have MT9:Hid ((Value.slice (some ⟨g9,0,none⟩) (ms.length+1) c9).ownBlock≠some (w5.heap.size+1)):=hid (fun e=>fresh _ aeH (fun e2=>Pp.out (by rw [e2];rfl)) (Option.some.inj e).symm)
      have OM9:Hid (vO.ownBlock=none∨vO.ownBlock≠(Value.slice (some ⟨g9,0,none⟩) (ms.length+1) c9).ownBlock):=hid (by
       rcases Pn.out with h | h
       ·exact Or.inl h
       ·cases hv:vO.ownBlock with
        | none=>exact Or.inl rfl
        | some q=>exact Or.inr fun e=>fresh q (OLt.out q hv) (fun e2=>h (by rw [hv,e2];rfl)) (Option.some.inj e))
      have D9:Hid (∀ i,i<k→(V i).ownBlock≠(Value.slice (some ⟨g9,0,none⟩) (ms.length+1) c9).ownBlock∧(V i).ownBlock≠vO.ownBlock):=hid (fun i hi=>⟨fun e=>by
       have e2:(V i).ownBlock=some g9:=e
       exact fresh g9 (VLt.out i hi g9 e2) (fun e3=>(RH.out i hi).1 (by rw [e2,e3];rfl)) rfl,(RH.out i hi).2⟩)
      have LM9:Hid (u11.ownBlock=none∨u11.ownBlock≠(Value.slice (some ⟨g9,0,none⟩) (ms.length+1) c9).ownBlock):=hid (by
       rcases Au.out with h | h
       ·exact Or.inl h
       ·cases hv:u11.ownBlock with
        | none=>exact Or.inl rfl
        | some q=>exact Or.inr fun e=>fresh q (LLt.out q hv) (fun e2=>h (by rw [hv,e2];rfl)) (Option.some.inj e))
      have B9:=hid ((zg.out.alloc zg.out.size (.cells #[.int .i64 (n:Nat)] 3)).grown hgrow (by have:=zg.out.size;simp;omega) (fun q h=>HMB.out q h))
      have aaY:Hid ((ms++[n])[k]?=some m0):=hid (by rw [List.getElem?_append_left Np];exact dW.out)
      have aaV:Hid (Pb out (ms++[n]) os k):=hid (acP gN.out (by omega))
      have HEx:=HEn
      have Cx:=M9
      have GZ:=T9
      have Pm:=O9
      have DU:=N9
      have ze:=L9
      have zg:=B9
      have Pp:=MT9
      have Pn:=OM9
      have RH:=D9
      have Au:=LM9
      have aiW:W0.heap.size≤w9.heap.size:=by omega
      clear hown hgrow hat b6 fresh M9 T9 O9 N9 L9 B9 MT9 OM9 D9 LM9 OLt VLt LLt
      obtain ⟨aoL,cpL,rfl⟩:=ag ze.out
      have lh:=hid (fun q h=>(ze.out.lt q h).1)
      go_wp2_with (at_builtin;go_must (refine wpList_append_lies _ rfl (.tmp 65) (.tmp 67) 22 rfl W0.heap.size 3 i0 (.int .i64 0) 1 8 Tryz.underlying22 hi hz0 hz1 hz2 rfl (by decide) _ l (au (xs.drop (8*k))) rfl (ze.out.alloc _) ⟨w9.heap.size,0,none⟩ 1 1 [.int .i64 (ms.length:Nat)] rfl rfl (bE w9 [.int .i64 (ms.length:Nat)] _) (by intro y hy;simp at hy;rcases hy with rfl;rfl) (by decide) (by unfold maxLen;omega) (by omega) (by simp;omega) (w9.heap.size+1) (by simp) ?_))
      intro gg cc w7 hown hgrow hat hlt7
      have b6:=(Below.refl w9.heap.size w9).alloc (Nat.le_refl _) (.cells #[.int .i64 (ms.length:Nat)] 3)
      have hs7:w9.heap.size≤w7.heap.size:=by
       have:=hgrow.size
       simp at this
       omega
      have Nt:(Value.slice aoL l cpL).ownBlock≠some (w5.heap.size+1):=fun e=>by have:=lh.out _ e;omega
      have T7:=hid (vU (GZ.out.below b6 GZ.out.lt) hgrow Nt)
      have WQ:(Value.slice (some ⟨g9,0,none⟩) (ms.length+1) c9).ownBlock=none∨(Value.slice (some ⟨g9,0,none⟩) (ms.length+1) c9).ownBlock≠(Value.slice aoL l cpL).ownBlock:=by
       rcases Au.out with h | h
       ·rw [h]
        cases (Value.slice (some ⟨g9,0,none⟩) (ms.length+1) c9).ownBlock <;> simp
       ·exact Or.inr fun e=>h e.symm
      have M7:=hid ((ae Cx.out b6).kept hgrow WQ)
      have far:∀ q,q<W0.heap.size→some q≠(Value.slice aoL l cpL).ownBlock:=fun q hq e=>by have:=lh.out q e.symm;omega
      have O7:=hid ((ae Pm.out b6).kept hgrow (by
       cases hv:vO.ownBlock with
       | none=>exact Or.inl rfl
       | some q=>exact Or.inr (far q (He.out q hv))))
      have N7:=(DU.out.keeps b6).tL hgrow (aD (DU.out.keeps b6).out (ze.out.alloc (.cells #[.int .i64 (ms.length:Nat)] 3)) (by decide)) (fun q hq=>by
       cases hv:(V q).ownBlock with
       | none=>exact Or.inl rfl
       | some z=>exact Or.inr (far z (yV.out q hq z hv)))
      have N7:Hid (eD w7 (w5.heap.size+2) 22 3 vN k V (fun q=>au (jY (xs++[ms.length]) q))):=hid ⟨N7.out,fun q hq=>by
       rw [Em (by omega)]
       exact N7.row q hq⟩
      have L7:Hid (w7.ownsRow W0.heap.size 3 1 (.slice (some ⟨gg,0,none⟩) (l+1) cc) (l+1) (au ((xs++[ms.length]).drop (8*k)))):=hid (by
       rw [List.drop_append_of_le_length (by omega),show au (xs.drop (8*k)++[ms.length])=au (xs.drop (8*k))++[.int .i64 (ms.length:Nat)] by simp [au]]
       exact hown)
      have LM7:Hid ((Value.slice (some ⟨gg,0,none⟩) (l+1) cc).ownBlock=none∨(Value.slice (some ⟨gg,0,none⟩) (l+1) cc).ownBlock≠(Value.slice (some ⟨g9,0,none⟩) (ms.length+1) c9).ownBlock):=hid (Or.inr fun e=>by
       have e2:(Value.slice (some ⟨g9,0,none⟩) (ms.length+1) c9).ownBlock=some gg:=e.symm
       rcases hat with h | h
       ·rcases Au.out with h2 | h2
        ·rw [h] at h2;cases h2
        ·exact h2 (by rw [h,e2])
       ·have:=(Cx.out.lt gg e2).2
        omega)
      have fI:=hid ((zg.out.alloc zg.out.size (.cells #[.int .i64 (ms.length:Nat)] 3)).grown hgrow (by have:=zg.out.size;simp;omega) (fun q h=>by have:=lh.out q h;omega))
      clear hown hgrow hat b6 Cx GZ Pm DU ze Au zg WQ far
      go_wp2_with fail
      go_roundw
      case rel=>exact ⟨l+1,ms++[n],xs++[ms.length],by go_num,by omega,by rw [List.length_append,List.length_singleton];omega,aaY,HEx,aaV,M7,Pp,T7,O7,Pn,N7,RH,L7,LM7,fI,by omega⟩
      case measure=>simp [intOf];omega
    ·obtain rfl:l=8:=by omega
     have t0:=HT.out.c0
     have J7:=HT.out.lt
     have p1:=(HB.out.cell (p:=⟨w3.heap.size,1,none⟩) hP).trans f1
     have om:=(HB.out.cell (p:=⟨gO,m0,none⟩) hgO).trans (qP.out m0 Z7)
     have hoK:=gN.out.1
     obtain ⟨aoV,cpV,rfl⟩:=ag HO.out
     have UA:=hid (fun q (h:(Value.slice aoV k cpV).ownBlock=some q)=>(HO.out.lt q h))
     have Uy:=hid (fun i (hi:i<k) q (h:(V i).ownBlock=some q)=>((HN.out.row i hi).lt q h).2)
     have Q4:(Value.slice aoV k cpV).ownBlock≠some gM:=fun e=>by
      rcases HOM.out with h | h
      ·rw [e] at h;cases h
      ·exact h (by rw [e];rfl)
     have HZ:Hid (W3.cell? ⟨w3.heap.size,1,none⟩=some (.slice (some ⟨gO,0,none⟩) K capO)∧W3.cell? ⟨gM,k,none⟩=some (.int .i64 (m0:Nat))∧W3.cell? ⟨gO,m0,none⟩=some (.int .i64 (out m0:Nat))):=hid ⟨p1,c1,om⟩
     have Iy:gM<W3.heap.size:=hgMs
     have Dn:w3.heap.size<W3.heap.size:=by have:=HB.out.size;omega
     have hOW:gO<W3.heap.size:=by have:=HB.out.size;omega
     have z1:(k:Int)<(ms.length:Int):=by omega
     have z2:(m0:Int)<(K:Int):=by omega
     go_wp2_with fail
     refine wp_region_held_drew (S:=fun W=>W.cell? ⟨w3.heap.size,1,none⟩=some (.slice (some ⟨gO,0,none⟩) K capO)∧W.cell? ⟨gM,k,none⟩=some (.int .i64 (m0:Nat))∧W.cell? ⟨gO,m0,none⟩=some (.int .i64 (out m0:Nat))) (by kernel_rfl) HZ.out (fun hHeld=>?_)
     refine wpAnyH_take (i:=0) (oi:={ dst:=some 69,op:=Op.fieldAddr _ (.tmp 9) 0,type:=_,pos:=_,after:=_,guard:=none }) (v:=(Value.pointer (some ⟨w5.heap.size+1,0,none⟩))) rfl (by kernel_rfl) (by kernel_rfl) (by kernel_rfl) (fun _ _ _ h=>h) (Or.inl ⟨by rfl,by intro w' hSw;(try dsimp only at hSw);go_simp⟩) (by assumption) ?_
     simp only [Act.put,List.setIfInBounds_toArray,List.set_cons_zero,List.set_cons_succ]
     refine wpAnyH_take (i:=2) (oi:={ dst:=some 71,op:=Op.move (.tmp 6),type:=_,pos:=_,after:=_,guard:=none }) (v:=(Value.pointer (some ⟨w3.heap.size,0,none⟩))) rfl (by kernel_rfl) (by kernel_rfl) (by kernel_rfl) (fun _ _ _ h=>h) (Or.inl ⟨by rfl,by intro w' hSw;(try dsimp only at hSw);go_simp⟩) (by assumption) ?_
     simp only [Act.put,List.setIfInBounds_toArray,List.set_cons_zero,List.set_cons_succ]
     refine wpAnyH_take (i:=3) (oi:={ dst:=some 72,op:=Op.nilCheck (.tmp 71),type:=_,pos:=_,after:=_,guard:=none }) (v:=(Value.pointer (some ⟨w3.heap.size,0,none⟩))) rfl (by kernel_rfl) (by kernel_rfl) (by kernel_rfl) (fun _ _ _ h=>h) (Or.inl ⟨by rfl,by intro w' hSw;(try dsimp only at hSw);go_simp⟩) (by assumption) ?_
     simp only [Act.put,List.setIfInBounds_toArray,List.set_cons_zero,List.set_cons_succ]
     refine wpAnyH_take (i:=4) (oi:={ dst:=some 73,op:=Op.fieldAddr _ (.tmp 72) 1,type:=_,pos:=_,after:=_,guard:=none }) (v:=(Value.pointer (some ⟨w3.heap.size,1,none⟩))) rfl (by kernel_rfl) (by kernel_rfl) (by kernel_rfl) (fun _ _ _ h=>h) (Or.inl ⟨by rfl,by intro w' hSw;(try dsimp only at hSw);go_simp⟩) (by assumption) ?_
     simp only [Act.put,List.setIfInBounds_toArray,List.set_cons_zero,List.set_cons_succ]
     refine wpAnyH_take (i:=5) (oi:={ dst:=some 74,op:=Op.load _ (.tmp 73),type:=_,pos:=_,after:=_,guard:=none }) (v:=(Value.slice (some ⟨gO,0,none⟩) K capO)) rfl (by kernel_rfl) (by kernel_rfl) (by kernel_rfl) (fun _ _ _ h=>h) (Or.inl ⟨by rfl,by intro w' hSw;obtain ⟨s0,s1,s2⟩:=hSw;go_simp⟩) (by assumption) ?_
     simp only [Act.put,List.setIfInBounds_toArray,List.set_cons_zero,List.set_cons_succ]
     refine wpAnyH_take (i:=6) (oi:={ dst:=some 75,op:=Op.move (.tmp 8),type:=_,pos:=_,after:=_,guard:=none }) (v:=(Value.slice (some ⟨gM,0,none⟩) ms.length cpM2)) rfl (by kernel_rfl) (by kernel_rfl) (by kernel_rfl) (fun _ _ _ h=>h) (Or.inl ⟨by rfl,by intro w' hSw;(try dsimp only at hSw);go_simp⟩) (by assumption) ?_
     simp only [Act.put,List.setIfInBounds_toArray,List.set_cons_zero,List.set_cons_succ]
     refine wpAnyH_take (i:=7) (oi:={ dst:=some 76,op:=Op.move (.tmp 10),type:=_,pos:=_,after:=_,guard:=none }) (v:=(Value.int .i64 (k:Nat))) rfl (by kernel_rfl) (by kernel_rfl) (by kernel_rfl) (fun _ _ _ h=>h) (Or.inl ⟨by rfl,by intro w' hSw;(try dsimp only at hSw);go_simp⟩) (by assumption) ?_
     simp only [Act.put,List.setIfInBounds_toArray,List.set_cons_zero,List.set_cons_succ]
     refine wpAnyH_take (i:=8) (oi:={ dst:=some 77,op:=Op.indexAddr _ (.tmp 75) (.tmp 76),type:=_,pos:=_,after:=_,guard:=none }) (v:=(Value.pointer (some ⟨gM,k,none⟩))) rfl (by kernel_rfl) (by kernel_rfl) (by kernel_rfl) (fun _ _ _ h=>h) (Or.inl ⟨by rfl,by intro w' hSw;(try dsimp only at hSw);go_simp⟩) (by assumption) ?_
     simp only [Act.put,List.setIfInBounds_toArray,List.set_cons_zero,List.set_cons_succ]
     refine wpAnyH_take (i:=9) (oi:={ dst:=some 78,op:=Op.load _ (.tmp 77),type:=_,pos:=_,after:=_,guard:=none }) (v:=(Value.int .i64 (m0:Nat))) rfl (by kernel_rfl) (by kernel_rfl) (by kernel_rfl) (fun _ _ _ h=>h) (Or.inl ⟨by rfl,by intro w' hSw;obtain ⟨s0,s1,s2⟩:=hSw;go_simp⟩) (by assumption) ?_
     simp only [Act.put,List.setIfInBounds_toArray,List.set_cons_zero,List.set_cons_succ]
     refine wpAnyH_take (i:=10) (oi:={ dst:=some 79,op:=Op.indexAddr _ (.tmp 74) (.tmp 78),type:=_,pos:=_,after:=_,guard:=none }) (v:=(Value.pointer (some ⟨gO,m0,none⟩))) rfl (by kernel_rfl) (by kernel_rfl) (by kernel_rfl) (fun _ _ _ h=>h) (Or.inl ⟨by rfl,by intro w' hSw;(try dsimp only at hSw);go_simp⟩) (by assumption) ?_
     simp only [Act.put,List.setIfInBounds_toArray,List.set_cons_zero,List.set_cons_succ]
     refine wpAnyH_take (i:=11) (oi:={ dst:=some 80,op:=Op.load _ (.tmp 79),type:=_,pos:=_,after:=_,guard:=none }) (v:=(Value.int .i64 (out m0:Nat))) rfl (by kernel_rfl) (by kernel_rfl) (by kernel_rfl) (fun _ _ _ h=>h) (Or.inl ⟨by rfl,by intro w' hSw;obtain ⟨s0,s1,s2⟩:=hSw;go_simp⟩) (by assumption) ?_
     simp only [Act.put,List.setIfInBounds_toArray,List.set_cons_zero,List.set_cons_succ]
     refine wpAnyH_ready (rs:=[1,12]) (by kernel_rfl) (by simp) ?_
     refine AllReadyH.cons rfl (fun K9 hK9=>?_) (AllReadyH.cons rfl (fun K9 hK9=>?_) AllReadyH.nil)
     ·go_simp
      refine hK9.out _ _ (by assumption) (fun hHeld=>?_)
      clear hK9 K9
      refine wpAnyH_ready (rs:=[12]) (by kernel_rfl) (by simp) ?_
      refine AllReadyH.cons rfl (fun K9 hK9=>?_) AllReadyH.nil
      go_simp
      refine hK9.out _ _ ⟨by show (W3.alloc _).cell? _=_;rw [World.cell?_alloc_lt _ _ _ Dn];exact HZ.out.1,by show (W3.alloc _).cell? _=_;rw [World.cell?_alloc_lt _ _ _ Iy];exact HZ.out.2.1,by show (W3.alloc _).cell? _=_;rw [World.cell?_alloc_lt _ _ _ hOW];exact HZ.out.2.2⟩ (fun hHeld=>?_)
      clear hK9 K9
      refine wpAnyH_ready (rs:=[13]) (by kernel_rfl) (by simp) ?_
      refine AllReadyH.cons rfl (fun K9 hK9=>?_) AllReadyH.nil
      refine step_append_lies _ (by rfl) (.tmp 70) (.tmp 81) 22 (by rfl) (w5.heap.size+2) 3 i0 (.int .i64 0) 1 8 Tryz.underlying22 hi hz0 hz1 hz2 rfl (by decide) _ k (au os) (by rfl) ((HO.out.alloc _).drew) ⟨W3.heap.size,0,none⟩ 1 1 [.int .i64 (out m0:Nat)] (by rfl) (by rfl) (bE W3 [.int .i64 (out m0:Nat)] _) (by intro y hy;simp at hy;rcases hy with rfl;rfl) (by decide) (by unfold maxLen;omega) (by omega) (by simp;omega) (W3.heap.size+1) (by simp) ?_
      intro gg cc w2 hown hgrow hat hlt2
      have Ey:W3.heap.size+1≤w2.heap.size:=by
       have h4:(W3.drew.alloc (.cells #[.int .i64 (out m0:Nat)] 3)).heap.size≤w2.heap.size:=hgrow.size
       rw [World.size_alloc] at h4
       exact h4
      have fE:KB W3 w2 (W3.heap.size+w2.heap.size+1) (Value.slice aoV k cpV).ownBlock none:=⟨hgrow.os,hgrow.tape,hgrow.output,by omega,fun q hq h1 h2 _=>by
       rw [hgrow.block q (by show q<(W3.alloc (.cells #[.int .i64 (out m0:Nat)] 3)).heap.size;rw [World.size_alloc];omega) h2]
       show (W3.alloc (.cells #[.int .i64 (out m0:Nat)] 3)).heap[q]?=_
       rw [Below.heap_alloc _ _ _ (by omega)]⟩
      have qg:∀ q,q<w5.heap.size+2→some q≠(Value.slice aoV k cpV).ownBlock:=fun q hq e=>by have:=(UA.out q e.symm).1;omega
      have keep:∀ q,q<W3.heap.size→some q≠(Value.slice aoV k cpV).ownBlock→w2.heap[q]?=W3.heap[q]?:=fun q hq h=>fE.block q hq (by omega) h (by simp)
      have nT:∀ (v:Value) B e s n ys,W3.ownsRow B e s v n ys→v.ownBlock≠some (W3.heap.size+w2.heap.size+1):=fun v B e s n ys h e9=>by have:=(h.lt _ e9).2;omega
      have T2:Two w2 (w5.heap.size+1) (.slice aoV k cpV) vN:=⟨(World.cell?_of_block (a:=⟨w5.heap.size+1,0,none⟩) (keep _ J7 (qg (w5.heap.size+1) (by omega)))).trans HT.out.c0,(World.cell?_of_block (a:=⟨w5.heap.size+1,1,none⟩) (keep _ J7 (qg (w5.heap.size+1) (by omega)))).trans HT.out.c1,(World.frozen?_of_block (a:=⟨w5.heap.size+1,0,none⟩) (keep _ J7 (qg (w5.heap.size+1) (by omega)))).trans HT.out.f0,(World.frozen?_of_block (a:=⟨w5.heap.size+1,1,none⟩) (keep _ J7 (qg (w5.heap.size+1) (by omega)))).trans HT.out.f1⟩
      have g2:w2.cell? ⟨w3.heap.size,1,none⟩=some (.slice (some ⟨gO,0,none⟩) K capO)∧w2.cell? ⟨gM,k,none⟩=some (.int .i64 (m0:Nat))∧w2.cell? ⟨gO,m0,none⟩=some (.int .i64 (out m0:Nat)):=⟨(World.cell?_of_block (a:=⟨w3.heap.size,1,none⟩) (keep _ Dn (qg w3.heap.size (by omega)))).trans HZ.out.1,(World.cell?_of_block (a:=⟨gM,k,none⟩) (keep _ Iy (fun e=>Q4 e.symm))).trans HZ.out.2.1,(World.cell?_of_block (a:=⟨gO,m0,none⟩) (keep _ hOW (qg gO (by omega)))).trans HZ.out.2.2⟩
      have D1:=hid (T2.set0 (.slice (some ⟨gg,0,none⟩) (k+1) cc))
      have D2:Hid ((w2.setCell ⟨w5.heap.size+1,0,none⟩ (.slice (some ⟨gg,0,none⟩) (k+1) cc)).ownsRow (w5.heap.size+2) 3 1 (.slice (some ⟨gg,0,none⟩) (k+1) cc) (k+1) (au (os++[out m0]))):=hid (ak (by
       rw [show au (os++[out m0])=au os++[.int .i64 (out m0:Nat)] by simp [au]]
       exact hown) (by omega) _ _)
      have D3:=hid (aQ (fB HM.out fE (nT _ _ _ _ _ _ HM.out) (Or.inr fun e=>Q4 e.symm) (by simp [Value.ownBlock])) ⟨w5.heap.size+1,0,none⟩ (.slice (some ⟨gg,0,none⟩) (k+1) cc) HMT.out)
      have D4:=hid (ak (fB HLs.out fE (nT _ _ _ _ _ _ HLs.out) (by
       cases hv:u11.ownBlock with
       | none=>exact Or.inl rfl
       | some q=>
        refine Or.inr fun e=>?_
        have h1:=(HLs.out.lt q hv).1
        have h2:=He.out q e.symm
        omega) (by cases u11.ownBlock <;> simp)) (show w5.heap.size+1<W0.heap.size by omega) 0 (.slice (some ⟨gg,0,none⟩) (k+1) cc))
      have N2:eD w2 (w5.heap.size+2) 22 3 vN k V (fun q=>au (jY xs q)):=⟨fB HN.out.out fE (nT _ _ _ _ _ _ HN.out.out) (aD HN.out.out HO.out (by decide)) (by cases vN.ownBlock <;> simp),fun i hi=>fB (HN.out.row i hi) fE (nT _ _ _ _ _ _ (HN.out.row i hi)) (Or.inr (HD.out i hi).2) (by cases (V i).ownBlock <;> simp)⟩
      have D5:=hid (N2.set (show w5.heap.size+1<w5.heap.size+2 by omega) 0 (.slice (some ⟨gg,0,none⟩) (k+1) cc))
      have fresh:∀ q,q<W3.heap.size→some q≠(Value.slice aoV k cpV).ownBlock→q≠gg:=fun q hq hne e=>by
       rcases hat with h | h
       ·exact hne (by rw [h,e])
       ·omega
      have D6:Hid (((.slice (some ⟨gg,0,none⟩) (k+1) cc):Value).ownBlock=none∨((.slice (some ⟨gg,0,none⟩) (k+1) cc):Value).ownBlock≠(Value.slice (some ⟨gM,0,none⟩) ms.length cpM2).ownBlock):=hid (Or.inr fun e=>fresh gM Iy (fun e2=>Q4 e2.symm) (Option.some.inj e).symm)
      have D7:Hid (∀ i,i<k→(V i).ownBlock≠(Value.slice (some ⟨gM,0,none⟩) ms.length cpM2).ownBlock∧(V i).ownBlock≠((.slice (some ⟨gg,0,none⟩) (k+1) cc):Value).ownBlock):=hid (fun i hi=>⟨(HD.out i hi).1,fun e=>by
       have e2:(V i).ownBlock=some gg:=e
       exact fresh gg (Uy.out i hi gg e2) (fun e3=>(HD.out i hi).2 (by rw [e2,e3])) rfl⟩)
      have D8:Hid (u11.ownBlock≠((.slice (some ⟨gg,0,none⟩) (k+1) cc):Value).ownBlock):=hid (fun e=>by
       have e2:u11.ownBlock=some gg:=e
       have h1:=HLs.out.lt gg e2
       rcases hat with h | h
       ·have:=He.out gg h
        omega
       ·omega)
      have D9:=hid (((below_drewN (HB.out.alloc HB.out.size (.cells #[.int .i64 (out m0:Nat)] 3)) 1).grown hgrow (by have h9:=HB.out.size;show w5.heap.size≤(W3.alloc _).heap.size;simp;omega) (fun q h=>by have:=(UA.out q h).1;omega)).setCell (p:=⟨w5.heap.size+1,0,none⟩) (by show w5.heap.size≤w5.heap.size+1;omega) (.slice (some ⟨gg,0,none⟩) (k+1) cc))
      refine hK9.out _ _ g2 (fun hHeld=>?_)
      have iW:Hid ((w2.setCell ⟨w5.heap.size+1,0,none⟩ (.slice (some ⟨gg,0,none⟩) (k+1) cc)).cell? ⟨w3.heap.size,1,none⟩=some (.slice (some ⟨gO,0,none⟩) K capO)∧(w2.setCell ⟨w5.heap.size+1,0,none⟩ (.slice (some ⟨gg,0,none⟩) (k+1) cc)).cell? ⟨gM,k,none⟩=some (.int .i64 (m0:Nat))∧(w2.setCell ⟨w5.heap.size+1,0,none⟩ (.slice (some ⟨gg,0,none⟩) (k+1) cc)).cell? ⟨gO,m0,none⟩=some (.int .i64 (out m0:Nat))):=hid ⟨by rw [World.cell?_setCell_other _ _ _ _ (fun e=>by have:=congrArg Addr.block e;simp at this;omega)];exact g2.1,by rw [World.cell?_setCell_other _ _ _ _ (fun e=>HMT.out (by have:=congrArg Addr.block e;simp at this;rw [this];rfl))];exact g2.2.1,by rw [World.cell?_setCell_other _ _ _ _ (fun e=>by have:=congrArg Addr.block e;simp at this;omega)];exact g2.2.2⟩
      have c2:=T2.c0
      have f9:=T2.f0
      clear hK9 K9 hown hgrow hat g2 T2 fE keep nT N2 fresh qg
      simp only [Act.put,List.setIfInBounds_toArray]
      refine wpAnyH_take (i:=14) (oi:={ dst:=some 83,op:=Op.fieldAddr _ (.tmp 9) 0,type:=_,pos:=_,after:=_,guard:=none }) (v:=(Value.pointer (some ⟨w5.heap.size+1,0,none⟩))) rfl (by kernel_rfl) (by kernel_rfl) (by kernel_rfl) (fun _ _ _ h=>h) (Or.inl ⟨by rfl,by intro w' hSw;(try dsimp only at hSw);go_simp⟩) (by assumption) ?_
      simp only [Act.put]
      refine wpAnyH_ready (rs:=[15]) (by kernel_rfl) (by simp) ?_
      refine AllReadyH.cons rfl (fun K9 hK9=>?_) AllReadyH.nil
      go_simp
      refine hK9.out _ _ iW.out (fun hHeld=>?_)
      clear hK9 K9
      refine wpAnyH_done (by kernel_rfl) ?_ _
      clear hHeld c2 f9 iW
      have aiT:W3.heap.size<(w2.setCell ⟨w5.heap.size+1,0,none⟩ (.slice (some ⟨gg,0,none⟩) (k+1) cc)).heap.size:=by rw [World.size_setCell];omega
      generalize w2.setCell ⟨w5.heap.size+1,0,none⟩ (.slice (some ⟨gg,0,none⟩) (k+1) cc)=W6 at *
      clear HT HO HM HN HLs HB HD t0 p1 om c1 HZ
      have Rp:=hid (QN gN.out dW.out)
      have q0:=D1.out.c1
      have q1:=D1.out.f1
      obtain ⟨aoN,cpN,rfl⟩:=ag D5.out.out
      obtain ⟨aoL,cpL,rfl⟩:=ag D4.out
      have b6:=(Below.refl W6.heap.size W6).alloc (Nat.le_refl _) (.cells #[.slice aoL 8 cpL] 22)
      go_wp2_with (at_builtin;go_must (refine wpList_append_lies _ rfl (.tmp 85) (.tmp 87) 23 rfl (w5.heap.size+2) 22 i1 (.slice none 0 0) 1 24 Tryz.underlying23 hi1 hz01 hz11 hz21 rfl (by decide) _ k ((List.range k).map V) rfl (D5.out.out.alloc _) ⟨W6.heap.size,0,none⟩ 1 1 [.slice aoL 8 cpL] rfl rfl (bE W6 [.slice aoL 8 cpL] _) (by intro y hy;simp at hy;rcases hy with rfl;rfl) (by decide) (by unfold maxLen;omega) (by omega) (by simp;omega) (W6.heap.size+1) (by simp) ?_))
      intro g8 c8 w8 hown hgrow hat hlt8
      have pG:W6.heap.size≤w8.heap.size:=by
       have:=hgrow.size
       simp at this
       omega
      have lQ:(Value.slice aoN k cpN).ownBlock≠some (w5.heap.size+1):=fun e=>by have:=(D5.out.out.lt _ e).1;omega
      have T8:=vU (D1.out.below b6 D1.out.lt) hgrow lQ
      have Nk:(au (jY xs k)).length=8:=by rw [kg,sO]
      have lc:=(aY D4.out (show w5.heap.size+2≤W0.heap.size by omega)).alloc (.cells #[.slice aoL 8 cpL] 22)
      rw [En (by omega)] at lc
      have N8:=kC (D5.out.keeps b6) (x:=.slice aoL 8 cpL) (by rw [Nk];exact lc) (by decide) hgrow hown
      have ow:W6.alloc (.cells #[.slice aoL 8 cpL] 22)=W6.alloc (.cells #[.slice aoL 8 cpL] 22):=rfl
      have OWN:=D5.out.out.alloc (.cells #[.slice aoL 8 cpL] 22)
      have O8:=(ae D2.out b6).kept hgrow (aD (ae D2.out b6) OWN (by decide))
      have M8:=(ae D3.out b6).kept hgrow (aD (ae D3.out b6) OWN (by decide))
      have r0:=T8.c1
      have r1:=T8.f1
      have E1:=hid (T8.set1 (.slice (some ⟨g8,0,none⟩) (k+1) c8))
      have E2:=hid (N8.set (show w5.heap.size+1<w5.heap.size+2 by omega) 1 (.slice (some ⟨g8,0,none⟩) (k+1) c8))
      have E3:=hid (ak O8 (show w5.heap.size+1<w5.heap.size+2 by omega) 1 (.slice (some ⟨g8,0,none⟩) (k+1) c8))
      have E4:=hid (aQ M8 ⟨w5.heap.size+1,1,none⟩ (.slice (some ⟨g8,0,none⟩) (k+1) c8) HMT.out)
      have E5:Hid (∀ i,i<k+1→((fun i=>if i=k then Value.slice aoL 8 cpL else V i) i).ownBlock≠(Value.slice (some ⟨gM,0,none⟩) ms.length cpM2).ownBlock∧((fun i=>if i=k then Value.slice aoL 8 cpL else V i) i).ownBlock≠((.slice (some ⟨gg,0,none⟩) (k+1) cc):Value).ownBlock):=hid (fun i hi=>by
       by_cases c:i=k
       ·simp only [c,if_true]
        refine ⟨?_,D8.out⟩
        rcases nu.out with h | h
        ·obtain ⟨g9,h9,_⟩:=dH D4.out (by omega)
         subst h9
         simp [Value.ownBlock] at h
        ·exact h
       ·simp only [c,if_false]
        exact D7.out i (by omega))
      have E6:=hid (((D9.out.alloc D9.out.size (.cells #[.slice aoL 8 cpL] 22)).grown hgrow (by have:=D9.out.size;simp;omega) (fun q h=>by have:=(D5.out.out.lt q h).1;omega)).setCell (p:=⟨w5.heap.size+1,1,none⟩) (by show w5.heap.size≤w5.heap.size+1;omega) (.slice (some ⟨g8,0,none⟩) (k+1) c8))
      clear hown hgrow hat b6 ow OWN O8 M8 N8 T8 lc D1 D2 D3 D4 D5 D9 lQ
      go_wp2_with fail
      go_roundw
      case rel=>exact ⟨k+1,ms,xs,os++[out m0],_,_,_,by go_num,by omega,by omega,HE,Rp,E4,HMT,E1,E3,D6,E2,E5,E6,by simp;omega⟩
      case measure=>simp [intOf];omega
     ·go_simp
      refine hK9.out _ _ ⟨by show (W3.alloc _).cell? _=_;rw [World.cell?_alloc_lt _ _ _ Dn];exact HZ.out.1,by show (W3.alloc _).cell? _=_;rw [World.cell?_alloc_lt _ _ _ Iy];exact HZ.out.2.1,by show (W3.alloc _).cell? _=_;rw [World.cell?_alloc_lt _ _ _ hOW];exact HZ.out.2.2⟩ (fun hHeld=>?_)
      clear hK9 K9
      refine wpAnyH_ready (rs:=[1]) (by kernel_rfl) (by simp) ?_
      refine AllReadyH.cons rfl (fun K9 hK9=>?_) AllReadyH.nil
      go_simp
      refine hK9.out _ _ (by assumption) (fun hHeld=>?_)
      clear hK9 K9
      refine wpAnyH_ready (rs:=[13]) (by kernel_rfl) (by simp) ?_
      refine AllReadyH.cons rfl (fun K9 hK9=>?_) AllReadyH.nil
      refine step_append_lies _ (by rfl) (.tmp 70) (.tmp 81) 22 (by rfl) (w5.heap.size+2) 3 i0 (.int .i64 0) 1 8 Tryz.underlying22 hi hz0 hz1 hz2 rfl (by decide) _ k (au os) (by rfl) ((HO.out.alloc _).drew) ⟨W3.heap.size,0,none⟩ 1 1 [.int .i64 (out m0:Nat)] (by rfl) (by rfl) (bE W3 [.int .i64 (out m0:Nat)] _) (by intro y hy;simp at hy;rcases hy with rfl;rfl) (by decide) (by unfold maxLen;omega) (by omega) (by simp;omega) (W3.heap.size+1) (by simp) ?_
      intro gg cc w2 hown hgrow hat hlt2
      have Ey:W3.heap.size+1≤w2.heap.size:=by
       have h4:(W3.drew.alloc (.cells #[.int .i64 (out m0:Nat)] 3)).heap.size≤w2.heap.size:=hgrow.size
       rw [World.size_alloc] at h4
       exact h4
      have fE:KB W3 w2 (W3.heap.size+w2.heap.size+1) (Value.slice aoV k cpV).ownBlock none:=⟨hgrow.os,hgrow.tape,hgrow.output,by omega,fun q hq h1 h2 _=>by
       rw [hgrow.block q (by show q<(W3.alloc (.cells #[.int .i64 (out m0:Nat)] 3)).heap.size;rw [World.size_alloc];omega) h2]
       show (W3.alloc (.cells #[.int .i64 (out m0:Nat)] 3)).heap[q]?=_
       rw [Below.heap_alloc _ _ _ (by omega)]⟩
      have qg:∀ q,q<w5.heap.size+2→some q≠(Value.slice aoV k cpV).ownBlock:=fun q hq e=>by have:=(UA.out q e.symm).1;omega
      have keep:∀ q,q<W3.heap.size→some q≠(Value.slice aoV k cpV).ownBlock→w2.heap[q]?=W3.heap[q]?:=fun q hq h=>fE.block q hq (by omega) h (by simp)
      have nT:∀ (v:Value) B e s n ys,W3.ownsRow B e s v n ys→v.ownBlock≠some (W3.heap.size+w2.heap.size+1):=fun v B e s n ys h e9=>by have:=(h.lt _ e9).2;omega
      have T2:Two w2 (w5.heap.size+1) (.slice aoV k cpV) vN:=⟨(World.cell?_of_block (a:=⟨w5.heap.size+1,0,none⟩) (keep _ J7 (qg (w5.heap.size+1) (by omega)))).trans HT.out.c0,(World.cell?_of_block (a:=⟨w5.heap.size+1,1,none⟩) (keep _ J7 (qg (w5.heap.size+1) (by omega)))).trans HT.out.c1,(World.frozen?_of_block (a:=⟨w5.heap.size+1,0,none⟩) (keep _ J7 (qg (w5.heap.size+1) (by omega)))).trans HT.out.f0,(World.frozen?_of_block (a:=⟨w5.heap.size+1,1,none⟩) (keep _ J7 (qg (w5.heap.size+1) (by omega)))).trans HT.out.f1⟩
      have g2:w2.cell? ⟨w3.heap.size,1,none⟩=some (.slice (some ⟨gO,0,none⟩) K capO)∧w2.cell? ⟨gM,k,none⟩=some (.int .i64 (m0:Nat))∧w2.cell? ⟨gO,m0,none⟩=some (.int .i64 (out m0:Nat)):=⟨(World.cell?_of_block (a:=⟨w3.heap.size,1,none⟩) (keep _ Dn (qg w3.heap.size (by omega)))).trans HZ.out.1,(World.cell?_of_block (a:=⟨gM,k,none⟩) (keep _ Iy (fun e=>Q4 e.symm))).trans HZ.out.2.1,(World.cell?_of_block (a:=⟨gO,m0,none⟩) (keep _ hOW (qg gO (by omega)))).trans HZ.out.2.2⟩
      have D1:=hid (T2.set0 (.slice (some ⟨gg,0,none⟩) (k+1) cc))
      have D2:Hid ((w2.setCell ⟨w5.heap.size+1,0,none⟩ (.slice (some ⟨gg,0,none⟩) (k+1) cc)).ownsRow (w5.heap.size+2) 3 1 (.slice (some ⟨gg,0,none⟩) (k+1) cc) (k+1) (au (os++[out m0]))):=hid (ak (by
       rw [show au (os++[out m0])=au os++[.int .i64 (out m0:Nat)] by simp [au]]
       exact hown) (by omega) _ _)
      have D3:=hid (aQ (fB HM.out fE (nT _ _ _ _ _ _ HM.out) (Or.inr fun e=>Q4 e.symm) (by simp [Value.ownBlock])) ⟨w5.heap.size+1,0,none⟩ (.slice (some ⟨gg,0,none⟩) (k+1) cc) HMT.out)
      have D4:=hid (ak (fB HLs.out fE (nT _ _ _ _ _ _ HLs.out) (by
       cases hv:u11.ownBlock with
       | none=>exact Or.inl rfl
       | some q=>
        refine Or.inr fun e=>?_
        have h1:=(HLs.out.lt q hv).1
        have h2:=He.out q e.symm
        omega) (by cases u11.ownBlock <;> simp)) (show w5.heap.size+1<W0.heap.size by omega) 0 (.slice (some ⟨gg,0,none⟩) (k+1) cc))
      have N2:eD w2 (w5.heap.size+2) 22 3 vN k V (fun q=>au (jY xs q)):=⟨fB HN.out.out fE (nT _ _ _ _ _ _ HN.out.out) (aD HN.out.out HO.out (by decide)) (by cases vN.ownBlock <;> simp),fun i hi=>fB (HN.out.row i hi) fE (nT _ _ _ _ _ _ (HN.out.row i hi)) (Or.inr (HD.out i hi).2) (by cases (V i).ownBlock <;> simp)⟩
      have D5:=hid (N2.set (show w5.heap.size+1<w5.heap.size+2 by omega) 0 (.slice (some ⟨gg,0,none⟩) (k+1) cc))
      have fresh:∀ q,q<W3.heap.size→some q≠(Value.slice aoV k cpV).ownBlock→q≠gg:=fun q hq hne e=>by
       rcases hat with h | h
       ·exact hne (by rw [h,e])
       ·omega
      have D6:Hid (((.slice (some ⟨gg,0,none⟩) (k+1) cc):Value).ownBlock=none∨((.slice (some ⟨gg,0,none⟩) (k+1) cc):Value).ownBlock≠(Value.slice (some ⟨gM,0,none⟩) ms.length cpM2).ownBlock):=hid (Or.inr fun e=>fresh gM Iy (fun e2=>Q4 e2.symm) (Option.some.inj e).symm)
      have D7:Hid (∀ i,i<k→(V i).ownBlock≠(Value.slice (some ⟨gM,0,none⟩) ms.length cpM2).ownBlock∧(V i).ownBlock≠((.slice (some ⟨gg,0,none⟩) (k+1) cc):Value).ownBlock):=hid (fun i hi=>⟨(HD.out i hi).1,fun e=>by
       have e2:(V i).ownBlock=some gg:=e
       exact fresh gg (Uy.out i hi gg e2) (fun e3=>(HD.out i hi).2 (by rw [e2,e3])) rfl⟩)
      have D8:Hid (u11.ownBlock≠((.slice (some ⟨gg,0,none⟩) (k+1) cc):Value).ownBlock):=hid (fun e=>by
       have e2:u11.ownBlock=some gg:=e
       have h1:=HLs.out.lt gg e2
       rcases hat with h | h
       ·have:=He.out gg h
        omega
       ·omega)
      have D9:=hid (((below_drewN (HB.out.alloc HB.out.size (.cells #[.int .i64 (out m0:Nat)] 3)) 1).grown hgrow (by have h9:=HB.out.size;show w5.heap.size≤(W3.alloc _).heap.size;simp;omega) (fun q h=>by have:=(UA.out q h).1;omega)).setCell (p:=⟨w5.heap.size+1,0,none⟩) (by show w5.heap.size≤w5.heap.size+1;omega) (.slice (some ⟨gg,0,none⟩) (k+1) cc))
      refine hK9.out _ _ g2 (fun hHeld=>?_)
      have iW:Hid ((w2.setCell ⟨w5.heap.size+1,0,none⟩ (.slice (some ⟨gg,0,none⟩) (k+1) cc)).cell? ⟨w3.heap.size,1,none⟩=some (.slice (some ⟨gO,0,none⟩) K capO)∧(w2.setCell ⟨w5.heap.size+1,0,none⟩ (.slice (some ⟨gg,0,none⟩) (k+1) cc)).cell? ⟨gM,k,none⟩=some (.int .i64 (m0:Nat))∧(w2.setCell ⟨w5.heap.size+1,0,none⟩ (.slice (some ⟨gg,0,none⟩) (k+1) cc)).cell? ⟨gO,m0,none⟩=some (.int .i64 (out m0:Nat))):=hid ⟨by rw [World.cell?_setCell_other _ _ _ _ (fun e=>by have:=congrArg Addr.block e;simp at this;omega)];exact g2.1,by rw [World.cell?_setCell_other _ _ _ _ (fun e=>HMT.out (by have:=congrArg Addr.block e;simp at this;rw [this];rfl))];exact g2.2.1,by rw [World.cell?_setCell_other _ _ _ _ (fun e=>by have:=congrArg Addr.block e;simp at this;omega)];exact g2.2.2⟩
      have c2:=T2.c0
      have f9:=T2.f0
      clear hK9 K9 hown hgrow hat g2 T2 fE keep nT N2 fresh qg
      simp only [Act.put,List.setIfInBounds_toArray]
      refine wpAnyH_take (i:=14) (oi:={ dst:=some 83,op:=Op.fieldAddr _ (.tmp 9) 0,type:=_,pos:=_,after:=_,guard:=none }) (v:=(Value.pointer (some ⟨w5.heap.size+1,0,none⟩))) rfl (by kernel_rfl) (by kernel_rfl) (by kernel_rfl) (fun _ _ _ h=>h) (Or.inl ⟨by rfl,by intro w' hSw;(try dsimp only at hSw);go_simp⟩) (by assumption) ?_
      simp only [Act.put]
      refine wpAnyH_ready (rs:=[15]) (by kernel_rfl) (by simp) ?_
      refine AllReadyH.cons rfl (fun K9 hK9=>?_) AllReadyH.nil
      go_simp
      refine hK9.out _ _ iW.out (fun hHeld=>?_)
      clear hK9 K9
      refine wpAnyH_done (by kernel_rfl) ?_ _
      clear hHeld c2 f9 iW
      have aiT:W3.heap.size<(w2.setCell ⟨w5.heap.size+1,0,none⟩ (.slice (some ⟨gg,0,none⟩) (k+1) cc)).heap.size:=by rw [World.size_setCell];omega
      generalize w2.setCell ⟨w5.heap.size+1,0,none⟩ (.slice (some ⟨gg,0,none⟩) (k+1) cc)=W6 at *
      clear HT HO HM HN HLs HB HD t0 p1 om c1 HZ
      have Rp:=hid (QN gN.out dW.out)
      have q0:=D1.out.c1
      have q1:=D1.out.f1
      obtain ⟨aoN,cpN,rfl⟩:=ag D5.out.out
      obtain ⟨aoL,cpL,rfl⟩:=ag D4.out
      have b6:=(Below.refl W6.heap.size W6).alloc (Nat.le_refl _) (.cells #[.slice aoL 8 cpL] 22)
      go_wp2_with (at_builtin;go_must (refine wpList_append_lies _ rfl (.tmp 85) (.tmp 87) 23 rfl (w5.heap.size+2) 22 i1 (.slice none 0 0) 1 24 Tryz.underlying23 hi1 hz01 hz11 hz21 rfl (by decide) _ k ((List.range k).map V) rfl (D5.out.out.alloc _) ⟨W6.heap.size,0,none⟩ 1 1 [.slice aoL 8 cpL] rfl rfl (bE W6 [.slice aoL 8 cpL] _) (by intro y hy;simp at hy;rcases hy with rfl;rfl) (by decide) (by unfold maxLen;omega) (by omega) (by simp;omega) (W6.heap.size+1) (by simp) ?_))
      intro g8 c8 w8 hown hgrow hat hlt8
      have pG:W6.heap.size≤w8.heap.size:=by
       have:=hgrow.size
       simp at this
       omega
      have lQ:(Value.slice aoN k cpN).ownBlock≠some (w5.heap.size+1):=fun e=>by have:=(D5.out.out.lt _ e).1;omega
      have T8:=vU (D1.out.below b6 D1.out.lt) hgrow lQ
      have Nk:(au (jY xs k)).length=8:=by rw [kg,sO]
      have lc:=(aY D4.out (show w5.heap.size+2≤W0.heap.size by omega)).alloc (.cells #[.slice aoL 8 cpL] 22)
      rw [En (by omega)] at lc
      have N8:=kC (D5.out.keeps b6) (x:=.slice aoL 8 cpL) (by rw [Nk];exact lc) (by decide) hgrow hown
      have ow:W6.alloc (.cells #[.slice aoL 8 cpL] 22)=W6.alloc (.cells #[.slice aoL 8 cpL] 22):=rfl
      have OWN:=D5.out.out.alloc (.cells #[.slice aoL 8 cpL] 22)
      have O8:=(ae D2.out b6).kept hgrow (aD (ae D2.out b6) OWN (by decide))
      have M8:=(ae D3.out b6).kept hgrow (aD (ae D3.out b6) OWN (by decide))
      have r0:=T8.c1
      have r1:=T8.f1
      have E1:=hid (T8.set1 (.slice (some ⟨g8,0,none⟩) (k+1) c8))
      have E2:=hid (N8.set (show w5.heap.size+1<w5.heap.size+2 by omega) 1 (.slice (some ⟨g8,0,none⟩) (k+1) c8))
      have E3:=hid (ak O8 (show w5.heap.size+1<w5.heap.size+2 by omega) 1 (.slice (some ⟨g8,0,none⟩) (k+1) c8))
      have E4:=hid (aQ M8 ⟨w5.heap.size+1,1,none⟩ (.slice (some ⟨g8,0,none⟩) (k+1) c8) HMT.out)
      have E5:Hid (∀ i,i<k+1→((fun i=>if i=k then Value.slice aoL 8 cpL else V i) i).ownBlock≠(Value.slice (some ⟨gM,0,none⟩) ms.length cpM2).ownBlock∧((fun i=>if i=k then Value.slice aoL 8 cpL else V i) i).ownBlock≠((.slice (some ⟨gg,0,none⟩) (k+1) cc):Value).ownBlock):=hid (fun i hi=>by
       by_cases c:i=k
       ·simp only [c,if_true]
        refine ⟨?_,D8.out⟩
        rcases nu.out with h | h
        ·obtain ⟨g9,h9,_⟩:=dH D4.out (by omega)
         subst h9
         simp [Value.ownBlock] at h
        ·exact h
       ·simp only [c,if_false]
        exact D7.out i (by omega))
      have E6:=hid (((D9.out.alloc D9.out.size (.cells #[.slice aoL 8 cpL] 22)).grown hgrow (by have:=D9.out.size;simp;omega) (fun q h=>by have:=(D5.out.out.lt q h).1;omega)).setCell (p:=⟨w5.heap.size+1,1,none⟩) (by show w5.heap.size≤w5.heap.size+1;omega) (.slice (some ⟨g8,0,none⟩) (k+1) c8))
      clear hown hgrow hat b6 ow OWN O8 M8 N8 T8 lc D1 D2 D3 D4 D5 D9 lQ
      go_wp2_with fail
      go_roundw
      case rel=>exact ⟨k+1,ms,xs,os++[out m0],_,_,_,by go_num,by omega,by omega,HE,Rp,E4,HMT,E1,E3,D6,E2,E5,E6,by simp;omega⟩
      case measure=>simp [intOf];omega
  ·obtain rfl:k=ms.length:=by omega
   have iE:=hid (HWM.out ms xs HE.out hxl)
   have TF:=hid (T5.out.below HB.out (by omega))
   have Hu:=hid (dV.out.trans (HB.out.mono (by omega)))
   have d0:=TF.out.c0
   have d1:=TF.out.c1
   have e0:=TF.out.f0
   have e1:=TF.out.f1
   subst hvM
   by_cases h8:ms.length≤8
   ·have k8:¬ ((8:Int)<(ms.length:Int)):=by omega
    obtain ⟨a1,c1,rfl⟩:=ag HO.out
    obtain ⟨a2,c2,rfl⟩:=ag HN.out.out
    have hw5:w.heap.size<w5.heap.size+2:=by omega
    have O1:=ak (ak HO.out hw5 0 (.slice a1 ms.length c1)) hw5 1 (.slice a2 ms.length c2)
    rw [FQ] at O1
    have N1:=(HN.out.set hw5 0 (.slice a1 ms.length c1)).set hw5 1 (.slice a2 ms.length c2)
    obtain ⟨a1',c1',e1',I1⟩:=wy O1
    obtain ⟨a2',c2',e2',L2⟩:=Vp N1
    cases e1'
    cases e2'
    have g0:=HT.out.c0
    have g1:=HT.out.c1
    have hos:os=(List.range ms.length).map fun i=>out (qM ms i):=by
     apply List.ext_getElem
     ·simp [gN.out.1]
     ·intro i h1 h2
      have h3:=gN.out.2 i (by rw [←gN.out.1];exact h1)
      simp [List.getD,List.getElem?_eq_getElem h1] at h3
      simp [h3]
    have I1:=hid I1
    have L2:=hid L2
    have HOE:=hid hos
    clear hos O1 N1
    go_wp2_with fail
    refine df (cs:=[.slice a1 ms.length c1,.slice a2 ms.length c2]) (v:=.int .i64 (0:Nat)) (b:=w.heap.size) Tryz.results12 ?_ ?_ ?_ ?_ Tryz.underlying37 rfl Tryz.sP ?_
    ·rfl
    ·rfl
    ·rfl
    ·exact sH d0 d1 _ _
    ·refine ⟨_,_,0,rfl,Or.inl ⟨rfl,ms.length,_,_,iE.out,h8,⟨a1,c1,rfl,?_⟩,⟨a2,c2,rfl,?_⟩⟩,(Hu.out.setCell (p:=⟨w.heap.size,0,none⟩) (Nat.le_refl _) _).setCell (p:=⟨w.heap.size,1,none⟩) (Nat.le_refl _) _⟩
     ·rw [←HOE.out]
      exact I1.out
     ·exact L2.out
   ·have k8:(8:Int)<(ms.length:Int):=by omega
    have Ht:=hid (aaJ iE.out (by omega))
    go_wp2_with fail
    refine df (cs:=[.slice none 0 0,.slice none 0 0]) (v:=.int .i64 (7:Nat)) (b:=w.heap.size) Tryz.results12 ?_ ?_ ?_ ?_ Tryz.underlying37 rfl Tryz.sP ?_
    ·rfl
    ·rfl
    ·rfl
    ·exact sH d0 d1 _ _
    ·exact ⟨_,_,7,rfl,fun h0=>absurd rfl h0,fun _=>Or.inr ⟨rfl,rfl,rfl,Ht.out⟩,(Hu.out.setCell (p:=⟨w.heap.size,0,none⟩) (Nat.le_refl _) _).setCell (p:=⟨w.heap.size,1,none⟩) (Nat.le_refl _) _⟩
end
end Go.Proofs.YtjagijohfkffiabGreat
