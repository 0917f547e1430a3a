import Derived.Test.YtjagijohfkffiabGreatALLM43
import Derived.Test.YtjagijohfkffiabGreatALLM45
import Derived.Test.YtjagijohfkffiabGreatALLM46
import Derived.BigQuiet
set_option maxHeartbeats 16000000
set_option maxRecDepth 100000
namespace Go.Proofs.YtjagijohfkffiabGreat
open Go.RowKit
set_option linter.unusedVariables false
def Gq (ns:List Nd) (vs:List Nat) (lt:Nat→Nat) (ed:Nat→Nat→Bool) (k i y pr j:Nat):List Nat:=mH ns vs lt ed k i y++((toS ns vs i).take j).map (fun q=>pr+q)
theorem aaz {ss:List Int} {n:Nat} (hn:eH n ss=true) {P:Nat→Prop}:(∃ k,k<n∧su ss k=true∧P k)↔∃ j,j<ss.length∧P ((ss.getD j 0).toNat):=by
 constructor
 ·rintro ⟨k,hk,hs,hp⟩
  obtain ⟨j,hj,e⟩:=List.getElem_of_mem (vG.1 hs)
  refine ⟨j,hj,?_⟩
  rw [List.getD,List.getElem?_eq_getElem hj,e]
  exact hp
 ·rintro ⟨j,hj,hp⟩
  have hm:ss.getD j 0∈ss:=by rw [List.getD,List.getElem?_eq_getElem hj];exact List.getElem_mem _
  obtain ⟨h1,h2⟩:=nV.1 hn _ hm
  refine ⟨(ss.getD j 0).toNat,by omega,?_,hp⟩
  refine vG.2 ?_
  rw [Int.toNat_of_nonneg h1]
  exact hm
theorem CX {u:List Int} (hu:bI u=true) {j:Nat} (hj:j<u.length):nY (u.getD j 0)=true:=by
 unfold bI at hu
 rw [List.all_eq_true] at hu
 refine hu _ ?_
 rw [List.getD,List.getElem?_eq_getElem hj]
 exact List.getElem_mem _
def qj (zs:List Int) (zss:List (List Int)) (ss:List Int) (s:ByteArray) (w:World) (e:Ending) (w':World):Prop:=
 ∃ (y:Bool) (er:Nat),e=.returned (.tuple #[.bool y,.int .i64 (er:Nat)])∧Below w.heap.size w w' ∧
  (bi zs zss ss=false→er=10∧y=false) ∧
  (bi zs zss ss=true→(af s).1≠0→er=(af s).1∧y=false) ∧
  (bi zs zss ss=true→(af s).1=0→er=0∧(y=true↔oU (af s).2 zs.length (bR zs) (dF zss) (su ss)))
theorem Zr {zs:List Int} {zss:List (List Int)} {ss:List Int} {s:ByteArray} {w w':World} (hg:bi zs zss ss=false) (hb:Below w.heap.size w w'):qj zs zss ss s w (.returned (.tuple #[.bool false,.int .i64 10])) w':=
 ⟨false,10,rfl,hb,fun _=>⟨rfl,rfl⟩,fun h=>absurd (hg.symm.trans h) (by simp),fun h=>absurd (hg.symm.trans h) (by simp)⟩
theorem Zt {zs:List Int} {zss:List (List Int)} {ss:List Int} {s:ByteArray} {w w':World} (hg:bi zs zss ss=true) (hp:(af s).1≠0) (hb:Below w.heap.size w w'):qj zs zss ss s w (.returned (.tuple #[.bool false,.int .i64 ((af s).1:Nat)])) w':=
 ⟨false,_,rfl,hb,fun h=>absurd (hg.symm.trans h) (by simp),fun _ _=>⟨rfl,rfl⟩,fun _ h=>absurd h hp⟩
theorem acF {zs:List Int} {zss:List (List Int)} {ss:List Int} {s:ByteArray} {w w':World} (hg:bi zs zss ss=true) (hp:(af s).1=0) (hb:Below w.heap.size w w') (y:Bool) (hy:y=true↔oU (af s).2 zs.length (bR zs) (dF zss) (su ss)):qj zs zss ss s w (.returned (.tuple #[.bool y,.int .i64 0])) w':=
 ⟨y,0,rfl,hb,fun h=>absurd (hg.symm.trans h) (by simp),fun _ h=>absurd hp h,fun _ _=>⟨rfl,hy⟩⟩
section
variable (a1 a2 a3:Option Addr) (l1 c1 l2 c2 l3 c3:Nat) (zs:List Int) (zss:List (List Int)) (ss:List Int) (s:ByteArray) (w:World)
theorem VG (hm:s.size≤maxLen) (h1:Ints w a1 l1 c1 zs) (h2:Lists w a2 l2 c2 zss) (h3:Ints w a3 l3 c3 ss) (hc:bi zs zss ss=false∨(af s).1≠0) :
  Calls Tryz.prog 42 #[.agg #[.slice a1 l1 c1,.slice a2 l2 c2,.slice a3 l3 c3],.string s] w (qj zs zss ss s w):=by
 have ba:=(Below.refl w.heap.size w).alloc (Nat.le_refl _) (.cells #[.slice a1 l1 c1,.slice a2 l2 c2,.slice a3 l3 c3] 25)
 have IG:=hid (yc a1 a2 a3 l1 c1 l2 c2 l3 c3 zs zss ss _ (h1.below ba) (h2.below ba) (h3.below ba))
 have HB0:=hid ba
 have C:=hid (fun W=>dK s W hm)
 unfold bU at C
 have HC:=hid hc
 have K10:=hid (fun w'=>@Zr zs zss ss s w w')
 have KER:=hid (fun w'=>@Zt zs zss ss s w w')
 clear h1 h2 h3 ba hc
 generalize bi zs zss ss=gb at *
 generalize af s=p at *
 go_enter Tryz.func42,Tryz.ntmps42
 go_wp2_with fail
 refine IG.out.mono ?_
 rintro e w1 ⟨rfl,b1⟩
 simp only [World.size_alloc] at b1
 have HB1:=hid (HB0.out.trans (b1.mono (by omega)))
 clear IG HB0 b1
 cases gb with
 | false=>
  go_wp2_with fail
  go_ret2
  exact K10.out _ (by first | rfl | trivial) HB1.out
 | true=>
  have hne:p.1≠0:=by
   rcases HC.out with h | h
   ·cases h
   ·exact h
  have k:((p.1:Int)!=0)=true:=by rw [bne_iff_ne];omega
  go_wp2_with fail
  refine (C.out _).mono ?_
  rintro e w2 ⟨b2,⟨_,rfl⟩ | ⟨h0,_⟩⟩
  ·have HB2:=hid (HB1.out.trans (b2.mono HB1.out.size))
   clear C b2
   go_wp2_with fail
   go_ret2
   exact KER.out _ (by first | rfl | trivial) hne HB2.out
  ·exact absurd h0 hne
theorem Tk (hm:s.size≤maxLen) (h1:Ints w a1 l1 c1 zs) (h2:Lists w a2 l2 c2 zss) (h3:Ints w a3 l3 c3 ss) (hG:bi zs zss ss=true) (h:(af s).1=0) :
  Calls Tryz.prog 42 #[.agg #[.slice a1 l1 c1,.slice a2 l2 c2,.slice a3 l3 c3],.string s] w (qj zs zss ss s w):=by
 have ba:=(Below.refl w.heap.size w).alloc (Nat.le_refl _) (.cells #[.slice a1 l1 c1,.slice a2 l2 c2,.slice a3 l3 c3] 25)
 have T0:=hid (bK w (.slice a1 l1 c1) (.slice a2 l2 c2) (.slice a3 l3 c3) 25)
 have IG:=hid (yc a1 a2 a3 l1 c1 l2 c2 l3 c3 zs zss ss _ (h1.below ba) (h2.below ba) (h3.below ba))
 have L1:=h1.hlen
 have L2:=h2.hlen
 have L3:=h3.hlen
 obtain ⟨g1,g6,g21,gal,g3,gnu⟩:1≤l1∧l1≤6∧l1=l2∧bI zs=true∧l3≠0∧eH l1 ss=true:=by
  have h9:=hG
  unfold bi at h9
  rw [L1,L2,L3] at h9
  simp only [Bool.and_eq_true,decide_eq_true_eq] at h9
  exact ⟨h9.1.1.1.1.1.1,h9.1.1.1.1.1.2,h9.1.1.1.1.2.symm,h9.1.1.1.2,h9.1.1.2,h9.1.2⟩
 subst g21
 have qQ:=hid gal
 have HNU:=hid gnu
 have pR:=hid L1
 have Cy:=hid L3
 have m1:=h1.hcap
 have m2:=h1.hmax
 have n1:=h2.hcap
 have n2:=h2.hmax
 have o1:=h3.hcap
 have o2:=h3.hmax
 have HB0:=hid ba
 have J1:=hid (h1.below ba)
 have J2:=hid (h2.below ba)
 have J3:=hid (h3.below ba)
 rw [hG] at IG
 have C:=hid (fun W=>dK s W hm)
 unfold bU at C
 have GD:=hid (fV h)
 have KOK:=hid (fun w'=>@acF zs zss ss s w w' hG h)
 generalize af s=p at *
 obtain ⟨p1,ns⟩:=p
 dsimp only at *
 subst h
 clear h1 h2 h3 ba L1 L2 L3 gal gnu hG hm
 go_enter Tryz.func42,Tryz.ntmps42
 go_wp2_with fail
 refine IG.out.mono ?_
 rintro e w1 ⟨rfl,b1⟩
 have B1:=hid b1
 clear IG b1
 go_wp2_with fail
 refine (C.out _).mono ?_
 rintro e w2 ⟨b2,⟨h0,_⟩ | ⟨_,bs,rfl,hf⟩⟩
 ·exact absurd rfl h0
 have B2:=hid (B1.out.trans (b2.mono B1.out.size))
 obtain ⟨gp,cap,hfr⟩:=LB hf GD.out.pos
 have RW:=hid (zF _ gp cap ns bs w2 hfr GD.out)
 clear C b2 hf hfr B1
 generalize w1.heap.size=F at *
 go_wp2_with fail
 refine RW.out.mono ?_
 rintro e w3 ⟨R,vs,rfl,h,hLS,hM,hb3⟩
 have B3:=hid (B2.out.trans (hb3.mono B2.out.size))
 have uN:=hid (HB0.out.trans (B3.out.mono HB0.out.size))
 have I1:=J1.out.below B3.out
 have I2:=hid (J2.out.below B3.out)
 have I3:=hid (J3.out.below B3.out)
 have T3:=T0.out.below B3.out (by simp)
 have J9:w.heap.size<w3.heap.size:=by
  have:=B3.out.size
  simp only [World.size_alloc] at this
  omega
 have x0:=T3.c0
 have x1:=T3.c1
 have x2:=T3.c2
 have ajI:=hid hLS
 have hM0:=M6 GD.out hLS
 obtain ⟨gl,ol,e,hgl,hlc⟩:=I1.hcell (by omega)
 subst e
 have wV:=hid (fun k (hk:k<l1)=>(by
  have h9:=CX qQ.out (j:=k) (by rw [pR.out];exact hk)
  have h8:=gQ.1 h9
  exact ⟨by unfold bR;omega,by
   have h7:=hlc k hk
   unfold bR
   rw [Int.toNat_of_nonneg h8.1]
   exact h7⟩:bR zs k<8∧w3.cell? ⟨gl,ol+k,none⟩=some (.int .i64 ((bR zs k:Nat):Int))))
 clear RW hb3 B2 B3 HB0 J1 J2 J3 T0 T3 I1 hlc hLS
 obtain ⟨v1,ca1,ao1,cap1,rfl,hsc,hrow⟩:=h.c1
 obtain ⟨v2,ca2,ao2,cap2,rfl,htc,htow⟩:=h.c2
 obtain ⟨gs,rfl,hgs,hsets⟩:=hrow hM0
 obtain ⟨gt,rfl,hgt,htos⟩:=htow hM0
 have hR:=h.lt
 have r0:=h.c0
 have hle:=GD.out.le
 have DL:=hid h
 have Ha:=hid hsets
 have aaP:=hid htos
 have Hr:=hid (fun W P' (hn:mK W P' (l1*vs.length) (qI ns vs (bR zs) (dF zss) l1) ns.length (kY ns vs))=>yj Ee P' _ ns.length _ _ W hn (Nat.mul_pos (by omega) hM0) (fun a ha b hb=>Il (Rf ns vs (bR zs) (dF zss) (fun i hi=>(wV.out i hi).1)) ha hb)
   (fun a ha=>Nat.le_trans (wP ns vs _ _ _ _ l1) (Nat.le_trans (Nat.mul_le_mul g6 hM) (by omega))) (fun a ha j=>Nat.le_trans (Gp ns vs _ _ _ _ j l1) (by omega)) (Nat.le_trans (Nat.mul_le_mul g6 hM) (by omega)) (by omega))
 obtain ⟨i0,hi,hz0,hz1,hz2⟩:=info_parts Tryz.kG
 obtain ⟨i1,hi1,hz01,hz11,hz21⟩:=info_parts Tryz.sQ
 obtain ⟨i2b,hi2,hz02,hz12,hz22⟩:=info_parts Tryz.dw
 obtain ⟨i3,hi3,hz03,hz13,hz23⟩:=info_parts Tryz.xB
 have RD:=hid (fun (W:World) (b:Nat) (S:Nat→Bool) (a:Nat) (ha:a<8) (h1:Below w3.heap.size w3 W) (h2:Rb W b ns.length S)=>zG F gp cap b ns.length ns bs S W a ha (h.fr.below h1) h2 GD.out (Nat.le_refl _))
 have KD:=hid (fun (W:World) (b:Nat) (S:Nat→Bool) (p:Nat) (hp:p<ns.length) (h1:Below w3.heap.size w3 W) (h2:Rb W b ns.length S)=>Ev F gp cap b ns.length ns bs S W p hp (h.fr.below h1) h2 GD.out (Nat.le_refl _))
 have WH:=hid (fun (W:World) (h1:Below w3.heap.size w3 W)=>Bd R F gp cap ns bs vs false W (h.below h1) GD.out hM)
 have Nl:=g6
 clear h hsets htos hrow htow
 generalize hGG:w.heap.size=G at *
 go_wp2_with fail
 have ba:=hid ((Below.refl w3.heap.size w3).alloc (Nat.le_refl _) (.cells #[.slice none 0 0,.slice none 0 0] 140))
 have T1:=hid (bF w3 (.slice none 0 0) (.slice none 0 0) 140)
 go_loopw [12] (fun i wq=>∃ (k:Nat) (vT:Value) (V:Nat→Value),k≤l1∧i=.int .i64 k∧Hid (Two wq w3.heap.size vT (.slice none 0 0))∧Hid (eD wq (w3.heap.size+1) 22 3 vT (k*vs.length) V (fun q=>au (qI ns vs (bR zs) (dF zss) l1 q)))∧Hid (Below w3.heap.size w3 wq)∧w3.heap.size+1≤wq.heap.size) (fun i _=>l1 - (intOf i).toNat)
 case atStart=>exact ⟨0,_,fun _=>.slice none 0 0,Nat.zero_le _,rfl,T1,by rw [Nat.zero_mul];exact hid (qx _ _ _ _ _ _),ba,by simp⟩
 case round=>
  obtain ⟨k,vT,V,hk,rfl,HT,HV,HB,hsz⟩:=hrel
  rename World=>W0
  clear ba T1
  have BV:=(HB.out.cell (p:=⟨G,0,none⟩) J9).trans x0
  by_cases hlk:k<l1
  ·go_wp2_with fail
   go_loopw [13] (fun i wq=>∃ (i':Nat) (vT:Value) (V:Nat→Value),i'≤vs.length∧i=.int .i64 i'∧Hid (Two wq w3.heap.size vT (.slice none 0 0))∧Hid (eD wq (w3.heap.size+1) 22 3 vT (k*vs.length+i') V (fun q=>au (qI ns vs (bR zs) (dF zss) l1 q)))∧Hid (Below w3.heap.size w3 wq)∧w3.heap.size+1≤wq.heap.size) (fun i _=>vs.length - (intOf i).toNat)
   case atStart=>exact ⟨0,_,V,Nat.zero_le _,rfl,HT,HV,HB,hsz⟩
   case round=>
    obtain ⟨i',vT,V,hi',rfl,HT,HV,HB,hsz⟩:=hrel
    rename World=>W1
    clear BV
    by_cases hli:i'<vs.length
    ·obtain ⟨b,cb,hrb⟩:=Ha.out i' hli
     have Qx:=(HB.out.cell (p:=⟨G,0,none⟩) J9).trans x0
     have lk':=(HB.out.cell (p:=⟨gl,ol+k,none⟩) hgl).trans (wV.out k hlk).2
     have aaG:=(HB.out.cell (p:=⟨R,1,none⟩) hR).trans ca1
     have cb':=(HB.out.cell (p:=⟨gs,i',none⟩) hgs).trans cb
     have C:=fun m=>RD.out (W1.drewN m) b (aJ vs i') (bR zs k) (wV.out k hlk).1 (below_drewN HB.out m) ((hrb.below HB.out).drewN m)
     have Yc:=hid (fun y=>IY ns vs (bR zs) (dF zss) (k:=k) (i:=i') (y:=y))
     have KO:=hid (fun y=>Ol ns vs (bR zs) (dF zss) (k:=k) (i:=i') (y:=y))
     have lu:=hid (Ku ns vs (bR zs) (dF zss) (k:=k) (i:=i'))
     have ik1:(0:Int)≤(k:Int):=by omega
     have ik2:(k:Int)<(l1:Int):=by omega
     clear cb hrb
     generalize gB ns (aJ vs i') (bR zs k)=rv at *
     go_wp2_with fail
     go_quiet ((go_at_call 81;exact Calls.quiet_of_same (C _)))
     have HB3:=hid (below_drewN HB.out nq)
     have bq:=below_drewN (Below.refl W1.heap.size W1) nq
     have HT3:=hid (HT.out.below bq HT.out.lt)
     have pO:=hid (HV.out.keeps bq)
     have Iw:w3.heap.size+1≤(W1.drewN nq).heap.size:=hsz
     clear C Qx lk' aaG cb' bq HT HV HB hsz
     generalize W1.drewN nq=W2 at *
     have yV:=hid (fun q (hq:q<k*vs.length+i') z (h:(V q).ownBlock=some z)=>((pO.out.row q hq).lt z h).2)
     obtain ⟨rT,cT,aoT,capT,e,hcapT,htr⟩:=aaP.out i' hli
     subst e
     have PD:=hid cT
     have yX:=hid htr
     have amW:=vC ns vs i'
     have jD:=hid (fun b=>EY (ns:=ns) (vs:=vs) (i:=i') (b:=b))
     clear cT htr
     generalize hlnE:(toS ns vs i').length=ln at *
     have bg:=hid hlnE
     clear hlnE
     go_wp2_with fail
     go_loopw [14,16] (fun to i wq=>∃ y:Nat,y≤l1∧i=.int .i64 y∧Hid (oD wq W2.heap.size to (mH ns vs (bR zs) (dF zss) k i' y))∧Hid (Two wq w3.heap.size vT (.slice none 0 0))∧Hid (eD wq (w3.heap.size+1) 22 3 vT (k*vs.length+i') V (fun q=>au (qI ns vs (bR zs) (dF zss) l1 q)))∧Hid (Below w3.heap.size w3 wq)∧W2.heap.size≤wq.heap.size) (fun _ i _=>l1 - (intOf i).toNat)
     case atStart=>exact ⟨0,by omega,rfl,hid (World.ownsRow_nil _ _ _ _),HT3,pO,HB3,Nat.le_refl _⟩
     case round=>
      obtain ⟨y,hy,rfl,HL,HT,HV,HB,iP⟩:=hrel
      rename World=>W3
      clear HT3 pO HB3
      have Qx:=(HB.out.cell (p:=⟨G,0,none⟩) J9).trans x0
      by_cases hly:y<l1
      ·cases rv with
       | false=>
        have hsl:mH ns vs (bR zs) (dF zss) k i' y=qI ns vs (bR zs) (dF zss) l1 (k*vs.length+i'):=by rw [Ca ns vs (bR zs) (dF zss) l1 hli,lu.out rfl,lu.out rfl]
        rw [hsl] at HL
        unfold oD at HL
        clear hsl
        have Nj:(qI ns vs (bR zs) (dF zss) l1 (k*vs.length+i')).length≤2048:=by
         rw [Ca ns vs (bR zs) (dF zss) l1 hli]
         exact Nat.le_trans (wP ns vs (bR zs) (dF zss) k i' l1) (Nat.le_trans (Nat.mul_le_mul Nl hM) (by omega))
        have JX:k*vs.length+i'<6*256:=Nat.lt_of_lt_of_le (tK (show k<6 by omega) hli) (Nat.mul_le_mul_left _ hM)
        have Cw:Hid (k*vs.length+(i'+1)=(k*vs.length+i')+1):=hid rfl
        generalize hqE:k*vs.length+i'=qq at *
        generalize hLE:qI ns vs (bR zs) (dF zss) l1 qq=L at *
        obtain ⟨aoL,cpL,rfl⟩:=ag HL.out
        obtain ⟨aoN,cpN,rfl⟩:=ag HV.out.out
        have k0:=HT.out.c0
        have b6:=(Below.refl W3.heap.size W3).alloc (Nat.le_refl _) (.cells #[.slice aoL L.length cpL] 22)
        go_wp2_with (at_builtin;go_must (refine wpList_append_lies _ rfl (.tmp 125) (.tmp 127) 23 rfl (w3.heap.size+1) 22 i1 (.slice none 0 0) 1 24 Tryz.underlying23 hi1 hz01 hz11 hz21 rfl (by decide) _ qq ((List.range qq).map V) rfl (HV.out.out.alloc _) ⟨W3.heap.size,0,none⟩ 1 1 [.slice aoL L.length cpL] rfl rfl (bE W3 [.slice aoL L.length cpL] _) (by intro y9 hy9;simp at hy9;rcases hy9 with rfl;rfl) (by decide) (by unfold maxLen;omega) (by omega) (by simp;omega) (W3.heap.size+1) (by simp) ?_))
        intro gg cc w7 hown hgrow hat hlt7
        have hs7:W3.heap.size≤w7.heap.size:=by
         have:=hgrow.size
         simp at this
         omega
        have oZ:=HT.out.lt
        have lQ:(Value.slice aoN qq cpN).ownBlock≠some w3.heap.size:=fun e=>by have:=(HV.out.out.lt _ e).1;omega
        have bT:=hgrow.block w3.heap.size (by rw [World.size_alloc];omega) (fun e=>lQ e.symm)
        have dZ:=HT.out.below b6 oZ
        have T7:Two w7 w3.heap.size (.slice aoN qq cpN) (.slice none 0 0):=⟨(World.cell?_of_block (a:=⟨w3.heap.size,0,none⟩) bT).trans dZ.c0,(World.cell?_of_block (a:=⟨w3.heap.size,1,none⟩) bT).trans dZ.c1,(World.frozen?_of_block (a:=⟨w3.heap.size,0,none⟩) bT).trans dZ.f0,(World.frozen?_of_block (a:=⟨w3.heap.size,1,none⟩) bT).trans dZ.f1⟩
        have lc:=(aY HL.out (show w3.heap.size+1≤W2.heap.size by omega)).alloc (.cells #[.slice aoL L.length cpL] 22)
        have V7:=kC (HV.out.keeps b6) (x:=.slice aoL L.length cpL) (by rw [hLE,kg];exact lc) (by decide) hgrow hown
        have q0:=T7.c0
        have q1:=T7.f0
        have D1:=hid (T7.set0 (.slice (some ⟨gg,0,none⟩) (qq+1) cc))
        have D2:=hid (V7.set (show w3.heap.size<w3.heap.size+1 by omega) 0 (.slice (some ⟨gg,0,none⟩) (qq+1) cc))
        have D4:=hid (((HB.out.alloc HB.out.size (.cells #[.slice aoL L.length cpL] 22)).grown hgrow (by simp;omega) (fun q h=>by have:=(HV.out.out.lt q h).1;omega)).setCell (p:=⟨w3.heap.size,0,none⟩) (Nat.le_refl _) (.slice (some ⟨gg,0,none⟩) (qq+1) cc))
        clear hown hgrow hat b6 HL HT HV HB lc T7 V7 lQ bT dZ
        go_wp2_with fail
        go_roundw
        case rel=>exact ⟨i'+1,_,_,by omega,by go_num,D1,by rw [Cw.out];exact D2,D4,by simp;omega⟩
        case measure=>simp [intOf];omega
       | true=>
        have Bb:=(HB.out.cell (p:=⟨G,1,none⟩) J9).trans x1
        have De:=(HB.out.cell (p:=⟨G,2,none⟩) J9).trans x2
        have EG:=hid (Bn (some ⟨gl,ol,none⟩) a2 a3 l1 c1 l1 c2 l3 c3 zss W3 k y (I2.out.below HB.out) hlk)
        have gL:=hid (xH ns vs (bR zs) (dF zss) k i' y)
        have ajp:=hid (Yc.out y)
        have ajq:=hid (KO.out y)
        have agK:(mH ns vs (bR zs) (dF zss) k i' y).length≤1536:=Nat.le_trans (wP ns vs (bR zs) (dF zss) k i' y) (Nat.le_trans (Nat.mul_le_mul (show y≤6 by omega) hM) (by omega))
        generalize dF zss k y=ev at *
        go_wp2_with fail
        refine EG.out.mono ?_
        rintro e W4 ⟨rfl,hb4⟩
        have ll:=hid (ae HL.out hb4)
        have HT3:=hid (HT.out.below hb4 HT.out.lt)
        have pO:=hid (HV.out.keeps hb4)
        have HB3:=hid (HB.out.trans (hb4.mono HB.out.size))
        have Ez:W2.heap.size≤W4.heap.size:=Nat.le_trans iP hb4.size
        clear EG hb4 HL HT HV HB iP Qx Bb De
        have hpr:y*vs.length≤6*256:=Nat.mul_le_mul (by omega) hM
        have wm:IntKind.i64.wrap ((y:Int)*(vs.length:Int))=((y*vs.length:Nat):Int):=by
         rw [IntKind.wrap_i64,←Int.natCast_mul];omega
        generalize hprE:y*vs.length=pr at *
        have HPR:=hid hprE
        clear hprE
        go_wp2_with fail
        go_loopw [14,18] (fun to i wq=>∃ j:Nat,j≤ln∧i=.int .i64 j∧Hid (ev=true∨j=0)∧Hid (oD wq W2.heap.size to (Gq ns vs (bR zs) (dF zss) k i' y pr j))∧Hid (Two wq w3.heap.size vT (.slice none 0 0))∧Hid (eD wq (w3.heap.size+1) 22 3 vT (k*vs.length+i') V (fun q=>au (qI ns vs (bR zs) (dF zss) l1 q)))∧Hid (Below w3.heap.size w3 wq)∧W2.heap.size≤wq.heap.size) (fun _ i _=>ln - (intOf i).toNat)
        case atStart=>exact ⟨0,Nat.zero_le _,rfl,hid (Or.inr rfl),hid (by unfold oD Gq;simpa [oD] using ll.out),HT3,pO,HB3,Ez⟩
        case round=>
         obtain ⟨j,hj,rfl,hcond,HL,HT,HV,HB,iP⟩:=hrel
         rename World=>W5
         clear ll HT3 pO HB3 Ez
         have t2:=(HB.out.cell (p:=⟨R,2,none⟩) hR).trans ca2
         have t3:=(HB.out.cell (p:=⟨gt,i',none⟩) hgt).trans PD.out
         have fin:¬ (j<ln∧ev=true)→Hid (mH ns vs (bR zs) (dF zss) k i' (y+1)=Gq ns vs (bR zs) (dF zss) k i' y pr j):=fun hno=>hid (by
          rw [gL.out]
          unfold Gq
          congr 1
          by_cases c:ev=true
          ·rw [ajp.out ⟨by first | rfl | trivial,c⟩,List.take_of_length_le (by rw [bg.out];exact Nat.le_of_not_lt fun h=>hno ⟨h,c⟩)]
          ·rcases hcond.out with h | h
           ·exact absurd h c
           ·rw [h,ajq.out (fun h=>c h.2)]
            rfl)
         by_cases hlj:j<ln
         ·cases ev with
          | false=>
           have FN:=fin (by simp)
           rw [←FN.out] at HL
           clear fin FN hcond
           go_wp2_with fail
           go_roundw
           case rel=>exact ⟨y+1,by omega,by go_num,HL,HT,HV,HB,iP⟩
           case measure=>simp [intOf];omega
          | true=>
           obtain ⟨gr,e,hgr,hrr⟩:=yX.out (by omega)
           subst e
           obtain ⟨t,ht⟩:∃ t,(toS ns vs i')[j]?=some t:=⟨(toS ns vs i')[j]'(by rw [bg.out];exact hlj),List.getElem?_eq_getElem (by rw [bg.out];exact hlj)⟩
           have htM:=jD.out t (List.mem_of_getElem? ht)
           have hat:bG (toS ns vs i') j=t:=by simp [bG,List.getD,ht]
           have t4:W5.cell? ⟨gr,j,none⟩=some (.int .i64 (t:Nat)):=(HB.out.cell (p:=⟨gr,j,none⟩) hgr).trans (by have h9:=hrr j hlj;rw [hat] at h9;exact h9)
           have DI:Hid ((toS ns vs i').take (j+1)=(toS ns vs i').take j++[t]):=hid (by rw [List.take_add_one,ht];rfl)
           have wa:IntKind.i64.wrap ((pr:Int)+(t:Int))=(pr:Int)+(t:Int):=by rw [IntKind.wrap_i64];omega
           have htk:((toS ns vs i').take j).length=j:=by rw [List.length_take,bg.out];omega
           have hLl:(Gq ns vs (bR zs) (dF zss) k i' y pr j).length≤2048+256:=by unfold Gq;rw [List.length_append,List.length_map,htk];omega
           clear fin hrr ht hat htk
           generalize hLE:Gq ns vs (bR zs) (dF zss) k i' y pr j=L at *
           unfold oD at HL
           obtain ⟨aoL,cpL,rfl⟩:=ag HL.out
           have lh:=hid (fun q h=>(HL.out.lt q h).1)
           go_wp2_with (at_builtin;go_must (refine wpList_append_lies _ rfl (.tmp 104) (.tmp 119) 22 rfl W2.heap.size 3 i0 (.int .i64 0) 1 8 Tryz.underlying22 hi hz0 hz1 hz2 rfl (by decide) _ L.length (au L) rfl (HL.out.alloc _) ⟨W5.heap.size,0,none⟩ 1 1 [.int .i64 ((pr:Int)+(t:Int))] rfl rfl (bE W5 [.int .i64 ((pr:Int)+(t:Int))] _) (by intro y hy;simp at hy;rcases hy with rfl;rfl) (by decide) (by unfold maxLen;omega) (by omega) (by simp;omega) (W5.heap.size+1) (by simp) ?_))
           intro gg cc w7 hown hgrow hat hlt7
           have b6:=(Below.refl W5.heap.size W5).alloc (Nat.le_refl _) (.cells #[.int .i64 ((pr:Int)+(t:Int))] 3)
           have hs7:W5.heap.size≤w7.heap.size:=by
            have:=hgrow.size
            simp at this
            omega
           have BL:(Value.slice aoL L.length cpL).ownBlock≠some w3.heap.size:=fun e=>by have:=lh.out _ e;omega
           have bT:=hgrow.block w3.heap.size (by rw [World.size_alloc];have:=HT.out.lt;omega) (fun e=>BL e.symm)
           have T7:Hid (Two w7 w3.heap.size vT (.slice none 0 0)):=hid (by
            have dZ:=HT.out.below b6 HT.out.lt
            exact ⟨(World.cell?_of_block (a:=⟨w3.heap.size,0,none⟩) bT).trans dZ.c0,(World.cell?_of_block (a:=⟨w3.heap.size,1,none⟩) bT).trans dZ.c1,(World.frozen?_of_block (a:=⟨w3.heap.size,0,none⟩) bT).trans dZ.f0,(World.frozen?_of_block (a:=⟨w3.heap.size,1,none⟩) bT).trans dZ.f1⟩)
           have V7:=hid ((HV.out.keeps b6).tL hgrow (aD (HV.out.keeps b6).out (HL.out.alloc (.cells #[.int .i64 ((pr:Int)+(t:Int))] 3)) (by decide)) (fun q hq=>by
            cases hv:(V q).ownBlock with
            | none=>exact Or.inl rfl
            | some z=>
             refine Or.inr fun e=>?_
             have h1:=lh.out z e.symm
             have h2:=yV.out q hq z hv
             omega))
           have L7:Hid (oD w7 W2.heap.size (.slice (some ⟨gg,0,none⟩) (L.length+1) cc) (Gq ns vs (bR zs) (dF zss) k i' y pr (j+1))):=hid (by
            have aab:mH ns vs (bR zs) (dF zss) k i' y++((toS ns vs i').take j).map (fun q=>pr+q)=L:=hLE
            unfold oD Gq
            rw [DI.out,List.map_append,←List.append_assoc,aab,List.length_append,show au (L++List.map (fun j=>pr+j) [t])=au L++[.int .i64 ((pr:Int)+(t:Int))] by simp [au]]
            exact hown)
           have fI:=hid ((HB.out.alloc (by omega) (.cells #[.int .i64 ((pr:Int)+(t:Int))] 3)).grown hgrow (by simp;omega) (fun q h=>by have:=lh.out q h;omega))
           clear hown hgrow hat b6 bT HL HT HV HB BL
           go_wp2_with fail
           go_roundw
           case rel=>exact ⟨j+1,by omega,by go_num,hid (Or.inl (by first | rfl | trivial)),L7,T7,V7,fI,by omega⟩
           case measure=>simp [intOf];omega
         ·have FN:=fin (fun h=>hlj h.1)
          rw [←FN.out] at HL
          obtain rfl:j=ln:=by omega
          clear fin FN hcond
          go_wp2_with fail
          go_roundw
          case rel=>exact ⟨y+1,by omega,by go_num,HL,HT,HV,HB,iP⟩
          case measure=>simp [intOf];omega
      ·obtain rfl:y=l1:=by omega
       have hsl:mH ns vs (bR zs) (dF zss) k i' y=qI ns vs (bR zs) (dF zss) y (k*vs.length+i'):=by rw [Ca ns vs (bR zs) (dF zss) y hli]
       rw [hsl] at HL
       unfold oD at HL
       clear hsl
       have Nj:(qI ns vs (bR zs) (dF zss) y (k*vs.length+i')).length≤2048:=by
        rw [Ca ns vs (bR zs) (dF zss) y hli]
        exact Nat.le_trans (wP ns vs (bR zs) (dF zss) k i' y) (Nat.le_trans (Nat.mul_le_mul Nl hM) (by omega))
       have JX:k*vs.length+i'<6*256:=Nat.lt_of_lt_of_le (tK (show k<6 by omega) hli) (Nat.mul_le_mul_left _ hM)
       have Cw:Hid (k*vs.length+(i'+1)=(k*vs.length+i')+1):=hid rfl
       generalize hqE:k*vs.length+i'=qq at *
       generalize hLE:qI ns vs (bR zs) (dF zss) y qq=L at *
       obtain ⟨aoL,cpL,rfl⟩:=ag HL.out
       obtain ⟨aoN,cpN,rfl⟩:=ag HV.out.out
       have k0:=HT.out.c0
       have b6:=(Below.refl W3.heap.size W3).alloc (Nat.le_refl _) (.cells #[.slice aoL L.length cpL] 22)
       go_wp2_with (at_builtin;go_must (refine wpList_append_lies _ rfl (.tmp 125) (.tmp 127) 23 rfl (w3.heap.size+1) 22 i1 (.slice none 0 0) 1 24 Tryz.underlying23 hi1 hz01 hz11 hz21 rfl (by decide) _ qq ((List.range qq).map V) rfl (HV.out.out.alloc _) ⟨W3.heap.size,0,none⟩ 1 1 [.slice aoL L.length cpL] rfl rfl (bE W3 [.slice aoL L.length cpL] _) (by intro y9 hy9;simp at hy9;rcases hy9 with rfl;rfl) (by decide) (by unfold maxLen;omega) (by omega) (by simp;omega) (W3.heap.size+1) (by simp) ?_))
       intro gg cc w7 hown hgrow hat hlt7
       have hs7:W3.heap.size≤w7.heap.size:=by
        have:=hgrow.size
        simp at this
        omega
       have oZ:=HT.out.lt
       have lQ:(Value.slice aoN qq cpN).ownBlock≠some w3.heap.size:=fun e=>by have:=(HV.out.out.lt _ e).1;omega
       have bT:=hgrow.block w3.heap.size (by rw [World.size_alloc];omega) (fun e=>lQ e.symm)
       have dZ:=HT.out.below b6 oZ
       have T7:Two w7 w3.heap.size (.slice aoN qq cpN) (.slice none 0 0):=⟨(World.cell?_of_block (a:=⟨w3.heap.size,0,none⟩) bT).trans dZ.c0,(World.cell?_of_block (a:=⟨w3.heap.size,1,none⟩) bT).trans dZ.c1,(World.frozen?_of_block (a:=⟨w3.heap.size,0,none⟩) bT).trans dZ.f0,(World.frozen?_of_block (a:=⟨w3.heap.size,1,none⟩) bT).trans dZ.f1⟩
       have lc:=(aY HL.out (show w3.heap.size+1≤W2.heap.size by omega)).alloc (.cells #[.slice aoL L.length cpL] 22)
       have V7:=kC (HV.out.keeps b6) (x:=.slice aoL L.length cpL) (by rw [hLE,kg];exact lc) (by decide) hgrow hown
       have q0:=T7.c0
       have q1:=T7.f0
       have D1:=hid (T7.set0 (.slice (some ⟨gg,0,none⟩) (qq+1) cc))
       have D2:=hid (V7.set (show w3.heap.size<w3.heap.size+1 by omega) 0 (.slice (some ⟨gg,0,none⟩) (qq+1) cc))
       have D4:=hid (((HB.out.alloc HB.out.size (.cells #[.slice aoL L.length cpL] 22)).grown hgrow (by simp;omega) (fun q h=>by have:=(HV.out.out.lt q h).1;omega)).setCell (p:=⟨w3.heap.size,0,none⟩) (Nat.le_refl _) (.slice (some ⟨gg,0,none⟩) (qq+1) cc))
       clear hown hgrow hat b6 HL HT HV HB lc T7 V7 lQ bT dZ
       go_wp2_with fail
       go_roundw
       case rel=>exact ⟨i'+1,_,_,by omega,by go_num,D1,by rw [Cw.out];exact D2,D4,by simp;omega⟩
       case measure=>simp [intOf];omega
    ·obtain rfl:i'=vs.length:=by omega
     have Pk:Hid ((k+1)*vs.length=k*vs.length+vs.length):=hid (Nat.succ_mul _ _)
     go_wp2_with fail
     go_roundw
     case rel=>exact ⟨k+1,vT,V,by omega,by go_num,HT,by rw [Pk.out];exact HV,HB,hsz⟩
     case measure=>simp [intOf];omega
  ·obtain rfl:k=l1:=by omega
   have wW:=hid DL.out.fr
   have hF:=wW.out.JL
   have fr0:=wW.out.c0
   have hkM:k*vs.length≤6*256:=Nat.mul_le_mul g6 hM
   go_wp2_with fail
   clear BV
   go_loopw [19] (fun i wq=>∃ (p:Nat) (vK:Value) (U:Nat→Value),p≤ns.length∧i=.int .i64 p∧Hid (Two wq w3.heap.size vT vK)∧Hid (eD wq (w3.heap.size+1) 22 3 vT (k*vs.length) V (fun q=>au (qI ns vs (bR zs) (dF zss) k q)))∧Hid (eD wq (w3.heap.size+1) 132 4 vK p U (fun q=>aj (kY ns vs q) (k*vs.length) (k*vs.length)))∧Hid (Below w3.heap.size w3 wq)∧w3.heap.size+1≤wq.heap.size) (fun i _=>ns.length - (intOf i).toNat)
   case atStart=>exact ⟨0,_,fun _=>.slice none 0 0,Nat.zero_le _,rfl,HT,HV,hid (qx _ _ _ _ _ _),HB,hsz⟩
   case round=>
    obtain ⟨p,vK,U,hp,rfl,HT,HV,HU,HB,hsz⟩:=hrel
    rename World=>W1
    have r0':=(HB.out.cell (p:=⟨R,0,none⟩) hR).trans r0
    have NE:=(HB.out.cell (p:=⟨F,0,none⟩) hF).trans fr0
    by_cases hlp:p<ns.length
    ·have HUB:=hid (fun q (hq:q<p) z (h:(U q).ownBlock=some z)=>((HU.out.row q hq).lt z h).2)
     go_wp2_with fail
     go_loopw [20,21] (fun kept i wq=>∃ k2:Nat,k2≤k∧i=.int .i64 k2∧Hid (wq.ownsRow W1.heap.size 4 1 kept (k2*vs.length) (aj (kY ns vs p) (k2*vs.length) (k2*vs.length)))∧Hid (Two wq w3.heap.size vT vK)∧Hid (eD wq (w3.heap.size+1) 22 3 vT (k*vs.length) V (fun q=>au (qI ns vs (bR zs) (dF zss) k q)))∧Hid (eD wq (w3.heap.size+1) 132 4 vK p U (fun q=>aj (kY ns vs q) (k*vs.length) (k*vs.length)))∧Hid (Below w3.heap.size w3 wq)∧W1.heap.size≤wq.heap.size) (fun _ i _=>k - (intOf i).toNat)
     case atStart=>exact ⟨0,Nat.zero_le _,rfl,by rw [Nat.zero_mul];exact hid (World.ownsRow_nil _ _ _ _),HT,HV,HU,HB,Nat.le_refl _⟩
     case round=>
      obtain ⟨k2,hk2,rfl,HL,HT,HV,HU,HB,iP⟩:=hrel
      rename World=>W2
      clear r0' NE
      have BV:=(HB.out.cell (p:=⟨G,0,none⟩) J9).trans x0
      by_cases hlk2:k2<k
      ·go_wp2_with fail
       clear BV
       go_loopw [20,22] (fun kept i wq=>∃ i2:Nat,i2≤vs.length∧i=.int .i64 i2∧Hid (wq.ownsRow W1.heap.size 4 1 kept (k2*vs.length+i2) (aj (kY ns vs p) (k2*vs.length+i2) (k2*vs.length+i2)))∧Hid (Two wq w3.heap.size vT vK)∧Hid (eD wq (w3.heap.size+1) 22 3 vT (k*vs.length) V (fun q=>au (qI ns vs (bR zs) (dF zss) k q)))∧Hid (eD wq (w3.heap.size+1) 132 4 vK p U (fun q=>aj (kY ns vs q) (k*vs.length) (k*vs.length)))∧Hid (Below w3.heap.size w3 wq)∧W1.heap.size≤wq.heap.size) (fun _ i _=>vs.length - (intOf i).toNat)
       case atStart=>exact ⟨0,Nat.zero_le _,rfl,HL,HT,HV,HU,HB,iP⟩
       case round=>
        obtain ⟨i2,hi2',rfl,HL,HT,HV,HU,HB,iP⟩:=hrel
        rename World=>W3
        by_cases hli2:i2<vs.length
        ·obtain ⟨b,cb,hrb⟩:=Ha.out i2 hli2
         have r0':=(HB.out.cell (p:=⟨R,0,none⟩) hR).trans r0
         have aaG:=(HB.out.cell (p:=⟨R,1,none⟩) hR).trans ca1
         have cb':=(HB.out.cell (p:=⟨gs,i2,none⟩) hgs).trans cb
         have C:=KD.out W3 b (aJ vs i2) p hlp HB.out (hrb.below HB.out)
         have hlq:k2*vs.length+i2<6*256:=Nat.lt_of_lt_of_le (tK (show k2<6 by omega) hli2) (Nat.mul_le_mul_left _ hM)
         have Ym:Hid (kY ns vs p (k2*vs.length+i2)=fD (ai ns p) p (aJ vs i2)):=hid (by unfold kY;rw [qZ hli2];rfl)
         clear cb hrb
         generalize fD (ai ns p) p (aJ vs i2)=kv at *
         go_wp2_with fail
         refine C.mono ?_
         rintro e W4 ⟨rfl,e4⟩
         rw [←e4] at HB HL HT HV HU iP
         have HB3:=HB
         have ll:=HL
         have HT3:=HT
         have pO:=HV
         have Pi:=HU
         have Ez:=iP
         clear C r0' aaG cb' HL HT HV HU HB iP e4
         have Cw:Hid (k2*vs.length+(i2+1)=(k2*vs.length+i2)+1):=hid rfl
         generalize hqE:k2*vs.length+i2=qq at *
         obtain ⟨aoL,cpL,rfl⟩:=ag ll.out
         have lh:=hid (fun q h=>(ll.out.lt q h).1)
         go_wp2_with (at_builtin;go_must (refine wpList_append_lies _ rfl (.tmp 162) (.tmp 164) 132 rfl W1.heap.size 4 i2b (.bool false) 1 1 Tryz.underlying132 hi2 hz02 hz12 hz22 rfl (by decide) _ qq (aj (kY ns vs p) qq qq) rfl (ll.out.alloc _) ⟨W4.heap.size,0,none⟩ 1 1 [.bool kv] rfl rfl (bE W4 [.bool kv] _) (by intro y hy;simp at hy;rcases hy with rfl;rfl) (by decide) (by unfold maxLen;omega) (by omega) (by simp;omega) (W4.heap.size+1) (by simp) ?_))
         intro gg cc w7 hown hgrow hat hlt7
         have b6:=(Below.refl W4.heap.size W4).alloc (Nat.le_refl _) (.cells #[.bool kv] 4)
         have hs7:W4.heap.size≤w7.heap.size:=by
          have:=hgrow.size
          simp at this
          omega
         have BL:(Value.slice aoL qq cpL).ownBlock≠some w3.heap.size:=fun e=>by have:=lh.out _ e;omega
         have oZ:=HT3.out.lt
         have bT:=hgrow.block w3.heap.size (by rw [World.size_alloc];omega) (fun e=>BL e.symm)
         have T7:Hid (Two w7 w3.heap.size vT vK):=hid (by
          have dZ:=HT3.out.below b6 oZ
          exact ⟨(World.cell?_of_block (a:=⟨w3.heap.size,0,none⟩) bT).trans dZ.c0,(World.cell?_of_block (a:=⟨w3.heap.size,1,none⟩) bT).trans dZ.c1,(World.frozen?_of_block (a:=⟨w3.heap.size,0,none⟩) bT).trans dZ.f0,(World.frozen?_of_block (a:=⟨w3.heap.size,1,none⟩) bT).trans dZ.f1⟩)
         have V7:=hid ((pO.out.keeps b6).tL hgrow (aD (pO.out.keeps b6).out (ll.out.alloc (.cells #[.bool kv] 4)) (by decide)) (fun q hq=>aD ((pO.out.keeps b6).row q hq) (ll.out.alloc (.cells #[.bool kv] 4)) (by decide)))
         have U7:=hid ((Pi.out.keeps b6).tL hgrow (aD (Pi.out.keeps b6).out (ll.out.alloc (.cells #[.bool kv] 4)) (by decide)) (fun q hq=>by
          cases hv:(U q).ownBlock with
          | none=>exact Or.inl rfl
          | some z=>
           refine Or.inr fun e=>?_
           have h1:=lh.out z e.symm
           have h2:=HUB.out q hq z hv
           omega))
         have L7:Hid (w7.ownsRow W1.heap.size 4 1 (.slice (some ⟨gg,0,none⟩) (qq+1) cc) (qq+1) (aj (kY ns vs p) (qq+1) (qq+1))):=hid (by
          rw [FJ,Ym.out]
          exact hown)
         have fI:=hid ((HB3.out.alloc (by omega) (.cells #[.bool kv] 4)).grown hgrow (by simp;omega) (fun q h=>by have:=lh.out q h;omega))
         clear hown hgrow hat b6 bT ll HT3 pO Pi HB3 BL
         go_wp2_with fail
         go_roundw
         case rel=>exact ⟨i2+1,by omega,by go_num,by rw [Cw.out];exact L7,T7,V7,U7,fI,by omega⟩
         case measure=>simp [intOf];omega
        ·obtain rfl:i2=vs.length:=by omega
         have Pk:Hid ((k2+1)*vs.length=k2*vs.length+vs.length):=hid (Nat.succ_mul _ _)
         go_wp2_with fail
         go_roundw
         case rel=>exact ⟨k2+1,by omega,by go_num,by rw [Pk.out];exact HL,HT,HV,HU,HB,iP⟩
         case measure=>simp [intOf];omega
      ·obtain rfl:k2=k:=by omega
       obtain ⟨aoL,cpL,rfl⟩:=ag HL.out
       obtain ⟨aoN,cpN,rfl⟩:=ag HU.out.out
       have k0:=HT.out.c1
       have b6:=(Below.refl W2.heap.size W2).alloc (Nat.le_refl _) (.cells #[.slice aoL (k2*vs.length) cpL] 132)
       go_wp2_with (at_builtin;go_must (refine wpList_append_lies _ rfl (.tmp 170) (.tmp 172) 77 rfl (w3.heap.size+1) 132 i3 (.slice none 0 0) 1 24 Tryz.underlying77 hi3 hz03 hz13 hz23 rfl (by decide) _ p ((List.range p).map U) rfl (HU.out.out.alloc _) ⟨W2.heap.size,0,none⟩ 1 1 [.slice aoL (k2*vs.length) cpL] rfl rfl (bE W2 [.slice aoL (k2*vs.length) cpL] _) (by intro y hy;simp at hy;rcases hy with rfl;rfl) (by decide) (by unfold maxLen;omega) (by omega) (by simp;omega) (W2.heap.size+1) (by simp) ?_))
       intro gg cc w7 hown hgrow hat hlt7
       have hs7:W2.heap.size≤w7.heap.size:=by
        have:=hgrow.size
        simp at this
        omega
       have oZ:=HT.out.lt
       have lQ:(Value.slice aoN p cpN).ownBlock≠some w3.heap.size:=fun e=>by have:=(HU.out.out.lt _ e).1;omega
       have bT:=hgrow.block w3.heap.size (by rw [World.size_alloc];omega) (fun e=>lQ e.symm)
       have dZ:=HT.out.below b6 oZ
       have T7:Two w7 w3.heap.size vT (.slice aoN p cpN):=⟨(World.cell?_of_block (a:=⟨w3.heap.size,0,none⟩) bT).trans dZ.c0,(World.cell?_of_block (a:=⟨w3.heap.size,1,none⟩) bT).trans dZ.c1,(World.frozen?_of_block (a:=⟨w3.heap.size,0,none⟩) bT).trans dZ.f0,(World.frozen?_of_block (a:=⟨w3.heap.size,1,none⟩) bT).trans dZ.f1⟩
       have lc:=(aY HL.out (show w3.heap.size+1≤W1.heap.size by omega)).alloc (.cells #[.slice aoL (k2*vs.length) cpL] 132)
       have U7:=kC (HU.out.keeps b6) (x:=.slice aoL (k2*vs.length) cpL) (by rw [wB];exact lc) (by decide) hgrow hown
       have V7:=(HV.out.keeps b6).grown (HU.out.out.alloc (.cells #[.slice aoL (k2*vs.length) cpL] 132)) hgrow (by decide) (by decide)
       have q0:=T7.c1
       have q1:=T7.f1
       have D1:=hid (T7.set1 (.slice (some ⟨gg,0,none⟩) (p+1) cc))
       have D2:=hid (U7.set (show w3.heap.size<w3.heap.size+1 by omega) 1 (.slice (some ⟨gg,0,none⟩) (p+1) cc))
       have D3:=hid (V7.set (show w3.heap.size<w3.heap.size+1 by omega) 1 (.slice (some ⟨gg,0,none⟩) (p+1) cc))
       have D4:=hid (((HB.out.alloc HB.out.size (.cells #[.slice aoL (k2*vs.length) cpL] 132)).grown hgrow (by simp;omega) (fun q h=>by have:=(HU.out.out.lt q h).1;omega)).setCell (p:=⟨w3.heap.size,1,none⟩) (Nat.le_refl _) (.slice (some ⟨gg,0,none⟩) (p+1) cc))
       clear hown hgrow hat b6 HL HT HV HU HB lc T7 V7 U7 lQ bT dZ
       go_wp2_with fail
       go_roundw
       case rel=>exact ⟨p+1,_,_,by omega,by go_num,D1,D3,D2,D4,by simp;omega⟩
       case measure=>simp [intOf];omega
    ·obtain rfl:p=ns.length:=by omega
     have oZ:=HT.out.lt
     have NM:=hid (show mK W1 w3.heap.size (k*vs.length) (qI ns vs (bR zs) (dF zss) k) ns.length (kY ns vs) from ⟨oZ,⟨_,HT.out.c0,CK HV.out⟩,⟨_,HT.out.c1,QI (Nat.mul_pos (by omega) hM0) HU.out⟩⟩)
     clear HT HV HU
     go_wp2_with fail
     refine (Hr.out W1 w3.heap.size NM.out).mono ?_
     rintro e w5 ⟨g5,good,rfl,hg5,hBO,hgood,hb5⟩
     have dV:=hid (HB.out.trans (hb5.mono HB.out.size))
     have Yx:=hid hBO
     have agc:Hid ((∃ j,j<l3∧∃ i,i<vs.length∧aJ vs i (ns.length - 1)=false∧good ((ss.getD j 0).toNat*vs.length+i)=true)↔¬ oU ns zs.length (bR zs) (dF zss) (su ss)):=hid (by
      rw [pR.out,←aaB GD.out ajI.out (fun i hi=>(wV.out i hi).1) hgood,←Cy.out]
      exact (aaz HNU.out (P:=fun k=>∃ i,i<vs.length∧aJ vs i (ns.length - 1)=false∧good (k*vs.length+i)=true)).symm)
     clear hBO hgood hb5 r0' NE
     go_wp2_with fail
     refine (WH.out w5 dV.out).mono ?_
     rintro e w6 ⟨g6',rfl,hrb,hg6,hb6⟩
     have iQ:=hid (dV.out.trans (hb6.mono dV.out.size))
     have H6:=hid hrb
     have H5:=hid (fun i (hi:i<k*vs.length)=>(hb6.cell (p:=⟨g5,i,none⟩) Yx.out.blk.2).trans (Yx.out.get hi))
     have HBE:=hid (uN.out.trans (iQ.out.mono (Nat.le_of_lt J9)))
     clear hrb hb6 HB dV
     have y2:=(iQ.out.cell (p:=⟨G,2,none⟩) J9).trans x2
     have HI3:=hid (I3.out.below iQ.out)
     go_wp2_with fail
     go_loopw [26] (fun i wq=>∃ k2:Nat,k2≤l3∧i=.int .i64 k2∧Hid (∀ j,j<k2→¬ ∃ i,i<vs.length∧aJ vs i (ns.length - 1)=false∧good ((ss.getD j 0).toNat*vs.length+i)=true)∧w6=wq) (fun i _=>l3 - (intOf i).toNat)
     case atStart=>exact ⟨0,Nat.zero_le _,rfl,hid (fun j h=>by omega),rfl⟩
     case round=>
      obtain ⟨k2,hk2,rfl,HA,e⟩:=hrel
      subst e
      by_cases hlk2:k2<l3
      ·obtain ⟨gz,oz,e,hgz,hzc⟩:=HI3.out.hcell (by omega)
       subst e
       have ck2:=hzc k2 hlk2
       have hst:0≤ss.getD k2 0∧ss.getD k2 0<(k:Int):=nV.1 HNU.out _ (by rw [List.getD,List.getElem?_eq_getElem (by rw [Cy.out];exact hlk2)];exact List.getElem_mem _)
       obtain ⟨z,ez⟩:∃ z:Nat,ss.getD k2 0=(z:Int):=⟨(ss.getD k2 0).toNat,(Int.toNat_of_nonneg hst.1).symm⟩
       rw [ez] at ck2 hst
       have HZ:Hid ((ss.getD k2 0).toNat=z):=hid (by rw [ez];rfl)
       have hzk:z<k:=by omega
       clear ez hst hzc
       have j1:(0:Int)≤(k2:Int):=by omega
       have j2:(k2:Int)<(l3:Int):=by omega
       go_wp2_with fail
       go_loopw [27] (fun i wq=>∃ i2:Nat,i2≤vs.length∧i=.int .i64 i2∧Hid (∀ j,j<i2→¬ (aJ vs j (ns.length - 1)=false∧good (z*vs.length+j)=true))∧w6=wq) (fun i _=>vs.length - (intOf i).toNat)
       case atStart=>exact ⟨0,Nat.zero_le _,rfl,hid (fun j h=>by omega),rfl⟩
       case round=>
        obtain ⟨i2,hi2',rfl,HA1,e⟩:=hrel
        subst e
        by_cases hli2:i2<vs.length
        ·have c6:=H6.out.cell i2 hli2
         have hzl:z*vs.length+i2<k*vs.length:=tK hzk hli2
         have c5:=H5.out (z*vs.length+i2) hzl
         have hzM:z*vs.length≤6*256:=Nat.mul_le_mul (by omega) hM
         have wm:IntKind.i64.wrap ((z:Int)*(vs.length:Int))=((z*vs.length:Nat):Int):=by
          rw [IntKind.wrap_i64,←Int.natCast_mul];omega
         have HA2:Hid (((aJ vs i2 (ns.length - 1)==false)&&good (z*vs.length+i2))=false→∀ j,j<i2+1→¬ (aJ vs j (ns.length - 1)=false∧good (z*vs.length+j)=true)):=hid (fun e j hj=>by
          by_cases c:j=i2
          ·subst c
           rintro ⟨h1,h2⟩
           rw [h1,h2] at e
           simp at e
          ·exact HA1.out j (by omega))
         have HY:Hid (((aJ vs i2 (ns.length - 1)==false)&&good (z*vs.length+i2))=true→¬ oU ns zs.length (bR zs) (dF zss) (su ss)):=hid (fun e=>by
          rw [Bool.and_eq_true,beq_iff_eq] at e
          exact agc.out.1 ⟨k2,hlk2,i2,hli2,e.1,by rw [HZ.out];exact e.2⟩)
         have aj1:=HA1
         clear HA1 aj1
         generalize hgv:good (z*vs.length+i2)=gv at *
         clear hgv
         generalize z*vs.length=pz at *
         have wa:IntKind.i64.wrap ((pz:Int)+(i2:Int))=(pz:Int)+(i2:Int):=by rw [IntKind.wrap_i64];omega
         have e5:((pz:Int)+(i2:Int)).toNat=pz+i2:=by omega
         generalize hNE:k*vs.length=N at *
         have u1:(0:Int)≤(pz:Int)+(i2:Int):=by omega
         have u2:(pz:Int)+(i2:Int)<(N:Int):=by omega
         generalize (aJ vs i2 (ns.length - 1)==false)=fv at *
         cases fv with
         | false=>
          go_wp2_with fail
          go_roundw
          case rel=>exact ⟨i2+1,by omega,by go_num,hid (HA2.out rfl),trivial⟩
          case measure=>simp [intOf];omega
         | true=>
          cases gv with
          | false=>
           go_wp2_with fail
           go_roundw
           case rel=>exact ⟨i2+1,by omega,by go_num,hid (HA2.out rfl),trivial⟩
           case measure=>simp [intOf];omega
          | true=>
           have HYY:=hid (HY.out rfl)
           go_wp2_with fail
           go_ret2
           exact KOK.out _ HBE.out false ⟨fun h=>(by cases h),fun h=>absurd h HYY.out⟩
        ·obtain rfl:i2=vs.length:=by omega
         have RO:Hid (∀ j,j<k2+1→¬ ∃ i,i<vs.length∧aJ vs i (ns.length - 1)=false∧good ((ss.getD j 0).toNat*vs.length+i)=true):=hid (fun j hj=>by
          by_cases c:j=k2
          ·subst c
           rw [HZ.out]
           rintro ⟨i,h1,h2⟩
           exact HA1.out i h1 h2
          ·exact HA.out j (by omega))
         go_wp2_with fail
         go_roundw
         case rel=>exact ⟨k2+1,by omega,by go_num,RO,trivial⟩
         case measure=>simp [intOf];omega
      ·obtain rfl:k2=l3:=by omega
       have HYY:Hid (oU ns zs.length (bR zs) (dF zss) (su ss)):=hid (Classical.byContradiction fun h=>by
        obtain ⟨j,hj,h2⟩:=agc.out.2 h
        exact HA.out j hj h2)
       go_wp2_with fail
       go_ret2
       exact KOK.out _ HBE.out true ⟨fun _=>HYY.out,fun _=>rfl⟩
theorem Tm (hm:s.size≤maxLen) (h1:Ints w a1 l1 c1 zs) (h2:Lists w a2 l2 c2 zss) (h3:Ints w a3 l3 c3 ss) :
  Calls Tryz.prog 42 #[.agg #[.slice a1 l1 c1,.slice a2 l2 c2,.slice a3 l3 c3],.string s] w (qj zs zss ss s w):=by
 by_cases hc:bi zs zss ss=false∨(af s).1≠0
 ·exact VG a1 a2 a3 l1 c1 l2 c2 l3 c3 zs zss ss s w hm h1 h2 h3 hc
 ·refine Tk a1 a2 a3 l1 c1 l2 c2 l3 c3 zs zss ss s w hm h1 h2 h3 ?_ ?_
  ·cases e:bi zs zss ss with
   | true=>rfl
   | false=>exact absurd (Or.inl e) hc
  ·exact Classical.byContradiction fun h=>hc (Or.inr h)
end
end Go.Proofs.YtjagijohfkffiabGreat
