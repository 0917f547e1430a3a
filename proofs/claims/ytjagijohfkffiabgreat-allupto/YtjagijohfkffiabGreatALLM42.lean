import Derived.Test.YtjagijohfkffiabGreatALLM41
import Derived.BigQuiet
set_option maxHeartbeats 16000000
set_option maxRecDepth 100000
namespace Go.Proofs.YtjagijohfkffiabGreat
open Go.RowKit
set_option linter.unusedVariables false
def Fj (ns:List Nd) (vs:List Nat) (out:Nat→Nat) (nx:Nat→Nat→Nat) (vd k i a pr j:Nat):List Nat:=lK ns vs out nx vd k i a++((toS ns vs i).take j).map (fun q=>pr+q)
def CJ (rv:Bool) (o vd j:Nat):Prop:=(rv=true∧o≠vd)∨j=0
def oD (w:World) (B:Nat) (v:Value) (L:List Nat):Prop:=w.ownsRow B 3 1 v L.length (au L)
theorem Vg (R F gp cap P K:Nat) (ns:List Nd) (bs vs:List Nat) (out:Nat→Nat) (xs:List Nat) (hd:Bool) (vd:Nat) (w:World) (h:p9 w R F gp cap ns bs vs) (hf:xR w P K out (jY xs)) (hg:Good ns) (hM:vs.length≤256) (hM0:0<vs.length) (qG:0<K) (hK:K≤796594185) (hc:∀ i a,i<K→a<8→aL xs i a<K)
  (EN:∀ W P',mK W P' (K*vs.length) (oV ns vs out (aL xs) vd) ns.length (kY ns vs)→Calls Tryz.prog 75 #[.pointer (some ⟨P',0,none⟩)] W fun e w'=>∃ g good,e=.returned (.slice (some ⟨g,0,none⟩) (K*vs.length) (K*vs.length))∧W.heap.size≤g∧BO w' W.heap.size g (K*vs.length) good∧(∀ i,good i=true↔∃ c,c<K*vs.length∧reach (Ed (K*vs.length) (oV ns vs out (aL xs) vd)) i c∧GN (K*vs.length) (oV ns vs out (aL xs) vd) ns.length (kY ns vs) c)∧Below W.heap.size W w') :
  Calls Tryz.prog 109 #[.pointer (some ⟨R,0,none⟩),.pointer (some ⟨P,0,none⟩),.bool hd,.int .i64 (vd:Nat)] w fun e w'=>∃ b:Bool,∃ good:Nat→Bool,e=.returned (.bool b)∧(b=true↔∃ i,i<vs.length∧aJ vs i (ns.length - 1)=hd∧good i=true)∧(∀ i,good i=true↔∃ c,c<K*vs.length∧reach (Ed (K*vs.length) (oV ns vs out (aL xs) vd)) i c∧GN (K*vs.length) (oV ns vs out (aL xs) vd) ns.length (kY ns vs) c)∧Below w.heap.size w w':=by
 obtain ⟨v1,a1,ao1,cap1,rfl,hsc,hrow⟩:=h.c1
 obtain ⟨v2,a2,ao2,cap2,rfl,htc,htow⟩:=h.c2
 obtain ⟨gs,rfl,hgs,hsets⟩:=hrow hM0
 obtain ⟨gt,rfl,hgt,htos⟩:=htow hM0
 obtain ⟨aoF,capF,f0⟩:=hf.c0
 obtain ⟨vO,f1,aoO,capO,rfl,hocap,horow⟩:=hf.c1
 obtain ⟨vX,f2,aoX,capX,rfl,hxcap,hxrow⟩:=hf.c2
 have hR:=h.lt
 have hP:=hf.lt
 have r0:=h.c0
 have hle:=hg.le
 have DL:=hid h
 have HG:=hid hg
 have Ha:=hid hsets
 have aaP:=hid htos
 have LD:=hid horow
 have agN:=hid hxrow
 have oG:=hid hc
 have Hr:=hid EN
 obtain ⟨i0,hi,hz0,hz1,hz2⟩:=info_parts Tryz.kG
 obtain ⟨i1,hi1,hz01,hz11,hz21⟩:=info_parts Tryz.sQ
 obtain ⟨i2b,hi2,hz02,hz12,hz22⟩:=info_parts Tryz.dw
 obtain ⟨i3,hi3,hz03,hz13,hz23⟩:=info_parts Tryz.xB
 have hol:((List.range K).map out).length=K:=by simp
 rw [hol] at f1 hocap LD
 have UB:Hid (∀ i,i<K→bG ((List.range K).map out) i=out i):=hid (fun i hi=>by simp [bG,List.getD,hi])
 have RD:=hid (fun (W:World) (b:Nat) (S:Nat→Bool) (a:Nat) (ha:a<8) (h1:Below w.heap.size w W) (h2:Rb W b ns.length S)=>zG F gp cap b ns.length ns bs S W a ha (h.fr.below h1) h2 hg (Nat.le_refl _))
 have KD:=hid (fun (W:World) (b:Nat) (S:Nat→Bool) (p:Nat) (hp:p<ns.length) (h1:Below w.heap.size w W) (h2:Rb W b ns.length S)=>Ev F gp cap b ns.length ns bs S W p hp (h.fr.below h1) h2 hg (Nat.le_refl _))
 have WH:=hid (fun (W:World) (h1:Below w.heap.size w W)=>Bd R F gp cap ns bs vs hd W (h.below h1) hg hM)
 clear h hf hg hsets htos hrow htow horow hxrow hc EN
 go_enter Tryz.func109,Tryz.ntmps109
 go_wp2_with fail
 have ba:=hid ((Below.refl w.heap.size w).alloc (Nat.le_refl _) (.cells #[.slice none 0 0,.slice none 0 0] 140))
 have T1:=hid (bF w (.slice none 0 0) (.slice none 0 0) 140)
 go_loopw [11] (fun i wq=>∃ (k:Nat) (vT:Value) (V:Nat→Value),k≤K∧i=.int .i64 k∧Hid (Two wq w.heap.size vT (.slice none 0 0))∧Hid (eD wq (w.heap.size+1) 22 3 vT (k*vs.length) V (fun q=>au (oV ns vs out (aL xs) vd q)))∧Hid (Below w.heap.size w wq)∧w.heap.size+1≤wq.heap.size) (fun i _=>K - (intOf i).toNat)
 case atStart=>exact ⟨0,_,fun _=>.slice none 0 0,Nat.zero_le _,rfl,T1,by rw [Nat.zero_mul];exact hid (qx _ _ _ _ _ _),ba,by simp⟩
 case round=>
  obtain ⟨k,vT,V,hk,rfl,HT,HV,HB,hsz⟩:=hrel
  rename World=>W0
  clear ba T1
  have BV:=(HB.out.cell (p:=⟨P,0,none⟩) hP).trans f0
  by_cases hlk:k<K
  ·obtain ⟨gO,e,hgO,hoc⟩:=LD.out (by omega)
   subst e
   obtain ⟨gX,e,hgX,hxc⟩:=agN.out (by omega)
   subst e
   obtain ⟨rX,cX,aoR,capR,e,hcapR,hxr⟩:=hxc k hlk
   subst e
   rw [sO] at cX hcapR hxr
   obtain ⟨gR,e,hgR,hxv⟩:=hxr (by omega)
   subst e
   have xO:=hid (by have h9:=hoc k hlk;rwa [UB.out k hlk] at h9:w.cell? ⟨gO,k,none⟩=some (.int .i64 (out k:Nat)))
   have qP:=hid (fun x (hx:x<K)=>(by have h9:=hoc x hx;rwa [UB.out x hx] at h9:w.cell? ⟨gO,x,none⟩=some (.int .i64 (out x:Nat))))
   have HXV:=hid (fun a (ha:a<8)=>(by have h9:=hxv a ha;rwa [MO xs ha] at h9:w.cell? ⟨gR,a,none⟩=some (.int .i64 (aL xs k a:Nat))))
   have HCX:=hid cX
   clear hoc hxc hxr hxv cX
   go_wp2_with fail
   go_loopw [12] (fun i wq=>∃ (i':Nat) (vT:Value) (V:Nat→Value),i'≤vs.length∧i=.int .i64 i'∧Hid (Two wq w.heap.size vT (.slice none 0 0))∧Hid (eD wq (w.heap.size+1) 22 3 vT (k*vs.length+i') V (fun q=>au (oV ns vs out (aL xs) vd q)))∧Hid (Below w.heap.size w wq)∧w.heap.size+1≤wq.heap.size) (fun i _=>vs.length - (intOf i).toNat)
   case atStart=>exact ⟨0,_,V,Nat.zero_le _,rfl,HT,HV,HB,hsz⟩
   case round=>
    obtain ⟨i',vT,V,hi',rfl,HT,HV,HB,hsz⟩:=hrel
    rename World=>W1
    clear BV
    by_cases hli:i'<vs.length
    ·have yV:=hid (fun q (hq:q<k*vs.length+i') z (h:(V q).ownBlock=some z)=>((HV.out.row q hq).lt z h).2)
     go_wp2_with fail
     go_loopw [13,14] (fun to i wq=>∃ a:Nat,a≤8∧i=.int .i64 a∧Hid (wq.ownsRow W1.heap.size 3 1 to (lK ns vs out (aL xs) vd k i' a).length (au (lK ns vs out (aL xs) vd k i' a)))∧Hid (Two wq w.heap.size vT (.slice none 0 0))∧Hid (eD wq (w.heap.size+1) 22 3 vT (k*vs.length+i') V (fun q=>au (oV ns vs out (aL xs) vd q)))∧Hid (Below w.heap.size w wq)∧W1.heap.size≤wq.heap.size) (fun _ i _=>8 - (intOf i).toNat)
     case atStart=>exact ⟨0,by omega,rfl,hid (World.ownsRow_nil _ _ _ _),HT,HV,HB,Nat.le_refl _⟩
     case round=>
      obtain ⟨a,ha,rfl,HL,HT,HV,HB,iP⟩:=hrel
      rename World=>W2
      have p1:=(HB.out.cell (p:=⟨P,1,none⟩) hP).trans f1
      have ok:=(HB.out.cell (p:=⟨gO,k,none⟩) hgO).trans xO.out
      by_cases hla:a<8
      ·by_cases hov:out k=vd
       ·have lu:=hid (Js ns vs out (aL xs) vd (i:=i') hov)
        have ok2:=ok
        rw [hov] at ok2
        have hsl:lK ns vs out (aL xs) vd k i' a=oV ns vs out (aL xs) vd (k*vs.length+i'):=by rw [Bi ns vs out (aL xs) vd hli,lu.out,lu.out]
        rw [hsl] at HL
        clear ok hov hsl
        have Nj:(oV ns vs out (aL xs) vd (k*vs.length+i')).length≤2048:=by
         rw [Bi ns vs out (aL xs) vd hli]
         exact Nat.le_trans (vY ns vs out (aL xs) vd k i' 8) (Nat.le_trans (Nat.mul_le_mul_left 8 hM) (by omega))
        have JX:k*vs.length+i'<796594185*256:=Nat.lt_of_lt_of_le (tK (show k<796594185 by omega) hli) (Nat.mul_le_mul_left _ hM)
        have Cw:Hid (k*vs.length+(i'+1)=(k*vs.length+i')+1):=hid rfl
        have Uy:=yV
        generalize hqE:k*vs.length+i'=qq at *
        generalize hLE:oV ns vs out (aL xs) vd qq=L at *
        obtain ⟨aoL,cpL,rfl⟩:=ag HL.out
        obtain ⟨aoN,cpN,rfl⟩:=ag HV.out.out
        have k0:=HT.out.c0
        have b6:=(Below.refl W2.heap.size W2).alloc (Nat.le_refl _) (.cells #[.slice aoL L.length cpL] 22)
        go_wp2_with (at_builtin;go_must (refine wpList_append_lies _ rfl (.tmp 132) (.tmp 134) 23 rfl (w.heap.size+1) 22 i1 (.slice none 0 0) 1 24 Tryz.underlying23 hi1 hz01 hz11 hz21 rfl (by decide) _ qq ((List.range qq).map V) rfl (HV.out.out.alloc _) ⟨W2.heap.size,0,none⟩ 1 1 [.slice aoL L.length cpL] rfl rfl (bE W2 [.slice aoL L.length cpL] _) (by intro y hy;simp at hy;rcases hy with rfl;rfl) (by decide) (by unfold maxLen;omega) (by omega) (by simp;omega) (W2.heap.size+1) (by simp) ?_))
        intro gg cc w7 hown hgrow hat hlt7
        have hs7:W2.heap.size≤w7.heap.size:=by
         have:=hgrow.size
         simp at this
         omega
        have oZ:=HT.out.lt
        have lQ:(Value.slice aoN qq cpN).ownBlock≠some w.heap.size:=fun e=>by have:=(HV.out.out.lt _ e).1;omega
        have bT:=hgrow.block w.heap.size (by rw [World.size_alloc];omega) (fun e=>lQ e.symm)
        have dZ:=HT.out.below b6 oZ
        have T7:Two w7 w.heap.size (.slice aoN qq cpN) (.slice none 0 0):=⟨(World.cell?_of_block (a:=⟨w.heap.size,0,none⟩) bT).trans dZ.c0,(World.cell?_of_block (a:=⟨w.heap.size,1,none⟩) bT).trans dZ.c1,(World.frozen?_of_block (a:=⟨w.heap.size,0,none⟩) bT).trans dZ.f0,(World.frozen?_of_block (a:=⟨w.heap.size,1,none⟩) bT).trans dZ.f1⟩
        have lc:=(aY HL.out (show w.heap.size+1≤W1.heap.size by omega)).alloc (.cells #[.slice aoL L.length cpL] 22)
        have V7:=kC (HV.out.keeps b6) (x:=.slice aoL L.length cpL) (by rw [hLE,kg];exact lc) (by decide) hgrow hown
        have q0:=T7.c0
        have q1:=T7.f0
        have D1:=hid (T7.set0 (.slice (some ⟨gg,0,none⟩) (qq+1) cc))
        have D2:=hid (V7.set (show w.heap.size<w.heap.size+1 by omega) 0 (.slice (some ⟨gg,0,none⟩) (qq+1) cc))
        have D4:=hid (((HB.out.alloc HB.out.size (.cells #[.slice aoL L.length cpL] 22)).grown hgrow (by simp;omega) (fun q h=>by have:=(HV.out.out.lt q h).1;omega)).setCell (p:=⟨w.heap.size,0,none⟩) (Nat.le_refl _) (.slice (some ⟨gg,0,none⟩) (qq+1) cc))
        clear hown hgrow hat b6 HL HT HV HB lc T7 V7 lQ bT dZ
        go_wp2_with fail
        go_roundw
        case rel=>exact ⟨i'+1,_,_,by omega,by go_num,D1,by rw [Cw.out];exact D2,D4,by simp;omega⟩
        case measure=>simp [intOf];omega
       ·have aeA:¬ ((out k:Int)=(vd:Int)):=by omega
        have ai1:((out k:Int)!=(vd:Int))=true:=by simpa using aeA
        have HOV:=hid hov
        obtain ⟨b,cb,hrb⟩:=Ha.out i' hli
        have r0':=(HB.out.cell (p:=⟨R,0,none⟩) hR).trans r0
        have a1':=(HB.out.cell (p:=⟨R,1,none⟩) hR).trans a1
        have cb':=(HB.out.cell (p:=⟨gs,i',none⟩) hgs).trans cb
        have C:=fun m=>RD.out (W2.drewN m) b (aJ vs i') a hla (below_drewN HB.out m) ((hrb.below HB.out).drewN m)
        have x2:=(HB.out.cell (p:=⟨P,2,none⟩) hP).trans f2
        have x3:=(HB.out.cell (p:=⟨gX,k,none⟩) hgX).trans HCX.out
        have x4:=(HB.out.cell (p:=⟨gR,a,none⟩) hgR).trans (HXV.out a hla)
        have De:∀ m,(W2.drewN m).cell? ⟨P,2,none⟩=some (.slice (some ⟨gX,0,none⟩) K capX):=fun m=>x2
        have x3':∀ m,(W2.drewN m).cell? ⟨gX,k,none⟩=some (.slice (some ⟨gR,0,none⟩) 8 capR):=fun m=>x3
        have x4':∀ m,(W2.drewN m).cell? ⟨gR,a,none⟩=some (.int .i64 (aL xs k a:Nat)):=fun m=>x4
        clear cb hrb
        have hxK:=oG.out k a hlk hla
        have Yc:=hid (Ie ns vs out (aL xs) vd (k:=k) (i:=i') (a:=a))
        have KO:=hid (Mk ns vs out (aL xs) vd (k:=k) (i:=i') (a:=a))
        have gL:=hid (xc ns vs out (aL xs) vd k i' a)
        have lh:=hid (fun q h=>(HL.out.lt q h).1)
        have hlen:=vY ns vs out (aL xs) vd k i' a
        have agK:(lK ns vs out (aL xs) vd k i' a).length≤2048:=Nat.le_trans hlen (Nat.le_trans (Nat.mul_le_mul ha hM) (by omega))
        clear hlen
        generalize gB ns (aJ vs i') a=rv at *
        generalize aL xs k a=x at *
        go_wp2_with fail
        go_quiet ((go_at_call 81;exact Calls.quiet_of_same (C _)))
        have z2:=De nq
        have z3:=x3' nq
        have z4:=x4' nq
        have HB3:=hid (below_drewN HB.out nq)
        have bq:=below_drewN (Below.refl W2.heap.size W2) nq
        have ll:=hid (ae HL.out bq)
        have HT3:=hid (HT.out.below bq HT.out.lt)
        have pO:=hid (HV.out.keeps bq)
        have Ez:W1.heap.size≤(W2.drewN nq).heap.size:=iP
        clear C De x3' x4' x2 x3 x4 r0' a1' cb' p1 ok bq HL HT HV HB
        generalize W2.drewN nq=W3 at *
        clear hov aeA ai1
        obtain ⟨rT,cT,aoT,capT,e,hcapT,htr⟩:=aaP.out i' hli
        subst e
        have PD:=hid cT
        have yX:=hid htr
        have oZ:=vC ns vs i'
        have jD:=hid (fun b=>EY (ns:=ns) (vs:=vs) (i:=i') (b:=b))
        clear cT htr
        have HOX:=hid (qP.out x hxK)
        have hpr:x*vs.length≤796594185*256:=Nat.mul_le_mul (by omega) hM
        have wm:IntKind.i64.wrap ((x:Int)*(vs.length:Int))=((x*vs.length:Nat):Int):=by
         rw [IntKind.wrap_i64,←Int.natCast_mul];omega
        generalize hprE:x*vs.length=pr at *
        have HPR:=hid hprE
        clear hprE
        generalize hlnE:(toS ns vs i').length=ln at *
        have bg:=hid hlnE
        clear hlnE
        go_wp2_with fail
        clear z2 z3 z4
        go_loopw [13,17] (fun to i wq=>∃ j:Nat,j≤ln∧i=.int .i64 j∧Hid (CJ rv (out x) vd j)∧Hid (oD wq W1.heap.size to (Fj ns vs out (aL xs) vd k i' a pr j))∧Hid (Two wq w.heap.size vT (.slice none 0 0))∧Hid (eD wq (w.heap.size+1) 22 3 vT (k*vs.length+i') V (fun q=>au (oV ns vs out (aL xs) vd q)))∧Hid (Below w.heap.size w wq)∧W1.heap.size≤wq.heap.size) (fun _ i _=>ln - (intOf i).toNat)
        case atStart=>exact ⟨0,Nat.zero_le _,rfl,hid (Or.inr rfl),hid (by unfold oD Fj;simpa using ll.out),HT3,pO,HB3,Ez⟩
        case round=>
         obtain ⟨j,hj,rfl,hcond,HL,HT,HV,HB,iP⟩:=hrel
         rename World=>W4
         clear ll HT3 pO HB3 Ez
         have t2:=(HB.out.cell (p:=⟨R,2,none⟩) hR).trans a2
         have t3:=(HB.out.cell (p:=⟨gt,i',none⟩) hgt).trans PD.out
         have p1:=(HB.out.cell (p:=⟨P,1,none⟩) hP).trans f1
         have ox:=(HB.out.cell (p:=⟨gO,x,none⟩) hgO).trans HOX.out
         have fin:¬ (j<ln∧rv=true∧out x≠vd)→Hid (lK ns vs out (aL xs) vd k i' (a+1)=Fj ns vs out (aL xs) vd k i' a pr j):=fun hno=>hid (by
          rw [gL.out]
          unfold Fj
          congr 1
          by_cases c:rv=true∧out x≠vd
          ·rw [Yc.out ⟨HOV.out,c.1,c.2⟩,List.take_of_length_le (by rw [bg.out];exact Nat.le_of_not_lt fun h=>hno ⟨h,c⟩)]
          ·rcases hcond.out with h | h
           ·exact absurd h c
           ·rw [h,KO.out (fun h=>c ⟨h.2.1,h.2.2⟩)]
            rfl)
         by_cases hlj:j<ln
         ·cases rv with
          | false=>
           have FN:=fin (by simp)
           rw [←FN.out] at HL
           unfold oD at HL
           clear fin FN hcond
           go_wp2_with fail
           go_roundw
           case rel=>exact ⟨a+1,by omega,by go_num,HL,HT,HV,HB,iP⟩
           case measure=>simp [intOf];omega
          | true=>
           by_cases hxv:out x=vd
           ·have FN:=fin (fun h=>h.2.2 hxv)
            rw [←FN.out] at HL
            unfold oD at HL
            rw [hxv] at ox
            clear fin FN hcond hxv
            go_wp2_with fail
            go_roundw
            case rel=>exact ⟨a+1,by omega,by go_num,HL,HT,HV,HB,iP⟩
            case measure=>simp [intOf];omega
           ·have amB:¬ ((out x:Int)=(vd:Int)):=by omega
            obtain ⟨gr,e,hgr,hrr⟩:=yX.out (by omega)
            subst e
            obtain ⟨t,ht⟩:∃ t,(toS ns vs i')[j]?=some t:=⟨(toS ns vs i')[j]'(by rw [bg.out];exact hlj),List.getElem?_eq_getElem (by rw [bg.out];exact hlj)⟩
            have htM:=jD.out t (List.mem_of_getElem? ht)
            have hat:bG (toS ns vs i') j=t:=by simp [bG,List.getD,ht]
            have t4:W4.cell? ⟨gr,j,none⟩=some (.int .i64 (t:Nat)):=(HB.out.cell (p:=⟨gr,j,none⟩) hgr).trans (by have h9:=hrr j hlj;rw [hat] at h9;exact h9)
            have DI:Hid ((toS ns vs i').take (j+1)=(toS ns vs i').take j++[t]):=hid (by rw [List.take_add_one,ht];rfl)
            have wa:IntKind.i64.wrap ((pr:Int)+(t:Int))=(pr:Int)+(t:Int):=by rw [IntKind.wrap_i64];omega
            have htk:((toS ns vs i').take j).length=j:=by rw [List.length_take,bg.out];omega
            have hLl:(Fj ns vs out (aL xs) vd k i' a pr j).length≤2048+256:=by unfold Fj;rw [List.length_append,List.length_map,htk];omega
            clear fin hrr ht hat htk
            generalize hLE:Fj ns vs out (aL xs) vd k i' a pr j=L at *
            unfold oD at HL
            obtain ⟨aoL,cpL,rfl⟩:=ag HL.out
            have lh:=hid (fun q h=>(HL.out.lt q h).1)
            go_wp2_with (at_builtin;go_must (refine wpList_append_lies _ rfl (.tmp 111) (.tmp 126) 22 rfl W1.heap.size 3 i0 (.int .i64 0) 1 8 Tryz.underlying22 hi hz0 hz1 hz2 rfl (by decide) _ L.length (au L) rfl (HL.out.alloc _) ⟨W4.heap.size,0,none⟩ 1 1 [.int .i64 ((pr:Int)+(t:Int))] rfl rfl (bE W4 [.int .i64 ((pr:Int)+(t:Int))] _) (by intro y hy;simp at hy;rcases hy with rfl;rfl) (by decide) (by unfold maxLen;omega) (by omega) (by simp;omega) (W4.heap.size+1) (by simp) ?_))
            intro gg cc w7 hown hgrow hat hlt7
            have b6:=(Below.refl W4.heap.size W4).alloc (Nat.le_refl _) (.cells #[.int .i64 ((pr:Int)+(t:Int))] 3)
            have hs7:W4.heap.size≤w7.heap.size:=by
             have:=hgrow.size
             simp at this
             omega
            have BL:(Value.slice aoL L.length cpL).ownBlock≠some w.heap.size:=fun e=>by have:=lh.out _ e;omega
            have bT:=hgrow.block w.heap.size (by rw [World.size_alloc];have:=HT.out.lt;omega) (fun e=>BL e.symm)
            have T7:Hid (Two w7 w.heap.size vT (.slice none 0 0)):=hid (by
             have dZ:=HT.out.below b6 HT.out.lt
             exact ⟨(World.cell?_of_block (a:=⟨w.heap.size,0,none⟩) bT).trans dZ.c0,(World.cell?_of_block (a:=⟨w.heap.size,1,none⟩) bT).trans dZ.c1,(World.frozen?_of_block (a:=⟨w.heap.size,0,none⟩) bT).trans dZ.f0,(World.frozen?_of_block (a:=⟨w.heap.size,1,none⟩) bT).trans dZ.f1⟩)
            have V7:=hid ((HV.out.keeps b6).tL hgrow (aD (HV.out.keeps b6).out (HL.out.alloc (.cells #[.int .i64 ((pr:Int)+(t:Int))] 3)) (by decide)) (fun q hq=>by
             cases hv:(V q).ownBlock with
             | none=>exact Or.inl rfl
             | some z=>
              refine Or.inr fun e=>?_
              have h1:=lh.out z e.symm
              have h2:=yV.out q hq z hv
              omega))
            have L7:Hid (oD w7 W1.heap.size (.slice (some ⟨gg,0,none⟩) (L.length+1) cc) (Fj ns vs out (aL xs) vd k i' a pr (j+1))):=hid (by
             have aab:lK ns vs out (aL xs) vd k i' a++((toS ns vs i').take j).map (fun q=>pr+q)=L:=hLE
             unfold oD Fj
             rw [DI.out,List.map_append,←List.append_assoc,aab,List.length_append,show au (L++List.map (fun j=>pr+j) [t])=au L++[.int .i64 ((pr:Int)+(t:Int))] by simp [au]]
             exact hown)
            have fI:=hid ((HB.out.alloc (by omega) (.cells #[.int .i64 ((pr:Int)+(t:Int))] 3)).grown hgrow (by simp;omega) (fun q h=>by have:=lh.out q h;omega))
            have hc7:Hid (CJ true (out x) vd (j+1)):=hid (Or.inl ⟨rfl,hxv⟩)
            clear hown hgrow hat b6 bT HL HT HV HB BL
            go_wp2_with fail
            go_roundw
            case rel=>exact ⟨j+1,by omega,by go_num,hc7,L7,T7,V7,fI,by omega⟩
            case measure=>simp [intOf];omega
         ·have FN:=fin (fun h=>hlj h.1)
          rw [←FN.out] at HL
          unfold oD at HL
          obtain rfl:j=ln:=by omega
          clear fin FN hcond
          go_wp2_with fail
          go_roundw
          case rel=>exact ⟨a+1,by omega,by go_num,HL,HT,HV,HB,iP⟩
          case measure=>simp [intOf];omega
      ·obtain rfl:a=8:=by omega
       have hsl:lK ns vs out (aL xs) vd k i' 8=oV ns vs out (aL xs) vd (k*vs.length+i'):=by rw [Bi ns vs out (aL xs) vd hli]
       rw [hsl] at HL
       clear hsl
       have Nj:(oV ns vs out (aL xs) vd (k*vs.length+i')).length≤2048:=by
        rw [Bi ns vs out (aL xs) vd hli]
        exact Nat.le_trans (vY ns vs out (aL xs) vd k i' 8) (Nat.le_trans (Nat.mul_le_mul_left 8 hM) (by omega))
       have JX:k*vs.length+i'<796594185*256:=Nat.lt_of_lt_of_le (tK (show k<796594185 by omega) hli) (Nat.mul_le_mul_left _ hM)
       have Cw:Hid (k*vs.length+(i'+1)=(k*vs.length+i')+1):=hid rfl
       have Uy:=yV
       generalize hqE:k*vs.length+i'=qq at *
       generalize hLE:oV ns vs out (aL xs) vd qq=L at *
       obtain ⟨aoL,cpL,rfl⟩:=ag HL.out
       obtain ⟨aoN,cpN,rfl⟩:=ag HV.out.out
       have k0:=HT.out.c0
       have b6:=(Below.refl W2.heap.size W2).alloc (Nat.le_refl _) (.cells #[.slice aoL L.length cpL] 22)
       go_wp2_with (at_builtin;go_must (refine wpList_append_lies _ rfl (.tmp 132) (.tmp 134) 23 rfl (w.heap.size+1) 22 i1 (.slice none 0 0) 1 24 Tryz.underlying23 hi1 hz01 hz11 hz21 rfl (by decide) _ qq ((List.range qq).map V) rfl (HV.out.out.alloc _) ⟨W2.heap.size,0,none⟩ 1 1 [.slice aoL L.length cpL] rfl rfl (bE W2 [.slice aoL L.length cpL] _) (by intro y hy;simp at hy;rcases hy with rfl;rfl) (by decide) (by unfold maxLen;omega) (by omega) (by simp;omega) (W2.heap.size+1) (by simp) ?_))
       intro gg cc w7 hown hgrow hat hlt7
       have hs7:W2.heap.size≤w7.heap.size:=by
        have:=hgrow.size
        simp at this
        omega
       have oZ:=HT.out.lt
       have lQ:(Value.slice aoN qq cpN).ownBlock≠some w.heap.size:=fun e=>by have:=(HV.out.out.lt _ e).1;omega
       have bT:=hgrow.block w.heap.size (by rw [World.size_alloc];omega) (fun e=>lQ e.symm)
       have dZ:=HT.out.below b6 oZ
       have T7:Two w7 w.heap.size (.slice aoN qq cpN) (.slice none 0 0):=⟨(World.cell?_of_block (a:=⟨w.heap.size,0,none⟩) bT).trans dZ.c0,(World.cell?_of_block (a:=⟨w.heap.size,1,none⟩) bT).trans dZ.c1,(World.frozen?_of_block (a:=⟨w.heap.size,0,none⟩) bT).trans dZ.f0,(World.frozen?_of_block (a:=⟨w.heap.size,1,none⟩) bT).trans dZ.f1⟩
       have lc:=(aY HL.out (show w.heap.size+1≤W1.heap.size by omega)).alloc (.cells #[.slice aoL L.length cpL] 22)
       have V7:=kC (HV.out.keeps b6) (x:=.slice aoL L.length cpL) (by rw [hLE,kg];exact lc) (by decide) hgrow hown
       have q0:=T7.c0
       have q1:=T7.f0
       have D1:=hid (T7.set0 (.slice (some ⟨gg,0,none⟩) (qq+1) cc))
       have D2:=hid (V7.set (show w.heap.size<w.heap.size+1 by omega) 0 (.slice (some ⟨gg,0,none⟩) (qq+1) cc))
       have D4:=hid (((HB.out.alloc HB.out.size (.cells #[.slice aoL L.length cpL] 22)).grown hgrow (by simp;omega) (fun q h=>by have:=(HV.out.out.lt q h).1;omega)).setCell (p:=⟨w.heap.size,0,none⟩) (Nat.le_refl _) (.slice (some ⟨gg,0,none⟩) (qq+1) cc))
       clear hown hgrow hat b6 HL HT HV HB lc T7 V7 lQ bT dZ
       go_wp2_with fail
       go_roundw
       case rel=>exact ⟨i'+1,_,_,by omega,by go_num,D1,by rw [Cw.out];exact D2,D4,by simp;omega⟩
       case measure=>simp [intOf];omega
    ·obtain rfl:i'=vs.length:=by omega
     have Pk:Hid ((k+1)*vs.length=k*vs.length+vs.length):=hid (Nat.succ_mul _ _)
     go_wp2_with fail
     go_roundw
     case rel=>exact ⟨k+1,vT,V,by omega,by go_num,HT,by rw [Pk.out];exact HV,HB,hsz⟩
     case measure=>simp [intOf];omega
  ·obtain rfl:k=K:=by omega
   have wW:=hid DL.out.fr
   have hF:=wW.out.JL
   have fr0:=wW.out.c0
   have hkM:k*vs.length≤796594185*256:=Nat.mul_le_mul hK hM
   go_wp2_with fail
   clear BV
   go_loopw [18] (fun i wq=>∃ (p:Nat) (vK:Value) (U:Nat→Value),p≤ns.length∧i=.int .i64 p∧Hid (Two wq w.heap.size vT vK)∧Hid (eD wq (w.heap.size+1) 22 3 vT (k*vs.length) V (fun q=>au (oV ns vs out (aL xs) vd q)))∧Hid (eD wq (w.heap.size+1) 132 4 vK p U (fun q=>aj (kY ns vs q) (k*vs.length) (k*vs.length)))∧Hid (Below w.heap.size w wq)∧w.heap.size+1≤wq.heap.size) (fun i _=>ns.length - (intOf i).toNat)
   case atStart=>exact ⟨0,_,fun _=>.slice none 0 0,Nat.zero_le _,rfl,HT,HV,hid (qx _ _ _ _ _ _),HB,hsz⟩
   case round=>
    obtain ⟨p,vK,U,hp,rfl,HT,HV,HU,HB,hsz⟩:=hrel
    rename World=>W1
    have r0':=(HB.out.cell (p:=⟨R,0,none⟩) hR).trans r0
    have NE:=(HB.out.cell (p:=⟨F,0,none⟩) hF).trans fr0
    by_cases hlp:p<ns.length
    ·have HUB:=hid (fun q (hq:q<p) z (h:(U q).ownBlock=some z)=>((HU.out.row q hq).lt z h).2)
     go_wp2_with fail
     go_loopw [19,20] (fun kept i wq=>∃ k2:Nat,k2≤k∧i=.int .i64 k2∧Hid (wq.ownsRow W1.heap.size 4 1 kept (k2*vs.length) (aj (kY ns vs p) (k2*vs.length) (k2*vs.length)))∧Hid (Two wq w.heap.size vT vK)∧Hid (eD wq (w.heap.size+1) 22 3 vT (k*vs.length) V (fun q=>au (oV ns vs out (aL xs) vd q)))∧Hid (eD wq (w.heap.size+1) 132 4 vK p U (fun q=>aj (kY ns vs q) (k*vs.length) (k*vs.length)))∧Hid (Below w.heap.size w wq)∧W1.heap.size≤wq.heap.size) (fun _ i _=>k - (intOf i).toNat)
     case atStart=>exact ⟨0,Nat.zero_le _,rfl,by rw [Nat.zero_mul];exact hid (World.ownsRow_nil _ _ _ _),HT,HV,HU,HB,Nat.le_refl _⟩
     case round=>
      obtain ⟨k2,hk2,rfl,HL,HT,HV,HU,HB,iP⟩:=hrel
      rename World=>W2
      clear r0' NE
      have BV:=(HB.out.cell (p:=⟨P,0,none⟩) hP).trans f0
      by_cases hlk2:k2<k
      ·go_wp2_with fail
       clear BV
       go_loopw [19,21] (fun kept i wq=>∃ i2:Nat,i2≤vs.length∧i=.int .i64 i2∧Hid (wq.ownsRow W1.heap.size 4 1 kept (k2*vs.length+i2) (aj (kY ns vs p) (k2*vs.length+i2) (k2*vs.length+i2)))∧Hid (Two wq w.heap.size vT vK)∧Hid (eD wq (w.heap.size+1) 22 3 vT (k*vs.length) V (fun q=>au (oV ns vs out (aL xs) vd q)))∧Hid (eD wq (w.heap.size+1) 132 4 vK p U (fun q=>aj (kY ns vs q) (k*vs.length) (k*vs.length)))∧Hid (Below w.heap.size w wq)∧W1.heap.size≤wq.heap.size) (fun _ i _=>vs.length - (intOf i).toNat)
       case atStart=>exact ⟨0,Nat.zero_le _,rfl,HL,HT,HV,HU,HB,iP⟩
       case round=>
        obtain ⟨i2,hi2',rfl,HL,HT,HV,HU,HB,iP⟩:=hrel
        rename World=>W3
        by_cases hli2:i2<vs.length
        ·obtain ⟨b,cb,hrb⟩:=Ha.out i2 hli2
         have r0':=(HB.out.cell (p:=⟨R,0,none⟩) hR).trans r0
         have a1':=(HB.out.cell (p:=⟨R,1,none⟩) hR).trans a1
         have cb':=(HB.out.cell (p:=⟨gs,i2,none⟩) hgs).trans cb
         have C:=fun m=>KD.out (W3.drewN m) b (aJ vs i2) p hlp (below_drewN HB.out m) ((hrb.below HB.out).drewN m)
         have hlq:k2*vs.length+i2<796594185*256:=Nat.lt_of_lt_of_le (tK (show k2<796594185 by omega) hli2) (Nat.mul_le_mul_left _ hM)
         have Ym:Hid (kY ns vs p (k2*vs.length+i2)=fD (ai ns p) p (aJ vs i2)):=hid (by unfold kY;rw [qZ hli2];rfl)
         clear cb hrb
         generalize fD (ai ns p) p (aJ vs i2)=kv at *
         go_wp2_with fail
         go_quiet ((go_at_call 83;exact Calls.quiet_of_same (C _)))
         have HB3:=hid (below_drewN HB.out nq)
         have bq:=below_drewN (Below.refl W3.heap.size W3) nq
         have ll:=hid (ae HL.out bq)
         have HT3:=hid (HT.out.below bq HT.out.lt)
         have pO:=hid (HV.out.keeps bq)
         have Pi:=hid (HU.out.keeps bq)
         have Ez:W1.heap.size≤(W3.drewN nq).heap.size:=iP
         clear C r0' a1' cb' bq HL HT HV HU HB
         generalize W3.drewN nq=W4 at *
         have Cw:Hid (k2*vs.length+(i2+1)=(k2*vs.length+i2)+1):=hid rfl
         generalize hqE:k2*vs.length+i2=qq at *
         obtain ⟨aoL,cpL,rfl⟩:=ag ll.out
         have lh:=hid (fun q h=>(ll.out.lt q h).1)
         go_wp2_with (at_builtin;go_must (refine wpList_append_lies _ rfl (.tmp 177) (.tmp 179) 132 rfl W1.heap.size 4 i2b (.bool false) 1 1 Tryz.underlying132 hi2 hz02 hz12 hz22 rfl (by decide) _ qq (aj (kY ns vs p) qq qq) rfl (ll.out.alloc _) ⟨W4.heap.size,0,none⟩ 1 1 [.bool kv] rfl rfl (bE W4 [.bool kv] _) (by intro y hy;simp at hy;rcases hy with rfl;rfl) (by decide) (by unfold maxLen;omega) (by omega) (by simp;omega) (W4.heap.size+1) (by simp) ?_))
         intro gg cc w7 hown hgrow hat hlt7
         have b6:=(Below.refl W4.heap.size W4).alloc (Nat.le_refl _) (.cells #[.bool kv] 4)
         have hs7:W4.heap.size≤w7.heap.size:=by
          have:=hgrow.size
          simp at this
          omega
         have BL:(Value.slice aoL qq cpL).ownBlock≠some w.heap.size:=fun e=>by have:=lh.out _ e;omega
         have oZ:=HT3.out.lt
         have bT:=hgrow.block w.heap.size (by rw [World.size_alloc];omega) (fun e=>BL e.symm)
         have T7:Hid (Two w7 w.heap.size vT vK):=hid (by
          have dZ:=HT3.out.below b6 oZ
          exact ⟨(World.cell?_of_block (a:=⟨w.heap.size,0,none⟩) bT).trans dZ.c0,(World.cell?_of_block (a:=⟨w.heap.size,1,none⟩) bT).trans dZ.c1,(World.frozen?_of_block (a:=⟨w.heap.size,0,none⟩) bT).trans dZ.f0,(World.frozen?_of_block (a:=⟨w.heap.size,1,none⟩) bT).trans dZ.f1⟩)
         have V7:=hid ((pO.out.keeps b6).tL hgrow (aD (pO.out.keeps b6).out (ll.out.alloc (.cells #[.bool kv] 4)) (by decide)) (fun q hq=>aD ((pO.out.keeps b6).row q hq) (ll.out.alloc (.cells #[.bool kv] 4)) (by decide)))
         have U7:=hid ((Pi.out.keeps b6).tL hgrow (aD (Pi.out.keeps b6).out (ll.out.alloc (.cells #[.bool kv] 4)) (by decide)) (fun q hq=>by
          cases hv:(U q).ownBlock with
          | none=>exact Or.inl rfl
          | some z=>
           refine Or.inr fun e=>?_
           have h1:=lh.out z e.symm
           have h2:=HUB.out q hq z hv
           omega))
         have L7:Hid (w7.ownsRow W1.heap.size 4 1 (.slice (some ⟨gg,0,none⟩) (qq+1) cc) (qq+1) (aj (kY ns vs p) (qq+1) (qq+1))):=hid (by
          rw [FJ,Ym.out]
          exact hown)
         have fI:=hid ((HB3.out.alloc (by omega) (.cells #[.bool kv] 4)).grown hgrow (by simp;omega) (fun q h=>by have:=lh.out q h;omega))
         clear hown hgrow hat b6 bT ll HT3 pO Pi HB3 BL
         go_wp2_with fail
         go_roundw
         case rel=>exact ⟨i2+1,by omega,by go_num,by rw [Cw.out];exact L7,T7,V7,U7,fI,by omega⟩
         case measure=>simp [intOf];omega
        ·obtain rfl:i2=vs.length:=by omega
         have Pk:Hid ((k2+1)*vs.length=k2*vs.length+vs.length):=hid (Nat.succ_mul _ _)
         go_wp2_with fail
         go_roundw
         case rel=>exact ⟨k2+1,by omega,by go_num,by rw [Pk.out];exact HL,HT,HV,HU,HB,iP⟩
         case measure=>simp [intOf];omega
      ·obtain rfl:k2=k:=by omega
       obtain ⟨aoL,cpL,rfl⟩:=ag HL.out
       obtain ⟨aoN,cpN,rfl⟩:=ag HU.out.out
       have k0:=HT.out.c1
       have b6:=(Below.refl W2.heap.size W2).alloc (Nat.le_refl _) (.cells #[.slice aoL (k2*vs.length) cpL] 132)
       go_wp2_with (at_builtin;go_must (refine wpList_append_lies _ rfl (.tmp 185) (.tmp 187) 77 rfl (w.heap.size+1) 132 i3 (.slice none 0 0) 1 24 Tryz.underlying77 hi3 hz03 hz13 hz23 rfl (by decide) _ p ((List.range p).map U) rfl (HU.out.out.alloc _) ⟨W2.heap.size,0,none⟩ 1 1 [.slice aoL (k2*vs.length) cpL] rfl rfl (bE W2 [.slice aoL (k2*vs.length) cpL] _) (by intro y hy;simp at hy;rcases hy with rfl;rfl) (by decide) (by unfold maxLen;omega) (by omega) (by simp;omega) (W2.heap.size+1) (by simp) ?_))
       intro gg cc w7 hown hgrow hat hlt7
       have hs7:W2.heap.size≤w7.heap.size:=by
        have:=hgrow.size
        simp at this
        omega
       have oZ:=HT.out.lt
       have lQ:(Value.slice aoN p cpN).ownBlock≠some w.heap.size:=fun e=>by have:=(HU.out.out.lt _ e).1;omega
       have bT:=hgrow.block w.heap.size (by rw [World.size_alloc];omega) (fun e=>lQ e.symm)
       have dZ:=HT.out.below b6 oZ
       have T7:Two w7 w.heap.size vT (.slice aoN p cpN):=⟨(World.cell?_of_block (a:=⟨w.heap.size,0,none⟩) bT).trans dZ.c0,(World.cell?_of_block (a:=⟨w.heap.size,1,none⟩) bT).trans dZ.c1,(World.frozen?_of_block (a:=⟨w.heap.size,0,none⟩) bT).trans dZ.f0,(World.frozen?_of_block (a:=⟨w.heap.size,1,none⟩) bT).trans dZ.f1⟩
       have lc:=(aY HL.out (show w.heap.size+1≤W1.heap.size by omega)).alloc (.cells #[.slice aoL (k2*vs.length) cpL] 132)
       have U7:=kC (HU.out.keeps b6) (x:=.slice aoL (k2*vs.length) cpL) (by rw [wB];exact lc) (by decide) hgrow hown
       have V7:=(HV.out.keeps b6).grown (HU.out.out.alloc (.cells #[.slice aoL (k2*vs.length) cpL] 132)) hgrow (by decide) (by decide)
       have q0:=T7.c1
       have q1:=T7.f1
       have D1:=hid (T7.set1 (.slice (some ⟨gg,0,none⟩) (p+1) cc))
       have D2:=hid (U7.set (show w.heap.size<w.heap.size+1 by omega) 1 (.slice (some ⟨gg,0,none⟩) (p+1) cc))
       have D3:=hid (V7.set (show w.heap.size<w.heap.size+1 by omega) 1 (.slice (some ⟨gg,0,none⟩) (p+1) cc))
       have D4:=hid (((HB.out.alloc HB.out.size (.cells #[.slice aoL (k2*vs.length) cpL] 132)).grown hgrow (by simp;omega) (fun q h=>by have:=(HU.out.out.lt q h).1;omega)).setCell (p:=⟨w.heap.size,1,none⟩) (Nat.le_refl _) (.slice (some ⟨gg,0,none⟩) (p+1) cc))
       clear hown hgrow hat b6 HL HT HV HU HB lc T7 V7 U7 lQ bT dZ
       go_wp2_with fail
       go_roundw
       case rel=>exact ⟨p+1,_,_,by omega,by go_num,D1,D3,D2,D4,by simp;omega⟩
       case measure=>simp [intOf];omega
    ·obtain rfl:p=ns.length:=by omega
     have oZ:=HT.out.lt
     have NM:=hid (show mK W1 w.heap.size (k*vs.length) (oV ns vs out (aL xs) vd) ns.length (kY ns vs) from ⟨oZ,⟨_,HT.out.c0,CK HV.out⟩,⟨_,HT.out.c1,QI (Nat.mul_pos qG hM0) HU.out⟩⟩)
     clear HT HV HU
     go_wp2_with fail
     refine (Hr.out W1 w.heap.size NM.out).mono ?_
     rintro e w5 ⟨g5,good,rfl,hg5,hBO,hgood,hb5⟩
     have dV:=hid (HB.out.trans (hb5.mono HB.out.size))
     have Yx:=hid hBO
     have Hq:=hid hgood
     clear hBO hgood hb5 r0' NE
     go_wp2_with fail
     refine (WH.out w5 dV.out).mono ?_
     rintro e w6 ⟨g6,rfl,hrb,hg6,hb6⟩
     have iQ:=hid (dV.out.trans (hb6.mono dV.out.size))
     have H6:=hid hrb
     have H5:=hid (fun i (hi:i<k*vs.length)=>(hb6.cell (p:=⟨g5,i,none⟩) Yx.out.blk.2).trans (Yx.out.get hi))
     have hMN:vs.length≤k*vs.length:=by
      have:=Nat.mul_le_mul_right vs.length (show 1≤k from qG)
      omega
     clear hrb hb6 HB dV
     go_wp2_with fail
     go_loopw [25] (fun i wq=>∃ i2:Nat,i2≤vs.length∧i=.int .i64 i2∧Hid (∀ j,j<i2→¬ (aJ vs j (ns.length - 1)=hd∧good j=true))∧w6=wq) (fun i _=>vs.length - (intOf i).toNat)
     case atStart=>exact ⟨0,Nat.zero_le _,rfl,hid (fun j h=>by omega),rfl⟩
     case round=>
      obtain ⟨i2,hi2',rfl,HA,e⟩:=hrel
      subst e
      by_cases hli2:i2<vs.length
      ·have c6:=H6.out.cell i2 hli2
       have c5:=H5.out i2 (by omega)
       have hz1:(i2:Int)<((k*vs.length:Nat):Int):=by omega
       generalize hNE:k*vs.length=N at *
       have HA2:Hid (((aJ vs i2 (ns.length - 1)==hd)&&good i2)=false→∀ j,j<i2+1→¬ (aJ vs j (ns.length - 1)=hd∧good j=true)):=hid (fun e j hj=>by
        by_cases c:j=i2
        ·subst c
         rintro ⟨h1,h2⟩
         rw [h1,h2] at e
         simp at e
        ·exact HA.out j (by omega))
       have HY:Hid (((aJ vs i2 (ns.length - 1)==hd)&&good i2)=true→∃ i,i<vs.length∧aJ vs i (ns.length - 1)=hd∧good i=true):=hid (fun e=>by
        rw [Bool.and_eq_true,beq_iff_eq] at e
        exact ⟨i2,hli2,e.1,e.2⟩)
       generalize (aJ vs i2 (ns.length - 1)==hd)=fv at *
       generalize hgv:good i2=gv at *
       clear hgv
       cases fv with
       | false=>
        go_wp2_with fail
        go_roundw
        case rel=>exact ⟨i2+1,by omega,by go_num,hid (HA2.out rfl),trivial⟩
        case measure=>simp [intOf];omega
       | true=>
        cases gv with
        | false=>
         go_wp2_with fail
         go_roundw
         case rel=>exact ⟨i2+1,by omega,by go_num,hid (HA2.out rfl),trivial⟩
         case measure=>simp [intOf];omega
        | true=>
         go_wp2_with fail
         go_ret
         subst hNE
         exact ⟨true,good,rfl,⟨fun _=>HY.out rfl,fun _=>rfl⟩,Hq.out,iQ.out⟩
      ·obtain rfl:i2=vs.length:=by omega
       go_wp2_with fail
       go_ret
       exact ⟨false,good,rfl,⟨fun h=>(by cases h),fun ⟨i,h1,h2⟩=>absurd h2 (HA.out i h1)⟩,Hq.out,iQ.out⟩
end Go.Proofs.YtjagijohfkffiabGreat
