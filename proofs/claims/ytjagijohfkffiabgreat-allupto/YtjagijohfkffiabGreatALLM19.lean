import Derived.Test.YtjagijohfkffiabGreatALLM17
import Derived.Test.YtjagijohfkffiabGreatALLM18
import Derived.Deep.RegionHeld3
set_option maxHeartbeats 16000000
set_option maxRecDepth 100000
namespace Go.Proofs.YtjagijohfkffiabGreat
open Go.RowKit
set_option linter.unusedVariables false
def aJ (vs:List Nat) (i:Nat):Nat→Bool:=jV (bG vs i)
def qw (ns:List Nd) (vs:List Nat) (i k:Nat):List Nat:=(List.range k).filter fun q=>Aa ns (aJ vs i) (aJ vs q)
def toS (ns:List Nd) (vs:List Nat) (i:Nat):List Nat:=qw ns vs i vs.length
def uH (ns:List Nd) (vs:List Nat) (k i:Nat):Bool:=fD (ai ns k) k (aJ vs i)
theorem abZ {ns:List Nd} {vs:List Nat} {i k:Nat} (h:Aa ns (aJ vs i) (aJ vs k)=true):qw ns vs i (k+1)=qw ns vs i k++[k]:=by simp [qw,List.range_succ,List.filter_append,h]
theorem adM {ns:List Nd} {vs:List Nat} {i k:Nat} (h:Aa ns (aJ vs i) (aJ vs k)=false):qw ns vs i (k+1)=qw ns vs i k:=by simp [qw,List.range_succ,List.filter_append,h]
theorem Ia (ns:List Nd) (vs:List Nat) (i k:Nat):(qw ns vs i k).length≤k:=by
 have:=List.length_filter_le (fun q=>Aa ns (aJ vs i) (aJ vs q)) (List.range k)
 simpa [qw] using this
theorem kg (l:List Nat):(au l).length=l.length:=by simp [au]
theorem CK {w:World} {B N:Nat} {v:Value} {V:Nat→Value} {to:Nat→List Nat} (h:eD w B 22 3 v N V (fun q=>au (to q))):GQ w v N to:=by
 rcases h.out.2 with ⟨rfl,h0⟩ | ⟨g,cap,cur,rfl,hb,hh,hc,hm,_⟩
 ·exact ⟨none,0,by rw [h0],by omega,fun h=>by omega⟩
 ·refine ⟨_,cap,rfl,hc,fun _=>⟨g,rfl,bO hh,fun i hi=>⟨V i,?_,?_⟩⟩⟩
  ·rw [h.out.cellAt i (by omega)]
   simp [List.getElem?_map,List.getElem?_range hi]
  ·have:=h.row i hi
   rw [kg] at this
   exact yI this
theorem acy {w:World} {B K N:Nat} {v:Value} {V:Nat→Value} {kp:Nat→Nat→Bool} (h:eD w B 132 4 v K V (fun q=>aj (kp q) N N)) (hV:∀ i,i<K→∃ b,V i=.slice (some ⟨b,0,none⟩) N N):KZ w v K N kp:=by
 rcases h.out.2 with ⟨rfl,h0⟩ | ⟨g,cap,cur,rfl,hb,hh,hc,hm,_⟩
 ·exact ⟨none,0,by rw [h0],by omega,fun h=>by omega⟩
 ·refine ⟨_,cap,rfl,hc,fun _=>⟨g,rfl,bO hh,fun i hi=>?_⟩⟩
  obtain ⟨b,hb⟩:=hV i hi
  have hr:=h.row i hi
  have hl:(aj (kp i) N N).length=N:=by simp [aj]
  simp only [hl,hb] at hr
  refine ⟨b,?_,?_,fun q hq=>?_⟩
  ·rw [h.out.cellAt i (by omega)]
   simp [List.getElem?_map,List.getElem?_range hi,hb]
  ·rcases hr.2 with ⟨e,h0⟩ | ⟨g',cap',cur',e,_,hg',_⟩
   ·cases e
   ·cases e
    exact bO hg'
  ·rw [hr.cellAt q (by omega)]
   exact jv (kp i) N q hq
theorem acT (F gp cap Bs:Nat) (ns:List Nd) (bs vs:List Nat) (v:Value) (w:World) (hf:FR w F gp cap ns bs) (hg:Good ns) (hs:uB w Bs v ns.length vs) (hN:vs.length≤256) :
  Calls Tryz.prog 74 #[.pointer (some ⟨F,0,none⟩),v] w fun e w'=>e=.returned (.pointer (some ⟨w.heap.size,0,none⟩))∧mK w' w.heap.size vs.length (toS ns vs) ns.length (uH ns vs)∧Below w.heap.size w w':=by
 have hle:=hg.le
 have hpos:=hg.pos
 have k0:=hf.c0
 have kc:=hf.hcap
 have hF:=hf.JL
 obtain ⟨bb,so,sr⟩:=hs
 obtain ⟨ao,vcap,rfl⟩:=ag so
 have hvc:vs.length≤vcap:=by
  rcases so.2 with ⟨e,h0⟩ | ⟨g,cp,cur,e,_,_,hc,_⟩
  ·omega
  ·cases e;exact hc
 have SC:Hid (∀ i,i<vs.length→∃ gs,ao=some ⟨gs,0,none⟩∧gs<w.heap.size∧w.cell? ⟨gs,i,none⟩=some (.slice (some ⟨bb i,0,none⟩) ns.length ns.length)):=hid (fun i hi=>by
  obtain ⟨gs,e,_,hgs,_⟩:=dH so (by omega)
  subst e
  refine ⟨gs,rfl,hgs,?_⟩
  rw [so.cellAt i (by omega)]
  simp [List.getElem?_map,List.getElem?_range hi,fA])
 have SR:Hid (∀ i,i<vs.length→Rb w (bb i) ns.length (aJ vs i)):=hid (fun i hi=>Mm hpos (sr i hi))
 obtain ⟨i0,hi,hz0,hz1,hz2⟩:=info_parts Tryz.kG
 obtain ⟨i1,hi1,hz01,hz11,hz21⟩:=info_parts Tryz.sQ
 obtain ⟨i2,hi2,hz02,hz12,hz22⟩:=info_parts Tryz.dw
 obtain ⟨i3,hi3,hz03,hz13,hz23⟩:=info_parts Tryz.xB
 have FO:=hid (fun (W:World) (i k:Nat) (h1:Below w.heap.size w W) (hi:i<vs.length) (hk:k<vs.length)=>Qt F gp cap (bb i) (bb k) ns.length ns.length ns bs (aJ vs i) (aJ vs k) W (hf.below h1) ((SR.out i hi).below h1) ((SR.out k hk).below h1) hg (Nat.le_refl _) (Nat.le_refl _))
 have KE:=hid (fun (W:World) (i k:Nat) (h1:Below w.heap.size w W) (hi:i<vs.length) (hk:k<ns.length)=>Ev F gp cap (bb i) ns.length ns bs (aJ vs i) W k hk (hf.below h1) ((SR.out i hi).below h1) hg (Nat.le_refl _))
 clear so sr SR hf hg
 have G9:Hid (∀ i,toS ns vs i=qw ns vs i vs.length):=hid (fun i=>rfl)
 generalize vs.length=N at *
 generalize ns.length=n at *
 go_enter Tryz.func74,Tryz.ntmps74
 go_wp2_with fail
 go_loopw [6] (fun i wr=>∃ (j:Nat) (v1:Value) (V:Nat→Value),j≤N∧i=.int .i64 j∧Below w.heap.size w wr∧Two wr w.heap.size v1 (.slice none 0 0)∧Hid (eD wr (w.heap.size+1) 22 3 v1 j V (fun q=>au (toS ns vs q)))) (fun i _=>N - (intOf i).toNat)
 case atStart=>exact ⟨0,_,fun _=>.bool false,Nat.zero_le _,rfl,(Below.refl _ _).alloc (Nat.le_refl _) _,bF w _ _ _,hid (qx _ _ _ _ _ _)⟩
 case round=>
  obtain ⟨j,v1,V,hj,rfl,hb,q1,HL⟩:=hrel
  rename World=>W0
  have hM:=q1.lt
  by_cases hlt:j<N
  ·have KP:=hid q1
   clear q1
   go_wp2_with fail
   go_loopw [8,7] (fun i s wq=>∃ (k:Nat),k≤N∧i=.int .i64 k∧Below W0.heap.size W0 wq∧Hid (wq.ownsRow W0.heap.size 3 1 s (qw ns vs j k).length (au (qw ns vs j k)))) (fun i _ _=>N - (intOf i).toNat)
   case atStart=>exact ⟨0,Nat.zero_le _,rfl,Below.refl _ _,hid (by simpa [qw,au] using World.ownsRow_nil _ _ _ _)⟩
   case round=>
    obtain ⟨k,hk,rfl,hbq,HO⟩:=hrel
    have hsz:=hbq.size
    have hbw:Below w.heap.size w wr:=hb.trans (hbq.mono hb.size)
    by_cases hlk:k<N
    ·obtain ⟨gs,e,hgs,ci⟩:=SC.out j hlt
     subst e
     obtain ⟨gs',e,_,ck⟩:=SC.out k hlk
     cases e
     have ci':=(hbw.cell (p:=⟨gs,j,none⟩) hgs).trans ci
     have ck':=(hbw.cell (p:=⟨gs,k,none⟩) hgs).trans ck
     have C:=fun m=>FO.out (wr.drewN m) j k (below_drewN hbw m) hlt hlk
     have HYE:=hid (abZ (ns:=ns) (vs:=vs) (i:=j) (k:=k))
     have lu:=hid (adM (ns:=ns) (vs:=vs) (i:=j) (k:=k))
     have htl:=Ia ns vs j k
     generalize Aa ns (aJ vs j) (aJ vs k)=fv at *
     go_wp2_with fail
     go_quiet ((go_at_call 121;exact Calls.quiet_of (C _)))
     cases fv
     ·go_wp2_with fail
      go_roundw
      case rel=>exact ⟨k+1,by omega,by go_num,below_drewN hbq _,by rw [lu.out rfl];exact hid (ae HO.out (below_drewN (Below.refl _ _) _))⟩
      case measure=>simp [intOf];omega
     ·have own:=ae HO.out (below_drewN (Below.refl wr.heap.size wr) nq)
      have hbd:=below_drewN hbq nq
      have hsd:=hbd.size
      have HY:=hid (HYE.out rfl)
      have PK:=hid hbd
      clear HO hbq hbd C HYE lu
      generalize wr.drewN nq=W2 at *
      generalize qw ns vs j k=tl at *
      go_wp2_with (at_builtin;go_must (refine wpList_append_own _ rfl (.tmp 38) (.tmp 40) 22 rfl W0.heap.size 3 i0 (.int .i64 0) 1 8 Tryz.underlying22 hi hz0 hz1 hz2 rfl (by decide) _ _ _ rfl (own.alloc _) ⟨W2.heap.size,0,none⟩ 1 1 [.int .i64 k] rfl rfl ?c1 ?c2 ?c3 ?c4 ?c5 ?_))
      case c1=>intro q u hq;rw [qN,Nat.zero_add,World.cell?_alloc_new];simpa using hq
      case c2=>intro u hu;simp at hu;subst hu;rfl
      case c3=>unfold maxLen;omega
      case c4=>omega
      case c5=>simp;omega
      intro v' w1 hown hgrow _
      have B1:=hid ((PK.out.alloc hsd _).grown hgrow (by simp;omega) (fun k h=>(own.lt k h).1))
      rw [show au tl++[.int .i64 (k:Nat)]=au (tl++[k]) by simp [au],show tl.length+1=(tl++[k]).length by simp,←HY.out] at hown
      have O1:=hid hown
      clear hown hgrow own
      go_wp2_with fail
      go_roundw
      case rel=>exact ⟨k+1,by omega,by go_num,B1.out,O1⟩
      case measure=>simp [intOf];omega
    ·obtain rfl:k=N:=by omega
     have O6:=HO.out
     rw [←G9.out] at O6
     have htl:(toS ns vs j).length≤k:=by rw [G9.out];exact Ia ns vs j k
     have L:=HL.out.keeps hbq
     have t1:=KP.out.below hbq hM
     have k1:=t1.c0
     have BB:=hid hbw
     obtain ⟨ao6,cap6,hv6⟩:=ag O6
     subst hv6
     have h6:=hid (aY O6 (B':=w.heap.size+1) (by omega))
     have pR:=hid L
     have T1:=hid t1
     have l1:=L.out
     have aiQ:=hbw.size
     clear O6 HO L t1 hbq HL KP hbw
     generalize Ua:(toS ns vs j).length=tlen at *
     have Cu:Hid ((au (toS ns vs j)).length=tlen):=hid (by rw [kg];exact Ua)
     clear Ua
     go_wp2_with (at_builtin;go_must (refine wpList_append_lies _ rfl (.tmp 46) (.tmp 48) 23 rfl (w.heap.size+1) 22 i1 (.slice none 0 0) 1 24 Tryz.underlying23 hi1 hz01 hz11 hz21 rfl (by decide) _ _ _ rfl (l1.alloc _) ⟨wr.heap.size,0,none⟩ 1 1 [.slice ao6 tlen cap6] rfl rfl ?d1 ?d2 (by decide) ?d3 ?d4 ?d5 _ rfl ?_))
     case d1=>intro q u hq;rw [qN,Nat.zero_add,World.cell?_alloc_new];simpa using hq
     case d2=>intro u hu;simp at hu;subst hu;rfl
     case d3=>unfold maxLen;omega
     case d4=>omega
     case d5=>simp;omega
     intro g2 fP w2 hown hgrow hat hlt2
     have aZ:Below (w.heap.size+1) wr w2:=((Below.refl _ _).alloc (by omega) _).grown hgrow (by simp;omega) (fun k h=>(l1.lt k h).1)
     have L2:=kC (pR.out.keeps ((Below.refl _ _).alloc (Nat.le_refl _) (.cells #[.slice ao6 tlen cap6] 22))) (by show World.ownsRow _ _ _ _ _ (au (toS ns vs j)).length _;rw [Cu.out];exact h6.out.alloc _) (by decide) hgrow hown
     have s1:=T1.out.below aZ (by omega)
     have L3:=hid (L2.set (k:=w.heap.size) (by omega) 0 (.slice (some ⟨g2,0,none⟩) (j+1) fP))
     have V1:=hid (s1.set0 (.slice (some ⟨g2,0,none⟩) (j+1) fP))
     have e0:=s1.c0
     have e1:=s1.f0
     have PO:=hid ((BB.out.trans (aZ.mono (by omega))).setCell (p:=⟨w.heap.size,0,none⟩) (Nat.le_refl _) (.slice (some ⟨g2,0,none⟩) (j+1) fP))
     clear hown hgrow hat L2 s1 aZ l1 k1
     go_wp2_with fail
     go_roundw
     case rel=>exact ⟨j+1,_,_,by omega,by go_num,PO.out,V1.out,L3⟩
     case measure=>simp [intOf];omega
  ·obtain rfl:j=N:=by omega
   clear FO
   go_wp2_with fail
   go_loopw [10] (fun i wr=>∃ (p:Nat) (v2:Value) (V2:Nat→Value),p≤n∧i=.int .i64 p∧Below w.heap.size w wr∧Two wr w.heap.size v1 v2∧Hid (eD wr (w.heap.size+1) 22 3 v1 j V (fun q=>au (toS ns vs q))) ∧
     Hid (eD wr (w.heap.size+1) 132 4 v2 p V2 (fun q=>aj (uH ns vs q) j j))∧Hid (∀ i,i<p→∃ b,V2 i=.slice (some ⟨b,0,none⟩) j j)) (fun i _=>n - (intOf i).toNat)
   case atStart=>exact ⟨0,_,fun _=>.bool false,Nat.zero_le _,rfl,hb,q1,HL,hid (qx _ _ _ _ _ _),hid (fun i h=>by omega)⟩
   case round=>
    obtain ⟨p,v2,V2,hp,rfl,hbp,q2,KV,HL2,pQ⟩:=hrel
    rename World=>W3
    have hM3:=q2.lt
    have Iw:=hbp.size
    have k03:=(hbp.cell (p:=⟨F,0,none⟩) hF).trans k0
    by_cases hltp:p<n
    ·have yY:=hid q2
     clear q2
     go_wp2_with (at_make;go_must (refine wpList_make_full _ rfl (.tmp 62) (.tmp 62) 132 rfl (w.heap.size+1) 4 i2 (.bool false) 1 Tryz.underlying132 hi2 hz02 hz12 .i64 .i64 j j j rfl rfl rfl rfl ?m2 ?m3 hM3 ?_))
     case m2=>rw [hz22];omega
     case m3=>unfold maxLen;omega
     intro w1 ay grow1
     have eo:(madeCells #[Value.bool false] j).toList=List.replicate j (.bool false):=toList_madeCells_one _ _
     rw [eo,←bJ (uH ns vs p)] at ay
     have hb1:Below W3.heap.size W3 w1:=(Below.refl _ _).grown grow1 (Nat.le_refl _) (fun k h=>by cases h)
     have OS:=hid ay
     have HB1:=hid hb1
     clear ay grow1 eo hb1
     go_wp2_with fail
     go_loopw [12] (fun i wq=>∃ q:Nat,q≤j∧i=.int .i64 q∧Hid (wq.ownsRow (w.heap.size+1) 4 1 (.slice (some ⟨W3.heap.size,0,none⟩) j j) j (aj (uH ns vs p) j q))∧Below W3.heap.size W3 wq) (fun i _=>j - (intOf i).toNat)
     case atStart=>exact ⟨0,Nat.zero_le _,rfl,OS,HB1.out⟩
     case round=>
      obtain ⟨q,hq,rfl,HO,hbq⟩:=hrel
      have hbw:Below w.heap.size w wr:=hbp.trans (hbq.mono Iw)
      by_cases hlq:q<j
      ·have own:=HO.out
       have f0:=own.frozenAt q
       have f1:(wr.cell? ⟨W3.heap.size,q,none⟩).isSome=true:=by
        rw [own.cellAt q (by omega)]
        simp [aj,hlq]
       obtain ⟨qv,f2⟩:=Option.isSome_iff_exists.1 f1
       have hO:=own.stored q (.bool (uH ns vs p q))
       rw [dX] at hO
       have lg:=hid hO.1
       have HB2:=hid (hbq.setCell (p:=⟨W3.heap.size,q,none⟩) (Nat.le_refl _) (.bool (uH ns vs p q)))
       obtain ⟨gs,e,hgs,cq⟩:=SC.out q hlq
       subst e
       have cq':=(hbw.cell (p:=⟨gs,q,none⟩) hgs).trans cq
       have C:=KE.out wr q p hbw hlq hltp
       have Ym:Hid (uH ns vs p q=fD (ai ns p) p (aJ vs q)):=hid rfl
       clear hO f1 own HO hbw
       generalize fD (ai ns p) p (aJ vs q)=kv at *
       go_wp2_with fail
       refine C.mono ?_
       rintro e w4 ⟨rfl,rfl⟩
       clear C
       go_wp2_with fail
       go_roundw
       case rel=>
        have o:=lg.out
        have g:=HB2.out
        rw [Ym.out] at o g
        exact ⟨q+1,by omega,by go_num,hid o,g⟩
       case measure=>simp [intOf];omega
      ·obtain rfl:q=j:=by omega
       have own:=HO.out
       have L1:=KV.out.keeps hbq
       have L2:=HL2.out.keeps hbq
       have t1:=yY.out.below hbq hM3
       have k1:=t1.c1
       have BB:=hid hbw
       have HOW:=hid own
       have ajH:=hid L1
       have ajG:=hid L2
       have T1:=hid t1
       have l2:=L2.out
       have aiQ:=hbw.size
       have amK:=hbq.size
       clear own HO L1 L2 t1 hbq KV HL2 yY hbw OS HB1
       go_wp2_with (at_builtin;go_must (refine wpList_append_lies _ rfl (.tmp 84) (.tmp 86) 77 rfl (w.heap.size+1) 132 i3 (.slice none 0 0) 1 24 Tryz.underlying77 hi3 hz03 hz13 hz23 rfl (by decide) _ _ _ rfl (l2.alloc _) ⟨wr.heap.size,0,none⟩ 1 1 [.slice (some ⟨W3.heap.size,0,none⟩) q q] rfl rfl ?d1 ?d2 (by decide) ?d3 ?d4 ?d5 _ rfl ?_))
       case d1=>intro z u hz;rw [qN,Nat.zero_add,World.cell?_alloc_new];simpa using hz
       case d2=>intro u hu;simp at hu;subst hu;rfl
       case d3=>unfold maxLen;omega
       case d4=>omega
       case d5=>simp;omega
       intro g2 fP w2 hown hgrow hat hlt2
       have aZ:Below (w.heap.size+1) wr w2:=((Below.refl _ _).alloc (by omega) _).grown hgrow (by simp;omega) (fun k h=>(l2.lt k h).1)
       have hll:(aj (uH ns vs p) q q).length=q:=by simp [aj]
       have A2:=ajG.out.keeps ((Below.refl _ _).alloc (Nat.le_refl _) (.cells #[.slice (some ⟨W3.heap.size,0,none⟩) q q] 132))
       have L3:=kC A2 (by show World.ownsRow _ _ _ _ _ (aj (uH ns vs p) q q).length _;rw [hll];exact HOW.out.alloc _) (by decide) hgrow hown
       have L4:=(ajH.out.keeps ((Below.refl _ _).alloc (Nat.le_refl _) (.cells #[.slice (some ⟨W3.heap.size,0,none⟩) q q] 132))).grown A2.out hgrow (by decide) (by decide)
       have s1:=T1.out.below aZ (by omega)
       have L5:=hid (L3.set (k:=w.heap.size) (by omega) 1 (.slice (some ⟨g2,0,none⟩) (p+1) fP))
       have L6:=hid (L4.set (k:=w.heap.size) (by omega) 1 (.slice (some ⟨g2,0,none⟩) (p+1) fP))
       have V1:=hid (s1.set1 (.slice (some ⟨g2,0,none⟩) (p+1) fP))
       have e0:=s1.c1
       have e1:=s1.f1
       have PO:=hid ((BB.out.trans (aZ.mono (by omega))).setCell (p:=⟨w.heap.size,1,none⟩) (Nat.le_refl _) (.slice (some ⟨g2,0,none⟩) (p+1) fP))
       clear hown hgrow hat L3 L4 A2 s1 aZ l2 k1 hll
       go_wp2_with fail
       go_roundw
       case rel=>
        refine ⟨p+1,_,_,by omega,by go_num,PO.out,V1.out,L6,L5,hid (fun i hi=>?_)⟩
        by_cases e:i=p
        ·subst e;exact ⟨W3.heap.size,by simp⟩
        ·simp only [if_neg e];exact pQ.out i (by omega)
       case measure=>simp [intOf];omega
    ·obtain rfl:p=n:=by omega
     have NM:Hid (mK W3 w.heap.size j (toS ns vs) p (uH ns vs)):=hid ⟨hM3,⟨v1,q2.c0,CK KV.out⟩,⟨v2,q2.c1,(acy HL2.out pQ.out).brc⟩⟩
     clear q2
     go_wp2_with fail
     go_ret
     exact ⟨rfl,NM.out,hbp⟩
structure p9 (w:World) (R F gp cap:Nat) (ns:List Nd) (bs vs:List Nat):Prop where
 lt:R<w.heap.size
 fr:FR w F gp cap ns bs
 c0:w.cell? ⟨R,0,none⟩=some (.pointer (some ⟨F,0,none⟩))
 c1:∃ v,w.cell? ⟨R,1,none⟩=some v∧KZ w v vs.length ns.length (aJ vs)
 c2:∃ v,w.cell? ⟨R,2,none⟩=some v∧GQ w v vs.length (toS ns vs)
theorem p9.below {w w':World} {R F gp cap:Nat} {ns:List Nd} {bs vs:List Nat} (h:p9 w R F gp cap ns bs vs) (hb:Below w.heap.size w w'):p9 w' R F gp cap ns bs vs:=by
 obtain ⟨v1,a1,b1⟩:=h.c1
 obtain ⟨v2,a2,b2⟩:=h.c2
 exact ⟨Nat.lt_of_lt_of_le h.lt hb.size,h.fr.below hb,(hb.cell (p:=⟨R,0,none⟩) h.lt).trans h.c0,⟨v1,(hb.cell (p:=⟨R,1,none⟩) h.lt).trans a1,b1.below hb⟩,⟨v2,(hb.cell (p:=⟨R,2,none⟩) h.lt).trans a2,b2.below hb⟩⟩
theorem Bc (R F gp cap:Nat) (ns:List Nd) (bs vs:List Nat) (hd:Bool) (w:World) (h:p9 w R F gp cap ns bs vs) (hg:Good ns) (hM:vs.length≤256) :
  Calls Tryz.prog 76 #[.pointer (some ⟨R,0,none⟩),.bool hd] w fun e w'=>∃ g,e=.returned (.slice (some ⟨g,0,none⟩) vs.length vs.length)∧Rb w' g vs.length (fun i=>aJ vs i (ns.length - 1)==hd)∧w.heap.size≤g∧Below w.heap.size w w'∧w'.ownsRow w.heap.size 4 1 (.slice (some ⟨g,0,none⟩) vs.length vs.length) vs.length (aj (fun i=>aJ vs i (ns.length - 1)==hd) vs.length vs.length):=by
 obtain ⟨v1,a1,ao,scap,rfl,hsc,hrow⟩:=h.c1
 have hR:=h.lt
 have r0:=h.c0
 have f0:=h.fr.c0
 have hF:=h.fr.JL
 have hfc:=h.fr.hcap
 have hle:=hg.le
 have hpos:=hg.pos
 obtain ⟨i0,hi,hz0,hz1,hz2⟩:=info_parts Tryz.dw
 have ER:=hid hrow
 clear hrow h hg
 generalize ns.length=n at *
 obtain ⟨n1,rfl⟩:∃ n1,n=n1+1:=⟨n - 1,by omega⟩
 rw [show n1+1 - 1=n1 by omega]
 have wr1:IntKind.i64.wrap (((n1+1:Nat):Int) - 1)=(n1:Int):=by rw [IntKind.wrap_i64];omega
 generalize vs.length=M at *
 go_enter Tryz.func76,Tryz.ntmps76
 go_wp2_with (at_make;go_must (refine wpList_make_full _ rfl (.tmp 11) (.tmp 11) 132 rfl w.heap.size 4 i0 (.bool false) 1 Tryz.underlying132 hi hz0 hz1 .i64 .i64 M M M rfl rfl rfl rfl ?m2 ?m3 (Nat.le_refl _) ?_))
 case m2=>rw [hz2];omega
 case m3=>unfold maxLen;omega
 intro w1 ay grow1
 have eo:(madeCells #[Value.bool false] M).toList=List.replicate M (.bool false):=toList_madeCells_one _ _
 rw [eo,←bJ (fun i=>aJ vs i n1==hd)] at ay
 have hb1:Below w.heap.size w w1:=(Below.refl _ _).grown grow1 (Nat.le_refl _) (fun k h=>by cases h)
 have OS:=hid ay
 have HB1:=hid hb1
 clear ay grow1 eo hb1
 go_wp2_with fail
 go_loopw [6] (fun i wq=>∃ k:Nat,k≤M∧i=.int .i64 k∧Hid (wq.ownsRow w.heap.size 4 1 (.slice (some ⟨w.heap.size,0,none⟩) M M) M (aj (fun i=>aJ vs i n1==hd) M k))∧Below w.heap.size w wq) (fun i _=>M - (intOf i).toNat)
 case atStart=>exact ⟨0,Nat.zero_le _,rfl,OS,HB1.out⟩
 case round=>
  obtain ⟨k,hk,rfl,HO,hbq⟩:=hrel
  have a1':=(hbq.cell (p:=⟨R,1,none⟩) hR).trans a1
  by_cases hlk:k<M
  ·obtain ⟨gs,e,hgs,hsets⟩:=ER.out (by omega)
   subst e
   obtain ⟨b,cb,hrb⟩:=hsets k hlk
   have cb':=(hbq.cell (p:=⟨gs,k,none⟩) hgs).trans cb
   have r0':=(hbq.cell (p:=⟨R,0,none⟩) hR).trans r0
   have BV:=(hbq.cell (p:=⟨F,0,none⟩) hF).trans f0
   have hbl:=hrb.lt
   have cx:=(hbq.cell (p:=⟨b,n1,none⟩) hbl).trans (hrb.cell n1 (by omega))
   have own:=HO.out
   have q0:=own.frozenAt k
   have q1:(wr.cell? ⟨w.heap.size,k,none⟩).isSome=true:=by
    rw [own.cellAt k (by omega)]
    simp [aj,hlk]
   obtain ⟨qv,q2⟩:=Option.isSome_iff_exists.1 q1
   have hO:=own.stored k (.bool (aJ vs k n1==hd))
   rw [dX (fun i=>aJ vs i n1==hd)] at hO
   have lg:=hid hO.1
   have HB2:=hid (hbq.setCell (p:=⟨w.heap.size,k,none⟩) (Nat.le_refl _) (.bool (aJ vs k n1==hd)))
   clear hO q1 own HO hsets cb hrb
   generalize aJ vs k n1=mv at *
   have KS:∀ (x o:Nat) {v:Value},x<w.heap.size→wr.cell? ⟨x,o,none⟩=some v→(wr.setCell ⟨w.heap.size,k,none⟩ (.bool (mv==hd))).drew.cell? ⟨x,o,none⟩=some v:=fun x o v hx hv=>by
    show (wr.setCell ⟨w.heap.size,k,none⟩ (.bool (mv==hd))).cell? ⟨x,o,none⟩=some v
    rw [World.cell?_setCell_other _ _ _ _ (fun e=>by have:=congrArg Addr.block e;simp at this;omega)]
    exact hv
   have z1:(0:Int)≤(k:Int):=Int.natCast_nonneg _
   have z2:(k:Int)<(M:Int):=by omega
   have z3:(0:Int)≤(n1:Int):=Int.natCast_nonneg _
   have z4:(n1:Int)<((n1+1:Nat):Int):=by omega
   have wr2:IntKind.i64.wrap (n1:Int)=(n1:Int):=by rw [IntKind.wrap_i64];omega
   have wr3:IntKind.i64.wrap ((n1:Int)+1 - 1)=(n1:Int):=by rw [IntKind.wrap_i64];omega
   have z5:(n1:Int)<(n1:Int)+1:=by omega
   go_wp2_with fail
   go_region_held3 (fun w'=>w'.cell? ⟨R,1,none⟩=some (.slice (some ⟨gs,0,none⟩) M scap)∧w'.cell? ⟨gs,k,none⟩=some (.slice (some ⟨b,0,none⟩) (n1+1) (n1+1))∧w'.cell? ⟨R,0,none⟩=some (.pointer (some ⟨F,0,none⟩))∧w'.cell? ⟨F,0,none⟩=some (.slice (some ⟨gp,0,none⟩) (n1+1) cap)∧w'.cell? ⟨b,n1,none⟩=some (.bool mv))
    (first
     | go_keep
     | exact ⟨KS _ _ hR a1',KS _ _ hgs cb',KS _ _ hR r0',KS _ _ hF BV,KS _ _ hbl cx⟩)
    (fail)
   go_wp2_with fail
   go_roundw
   case rel=>exact ⟨k+1,by omega,by go_num,hid (ae lg.out (below_drewN (Below.refl _ _) 1)),below_drewN HB2.out 1⟩
   case measure=>simp [intOf];omega
  ·obtain rfl:k=M:=by omega
   have RB:Hid (Rb wr w.heap.size k (fun i=>aJ vs i n1==hd)):=hid ⟨(HO.out.lt _ rfl).2,fun i hi=>by rw [HO.out.cellAt i (by omega)];exact jv _ _ _ hi⟩
   go_wp2_with fail
   go_ret
   exact ⟨w.heap.size,rfl,RB.out,Nat.le_refl _,hbq,HO.out⟩
theorem Bd (R F gp cap:Nat) (ns:List Nd) (bs vs:List Nat) (hd:Bool) (w:World) (h:p9 w R F gp cap ns bs vs) (hg:Good ns) (hM:vs.length≤256) :
  Calls Tryz.prog 76 #[.pointer (some ⟨R,0,none⟩),.bool hd] w fun e w'=>∃ g,e=.returned (.slice (some ⟨g,0,none⟩) vs.length vs.length)∧Rb w' g vs.length (fun i=>aJ vs i (ns.length - 1)==hd)∧w.heap.size≤g∧Below w.heap.size w w':=
 (Bc R F gp cap ns bs vs hd w h hg hM).mono fun e w' ⟨g,h1,h2,h3,h4,_⟩=>⟨g,h1,h2,h3,h4⟩
section
variable (ns:List Nd) (vs:List Nat) (f:Nat→Bool) (a:Nat)
def gD (i j:Nat):Bool:=(List.range i).any fun q=>f q&&gB ns (aJ vs q) a&&decide (j∈toS ns vs q)
def xX (i k j:Nat):Bool:=gD ns vs f a i j||decide (j∈(toS ns vs i).take k)
theorem acQ {i:Nat} (h:(f i&&gB ns (aJ vs i) a)=false) (j:Nat):gD ns vs f a (i+1) j=gD ns vs f a i j:=by
 simp [gD,List.range_succ,List.any_append,h]
theorem VP (i j:Nat):xX ns vs f a i 0 j=gD ns vs f a i j:=by simp [xX]
theorem VQ {i k:Nat} (hk:k<(toS ns vs i).length):upd (xX ns vs f a i k) (bG (toS ns vs i) k) true=xX ns vs f a i (k+1):=by
 funext j
 have e:(toS ns vs i).take (k+1)=(toS ns vs i).take k++[bG (toS ns vs i) k]:=by
  rw [List.take_succ_eq_append_getElem hk]
  simp [bG,List.getD,List.getElem?_eq_getElem hk]
 unfold upd xX
 rw [e]
 by_cases ej:j=bG (toS ns vs i) k
 ·rw [if_pos ej];simp [ej]
 ·rw [if_neg ej];simp [ej]
theorem ZE {i:Nat} (h:(f i&&gB ns (aJ vs i) a)=true) (j:Nat):xX ns vs f a i (toS ns vs i).length j=gD ns vs f a (i+1) j:=by
 unfold xX gD
 rw [List.take_length,List.range_succ,List.any_append]
 simp [h]
end
theorem EY {ns:List Nd} {vs:List Nat} {i b:Nat} (h:b∈toS ns vs i):b<vs.length:=by
 unfold toS qw at h
 rw [List.mem_filter,List.mem_range] at h
 exact h.1
theorem vC (ns:List Nd) (vs:List Nat) (i:Nat):(toS ns vs i).length≤vs.length:=Ia ns vs i vs.length
theorem MM (R F gp cap gl a:Nat) (ns:List Nd) (bs vs:List Nat) (f:Nat→Bool) (w:World) (h:p9 w R F gp cap ns bs vs) (hg:Good ns) (hM:vs.length≤256) (ha:a<8) (hf:Rb w gl vs.length f) :
  Calls Tryz.prog 78 #[.pointer (some ⟨R,0,none⟩),.slice (some ⟨gl,0,none⟩) vs.length vs.length,.int .i64 a] w fun e w'=>∃ g,e=.returned (.slice (some ⟨g,0,none⟩) vs.length vs.length)∧Rb w' g vs.length (gD ns vs f a vs.length)∧w.heap.size≤g∧Below w.heap.size w w'∧w'.ownsRow w.heap.size 4 1 (.slice (some ⟨g,0,none⟩) vs.length vs.length) vs.length (aj (gD ns vs f a vs.length) vs.length vs.length):=by
 obtain ⟨v1,a1,ao,scap,rfl,hsc,hrow⟩:=h.c1
 obtain ⟨v2,a2,ao2,tcap,rfl,htc,htow⟩:=h.c2
 have hR:=h.lt
 have r0:=h.c0
 have hle:=hg.le
 have Cu:=hid (fun i=>vC ns vs i)
 have jD:=hid (fun i b=>EY (ns:=ns) (vs:=vs) (i:=i) (b:=b))
 obtain ⟨i0,hi,hz0,hz1,hz2⟩:=info_parts Tryz.dw
 have ER:=hid hrow
 have ajo:=hid htow
 have RD:=hid (fun (W:World) (b:Nat) S (h1:Below w.heap.size w W) (h2:Rb W b ns.length S)=>zG F gp cap b ns.length ns bs S W a ha (h.fr.below h1) h2 hg (Nat.le_refl _))
 have hgl:=hf.lt
 have Px:=hid hf.cell
 clear hrow htow h hg hf
 generalize ns.length=n at *
 generalize vs.length=M at *
 go_enter Tryz.func78,Tryz.ntmps78
 go_wp2_with (at_make;go_must (refine wpList_make_full _ rfl (.tmp 12) (.tmp 12) 132 rfl w.heap.size 4 i0 (.bool false) 1 Tryz.underlying132 hi hz0 hz1 .i64 .i64 M M M rfl rfl rfl rfl ?m2 ?m3 (Nat.le_refl _) ?_))
 case m2=>rw [hz2];omega
 case m3=>unfold maxLen;omega
 intro w1 ay grow1
 have eo:(madeCells #[Value.bool false] M).toList=List.replicate M (.bool false):=toList_madeCells_one _ _
 rw [eo,←bJ (fun _=>false),show aj (fun _=>false) M 0=aj (gD ns vs f a 0) M M by simp [aj,gD]] at ay
 have hb1:Below w.heap.size w w1:=(Below.refl _ _).grown grow1 (Nat.le_refl _) (fun k h=>by cases h)
 have OS:=hid ay
 have HB1:=hid hb1
 clear ay grow1 eo hb1
 go_wp2_with fail
 go_loopw [8] (fun i wq=>∃ q:Nat,q≤M∧i=.int .i64 q∧Hid (wq.ownsRow w.heap.size 4 1 (.slice (some ⟨w.heap.size,0,none⟩) M M) M (aj (gD ns vs f a q) M M))∧Below w.heap.size w wq) (fun i _=>M - (intOf i).toNat)
 case atStart=>exact ⟨0,Nat.zero_le _,rfl,OS,HB1.out⟩
 case round=>
  obtain ⟨q,hq,rfl,HO,hb⟩:=hrel
  rename World=>W0
  by_cases hlq:q<M
  ·obtain ⟨gs,e,hgs,hsets⟩:=ER.out (by omega)
   subst e
   obtain ⟨b,cb,hrb⟩:=hsets q hlq
   have cb':=(hb.cell (p:=⟨gs,q,none⟩) hgs).trans cb
   have r0':=(hb.cell (p:=⟨R,0,none⟩) hR).trans r0
   have a1':=(hb.cell (p:=⟨R,1,none⟩) hR).trans a1
   have cl:=(hb.cell (p:=⟨gl,q,none⟩) hgl).trans (Px.out q hlq)
   have ai0:=hrb.below hb
   have C:=fun m=>RD.out (W0.drewN m) b (aJ vs q) (below_drewN hb m) ((hrb.below hb).drewN m)
   have lu:=hid (acQ ns vs f a (i:=q))
   have qQ:=hid (ZE ns vs f a (i:=q))
   clear hsets cb hrb ai0
   generalize gB ns (aJ vs q) a=rv at *
   generalize f q=fv at *
   go_wp2_with fail
   go_quiet ((go_at_call 81;exact Calls.quiet_of_same (C _)))
   have HB2:=hid (below_drewN hb nq)
   have lg:=hid (ae HO.out (below_drewN (Below.refl W0.heap.size W0) nq))
   have cl2:(W0.drewN nq).cell? ⟨gl,q,none⟩=some (.bool fv):=cl
   clear C HO cl
   by_cases hgo:(fv&&rv)=true
   ·obtain ⟨rfl,rfl⟩:fv=true∧rv=true:=by cases fv <;> cases rv <;> simp_all
    obtain ⟨g2,e,hg2,htos⟩:=ajo.out (by omega)
    subst e
    obtain ⟨r,cr,aor,nE,rfl,hrc,hrr⟩:=htos q hlq
    have HRR:=hid hrr
    have xQ:=hid cr
    have hll:=Cu.out q
    have HA2:=hid a2
    have HZ:Hid (aj (gD ns vs f a q) M M=aj (xX ns vs f a q 0) M M):=hid (pE (fun i _=>(VP ns vs f a q i).symm))
    have HST:=hid (fun k=>VQ ns vs f a (i:=q) (k:=k))
    have Yt:Hid (aj (xX ns vs f a q (toS ns vs q).length) M M=aj (gD ns vs f a (q+1)) M M):=hid (pE (fun i _=>qQ.out rfl i))
    have DZ:=hid (fun b=>jD.out q b)
    clear hgo htos hrr cr lu qQ
    generalize hlnE:(toS ns vs q).length=ln at *
    have bg:=hid hlnE
    clear hlnE cb' r0' a1'
    have a22:=(HB2.out.cell (p:=⟨R,2,none⟩) hR).trans a2
    have cr2:=(HB2.out.cell (p:=⟨g2,q,none⟩) hg2).trans xQ.out
    generalize W0.drewN nq=W1 at *
    go_wp2_with fail
    go_loopw [10] (fun i wq=>∃ k:Nat,k≤ln∧i=.int .i64 k∧Hid (wq.ownsRow w.heap.size 4 1 (.slice (some ⟨w.heap.size,0,none⟩) M M) M (aj (xX ns vs f a q k) M M))∧Below w.heap.size w wq) (fun i _=>ln - (intOf i).toNat)
    case atStart=>exact ⟨0,Nat.zero_le _,rfl,by rw [←HZ.out];exact lg,HB2.out⟩
    case round=>
     obtain ⟨k,hk,rfl,HO3,hb3⟩:=hrel
     have a23:=(hb3.cell (p:=⟨R,2,none⟩) hR).trans HA2.out
     have Xw:=(hb3.cell (p:=⟨g2,q,none⟩) hg2).trans xQ.out
     by_cases hlk:k<ln
     ·obtain ⟨gr,e,hgr,crr⟩:=HRR.out (by omega)
      subst e
      have cb3:=(hb3.cell (p:=⟨gr,k,none⟩) hgr).trans (crr k hlk)
      have hbN:=DZ.out _ (lT (show k<(toS ns vs q).length by rw [bg.out];exact hlk))
      have own:=HO3.out
      have e2:=HST.out k hlk
      have q0:=own.frozenAt (bG (toS ns vs q) k)
      have q1:(wr.cell? ⟨w.heap.size,bG (toS ns vs q) k,none⟩).isSome=true:=by
       rw [own.cellAt _ (by omega)]
       simp [aj,hbN]
      obtain ⟨qv,q2⟩:=Option.isSome_iff_exists.1 q1
      have hO:=own.stored (bG (toS ns vs q) k) (.bool true)
      rw [xx,e2] at hO
      have DT:=hid hO.1
      have dm:=hid (hb3.setCell (p:=⟨w.heap.size,bG (toS ns vs q) k,none⟩) (Nat.le_refl _) (.bool true))
      clear hO q1 own HO3 crr e2
      generalize bG (toS ns vs q) k=b2 at *
      go_wp2_with fail
      go_roundw
      case rel=>exact ⟨k+1,by omega,by go_num,DT,dm.out⟩
      case measure=>simp [intOf];omega
     ·obtain rfl:k=ln:=by omega
      go_wp2_with fail
      go_roundw
      case rel=>exact ⟨q+1,by omega,by go_num,by rw [←Yt.out];exact HO3,hb3⟩
      case measure=>simp [intOf];omega
   ·have hgo':(fv&&rv)=false:=by simpa using hgo
    have HE:Hid (aj (gD ns vs f a (q+1)) M M=aj (gD ns vs f a q) M M):=hid (pE (fun i _=>lu.out hgo' i))
    clear hgo
    generalize W0.drewN nq=W1 at *
    cases fv
    ·go_wp2_with fail
     go_roundw
     case rel=>exact ⟨q+1,by omega,by go_num,by rw [HE.out];exact lg,HB2.out⟩
     case measure=>simp [intOf];omega
    ·cases rv
     ·go_wp2_with fail
      go_roundw
      case rel=>exact ⟨q+1,by omega,by go_num,by rw [HE.out];exact lg,HB2.out⟩
      case measure=>simp [intOf];omega
     ·cases hgo'
  ·obtain rfl:q=M:=by omega
   have RB:Hid (Rb W0 w.heap.size q (gD ns vs f a q)):=hid ⟨(HO.out.lt _ rfl).2,fun i hi=>by rw [HO.out.cellAt i (by omega)];exact jv _ _ _ hi⟩
   go_wp2_with fail
   go_ret
   exact ⟨w.heap.size,rfl,RB.out,Nat.le_refl _,hb,HO.out⟩
theorem ad7 (R F gp cap gl a:Nat) (ns:List Nd) (bs vs:List Nat) (f:Nat→Bool) (w:World) (h:p9 w R F gp cap ns bs vs) (hg:Good ns) (hM:vs.length≤256) (ha:a<8) (hf:Rb w gl vs.length f) :
  Calls Tryz.prog 78 #[.pointer (some ⟨R,0,none⟩),.slice (some ⟨gl,0,none⟩) vs.length vs.length,.int .i64 a] w fun e w'=>∃ g,e=.returned (.slice (some ⟨g,0,none⟩) vs.length vs.length)∧Rb w' g vs.length (gD ns vs f a vs.length)∧w.heap.size≤g∧Below w.heap.size w w':=
 (MM R F gp cap gl a ns bs vs f w h hg hM ha hf).mono fun e w' ⟨g,h1,h2,h3,h4,_⟩=>⟨g,h1,h2,h3,h4⟩
def iF (f:Nat→Bool) (N:Nat):Bool:=(List.range N).all fun i=>!f i
theorem Bu {f:Nat→Bool} {N:Nat}:iF f N=true↔∀ i,i<N→f i=false:=by simp [iF,List.all_eq_true]
theorem ZG {f:Nat→Bool} {N i:Nat} (hi:i<N) (h:f i=true):iF f N=false:=by
 cases e:iF f N with
 | false=>rfl
 | true=>rw [Bu] at e;rw [e i hi] at h;cases h
def zt (y n:Bool):Nat:=if y=true then 2 else if n=true then 1 else 0
theorem MR (g N:Nat) (f:Nat→Bool) (w:World) (h:Rb w g N f) (hN:N≤1099511627776):Calls Tryz.prog 139 #[.slice (some ⟨g,0,Option.none⟩) N N] w fun e w'=>e=.returned (.bool (iF f N))∧w'=w:=by
 go_enter Tryz.func139,Tryz.ntmps139
 go_wp2_with fail
 go_loop [3] (fun i=>∃ j:Nat,j≤N∧i=.int .i64 j∧Hid (∀ k,k<j→f k=false)) (fun i=>N - (intOf i).toNat)
 case atStart=>exact ⟨0,Nat.zero_le _,rfl,hid (fun k hk=>by omega)⟩
 case round=>
  obtain ⟨j,hj,rfl,HI⟩:=hrel
  by_cases hlt:j<N
  ·have c:=h.cell j hlt
   cases hv:f j with
   | true=>
    rw [hv] at c
    have HN:=hid (ZG hlt hv)
    clear hv
    go_wp2_with fail
    go_ret
    exact ⟨by rw [HN.out];rfl,rfl⟩
   | false=>
    rw [hv] at c
    have HV:=hid hv
    clear hv
    go_wp2_with fail
    go_round
    case rel=>
     refine ⟨j+1,by omega,by go_num,hid (fun k hk=>?_)⟩
     by_cases e:k<j
     ·exact HI.out k e
     ·rw [show k=j by omega];exact HV.out
    case measure=>simp [intOf];omega
  ·have HA:=hid (Bu.2 (fun k hk=>HI.out k (by omega)):iF f N=true)
   go_wp2_with fail
   go_ret
   exact ⟨by rw [HA.out];rfl,rfl⟩
theorem LY (g h N:Nat) (y n:Nat→Bool) (w:World) (hy:Rb w g N y) (hn:Rb w h N n) (hN:N≤1099511627776) :
  Calls Tryz.prog 104 #[.slice (some ⟨g,0,Option.none⟩) N N,.slice (some ⟨h,0,Option.none⟩) N N] w fun e w'=>e=.returned (.int .i64 (zt (iF y N) (iF n N):Nat))∧w'=w:=by
 have A:=MR g N y w hy hN
 have B:=MR h N n w hn hN
 generalize iF y N=a at *
 generalize iF n N=b at *
 cases a <;> cases b
 all_goals
  go_enter Tryz.func104,Tryz.ntmps104
  go_wp2_with fail
  refine A.mono ?_
  rintro e w1 ⟨rfl,rfl⟩
  go_wp2_with fail
  refine B.mono ?_
  rintro e w1 ⟨rfl,rfl⟩
  go_wp2_with fail
  go_ret
  exact ⟨rfl,rfl⟩
theorem aeZ (S:Nat→Bool) (n:Nat):dh n S (jV (xJ S n)):=fun k hk=>(XN S n k hk).symm
theorem BN {ns:List Nd} {v:Nat}:uW ns v=true↔xE ns (jV v)∧∃ x,x<8∧pV ns (jV v) x:=by
 unfold uW
 rw [Bool.and_eq_true,Xj,List.any_eq_true]
 constructor
 ·rintro ⟨h,x,hx,hr⟩
  exact ⟨h,x,List.mem_range.1 hx,l8.1 hr⟩
 ·rintro ⟨h,x,hx,hr⟩
  exact ⟨h,x,List.mem_range.2 hx,l8.2 hr⟩
theorem EM {ns:List Nd} (hw:fO ns):Db ns (dn ns (2 ^ ns.length)).length (aJ (dn ns (2 ^ ns.length))):=by
 have key:∀ i,i<(dn ns (2 ^ ns.length)).length→uW ns (bG (dn ns (2 ^ ns.length)) i)=true:=fun i hi=>(List.mem_filter.1 (lT hi)).2
 refine ⟨fun i hi=>(BN.1 (key i hi)).1,fun i hi=>(BN.1 (key i hi)).2,fun S x hx hf hr=>?_⟩
 have e:=aeZ S ns.length
 have hm:xJ S ns.length∈dn ns (2 ^ ns.length):=List.mem_filter.2 ⟨List.mem_range.2 (Ou S ns.length),BN.2 ⟨Ae hw e hf,x,hx,zH e hr⟩⟩
 obtain ⟨i,hi,ei⟩:=vD hm
 exact ⟨i,hi,by unfold aJ;rw [ei];exact e⟩
theorem Q9 (ns:List Nd) (vs:List Nat):Ed vs.length (toS ns vs)=CS ns vs.length (aJ vs):=by
 funext i j
 apply propext
 unfold Ed CS toS qw
 rw [List.mem_filter,List.mem_range,z8]
theorem ada (ns:List Nd) (vs:List Nat) (c:Nat):GN vs.length (toS ns vs) ns.length (uH ns vs) c↔vB (CS ns vs.length (aJ vs)) (Lx ns (aJ vs)) ns.length c:=by
 unfold GN
 rw [Q9]
 exact Iff.rfl
theorem Lt {ns:List Nd} (hw:fO ns) {out:Nat→Bool} (h:∀ i,out i=true↔∃ c,c<(dn ns (2 ^ ns.length)).length∧reach (Ed (dn ns (2 ^ ns.length)).length (toS ns (dn ns (2 ^ ns.length)))) i c∧GN (dn ns (2 ^ ns.length)).length (toS ns (dn ns (2 ^ ns.length))) ns.length (uH ns (dn ns (2 ^ ns.length))) c)
  {i:Nat} (hi:i<(dn ns (2 ^ ns.length)).length):out i=true↔chain ns [] (aJ (dn ns (2 ^ ns.length)) i):=by
 rw [h,Wi hw (EM hw) hi,Q9]
 simp only [ada]
def gI (vs:List Nat) (good:Nat→Bool) (j:Nat):List Nat:=((List.range j).filter good).map (bG vs)
theorem Zu (vs:List Nat) (good:Nat→Bool) (j:Nat):(gI vs good j).length≤j:=by
 have:=List.length_filter_le good (List.range j)
 simpa [gI] using this
theorem We {ns:List Nd} (hw:fO ns) {vs:List Nat} (hA:Db ns vs.length (aJ vs)) {good:Nat→Bool} (hg:∀ i,i<vs.length→(good i=true↔chain ns [] (aJ vs i))) :
  eQ ns (gI vs good vs.length).length (aJ (gI vs good vs.length)):=by
 refine ⟨fun i hi=>?_,fun S hS=>?_⟩
 ·have hm:=lT hi
  unfold gI at hm
  obtain ⟨q,hq,e⟩:=List.mem_map.1 hm
  obtain ⟨hr,hgq⟩:=List.mem_filter.1 hq
  have:=(hg q (List.mem_range.1 hr)).1 hgq
  unfold aJ at this ⊢
  rw [e] at this
  exact this
 ·obtain ⟨x,S',hl,he,hq⟩:=hS
  obtain ⟨f1,f2,_⟩:=(jF hw _ _ _).1 (he.step 0)
  obtain ⟨i,hi,e⟩:=hA.all S (x 0) (hl 0) (Ae hw hq f1) (zH hq f2)
  have hgi:=(hg i hi).2 (yn hw e ⟨x,S',hl,he,hq⟩)
  have hm:bG vs i∈gI vs good vs.length:=List.mem_map.2 ⟨i,List.mem_filter.2 ⟨List.mem_range.2 hi,hgi⟩,rfl⟩
  obtain ⟨k,hk,ek⟩:=vD hm
  refine ⟨k,hk,?_⟩
  unfold aJ at e ⊢
  rw [ek]
  exact e
def wT (ns:List Nd) (vs:List Nat):List Nat→(Nat→Bool)→Nat→Bool
 | [],f=>f
 | a::u,f=>wT ns vs u (gD ns vs f a vs.length)
theorem ad6 (ns:List Nd) (vs:List Nat) (f:Nat→Bool) (a j:Nat):gD ns vs f a vs.length j=true↔JI ns vs.length (aJ vs) (fun i=>i<vs.length∧f i=true) a j:=by
 unfold gD JI
 rw [List.any_eq_true]
 constructor
 ·rintro ⟨q,hq,h⟩
  simp only [Bool.and_eq_true,decide_eq_true_eq] at h
  obtain ⟨⟨h1,h2⟩,h3⟩:=h
  unfold toS qw at h3
  rw [List.mem_filter,List.mem_range,z8] at h3
  have hq:=List.mem_range.1 hq
  exact ⟨h3.1,q,hq,⟨hq,h1⟩,l8.1 h2,h3.2⟩
 ·rintro ⟨hj,q,hq,h1,h2,h3⟩
  refine ⟨q,List.mem_range.2 hq,?_⟩
  simp only [Bool.and_eq_true,decide_eq_true_eq]
  refine ⟨⟨h1.2,l8.2 h2⟩,?_⟩
  unfold toS qw
  rw [List.mem_filter,List.mem_range,z8]
  exact ⟨hj,h3⟩
theorem Gv (ns:List Nd) (vs:List Nat):∀ (u:List Nat) (f:Nat→Bool) (j:Nat),j<vs.length∧wT ns vs u f j=true↔rO ns vs.length (aJ vs) u (fun i=>i<vs.length∧f i=true) j
 | [],f,j=>Iff.rfl
 | a::u,f,j=>by
  show j<vs.length∧wT ns vs u (gD ns vs f a vs.length) j=true↔rO ns vs.length (aJ vs) u (JI ns vs.length (aJ vs) (fun i=>i<vs.length∧f i=true) a) j
  rw [Gv ns vs u]
  have e:(fun i=>i<vs.length∧gD ns vs f a vs.length i=true)=JI ns vs.length (aJ vs) (fun i=>i<vs.length∧f i=true) a:=by
   funext i
   apply propext
   rw [ad6]
   exact ⟨fun h=>h.2,fun h=>⟨h.1,h⟩⟩
  rw [e]
theorem MQ {ns:List Nd} (hg:Good ns) {vs:List Nat} (hL:eQ ns vs.length (aJ vs)) (u:List Nat) (hu:∀ x∈u,x<8) (b:Bool) :
  iF (wT ns vs u (fun i=>aJ vs i (ns.length - 1)==b)) vs.length=false↔May ns u b:=by
 rw [←LX hg hL u hu b]
 have e:(fun i=>i<vs.length∧aJ vs i (ns.length - 1)=b)=(fun i=>i<vs.length∧(aJ vs i (ns.length - 1)==b)=true):=by
  funext i
  rw [beq_iff_eq]
 rw [e]
 rw [←Bool.not_eq_true,Bu]
 constructor
 ·intro h
  apply Classical.byContradiction
  intro hn
  refine h (fun i hi=>?_)
  cases hv:wT ns vs u (fun i=>aJ vs i (ns.length - 1)==b) i with
  | false=>rfl
  | true=>exact absurd ⟨i,(Gv ns vs u _ i).1 ⟨hi,hv⟩⟩ hn
 ·rintro ⟨j,hj⟩ hall
  have:=(Gv ns vs u _ j).2 hj
  rw [hall j this.1] at this
  cases this.2
end Go.Proofs.YtjagijohfkffiabGreat
