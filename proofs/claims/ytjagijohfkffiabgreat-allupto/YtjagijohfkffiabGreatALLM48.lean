import Derived.Test.YtjagijohfkffiabGreatALLM08
import Derived.Test.YtjagijohfkffiabGreatALLM12
import Derived.Test.YtjagijohfkffiabGreatALLM45
import Derived.Test.YtjagijohfkffiabGreatALLM46
import Derived.Test.YtjagijohfkffiabGreatALLM47
import Derived.Deep.RegionWith
import Derived.Deep.RegionLaw
import Derived.BigQuiet
set_option maxHeartbeats 16000000
set_option maxRecDepth 100000
namespace Go.Proofs.YtjagijohfkffiabGreat
open Go.RowKit
set_option linter.unusedVariables false
theorem Fm.below {w w':World} {F:Nat} {ns:List Nd} {bs:List Nat} (h:Fm w F ns bs) (hb:Below w.heap.size w w'):Fm w' F ns bs:=by
 obtain ⟨ao,cap,c,own⟩:=h.c0
 refine ⟨⟨ao,cap,(hb.cell (p:=⟨F,0,none⟩) h.rf).trans c,ae own hb⟩,(hb.frozen (p:=⟨F,0,none⟩) h.rf).trans h.f0,h.len,h.wf,fun i n hn=>?_⟩
 obtain ⟨b,e,hF,hh⟩:=h.parts i n hn
 exact ⟨b,e,hF,(hb.block b (bO hh)).trans hh⟩
theorem WE {w:World} {b off len cap n:Nat} {zs:List Int} (h:Ints w (some ⟨b,off,none⟩) len cap zs) (hn:n≤len):Ints w (some ⟨b,off,none⟩) n cap (zs.take n):=by
 refine ⟨by have:=h.hlen;simp;omega,by have:=h.hcap;omega,h.hmax,fun e=>by simp at e,fun h0=>?_⟩
 obtain ⟨b',off',e,hb,hc⟩:=h.hcell (by omega)
 refine ⟨b',off',e,hb,fun i hi=>?_⟩
 rw [hc i (by omega)]
 simp [List.getD,hi]
theorem WF {w:World} {b off len cap n:Nat} {zs:List Int} (h:Ints w (some ⟨b,off,none⟩) len cap zs) (hn:n≤len):Ints w (some ⟨b,off+n,none⟩) (len - n) (cap - n) (zs.drop n):=by
 refine ⟨by have:=h.hlen;simp;omega,by have:=h.hcap;omega,by have:=h.hmax;omega,fun e=>by simp at e,fun h0=>?_⟩
 obtain ⟨b',off',e,hb,hc⟩:=h.hcell (by omega)
 cases e
 refine ⟨b,off+n,rfl,hb,fun i hi=>?_⟩
 rw [Nat.add_assoc,hc (n+i) (by omega)]
 simp [List.getD]
def pW (lt:Nat→Nat) (S:List Nat) (j:Nat):List Nat:=(S.take j).map lt
theorem TJ {lt:Nat→Nat} {S:List Nat} {j:Nat} (h:j<S.length):pW lt S (j+1)=pW lt S j++[lt (S.getD j 0)]:=by
 unfold pW
 rw [List.take_succ_eq_append_getElem h,List.map_append]
 simp [List.getD,List.getElem?_eq_getElem h]
theorem V3 {lt:Nat→Nat} {S:List Nat}:pW lt S S.length=S.map lt:=by simp [pW]
theorem Dv {B:Nat} {w w':World} (h:Below B w w'):Below B w w'.drew:=⟨h.os,h.tape,h.output,h.size,h.block⟩
section
variable (a1 a2 a3 a4 a5:Option Addr) (l1 c1 l2 c2 l3 c3 l4 c4 l5 c5:Nat) (zs:List Int) (zss:List (List Int)) (ss:List Int) (SA SB:List Nat) (s:ByteArray) (w:World)
theorem Vj (hm:s.size≤maxLen) (h1:Ints w a1 l1 c1 zs) (h2:Lists w a2 l2 c2 zss) (h3:Ints w a3 l3 c3 ss) (h4:Ints w a4 l4 c4 (fM SA)) (h5:Ints w a5 l5 c5 (fM SB)) (hG:bi zs zss ss=true) (h:(af s).1=0)
  (hS:pM (af s).2 zs.length (bR zs) (dF zss) (su ss) SA SB) :
  Calls Tryz.prog 44 #[.agg #[.slice a1 l1 c1,.slice a2 l2 c2,.slice a3 l3 c3],.string s,.slice a4 l4 c4,.slice a5 l5 c5] w fun e w'=>e=.returned (.bool true)∧Below w.heap.size w w':=by
 have ba:=(Below.refl w.heap.size w).alloc (Nat.le_refl _) (.cells #[.slice a1 l1 c1,.slice a2 l2 c2,.slice a3 l3 c3] 25)
 have T0:=hid (bK w (.slice a1 l1 c1) (.slice a2 l2 c2) (.slice a3 l3 c3) 25)
 have L1:=h1.hlen
 have L2:=h2.hlen
 have L3:=h3.hlen
 have L4:SA.length=l4:=by rw [←jl];exact h4.hlen
 have L5:SB.length=l5:=by rw [←jl];exact h5.hlen
 obtain ⟨g1,g6,g21,gal,g3,gnu⟩:1≤l1∧l1≤6∧l1=l2∧bI zs=true∧l3≠0∧eH l1 ss=true:=by
  have h9:=hG
  unfold bi at h9
  rw [L1,L2,L3] at h9
  simp only [Bool.and_eq_true,decide_eq_true_eq] at h9
  exact ⟨h9.1.1.1.1.1.1,h9.1.1.1.1.1.2,h9.1.1.1.1.2.symm,h9.1.1.1.2,h9.1.1.2,h9.1.2⟩
 subst g21
 have qQ:=hid gal
 have pR:=hid L1
 have gL:=hid hS
 have q1:0<l5:=by have:=Eg hS;omega
 have q2:l4+l5≤20000:=by have:=hS.len;omega
 have m1:=h1.hcap
 have m2:=h1.hmax
 have n1:=h2.hcap
 have n2:=h2.hmax
 have o1:=h3.hcap
 have o2:=h3.hmax
 have p4:=h4.hcap
 have p4':=h4.hmax
 have p5:=h5.hcap
 have p5':=h5.hmax
 have J1:=hid (h1.below ba)
 have J2:=hid (h2.below ba)
 have J3:=hid (h3.below ba)
 have J4:=hid (h4.below ba)
 have J5:=hid (h5.below ba)
 have HB0:=hid ba
 have xP:=hid hG
 have C:=hid (fun W=>dK s W hm)
 unfold bU at C
 have GD:=hid (fV h)
 have UC:=hid (YZ (fV h) hS (fun i hi=>(by
  have h9:=CX gal (j:=i) hi
  have h8:=gQ.1 h9
  unfold bR
  omega)))
 have ajA:=hid (YY hS)
 obtain ⟨j0,hj0,hjs⟩:=Sq hS
 have HJ0:=hid hjs
 rw [L3] at hj0
 have wV:=hid (fun i (hi:i<(SA++SB).length)=>aca hS i hi)
 have AZ:=hid (fun i (hi:i<(SA++SB).length)=>Vk hS i hi)
 have hAB:(SA++SB).length=l4+l5:=by rw [List.length_append,L4,L5]
 have H4L:=hid L4
 have H5L:=hid L5
 have ET:=hid hAB
 have uK:=hid L3
 generalize af s=p at *
 obtain ⟨p1,ns⟩:=p
 dsimp only at *
 subst h
 have o4:∀ u∈bD SA,u.oneCell'=true:=by rw [←tN];exact qD _
 have o5:∀ u∈bD SB,u.oneCell'=true:=by rw [←tN];exact qD _
 have DT:=hid o4
 have Hf:=hid o5
 obtain ⟨i0,hi,hz0,hz1,hz2⟩:=info_parts Tryz.qE
 clear h1 h2 h3 h4 h5 ba L1 L2 L3 L4 L5 gal gnu hG hm hS hjs hAB o4 o5
 go_enter Tryz.func44,Tryz.ntmps44
 go_wp2_with fail
 refine (C.out _).mono ?_
 rintro e w1 ⟨b1,⟨h0,_⟩ | ⟨_,bs,rfl,hf⟩⟩
 ·exact absurd rfl h0
 have T1:=T0.out.below b1 (by simp)
 have x0:=T1.c0
 have x1:=T1.c1
 have x2:=T1.c2
 have IG:=hid (yc a1 a2 a3 l1 c1 l1 c2 l3 c3 zs zss ss w1 (J1.out.below b1) (J2.out.below b1) (J3.out.below b1))
 rw [xP.out] at IG
 rw [World.size_alloc] at hf
 have wX:=hid hf
 have B1:=hid b1
 have HT1:=hid T1
 clear C b1 hf T1 T0
 go_wp2_with fail
 refine IG.out.mono ?_
 rintro e w2 ⟨rfl,b2⟩
 have HB1:=hid (HB0.out.trans (B1.out.mono HB0.out.size))
 have CB:=hid (wX.out.below b2)
 have hG1:w.heap.size<w1.heap.size:=HT1.out.lt
 have HT2:=hid (HT1.out.below b2 hG1)
 have B2:=hid (B1.out.trans (b2.mono B1.out.size))
 have HB2:=hid (HB0.out.trans (B2.out.mono HB0.out.size))
 have hG2:w.heap.size<w2.heap.size:=HT2.out.lt
 have K1:=hid (J1.out.below B2.out)
 have K2:=hid (J2.out.below B2.out)
 have K3:=hid (J3.out.below B2.out)
 have K4:=hid (J4.out.below B2.out)
 have K5:=hid (J5.out.below B2.out)
 clear IG b2 wX HT1 B1 HB1 J1 J2 J3 J4 J5 x0 x1 x2 HB0 B2 xP
 have e5:((l5:Int)==0)=false:=beq_eq_false_iff_ne.2 (by omega)
 have e6:decide ((20000:Int)<(l4:Int)+(l5:Int))=false:=by simp;omega
 have y0:=HT2.out.c0
 have y1:=HT2.out.c1
 have y2:=HT2.out.c2
 have s4:=K4.out.src
 rw [tN] at s4
 have N4:=K4.out.hnil
 go_wp2_with (at_builtin;go_must (refine lw _ rfl (.tmp 46) (.tmp 47) 22 rfl w2.heap.size 3 i0 (.int .i64 0) 1 8 Tryz.underlying22 hi hz0 hz1 hz2 rfl (by decide) _ 0 [] rfl (World.ownsRow_nil _ _ _ _) a4 l4 c4 (bD SA) rfl ?n1 N4 s4 DT.out ?n2 ?n3 (Nat.le_refl _) ?_))
 case n1=>simp [bD,H4L.out]
 case n2=>unfold maxLen;omega
 case n3=>omega
 intro v1 w3 own3 grow3
 try simp only [Nat.zero_add,List.nil_append] at own3
 have hb3:Below w2.heap.size w2 w3:=(Below.refl _ _).grown grow3 (Nat.le_refl _) (fun k h=>by cases h)
 have s5:=(K5.out.below hb3).src
 rw [tN] at s5
 have N5:=(K5.out.below hb3).hnil
 have hs3:=hb3.size
 have HB3:=hid hb3
 clear hb3 grow3 s4 N4
 go_wp2_with (at_builtin;go_must (refine lw _ rfl (.tmp 49) (.tmp 50) 22 rfl w2.heap.size 3 i0 (.int .i64 0) 1 8 Tryz.underlying22 hi hz0 hz1 hz2 rfl (by decide) _ l4 (bD SA) rfl own3 a5 l5 c5 (bD SB) rfl ?n4 N5 s5 Hf.out ?n5 ?n6 hs3 ?_))
 case n4=>simp [bD,H5L.out]
 case n5=>unfold maxLen;omega
 case n6=>omega
 intro v2 w4 own4 grow4
 have e1:bD SA++bD SB=bD (SA++SB):=by simp [bD]
 rw [e1] at own4
 have B4:=hid (HB3.out.grown grow4 hs3 (fun k h=>(own3.lt k h).1))
 obtain ⟨ao,cap,rfl,hI⟩:=zL own4 ET.out
 obtain ⟨gP,oP,rfl,hgP,hcP⟩:=hI.hcell (by omega)
 have HI:=hid hI
 have HCP:=hid (fun i (hi:i<l4+l5)=>(by
  have h9:=hcP i hi
  have h8:(fM (SA++SB)).getD i 0=(((SA++SB).getD i 0:Nat):Int):=by
   have hl9:i<(SA++SB).length:=by rw [ET.out];exact hi
   unfold fM
   rw [List.getD,List.getD,List.getElem?_map,List.getElem?_eq_getElem hl9]
   rfl
  rw [h8] at h9
  exact h9:w4.cell? ⟨gP,oP+i,none⟩=some (.int .i64 (((SA++SB).getD i 0:Nat):Int))))
 have cm:=hI.hcap
 have cm':=hI.hmax
 have NB:=hid (wu (some ⟨gP,oP,none⟩) (l4+l5) cap l1 (fM (SA++SB)) w4 hI)
 rw [show fM (SA++SB)=(SA++SB).map fun (p:Nat)=>(p:Int) from rfl,show l1=zs.length from pR.out.symm,ajA.out,show zs.length=l1 from pR.out] at NB
 have KM:=hid (HT2.out.below B4.out hG2)
 have z0:=KM.out.c0
 have z1:=KM.out.c1
 have z2:=KM.out.c2
 have K14:=hid (K1.out.below B4.out)
 have K24:=hid (K2.out.below B4.out)
 have K34:=hid (K3.out.below B4.out)
 have K54:=hid (K5.out.below B4.out)
 have KW:=hid (CB.out.below B4.out)
 have HBA:=hid (HB2.out.trans (B4.out.mono (by omega)))
 have hG4:w.heap.size<w4.heap.size:=KM.out.lt
 clear own3 own4 grow4 s5 N5 hI hcP e1 K1 K2 K3 K4 K5 CB HT2 HB2 HB3 B4 y0 y1 y2 hs3
 go_wp2_with fail
 refine NB.out.mono ?_
 rintro e w5 ⟨rfl,rfl⟩
 clear NB
 go_wp2_with fail
 have P0:=HCP.out 0 (by omega)
 rw [Nat.add_zero] at P0
 rw [show ((SA++SB).getD 0 0:Nat)=(SA++SB).getD 0 0 from rfl] at P0
 obtain ⟨bS,oS,eS,hbS,hcS⟩:=K34.out.hcell (by omega)
 subst eS
 have HCS:=hid hcS
 clear hcS
 have HV0:=hid (rfl:(SA++SB).getD 0 0=(SA++SB).getD 0 0)
 go_loopw [14,15] (fun b i wq=>∃ (k:Nat) (bv:Bool),k≤l3∧i=.int .i64 k∧b=.bool bv∧Hid (Below w5.heap.size w5 wq)∧Hid (j0<k→bv=true)) (fun _ i _=>l3 - (intOf i).toNat)
 case atStart=>exact ⟨0,false,Nat.zero_le _,rfl,rfl,hid (Below.refl _ _),hid (fun h=>by omega)⟩
 case round=>
  obtain ⟨k,bv,hk,rfl,rfl,HB,HK⟩:=hrel
  rename World=>W0
  have z2':=(HB.out.cell (p:=⟨w.heap.size,2,none⟩) hG4).trans z2
  have P0':=(HB.out.cell (p:=⟨gP,oP,none⟩) hgP).trans P0
  by_cases hlk:k<l3
  ·have ck:=(HB.out.cell (p:=⟨bS,oS+k,none⟩) hbS).trans (HCS.out k hlk)
   have HJK:Hid (j0=k→ss.getD k 0=(((SA++SB).getD 0 0:Nat):Int)):=hid (fun e=>by rw [←e];exact HJ0.out)
   have i1:(0:Int)≤(k:Int):=by omega
   have i2:(k:Int)<(l3:Int):=by omega
   have i3:(0:Int)<(l4:Int)+(l5:Int):=by omega
   generalize ss.getD k 0=z at *
   cases bv with
   | true=>
    go_wp2_with fail
    go_quiet (fail)
    have HB2:=hid (below_drewN HB.out nq)
    go_wp2_with fail
    go_roundw
    case rel=>exact ⟨k+1,true,by omega,by go_num,rfl,HB2,hid (fun _=>rfl)⟩
    case measure=>simp [intOf];omega
   | false=>
    generalize (SA++SB).getD 0 0=v0 at *
    have HKK:Hid (j0<k+1→(z==(v0:Int))=true):=hid (fun h=>by
     by_cases e:j0=k
     ·rw [HJK.out e];simp
     ·exact absurd (HK.out (by omega)) (by simp))
    go_wp2_with fail
    go_quiet (fail)
    have HB2:=hid (below_drewN HB.out nq)
    go_wp2_with fail
    go_roundw
    case rel=>exact ⟨k+1,(z==(v0:Int)),by omega,by go_num,rfl,HB2,HKK⟩
    case measure=>simp [intOf];omega
  ·obtain rfl:l3=k:=by omega
   obtain rfl:bv=true:=HK.out hj0
   have x0:=(HB.out.cell (p:=⟨w.heap.size,0,none⟩) hG4).trans z0
   have x1:=(HB.out.cell (p:=⟨w.heap.size,1,none⟩) hG4).trans z1
   have x2:=(HB.out.cell (p:=⟨w.heap.size,2,none⟩) hG4).trans z2
   have hs0:=HB.out.size
   have WR:w.heap.size<W0.heap.size:=by omega
   have Ud:gP<W0.heap.size:=by omega
   have M2:=hid (K24.out.below HB.out)
   have HPC:=hid (fun i (hi:i<l4+l5)=>(HB.out.cell (p:=⟨gP,oP+i,none⟩) hgP).trans (HCP.out i hi))
   obtain ⟨bB,oB,eB,hbB,hcB⟩:=K54.out.hcell q1
   subst eB
   have cB:=(HB.out.cell (p:=⟨bB,oB+0,none⟩) hbB).trans (hcB 0 q1)
   rw [Nat.add_zero,show (fM SB).getD 0 0=((SB.headD 0:Nat):Int) by
    cases SB with
    | nil=>rfl
    | cons y ys=>rfl] at cB
   have aja:bB<W0.heap.size:=by omega
   obtain ⟨bL,oL,eL,hbL,hcL⟩:=K14.out.hcell (by omega)
   subst eL
   have aaa:bL<W0.heap.size:=by omega
   have oG:=hid (fun i (hi:i<l1)=>(by
    have h9:=(HB.out.cell (p:=⟨bL,oL+i,none⟩) hbL).trans (hcL i hi)
    have h8:=gQ.1 (CX qQ.out (j:=i) (by rw [pR.out];exact hi))
    unfold bR
    rw [Int.toNat_of_nonneg h8.1]
    exact h9:W0.cell? ⟨bL,oL+i,none⟩=some (.int .i64 ((bR zs i:Nat):Int))))
   have Py:=hid (KW.out.below HB.out)
   have dV:=hid (HBA.out.trans (HB.out.mono (by omega)))
   clear hcB hcL K14 K24 K34 K54 HCS HCP KW HBA HK HB z0 z1 z2 z2' P0 P0' HJ0 HV0 hlk hk hj0
   generalize hGG:w.heap.size=G at *
   go_wp2_with fail
   go_loopw [16,17] (fun v i wq=>∃ (k:Nat) (vL:Value),k≤l4+l5∧vL=v∧i=.int .i64 k∧Hid (wq.ownsRow W0.heap.size 3 1 v k (bD (pW (bR zs) (SA++SB) k)))∧Hid (Below W0.heap.size W0 wq)) (fun _ i _=>l4+l5 - (intOf i).toNat)
   case atStart=>exact ⟨0,_,Nat.zero_le _,rfl,rfl,hid (World.ownsRow_nil _ _ _ _),hid (Below.refl _ _)⟩
   case round=>
    obtain ⟨k,vL,hk,rfl,rfl,HO,HB⟩:=hrel
    rename World=>W1
    have hs1:=HB.out.size
    by_cases hlk:k<l4+l5
    ·have Qx:=(HB.out.cell (p:=⟨G,0,none⟩) WR).trans x0
     have Bb:=(HB.out.cell (p:=⟨G,1,none⟩) WR).trans x1
     have De:=(HB.out.cell (p:=⟨G,2,none⟩) WR).trans x2
     have cB':=(HB.out.cell (p:=⟨bB,oB,none⟩) aja).trans cB
     have ck:=(HB.out.cell (p:=⟨gP,oP+k,none⟩) Ud).trans (HPC.out k hlk)
     have hlA:k<(SA++SB).length:=by rw [ET.out];exact hlk
     have hx:=wV.out k hlA
     rw [pR.out] at hx
     have hE:=AZ.out k hlA
     rw [ET.out] at hE
     have DJ:=hid (TJ (lt:=bR zs) hlA)
     have cL:=(HB.out.cell (p:=⟨bL,oL+(SA++SB).getD k 0,none⟩) aaa).trans (oG.out _ hx)
     have ajV:Hid (k+1<l4+l5→W1.cell? ⟨gP,oP+(k+1),none⟩=some (.int .i64 (((SA++SB).getD (k+1) 0:Nat):Int))):=hid (fun h=>(HB.out.cell (p:=⟨gP,oP+(k+1),none⟩) Ud).trans (HPC.out (k+1) h))
     generalize hxx:(SA++SB).getD k 0=x at *
     generalize hlx:bR zs x=lx at *
     have Rq:=hid hxx
     have HLX:=hid hlx
     clear hxx hlx
     have i1:(0:Int)≤(k:Int):=by omega
     have i2:(k:Int)<(l4:Int)+(l5:Int):=by omega
     have i3:(0:Int)<(l5:Int):=by omega
     have i4:(0:Int)≤(x:Int):=by omega
     have i5:(x:Int)<(l1:Int):=by omega
     by_cases hn:k+1<l4+l5
     ·rw [if_pos hn] at hE
      have ck2:=ajV.out hn
      generalize (SA++SB).getD (k+1) 0=y at *
      have RE:=hid (Bn (some ⟨bL,oL,none⟩) a2 (some ⟨bS,oS,none⟩) l1 c1 l1 c2 l3 c3 zss W1.drew x y (M2.out.below (Dv HB.out)) hx)
      rw [hE] at RE
      have j1:(0:Int)≤(k:Int)+1:=by omega
      have j2:(k:Int)+1<(l4:Int)+(l5:Int):=by omega
      go_wp2_with fail
      go_region_with (go_at_call 82;go_must (refine RE.out.mono ?_;rintro e w7 ⟨rfl,b7⟩))
      all_goals
       have lM:=rH b7
       have fI:=hid (HB.out.trans (lM.mono hs1))
       have zM:=ae HO.out lM
       have Po:=hid zM
       have aiL:=(fI.out.cell (p:=⟨G,0,none⟩) WR).trans x0
       have aaE:=(fI.out.cell (p:=⟨gP,oP+k,none⟩) Ud).trans (HPC.out k hlk)
       rw [show (SA++SB).getD k 0=x from Rq.out] at aaE
       have aaH:=(fI.out.cell (p:=⟨bL,oL+x,none⟩) aaa).trans (oG.out x hx)
       rw [HLX.out] at aaH
       have hs7:=fI.out.size
       clear b7 lM Qx Bb De cB' ck cL HO
       go_wp2_with fail
       go_region_law ((refine step_append_lies _ (by rfl) (.tmp 108) (.tmp 117) 22 (by rfl) W0.heap.size 3 i0 (.int .i64 0) 1 8 Tryz.underlying22 hi hz0 hz1 hz2 rfl (by decide) vL k (bD (pW (bR zs) (SA++SB) k)) (by rfl) (zM.alloc _).drew ⟨w7.heap.size,0,none⟩ 1 1 [.int .i64 lx] (by rfl) (by rfl) (World.news_of_block (cs:=#[.int .i64 lx]) (t:=3) (fr:=(0,0)) (heap_alloc_last w7 _)) (by simp [Value.oneCell']) (by decide) (by unfold maxLen;omega) (by omega) (by simp;omega) _ rfl ?_;intro gg cc w8 hown hgrow hat hlt1))
       all_goals
        have XK:Below W0.heap.size w7 w8:=(below_drewN ((Below.refl W0.heap.size w7).alloc hs7 (.cells #[.int .i64 lx] 3)) 1).grown hgrow (by show W0.heap.size≤(w7.alloc (.cells #[.int .i64 lx] 3)).heap.size;rw [World.size_alloc];omega) (fun k h=>(zM.lt k h).1)
        have e1:bD (pW (bR zs) (SA++SB) k)++[.int .i64 (lx:Nat)]=bD (pW (bR zs) (SA++SB) (k+1)):=by rw [DJ.out];simp [bD]
        rw [e1] at hown
        have HO8:=hid hown
        have zh:=hid (fI.out.trans XK)
        clear hown hgrow hat XK zM fI Po e1
        go_wp2_with fail
        go_roundw
        case rel=>exact ⟨k+1,_,by omega,rfl,by go_num,HO8,zh⟩
        case measure=>simp [intOf];omega
     ·rw [if_neg hn] at hE
      generalize SB.headD 0=y at *
      have RE:=hid (Bn (some ⟨bL,oL,none⟩) a2 (some ⟨bS,oS,none⟩) l1 c1 l1 c2 l3 c3 zss W1.drew x y (M2.out.below (Dv HB.out)) hx)
      rw [hE] at RE
      have j2:decide ((k:Int)+1<(l4:Int)+(l5:Int))=false:=by simp;omega
      go_wp2_with fail
      go_region_with (go_at_call 82;go_must (refine RE.out.mono ?_;rintro e w7 ⟨rfl,b7⟩))
      all_goals
       have lM:=rH b7
       have fI:=hid (HB.out.trans (lM.mono hs1))
       have zM:=ae HO.out lM
       have Po:=hid zM
       have aiL:=(fI.out.cell (p:=⟨G,0,none⟩) WR).trans x0
       have aaE:=(fI.out.cell (p:=⟨gP,oP+k,none⟩) Ud).trans (HPC.out k hlk)
       rw [show (SA++SB).getD k 0=x from Rq.out] at aaE
       have aaH:=(fI.out.cell (p:=⟨bL,oL+x,none⟩) aaa).trans (oG.out x hx)
       rw [HLX.out] at aaH
       have hs7:=fI.out.size
       clear b7 lM Qx Bb De cB' ck cL HO
       go_wp2_with fail
       go_region_law ((refine step_append_lies _ (by rfl) (.tmp 108) (.tmp 117) 22 (by rfl) W0.heap.size 3 i0 (.int .i64 0) 1 8 Tryz.underlying22 hi hz0 hz1 hz2 rfl (by decide) vL k (bD (pW (bR zs) (SA++SB) k)) (by rfl) (zM.alloc _).drew ⟨w7.heap.size,0,none⟩ 1 1 [.int .i64 lx] (by rfl) (by rfl) (World.news_of_block (cs:=#[.int .i64 lx]) (t:=3) (fr:=(0,0)) (heap_alloc_last w7 _)) (by simp [Value.oneCell']) (by decide) (by unfold maxLen;omega) (by omega) (by simp;omega) _ rfl ?_;intro gg cc w8 hown hgrow hat hlt1))
       all_goals
        have XK:Below W0.heap.size w7 w8:=(below_drewN ((Below.refl W0.heap.size w7).alloc hs7 (.cells #[.int .i64 lx] 3)) 1).grown hgrow (by show W0.heap.size≤(w7.alloc (.cells #[.int .i64 lx] 3)).heap.size;rw [World.size_alloc];omega) (fun k h=>(zM.lt k h).1)
        have e1:bD (pW (bR zs) (SA++SB) k)++[.int .i64 (lx:Nat)]=bD (pW (bR zs) (SA++SB) (k+1)):=by rw [DJ.out];simp [bD]
        rw [e1] at hown
        have HO8:=hid hown
        have zh:=hid (fI.out.trans XK)
        clear hown hgrow hat XK zM fI Po e1
        go_wp2_with fail
        go_roundw
        case rel=>exact ⟨k+1,_,by omega,rfl,by go_num,HO8,zh⟩
        case measure=>simp [intOf];omega
    ·obtain rfl:k=l4+l5:=by omega
     have Zy:=HO.out
     rw [←ET.out,V3,ET.out,List.map_append] at Zy
     obtain ⟨ao,capL,rfl,hIL⟩:=zL Zy (by rw [←List.map_append,List.length_map,ET.out])
     obtain ⟨gR,oR,rfl,hgR,_⟩:=hIL.hcell (by omega)
     have hcL:=hIL.hcap
     have amS:=hIL.hmax
     have IA:=WE hIL (n:=l4) (by omega)
     have IB:=WF hIL (n:=l4) (by omega)
     rw [zQ,List.take_left' (by rw [jl,List.length_map,H4L.out])] at IA
     rw [zQ,List.drop_left' (by rw [jl,List.length_map,H4L.out]),show l4+l5 - l4=l5 by omega] at IB
     have h8:∀ x∈SA++SB,bR zs x<8:=fun x hx=>by
      have hx2:=gL.out.V6 x hx
      have h9:=gQ.1 (CX qQ.out (j:=x) hx2)
      unfold bR
      omega
     have OF:=hid (QO (G+1) ns bs (some ⟨gR,oR,none⟩) (some ⟨gR,oR+l4,none⟩) l4 capL l5 (capL - l4) (fM (SA.map (bR zs))) (fM (SB.map (bR zs))) W1.drew ((Py.out.below HB.out).drew) GD.out
      ⟨by rw [jl,List.length_map,H5L.out];exact q1,by rw [jl,jl,List.length_map,List.length_map,H4L.out,H5L.out];exact q2,
       KF (fun x hx=>by obtain ⟨y,hy,rfl⟩:=List.mem_map.1 hx;exact h8 y (List.mem_append_left _ hy)),
       KF (fun x hx=>by obtain ⟨y,hy,rfl⟩:=List.mem_map.1 hx;exact h8 y (List.mem_append_right _ hy))⟩ IA.drew IB.drew)
     unfold ut at OF
     rw [←zQ,TE,jl,List.length_map,←List.map_append,UC.out] at OF
     have uN:=hid (dV.out.trans (HB.out.mono (by omega)))
     have j1:(0:Int)≤(l4:Int):=by omega
     have j2:(l4:Int)≤(capL:Int):=by omega
     have j3:(l4:Int)≤(l4:Int)+(l5:Int):=by omega
     have j4:(l4:Int)+(l5:Int)≤(capL:Int):=by omega
     have j5:¬ capL=l4:=by omega
     have j6:l4<capL:=by omega
     have iP:G≤W1.heap.size:=by omega
     clear Zy hIL IA IB h8 HO HB Py
     go_wp2_with fail
     go_region_with (go_at_call 85;go_must (refine OF.out.mono ?_;rintro e w9 ⟨rfl,b9⟩))
     all_goals
      have KY:=hid (uN.out.trans ((rH b9).mono iP))
      clear b9
      go_wp2_with fail
      go_ret
      exact ⟨rfl,by rw [hGG];exact KY.out⟩
end
theorem Gb {E:Nat→Nat→Prop}:∀ {l m:List Nat} {e:Nat},Goes E (l++m) e→Goes E l (m.headD e)∧Goes E m e
 | [],m,e,h=>⟨trivial,h⟩
 | a::l,m,e,⟨h1,h2⟩=>by
  obtain ⟨h3,h4⟩:=Gb h2
  refine ⟨⟨?_,h3⟩,h4⟩
  have h5:E a ((l++m).headD e):=h1
  rw [qF] at h5
  exact h5
theorem aad {n:Nat} {ed:Nat→Nat→Bool} {st:Nat→Bool} {SA SB:List Nat} (ne:SB≠[]) (hlt:∀ p∈SA++SB,p<n) (hbeg:st ((SA++SB).headD 0)=true) (hgo:Goes (fun a b=>ed a b=true) (SA++SB) (SB.headD 0)):LG n ed st (rowAt SA SB):=by
 have hb:0<SB.length:=List.length_pos_iff.2 ne
 obtain ⟨g1,g2⟩:=Gb hgo
 have hh:SB.headD (SB.headD 0)=SB.headD 0:=by cases SB with
  | nil=>rfl
  | cons b l=>rfl
 rw [hh] at g1
 have hp:=(Fx (cs:=[]) g1 ⟨ne,rfl,g2,fun c hc=>by cases hc⟩).1
 have hin:∀ t,rowAt SA SB t∈SA++SB:=fun t=>by
  unfold rowAt
  by_cases c:t<SA.length
  ·rw [if_pos c,List.getD,List.getElem?_eq_getElem c]
   exact List.mem_append_left _ (List.getElem_mem c)
  ·have c2:(t - SA.length) % SB.length<SB.length:=Nat.mod_lt _ hb
   rw [if_neg c,List.getD,List.getElem?_eq_getElem c2]
   exact List.mem_append_right _ (List.getElem_mem c2)
 have h0:rowAt SA SB 0=(SA++SB).headD 0:=by
  unfold rowAt
  cases SA with
  | nil=>
   cases SB with
   | nil=>simp at hb
   | cons b B=>simp
  | cons a A=>simp
 exact ⟨by rw [h0];exact hbeg,fun t=>⟨hlt _ (hin t),hp t⟩⟩
theorem Zl {lt:Nat→Nat} {SA SB:List Nat} (hb:0<SB.length):(fun t=>lt (rowAt SA SB t))=pg (SA.map lt) (SB.map lt):=by
 funext i
 unfold pg rowAt
 simp only [List.length_map]
 by_cases c:i<SA.length
 ·rw [if_pos c,if_pos c]
  simp [List.getD,List.getElem?_eq_getElem c]
 ·rw [if_neg c,if_neg c]
  have c2:(i - SA.length) % SB.length<SB.length:=Nat.mod_lt _ hb
  simp [List.getD,List.getElem?_eq_getElem c2]
theorem Vi {ns:List Nd} {n:Nat} {lt:Nat→Nat} {ed:Nat→Nat→Bool} {st:Nat→Bool} {SA SB:List Nat} (h:pM ns n lt ed st SA SB):¬ oU ns n lt ed st:=fun hh=>by
 have:=hh _ (aad h.ne h.V6 h.begins h.go)
 rw [Zl (Eg h)] at this
 exact h.adU this
end Go.Proofs.YtjagijohfkffiabGreat
