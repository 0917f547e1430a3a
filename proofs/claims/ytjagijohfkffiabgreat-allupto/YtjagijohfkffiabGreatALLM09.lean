import Derived.Test.YtjagijohfkffiabGreatALLM05
import Derived.Test.YtjagijohfkffiabGreatALLM06
import Derived.Test.YtjagijohfkffiabGreatALLM08
import Derived.Deep.RegionWith
import Derived.RegionTactic
import Derived.BigQuiet
set_option maxHeartbeats 16000000
set_option maxRecDepth 100000
namespace Go.Proofs.YtjagijohfkffiabGreat
open Go.RowKit
set_option linter.unusedVariables false
theorem Za {cs:Array Value} {u v:Value} (h:cs[0]?=some u):(cs.setIfInBounds 0 v).setIfInBounds 0 u=cs:=by
 cases cs with
 | mk l=>
  cases l with
  | nil=>simp at h
  | cons a t=>
   simp at h
   subst h
   simp
theorem Uf {zs:List Int} (h:0<zs.length):((zs.map (Value.int .i64)++[Value.int .i64 77,Value.int .i64 77]).toArray)[0]?=some (.int .i64 (zs.getD 0 0)):=by
 cases zs with
 | nil=>simp at h
 | cons a t=>simp
theorem Sg {w wq W:World} {g:Nat} {cs:Array Value} {t:TypeId} {u v:Value} (hb:Below w.heap.size w wq) (hblk:w.heap[g]?=some (.cells cs t (0,0))) (h0:cs[0]?=some u)
  (ho:W.os=wq.os) (ht:W.tape=wq.tape) (hp:W.output=wq.output) (hh:W.heap=((wq.setCell ⟨g,0,none⟩ v).setCell ⟨g,0,none⟩ u).heap):Below w.heap.size w W:=by
 refine ⟨ho.trans hb.os,ht.trans hb.tape,hp.trans hb.output,by rw [hh];simpa using hb.size,fun q hq=>?_⟩
 rw [hh]
 by_cases e:q=g
 ·subst e
  have h1:=(hb.block q hq).trans hblk
  rw [jI (jI h1 v) u,Za h0,hblk]
 ·rw [Below.heap_setCell _ _ _ _ e,Below.heap_setCell _ _ _ _ e]
  exact hb.block q hq
theorem yK (B G l c:Nat) (a:Option Addr) (zss:List (List Int)) (gs:Nat→Nat) (p1 p2:Nat) (vO:Value) (w0 w:World) (hA:Lists w0 a l c zss) (hb0:Below w0.heap.size w0 w) (hB:w0.heap.size≤B) (hS:kJ w B G l zss gs p1 p2 vO) (Nn:l≤1048576) (hr:∀ i,i<l→(zss.getD i []).length≤1048576) :
  Calls Tryz.prog 9 #[.slice (some ⟨G,0,none⟩) l (l+2),vO,.slice a l c] w fun e w'=>e=.returned (.bool true)∧Below w.heap.size w w':=by
 have hc:=hA.hcap
 have hm:=hA.hmax
 have hI:=hA.below hb0
 have SL:=hid (AA (some ⟨G,0,none⟩) a l (l+2) c zss w (hS.lists (by omega) (fun i hi=>by have:=hr i hi;omega)) hI)
 have HS:=hid hS
 have HA:=hid hA
 have HB0:=hid hb0
 have HR:=hid hr
 obtain ⟨aoO,capO,eO⟩:=ag hS.own
 subst eO
 have hcO:l≤capO∧capO≤9223372036854775807:=by
  rcases hS.own.2 with ⟨e,h0⟩ | ⟨g,cap,cur,e,_,_,h1,h2,_⟩
  ·cases e;omega
  ·cases e;unfold maxLen at h2;omega
 clear hA hb0 hr hS hI
 go_enter Tryz.func9,Tryz.ntmps9
 go_wp2_with fail
 refine SL.out.mono ?_
 rintro e w1 ⟨rfl,nq,rfl⟩
 have HB1:=hid (below_drewN (Below.refl w.heap.size w) nq)
 generalize w.drewN nq=w1 at *
 clear SL
 go_wp2_with fail
 go_loopw [9] (fun i wq=>∃ j:Nat,j≤l∧i=.int .i64 j∧Hid (Below w.heap.size w wq)) (fun i _=>l - (intOf i).toNat)
 case atStart=>exact ⟨0,Nat.zero_le _,rfl,HB1⟩
 case round=>
  clear HB1
  obtain ⟨j,hj,rfl,HB⟩:=hrel
  rename World=>W0
  by_cases hlj:j<l
  ·have hSw:=HS.out.below HB.out
   obtain ⟨gO,eO,hBO,hgO,hcO2⟩:=dH hSw.own (by omega)
   subst eO
   have cO:W0.cell? ⟨gO,j,none⟩=some (Mi zss gs j):=by
    rw [hSw.own.cellAt j (by omega)]
    exact QD hlj
   have cG:=hSw.cell hlj
   obtain ⟨hBg,hSp⟩:=hSw.rows j hlj
   obtain ⟨b,o,e,hb,hcl⟩:=HA.out.hcell (by omega)
   subst e
   obtain ⟨ra,rl,rc,cr0,hri0⟩:=hcl j hlj
   have Oy:=HB0.out.trans (HB.out.mono HB0.out.size)
   have cr:=(Oy.cell (p:=⟨b,o+j,none⟩) hb).trans cr0
   have QX:=hri0.below Oy
   have hrl:=hri0.hlen
   have hrm:=HR.out j hlj
   have hrc:=hri0.hcap
   have hrx:=hri0.hmax
   have hOg:gO≠gs j:=fun e=>by
    have h9:=wz hSw.own hSp
    rw [←e] at h9
    exact h9 rfl
   have hGg:G≠gs j:=fun e=>by
    have h9:=hSw.blk
    rw [e,hSp.blk] at h9
    simp at h9
   have agp:=hid (HS.out.rows j hlj).2
   have Yp:=hid (hSp.fz 0)
   have Yw:=hid (fun (h:0<(zss.getD j []).length)=>hSp.c 0 h)
   unfold Mi at cO cG
   rw [hrl] at cO cG hSp hrm Yw agp
   have NS:=hid (jc (gs j) ra rl rc (zss.getD j []) W0.drew (hSp.same rfl) QX.drew (by omega))
   have HRI:=hid hri0
   have Pw:=hid hgO
   have hgj:=hSp.lt
   have hbW:b<W0.heap.size:=by have:=Oy.size;omega
   have hGW:=rz hSw.blk
   clear hcl hSw hSp QX hri0 cr0
   generalize hgg:gs j=g at *
   have i1:(0:Int)≤(j:Int):=by omega
   have i2:(j:Int)<(l:Int):=by omega
   go_wp2_with fail
   go_region_with (go_at_call 8;go_must (refine NS.out.mono ?_;rintro e w2 ⟨rfl,b2⟩))
   all_goals
    have hb2:=rH b2
    have HB2:=hid (HB.out.trans (hb2.mono HB.out.size))
    have cO2:=(hb2.cell (p:=⟨gO,j,none⟩) hgO).trans cO
    have cG2:=(hb2.cell (p:=⟨G,j,none⟩) hGW).trans cG
    have cr2:=(hb2.cell (p:=⟨b,o+j,none⟩) hbW).trans cr
    have CB:=hid ((hb2.frozen (p:=⟨g,0,none⟩) hgj).trans Yp.out)
    have PG:=hid (fun (h:0<rl)=>(hb2.cell (p:=⟨g,0,none⟩) hgj).trans (Yw.out h))
    have ajX:=hid (Oy.trans (hb2.mono Oy.size))
    clear b2 hb2 cO cG cr NS HB Yp Yw
    by_cases hz:rl=0
    ·have z0:decide ((0:Int)<(rl:Int))=false:=by simp;omega
     have z0n:decide (0<rl)=false:=by simp;omega
     go_wp2_with fail
     go_roundw
     case rel=>exact ⟨j+1,by omega,by go_num,HB2⟩
     case measure=>simp [intOf];omega
    ·have z0:(0:Int)<(rl:Int):=by omega
     have z0n:0<rl:=by omega
     obtain ⟨b',o',e',hb',hc'⟩:=HRI.out.hcell (by omega)
     subst e'
     have ca:=(ajX.out.cell (p:=⟨b',o'+0,none⟩) hb').trans (hc' 0 z0n)
     rw [Nat.add_zero] at ca
     have c0:=PG.out z0n
     have f0:=CB.out
     have hne:b'≠g:=by omega
     have hbg:b≠g:=by omega
     have HU:Hid ((((zss.getD j []).map (Value.int .i64)++[Value.int .i64 77,Value.int .i64 77]).toArray)[0]?=some (.int .i64 ((zss.getD j []).getD 0 0))):=hid (Uf (by rw [hrl];exact z0n))
     have cO3:∀ x,(w2.setCell ⟨g,0,none⟩ x).cell? ⟨gO,j,none⟩=some (Value.slice (some ⟨g,0,none⟩) rl (rl+2)):=fun x=>by rw [World.cell?_setCell_other _ _ _ _ (fun e=>hOg (congrArg Addr.block e).symm)];exact cO2
     have cG3:∀ x,(w2.setCell ⟨g,0,none⟩ x).cell? ⟨G,j,none⟩=some (Value.slice (some ⟨g,0,none⟩) rl (rl+2)):=fun x=>by rw [World.cell?_setCell_other _ _ _ _ (fun e=>hGg (congrArg Addr.block e).symm)];exact cG2
     have Xw:∀ x,(w2.setCell ⟨g,0,none⟩ x).cell? ⟨b,o+j,none⟩=some (Value.slice (some ⟨b',o',none⟩) rl rc):=fun x=>by rw [World.cell?_setCell_other _ _ _ _ (fun e=>hbg (congrArg Addr.block e).symm)];exact cr2
     have ca3:∀ x,(w2.setCell ⟨g,0,none⟩ x).cell? ⟨b',o',none⟩=some (.int .i64 ((zss.getD j []).getD 0 0)):=fun x=>by rw [World.cell?_setCell_other _ _ _ _ (fun e=>hne (congrArg Addr.block e).symm)];exact ca
     generalize (zss.getD j []).getD 0 0=z at *
     have FIN:=hid (fun W=>@Sg w w2 W g _ _ (.int .i64 z) (.int .i64 (78+j)) HB2.out agp.out.blk HU.out)
     clear hc'
     go_wp2_with fail
     go_region
     all_goals
      go_wp2_with fail
      go_roundw
      case rel=>exact ⟨j+1,by omega,by go_num,FIN.out _ rfl rfl rfl rfl⟩
      case measure=>simp [intOf];omega
  ·obtain rfl:l=j:=by omega
   have hSw:=HS.out.below HB.out
   have c1:=hSw.c1
   have c2:=hSw.c2
   have d1:W0.cell? ⟨p1,0,none⟩=some (.int .i64 77):=by rw [ig hSw.q1];rfl
   have d2:W0.cell? ⟨p2,0,none⟩=some (.int .i64 77):=by rw [ig hSw.q2];rfl
   unfold l9 at c1 c2
   have e0:(0:Int)≤(l:Int):=by omega
   have e1:(l:Int)<(l:Int)+2:=by omega
   have e2:(l:Int)+1<(l:Int)+2:=by omega
   have e3:(0:Int)≤(l:Int)+1:=by omega
   have e4:(0:Int)≤(l:Int)+2:=by omega
   clear hSw
   go_wp2_with fail
   go_ret
   exact ⟨rfl,HB.out⟩
theorem Tryz.yf:(Tryz.prog.info? 127).map (fun i=>(i.zero,i.size,i.bytes))=some (some (.pointer none),1,8):=by kernel_rfl
def DD (o:Option (Nat × List Nd)) (F:Nat) (x:Int) (bs:List Nat) (w:World) (e:Ending) (w':World):Prop:=
 (o=none∧e=.returned (.tuple #[.pointer none,.int .i64 x,.bool false])∧Below F w w') ∨
 (∃ a' ns' ext P,o=some (a',ns')∧e=.returned (.tuple #[.pointer (some ⟨P,0,none⟩),.int .i64 (a':Nat),.bool true])∧Fm w' F ns' (bs++ext)∧(bs++ext)[ns'.length - 1]?=some P∧(∀ b∈ext,w.heap.size≤b)∧Below F w w'∧Kp F w w')
def oC (k F:Nat) (s:ByteArray):Prop:=
 ∀ (x:Int) (a:Nat) (ns:List Nd) (bs:List Nat) (w:World),x=(a:Int)→Fm w F ns bs→s.size<a+k→a≤s.size→ns.length≤a→Calls Tryz.prog 72 #[.pointer (some ⟨F,0,none⟩),.string s,.int .i64 x] w (DD (ps k s a ns) F x bs w)
theorem EH {W w1:World} {F:Nat} {ns:List Nd} {bs:List Nat} (hf:Fm W F ns bs) {Q:Obj} {v v':Value} {n0:Nat} {xs:List Value} (own:W.ownsRow (F+1) 127 1 v n0 xs) (hn0:n0=ns.length) (hxs:xs=bs.map kF)
  {P:Nat} (hPF:F<P) (n:Nd) (h1:aP n.op=false→n.l<ns.length) (h2:bz n.op=true→n.r<ns.length) (hP:W.heap[P]?=some (bu bs ns.length n))
  (hown:w1.ownsRow (F+1) 127 1 v' (n0+1) (xs++[kF P])) (hg:(W.alloc Q).grownBy w1 v.ownBlock) :
  ∃ ao' cap',v'=.slice ao' (ns.length+1) cap'∧Fm (w1.setCell ⟨F,0,none⟩ (.slice ao' (ns.length+1) cap')) F (ns++[n]) (bs++[P])∧Kp F W w1∧Below (F+1) W w1:=by
 subst hn0
 subst hxs
 have hF:=hf.rf
 have hk:Kp F W w1:=(Kp.alloc F W Q).trans (Kp.grown (own.alloc Q) hg)
 have hb:Below (F+1) W w1:=((Below.refl _ _).alloc (by omega) _).grown hg (by simp;omega) (fun k h=>(own.lt k h).1)
 obtain ⟨ao',cap',hv⟩:∃ ao' cap',v'=.slice ao' (ns.length+1) cap':=by
  rcases hown.2 with ⟨h,h0⟩ | ⟨g,cap',_,h,_⟩
  ·omega
  ·exact ⟨_,cap',h⟩
 subst hv
 exact ⟨ao',cap',rfl,hf.push hk hb hPF n h1 h2 hP ao' cap' hown,hk,hb⟩
theorem Wm {W:World} {ns:List Nd} {bs:List Nat} {P:Nat} {b:Nat} (hb:aP b=true) (h:W.heap[P]?=some (.cells #[.int .u8 b,.pointer none,.pointer none,.int .i64 ns.length] 204)):W.heap[P]?=some (bu bs ns.length ⟨b,0,0⟩):=by
 rw [h]
 simp [bu,jT,jR,hb,ru hb]
theorem Bz {bs:List Nat} {ns:List Nd} {n:Nd} {P:Nat} (h:bs.length=ns.length):(bs++[P])[(ns++[n]).length - 1]?=some P:=by
 simp [←h]
theorem Qa (k F:Nat) (s:ByteArray) (hs:s.size≤24) (a:Nat) (ns:List Nd) (bs:List Nat) (w:World) (hf:Fm w F ns bs) (hn:ns.length≤a) (hb:aP (bt s a)=true) :
  Calls Tryz.prog 72 #[.pointer (some ⟨F,0,none⟩),.string s,.int .i64 a] w (DD (ps (k+1) s a ns) F a bs w):=by
 have hlt:=iV (QR hb)
 have e1:=hid (nA (k:=k) (ns:=ns) hb)
 have hb2:(s[a]'hlt).toNat=bt s a:=(fJ hlt).symm
 obtain ⟨ao,cap,c0,own⟩:=hf.c0
 have f0:=hf.f0
 have hF:=hf.rf
 obtain ⟨i0,hi,hz0,hz1,hz2⟩:=info_parts Tryz.yf
 have hB:=kV hb
 have HB:=hid hb
 clear hb
 generalize bt s a=b at *
 rcases hB with rfl | rfl | rfl | rfl | rfl
 all_goals
  go_enter Tryz.func72,Tryz.ntmps72
  go_wp2_with (at_builtin;refine wpList_append_own _ rfl (.tmp 160) (.tmp 162) 124 rfl (F+1) 127 i0 (.pointer none) 1 8 Tryz.underlying124 hi hz0 hz1 hz2 rfl (by decide) _ _ _ rfl ((own.alloc _).alloc _) ⟨w.heap.size+1,0,none⟩ 1 1 [kF w.heap.size] rfl rfl ?c1 ?c2 ?c3 ?c4 ?c5 ?_)
  case c1=>intro j u hj;match j,hj with | 0,hj=>simp at hj;subst hj;simp [Addr.add,kF]
  case c2=>intro u hu;simp at hu;subst hu;rfl
  case c3=>unfold maxLen;omega
  case c4=>omega
  case c5=>simp;omega
  intro v' w1 hown hgrow _
  obtain ⟨ao',cap',hv,hf1,hk,hbl⟩:=EH (hf.alloc _) (own.alloc _) rfl rfl (P:=w.heap.size) (by omega) ⟨_,0,0⟩ (fun h=>absurd HB.out (by rw [h];decide)) (fun h=>absurd (ru HB.out) (by rw [h];decide)) (Wm HB.out (heap_alloc_new _ _)) hown hgrow
  subst hv
  have k0:=(hbl.cell (p:=⟨F,0,none⟩) (Nat.lt_succ_self _)).trans ((World.cell?_alloc_past _ _ _ hF).trans c0)
  have g0:=(hbl.frozen (p:=⟨F,0,none⟩) (Nat.lt_succ_self _)).trans ((World.frozen?_alloc_past _ _ _ hF).trans f0)
  have HF:=hid hf1
  have B1:=hid ((((Below.refl F w).alloc (by omega) _).trans (hbl.mono (Nat.le_succ F))).setCell (p:=⟨F,0,none⟩) (Nat.le_refl _) (.slice ao' (ns.length+1) cap'))
  have K1:=hid (((Kp.alloc F w _).trans hk).set (P:=F) (Or.inr rfl) 0 (.slice ao' (ns.length+1) cap'))
  clear hf1 hown hgrow hbl hk c0 f0 own
  go_wp2
  go_ret3
  refine Or.inr ⟨_,_,[w.heap.size],w.heap.size,e1.out,rfl,HF.out,Bz hf.len,?_,B1.out,K1.out⟩
  intro b hb;simp at hb;omega
theorem FI {w:World} {P:Nat} {c0 c1 c2 c3:Value} (h:w.heap[P]?=some (.cells #[c0,c1,c2,c3] 204 (0,0))) :
  w.cell? ⟨P,0,none⟩=some c0∧w.cell? ⟨P,1,none⟩=some c1∧w.cell? ⟨P,2,none⟩=some c2∧w.cell? ⟨P,3,none⟩=some c3:=by
 refine ⟨?_,?_,?_,?_⟩ <;> (rw [cell_of_row w P _ _ _ _ h];rfl)
theorem kT {c:Array Value}:∀ c',(Obj.cells c 204 (0,0))≠.cells c' 127 (0,0):=by intro c' h;simp at h
theorem ZC {w1:World} {F P L b:Nat} {n1:List Nd} {bs:List Nat} (hf:Fm w1 F n1 bs) (hP:w1.heap[P]?=some (.cells #[.int .u8 b,.pointer none,.pointer none,.int .i64 0] 204 (0,0)))
  (yM:P ∉ bs) (hPF:P≠F) (hL:bs[n1.length - 1]?=some L) (hb:dB b=true) :
  Fm ((w1.setCell ⟨P,1,none⟩ (.pointer (some ⟨L,0,none⟩))).setCell ⟨P,3,none⟩ (.int .i64 n1.length)) F n1 bs ∧
  ((w1.setCell ⟨P,1,none⟩ (.pointer (some ⟨L,0,none⟩))).setCell ⟨P,3,none⟩ (.int .i64 n1.length)).heap[P]?=some (bu bs n1.length ⟨b,n1.length - 1,0⟩):=by
 have h1:=heap_setCell_same w1 P 1 _ _ (.pointer (some ⟨L,0,none⟩)) hP
 have h2:=heap_setCell_same _ P 3 _ _ (.int .i64 n1.length) h1
 have f1:=hf.set yM hPF hP kT 1 (.pointer (some ⟨L,0,none⟩))
 refine ⟨f1.set yM hPF h1 kT 3 _,h2.trans ?_⟩
 simp [bu,jT,jR,jw hb,jX hb,List.getD,hL]
theorem SV (k F:Nat) (s:ByteArray) (hs:s.size≤24) (H:oC k F s) (a:Nat) (ns:List Nd) (bs:List Nat) (w:World) (hf:Fm w F ns bs) (hk:s.size<a+(k+1)) (hn:ns.length≤a) (hb:dB (bt s a)=true) :
  Calls Tryz.prog 72 #[.pointer (some ⟨F,0,none⟩),.string s,.int .i64 a] w (DD (ps (k+1) s a ns) F a bs w):=by
 have hlt:=iV (ad5 hb)
 have e1:=hid (qY (k:=k) (ns:=ns) hb)
 have hb2:(s[a]'hlt).toNat=bt s a:=(fJ hlt).symm
 have hF:=hf.rf
 obtain ⟨i0,hi,hz0,hz1,hz2⟩:=info_parts Tryz.yf
 have hB:=mR hb
 have HB:=hid hb
 clear hb
 generalize bt s a=b at *
 have C:=fun W (h:Fm W F ns bs)=>H (a+1) (a+1) ns bs W (by omega) h (by omega) (by omega) (by omega)
 cases e0:ps k s (a+1) ns with
 | none=>
  have e2:Hid (ps (k+1) s a ns=none):=hid (by rw [e1.out];simp [tY,e0])
  have E0:=hid e0
  clear e0
  rcases hB with rfl | rfl | rfl | rfl
  all_goals
   go_enter Tryz.func72,Tryz.ntmps72
   go_wp2_with fail
   refine (C _ (hf.alloc _)).mono ?_
   rintro e w1 (⟨_,rfl,hbl⟩ | ⟨a',ns',_,_,h,_⟩)
   ·go_wp2_with fail
    go_ret3
    exact Or.inl ⟨e2.out,rfl,((Below.refl F w).alloc (by omega) _).trans hbl⟩
   ·rw [E0.out] at h;cases h
 | some x=>
  obtain ⟨a1,n1⟩:=x
  have e2:Hid (ps (k+1) s a ns=some (a1,n1++[⟨b,n1.length - 1,0⟩])):=hid (by rw [e1.out];simp [tY,e0])
  have g1:=dJ k s _ ns a1 n1 e0
  have E0:=hid e0
  clear e0
  rcases hB with rfl | rfl | rfl | rfl
  all_goals
   go_enter Tryz.func72,Tryz.ntmps72
   go_wp2_with fail
   refine (C _ (hf.alloc _)).mono ?_
   rintro e w1 (⟨h,_⟩ | ⟨a',ns',ext,L,h,rfl,hf1,hL,hext,hbl,hkp⟩)
   ·rw [E0.out] at h;cases h
   rw [E0.out] at h
   simp only [Option.some.injEq,Prod.mk.injEq] at h
   obtain ⟨rfl,rfl⟩:=h
   have hP:=hkp w.heap.size _ _ (heap_alloc_new _ _) (by decide) (by omega)
   obtain ⟨p0,p1,p2,p3⟩:=FI hP
   have q:∀ j,w1.frozen? ⟨w.heap.size,j,none⟩=false:=fun j=>frozen_of_row _ _ _ _ _ hP
   have yM:w.heap.size ∉ bs++ext:=fun hm=>(List.mem_append.1 hm).elim (fun h=>by have:=(hf.lt _ h).1;omega) (fun h=>by have:=hext _ h;simp at this;omega)
   obtain ⟨bs1,hbs⟩:∃ bs1,bs1=bs++ext:=⟨_,rfl⟩
   rw [←hbs] at hf1 hL yM
   have eF:=hid hbs
   clear hbs
   obtain ⟨hfW,Dn⟩:=ZC hf1 hP yM (by omega) hL HB.out
   obtain ⟨ao,cap,c0,_⟩:=hf1.c0
   have f0:=hf1.f0
   have hsz:w.heap.size+1≤w1.heap.size:=by have:=hbl.size;simp at this;omega
   have hF1:=hf1.rf
   have HW:=hid hfW
   have own:=(hf1.own c0).2
   have MI:=hid (sM (sM own hP kT 1 (.pointer (some ⟨L,0,none⟩))) (heap_setCell_same w1 w.heap.size 1 _ _ (.pointer (some ⟨L,0,none⟩)) hP) kT 3 (.int .i64 n1.length))
   have HPW:=hid Dn
   have hlen:=hf1.len
   clear hf1 hP hfW Dn own
   go_wp2_with (at_builtin;refine wpList_append_own _ rfl (.tmp 160) (.tmp 162) 124 rfl (F+1) 127 i0 (.pointer none) 1 8 Tryz.underlying124 hi hz0 hz1 hz2 rfl (by decide) _ _ _ rfl (MI.out.alloc _) ⟨w1.heap.size,0,none⟩ 1 1 [kF w.heap.size] rfl rfl ?c1 ?c2 ?c3 ?c4 ?c5 ?_)
   case c1=>intro j u hj;match j,hj with | 0,hj=>simp at hj;subst hj;simp [Addr.add,kF,World.cell?_alloc_here]
   case c2=>intro u hu;simp at hu;subst hu;rfl
   case c3=>unfold maxLen;omega
   case c4=>omega
   case c5=>simp;omega
   intro v' w2 hown hgrow _
   obtain ⟨ao',cap',hv,hf2,hk2,hb2⟩:=EH HW.out MI.out rfl rfl (P:=w.heap.size) (by omega) ⟨_,n1.length - 1,0⟩ (fun _=>by show n1.length - 1<n1.length;omega) (fun h=>absurd (jX HB.out) (by rw [h];decide)) HPW.out hown hgrow
   subst hv
   have k0:w2.cell? ⟨F,0,none⟩=some (.slice ao n1.length cap):=(hb2.cell (p:=⟨F,0,none⟩) (Nat.lt_succ_self _)).trans ((World.cell?_setCell_other _ _ _ _ (fun e=>by have:=congrArg Addr.block e;simp at this;omega)).trans ((World.cell?_setCell_other _ _ _ _ (fun e=>by have:=congrArg Addr.block e;simp at this;omega)).trans c0))
   have g0:w2.frozen? ⟨F,0,none⟩=false:=(hb2.frozen (p:=⟨F,0,none⟩) (Nat.lt_succ_self _)).trans (by rw [World.frozen?_setCell,World.frozen?_setCell];exact f0)
   have HF:=hid hf2
   have B1:=hid (((((((Below.refl F w).alloc (by omega) _).trans hbl).setCell (p:=⟨w.heap.size,1,none⟩) (by show F≤w.heap.size;omega) _).setCell (p:=⟨w.heap.size,3,none⟩) (by show F≤w.heap.size;omega) _).trans (hb2.mono (Nat.le_succ F))).setCell (p:=⟨F,0,none⟩) (Nat.le_refl _) (.slice ao' (n1.length+1) cap'))
   have K1:=hid ((((((Kp.alloc F w _).trans hkp).set (P:=w.heap.size) (Or.inl (Nat.le_refl _)) 1 _).set (P:=w.heap.size) (Or.inl (Nat.le_refl _)) 3 _).trans hk2).set (P:=F) (Or.inr rfl) 0 (.slice ao' (n1.length+1) cap'))
   clear hf2 hown hgrow hb2 hk2 c0 f0 p0 p1 p2 p3 q
   go_wp2
   go_ret3
   refine Or.inr ⟨_,_,ext++[w.heap.size],w.heap.size,e2.out,rfl,?_,?_,?_,B1.out,K1.out⟩
   ·rw [←List.append_assoc,←eF.out];exact HF.out
   ·rw [←List.append_assoc,←eF.out];exact Bz hlen
   ·intro b hb
    rcases List.mem_append.1 hb with hb | hb
    ·have:=hext _ hb;simp at this;omega
    ·simp at hb;omega
theorem YJ {w1:World} {F P L R b c k:Nat} {n1:List Nd} {bs:List Nat} (hf:Fm w1 F n1 bs) (hP:w1.heap[P]?=some (.cells #[.int .u8 c,.pointer none,.pointer none,.int .i64 0] 204 (0,0)))
  (yM:P ∉ bs) (hPF:P≠F) (hL:bs[k]?=some L) (hR:bs[n1.length - 1]?=some R) (hb:bz b=true) :
  Fm ((((w1.setCell ⟨P,0,none⟩ (.int .u8 b)).setCell ⟨P,1,none⟩ (.pointer (some ⟨L,0,none⟩))).setCell ⟨P,2,none⟩ (.pointer (some ⟨R,0,none⟩))).setCell ⟨P,3,none⟩ (.int .i64 n1.length)) F n1 bs ∧
  ((((w1.setCell ⟨P,0,none⟩ (.int .u8 b)).setCell ⟨P,1,none⟩ (.pointer (some ⟨L,0,none⟩))).setCell ⟨P,2,none⟩ (.pointer (some ⟨R,0,none⟩))).setCell ⟨P,3,none⟩ (.int .i64 n1.length)).heap[P]?=some (bu bs n1.length ⟨b,k,n1.length - 1⟩) ∧
  ∀ v n xs,w1.ownsRow (F+1) 127 1 v n xs→((((w1.setCell ⟨P,0,none⟩ (.int .u8 b)).setCell ⟨P,1,none⟩ (.pointer (some ⟨L,0,none⟩))).setCell ⟨P,2,none⟩ (.pointer (some ⟨R,0,none⟩))).setCell ⟨P,3,none⟩ (.int .i64 n1.length)).ownsRow (F+1) 127 1 v n xs:=by
 have h0:=heap_setCell_same w1 P 0 _ _ (.int .u8 b) hP
 have h1:=heap_setCell_same _ P 1 _ _ (.pointer (some ⟨L,0,none⟩)) h0
 have h2:=heap_setCell_same _ P 2 _ _ (.pointer (some ⟨R,0,none⟩)) h1
 have h3:=heap_setCell_same _ P 3 _ _ (.int .i64 n1.length) h2
 have f0:=hf.set yM hPF hP kT 0 (.int .u8 b)
 have f1:=f0.set yM hPF h0 kT 1 (.pointer (some ⟨L,0,none⟩))
 have f2:=f1.set yM hPF h1 kT 2 (.pointer (some ⟨R,0,none⟩))
 refine ⟨f2.set yM hPF h2 kT 3 _,h3.trans ?_,?_⟩
 ·simp [bu,jT,jR,lG hb,hb,List.getD,hL,hR]
 ·intro v n xs own
  exact sM (sM (sM (sM own hP kT 0 _) h0 kT 1 _) h1 kT 2 _) h2 kT 3 _
theorem Fv (k F:Nat) (s:ByteArray) (hs:s.size≤24) (H:oC k F s) (a:Nat) (ns:List Nd) (bs:List Nat) (w:World) (hf:Fm w F ns bs) (hk:s.size<a+(k+1)) (hn:ns.length≤a) (hb:bt s a=40) (e0:ps k s (a+1) ns=none):Calls Tryz.prog 72 #[.pointer (some ⟨F,0,none⟩),.string s,.int .i64 a] w (DD (ps (k+1) s a ns) F a bs w):=by
   have hlt:=iV (s:=s) (i:=a) (by omega)
   have e1:=hid (nS (k:=k) (ns:=ns) hb)
   have hb2:(s[a]'hlt).toNat=40:=(fJ hlt).symm.trans hb
   have hF:=hf.rf
   have C:=fun W (h:Fm W F ns bs)=>H (a+1) (a+1) ns bs W (by omega) h (by omega) (by omega) (by omega)
   have e2:Hid (ps (k+1) s a ns=none):=hid (by rw [e1.out];simp [ps2,e0])
   have E0:=hid e0
   clear e0 hb
   go_enter Tryz.func72,Tryz.ntmps72
   go_wp2_with fail
   refine (C _ (hf.alloc _)).mono ?_
   rintro e w1 (⟨_,rfl,hbl⟩ | ⟨a',ns',_,_,h,_⟩)
   ·go_wp2_with fail
    go_ret3
    exact Or.inl ⟨e2.out,rfl,((Below.refl F w).alloc (by omega) _).trans hbl⟩
   ·rw [E0.out] at h;cases h
theorem Fu (k F:Nat) (s:ByteArray) (hs:s.size≤24) (H:oC k F s) (a:Nat) (ns:List Nd) (bs:List Nat) (w:World) (hf:Fm w F ns bs) (hk:s.size<a+(k+1)) (hn:ns.length≤a) (hb:bt s a=40) (a1:Nat) (n1:List Nd) (e0:ps k s (a+1) ns=some (a1,n1)) (b4:bz (bt s a1)=false):Calls Tryz.prog 72 #[.pointer (some ⟨F,0,none⟩),.string s,.int .i64 a] w (DD (ps (k+1) s a ns) F a bs w):=by
   have hlt:=iV (s:=s) (i:=a) (by omega)
   have e1:=hid (nS (k:=k) (ns:=ns) hb)
   have hb2:(s[a]'hlt).toNat=40:=(fJ hlt).symm.trans hb
   have hF:=hf.rf
   have g1:=dJ k s _ ns a1 n1 e0
   have C:=fun W (h:Fm W F ns bs)=>H (a+1) (a+1) ns bs W (by omega) h (by omega) (by omega) (by omega)
   have e2:Hid (ps (k+1) s a ns=none):=hid (by rw [e1.out];simp [ps2,e0,b4])
   have E0:=hid e0
   clear e0 hb
   by_cases hl:a1<s.size
   ·have hx:=fJ hl
    have k38:(((s[a1]'hl).toNat:Int)!=38)=true:=by rw [bne_iff_ne];intro h;rw [hx,show (s[a1]'hl).toNat=38 by omega] at b4;revert b4;decide
    have aiO:(((s[a1]'hl).toNat:Int)!=124)=true:=by rw [bne_iff_ne];intro h;rw [hx,show (s[a1]'hl).toNat=124 by omega] at b4;revert b4;decide
    have k85:(((s[a1]'hl).toNat:Int)!=85)=true:=by rw [bne_iff_ne];intro h;rw [hx,show (s[a1]'hl).toNat=85 by omega] at b4;revert b4;decide
    have k82:(((s[a1]'hl).toNat:Int)!=82)=true:=by rw [bne_iff_ne];intro h;rw [hx,show (s[a1]'hl).toNat=82 by omega] at b4;revert b4;decide
    have hd:decide ((s.size:Int)≤(a1:Int))=false:=by simp;omega
    clear hx b4
    go_enter Tryz.func72,Tryz.ntmps72
    go_wp2_with fail
    refine (C _ (hf.alloc _)).mono ?_
    rintro e w1 (⟨h,_⟩ | ⟨a',ns',ext,L,h,rfl,hf1,hL,hext,hbl,hkp⟩)
    ·rw [E0.out] at h;cases h
    rw [E0.out] at h
    simp only [Option.some.injEq,Prod.mk.injEq] at h
    obtain ⟨rfl,rfl⟩:=h
    go_wp2_with fail
    go_ret3
    exact Or.inl ⟨e2.out,rfl,((Below.refl F w).alloc (by omega) _).trans hbl⟩
   ·have hd:decide ((s.size:Int)≤(a1:Int))=true:=by simp;omega
    clear b4
    go_enter Tryz.func72,Tryz.ntmps72
    go_wp2_with fail
    refine (C _ (hf.alloc _)).mono ?_
    rintro e w1 (⟨h,_⟩ | ⟨a',ns',ext,L,h,rfl,hf1,hL,hext,hbl,hkp⟩)
    ·rw [E0.out] at h;cases h
    rw [E0.out] at h
    simp only [Option.some.injEq,Prod.mk.injEq] at h
    obtain ⟨rfl,rfl⟩:=h
    go_wp2_with fail
    go_ret3
    exact Or.inl ⟨e2.out,rfl,((Below.refl F w).alloc (by omega) _).trans hbl⟩
theorem Eh (k F:Nat) (s:ByteArray) (hs:s.size≤24) (H:oC k F s) (a:Nat) (ns:List Nd) (bs:List Nat) (w:World) (hf:Fm w F ns bs) (hk:s.size<a+(k+1)) (hn:ns.length≤a) (hb:bt s a=40) (a1:Nat) (n1:List Nd) (e0:ps k s (a+1) ns=some (a1,n1)) (b4:bz (bt s a1)=true) (e3:ps k s (a1+1) n1=none):Calls Tryz.prog 72 #[.pointer (some ⟨F,0,none⟩),.string s,.int .i64 a] w (DD (ps (k+1) s a ns) F a bs w):=by
  have hlt:=iV (s:=s) (i:=a) (by omega)
  have hlt1:=iV (yA b4)
  have hd:decide ((s.size:Int)≤(a1:Int))=false:=by simp;omega
  have e1:=hid (nS (k:=k) (ns:=ns) hb)
  have hb2:(s[a]'hlt).toNat=40:=(fJ hlt).symm.trans hb
  have hb4:(s[a1]'hlt1).toNat=bt s a1:=(fJ hlt1).symm
  have hF:=hf.rf
  have g1:=dJ k s _ ns a1 n1 e0
  have C:=fun W (h:Fm W F ns bs)=>H (a+1) (a+1) ns bs W (by omega) h (by omega) (by omega) (by omega)
  have e2:Hid (ps (k+1) s a ns=none):=hid (by rw [e1.out];simp [ps2,e0,b4,e3])
  have E0:=hid e0
  have E3:=hid e3
  have hB:=jL b4
  clear e0 hb b4 e3
  generalize bt s a1=b at *
  rcases hB with rfl | rfl | rfl | rfl
  all_goals
   go_enter Tryz.func72,Tryz.ntmps72
   go_wp2_with fail
   refine (C _ (hf.alloc _)).mono ?_
   rintro e w1 (⟨h,_⟩ | ⟨a',ns',ext,L,h,rfl,hf1,hL,hext,hbl,hkp⟩)
   ·rw [E0.out] at h;cases h
   rw [E0.out] at h
   simp only [Option.some.injEq,Prod.mk.injEq] at h
   obtain ⟨rfl,rfl⟩:=h
   obtain ⟨bs1,hbs⟩:∃ bs1,bs1=bs++ext:=⟨_,rfl⟩
   rw [←hbs] at hf1 hL
   have eF:=hid hbs
   clear hbs
   have C2:=H (a1+1) (a1+1) n1 bs1 w1 (by omega) hf1 (by omega) (by omega) (by omega)
   go_wp2_with fail
   refine C2.mono ?_
   rintro e w2 (⟨_,rfl,hbl2⟩ | ⟨a',ns',_,_,h,_⟩)
   ·go_wp2_with fail
    go_ret3
    exact Or.inl ⟨e2.out,rfl,(((Below.refl F w).alloc (by omega) _).trans hbl).trans hbl2⟩
   ·rw [E3.out] at h;cases h
theorem Fs (k F:Nat) (s:ByteArray) (hs:s.size≤24) (H:oC k F s) (a:Nat) (ns:List Nd) (bs:List Nat) (w:World) (hf:Fm w F ns bs) (hk:s.size<a+(k+1)) (hn:ns.length≤a) (hb:bt s a=40) (a1 a2:Nat) (n1 n2:List Nd) (e0:ps k s (a+1) ns=some (a1,n1)) (b4:bz (bt s a1)=true) (e3:ps k s (a1+1) n1=some (a2,n2)) (b5:¬ bt s a2=41) (hl:a2<s.size):Calls Tryz.prog 72 #[.pointer (some ⟨F,0,none⟩),.string s,.int .i64 a] w (DD (ps (k+1) s a ns) F a bs w):=by
  have hlt:=iV (s:=s) (i:=a) (by omega)
  have hlt1:=iV (yA b4)
  have hd:decide ((s.size:Int)≤(a1:Int))=false:=by simp;omega
  have e1:=hid (nS (k:=k) (ns:=ns) hb)
  have hb2:(s[a]'hlt).toNat=40:=(fJ hlt).symm.trans hb
  have hb4:(s[a1]'hlt1).toNat=bt s a1:=(fJ hlt1).symm
  have hF:=hf.rf
  have g1:=dJ k s _ ns a1 n1 e0
  have g2:=dJ k s _ n1 a2 n2 e3
  have C:=fun W (h:Fm W F ns bs)=>H (a+1) (a+1) ns bs W (by omega) h (by omega) (by omega) (by omega)
  have e2:Hid (ps (k+1) s a ns=none):=hid (by rw [e1.out];simp [ps2,e0,b4,e3,b5])
  have E0:=hid e0
  have E3:=hid e3
  have hB:=jL b4
  have hb5:a2<s.size→bt s a2≠41:=fun _=>b5
  clear e0 hb b4 e3 b5
  generalize bt s a1=b at *
  have hx:=fJ hl
  have k41:(((s[a2]'hl).toNat:Int)!=41)=true:=by rw [bne_iff_ne];have:=hb5 hl;omega
  have hd2:decide ((s.size:Int)≤(a2:Int))=false:=by simp;omega
  clear hx hb5
  rcases hB with rfl | rfl | rfl | rfl
  all_goals
   go_enter Tryz.func72,Tryz.ntmps72
   go_wp2_with fail
   refine (C _ (hf.alloc _)).mono ?_
   rintro e w1 (⟨h,_⟩ | ⟨a',ns',ext,L,h,rfl,hf1,hL,hext,hbl,hkp⟩)
   ·rw [E0.out] at h;cases h
   rw [E0.out] at h
   simp only [Option.some.injEq,Prod.mk.injEq] at h
   obtain ⟨rfl,rfl⟩:=h
   obtain ⟨bs1,hbs⟩:∃ bs1,bs1=bs++ext:=⟨_,rfl⟩
   rw [←hbs] at hf1 hL
   have eF:=hid hbs
   clear hbs
   have C2:=H (a1+1) (a1+1) n1 bs1 w1 (by omega) hf1 (by omega) (by omega) (by omega)
   go_wp2_with fail
   refine C2.mono ?_
   rintro e w2 (⟨h,_⟩ | ⟨a',ns',ext2,R,h,rfl,hf2,hR,hext2,hbl2,hkp2⟩)
   ·rw [E3.out] at h;cases h
   rw [E3.out] at h
   simp only [Option.some.injEq,Prod.mk.injEq] at h
   obtain ⟨rfl,rfl⟩:=h
   go_wp2_with fail
   go_ret3
   exact Or.inl ⟨e2.out,rfl,(((Below.refl F w).alloc (by omega) _).trans hbl).trans hbl2⟩
theorem Ii (k F:Nat) (s:ByteArray) (hs:s.size≤24) (H:oC k F s) (a:Nat) (ns:List Nd) (bs:List Nat) (w:World) (hf:Fm w F ns bs) (hk:s.size<a+(k+1)) (hn:ns.length≤a) (hb:bt s a=40) (a1 a2:Nat) (n1 n2:List Nd) (e0:ps k s (a+1) ns=some (a1,n1)) (b4:bz (bt s a1)=true) (e3:ps k s (a1+1) n1=some (a2,n2)) (b5:¬ bt s a2=41) (hl:¬ a2<s.size):Calls Tryz.prog 72 #[.pointer (some ⟨F,0,none⟩),.string s,.int .i64 a] w (DD (ps (k+1) s a ns) F a bs w):=by
  have hlt:=iV (s:=s) (i:=a) (by omega)
  have hlt1:=iV (yA b4)
  have hd:decide ((s.size:Int)≤(a1:Int))=false:=by simp;omega
  have e1:=hid (nS (k:=k) (ns:=ns) hb)
  have hb2:(s[a]'hlt).toNat=40:=(fJ hlt).symm.trans hb
  have hb4:(s[a1]'hlt1).toNat=bt s a1:=(fJ hlt1).symm
  have hF:=hf.rf
  have g1:=dJ k s _ ns a1 n1 e0
  have g2:=dJ k s _ n1 a2 n2 e3
  have C:=fun W (h:Fm W F ns bs)=>H (a+1) (a+1) ns bs W (by omega) h (by omega) (by omega) (by omega)
  have e2:Hid (ps (k+1) s a ns=none):=hid (by rw [e1.out];simp [ps2,e0,b4,e3,b5])
  have E0:=hid e0
  have E3:=hid e3
  have hB:=jL b4
  have hb5:a2<s.size→bt s a2≠41:=fun _=>b5
  clear e0 hb b4 e3 b5
  generalize bt s a1=b at *
  have hd2:decide ((s.size:Int)≤(a2:Int))=true:=by simp;omega
  clear hb5
  rcases hB with rfl | rfl | rfl | rfl
  all_goals
   go_enter Tryz.func72,Tryz.ntmps72
   go_wp2_with fail
   refine (C _ (hf.alloc _)).mono ?_
   rintro e w1 (⟨h,_⟩ | ⟨a',ns',ext,L,h,rfl,hf1,hL,hext,hbl,hkp⟩)
   ·rw [E0.out] at h;cases h
   rw [E0.out] at h
   simp only [Option.some.injEq,Prod.mk.injEq] at h
   obtain ⟨rfl,rfl⟩:=h
   obtain ⟨bs1,hbs⟩:∃ bs1,bs1=bs++ext:=⟨_,rfl⟩
   rw [←hbs] at hf1 hL
   have eF:=hid hbs
   clear hbs
   have C2:=H (a1+1) (a1+1) n1 bs1 w1 (by omega) hf1 (by omega) (by omega) (by omega)
   go_wp2_with fail
   refine C2.mono ?_
   rintro e w2 (⟨h,_⟩ | ⟨a',ns',ext2,R,h,rfl,hf2,hR,hext2,hbl2,hkp2⟩)
   ·rw [E3.out] at h;cases h
   rw [E3.out] at h
   simp only [Option.some.injEq,Prod.mk.injEq] at h
   obtain ⟨rfl,rfl⟩:=h
   go_wp2_with fail
   go_ret3
   exact Or.inl ⟨e2.out,rfl,(((Below.refl F w).alloc (by omega) _).trans hbl).trans hbl2⟩
theorem Ih (k F:Nat) (s:ByteArray) (hs:s.size≤24) (H:oC k F s) (a:Nat) (ns:List Nd) (bs:List Nat) (w:World) (hf:Fm w F ns bs) (hk:s.size<a+(k+1)) (hn:ns.length≤a) (hb:bt s a=40) (a1 a2:Nat) (n1 n2:List Nd) (e0:ps k s (a+1) ns=some (a1,n1)) (b4:bz (bt s a1)=true) (e3:ps k s (a1+1) n1=some (a2,n2)) (b5:bt s a2=41):Calls Tryz.prog 72 #[.pointer (some ⟨F,0,none⟩),.string s,.int .i64 a] w (DD (ps (k+1) s a ns) F a bs w):=by
  have hlt:=iV (s:=s) (i:=a) (by omega)
  have hlt1:=iV (yA b4)
  have hlt2:=iV (s:=s) (i:=a2) (by omega)
  have hd:decide ((s.size:Int)≤(a1:Int))=false:=by simp;omega
  have hd2:decide ((s.size:Int)≤(a2:Int))=false:=by simp;omega
  have e1:=hid (nS (k:=k) (ns:=ns) hb)
  have hb2:(s[a]'hlt).toNat=40:=(fJ hlt).symm.trans hb
  have hb4:(s[a1]'hlt1).toNat=bt s a1:=(fJ hlt1).symm
  have hb5:(s[a2]'hlt2).toNat=41:=(fJ hlt2).symm.trans b5
  have hF:=hf.rf
  have g1:=dJ k s _ ns a1 n1 e0
  have g2:=dJ k s _ n1 a2 n2 e3
  have C:=fun W (h:Fm W F ns bs)=>H (a+1) (a+1) ns bs W (by omega) h (by omega) (by omega) (by omega)
  have e2:Hid (ps (k+1) s a ns=some (a2+1,n2++[⟨bt s a1,n1.length - 1,n2.length - 1⟩])):=hid (by rw [e1.out];simp [ps2,e0,b4,e3,b5])
  have E0:=hid e0
  have E3:=hid e3
  have hB:=jL b4
  have HB:=hid b4
  obtain ⟨i0,hi,hz0,hz1,hz2⟩:=info_parts Tryz.yf
  clear e0 hb b4 e3 b5
  generalize bt s a1=b at *
  rcases hB with rfl | rfl | rfl | rfl
  all_goals
   go_enter Tryz.func72,Tryz.ntmps72
   go_wp2_with fail
   refine (C _ (hf.alloc _)).mono ?_
   rintro e w1 (⟨h,_⟩ | ⟨a',ns',ext,L,h,rfl,hf1,hL,hext,hbl,hkp⟩)
   ·rw [E0.out] at h;cases h
   rw [E0.out] at h
   simp only [Option.some.injEq,Prod.mk.injEq] at h
   obtain ⟨rfl,rfl⟩:=h
   have hP0:=hkp w.heap.size _ _ (heap_alloc_new _ _) (by decide) (by omega)
   have hsz:w.heap.size+1≤w1.heap.size:=by have:=hbl.size;simp at this;omega
   have aeJ:w.heap.size ∉ bs++ext:=fun hm=>(List.mem_append.1 hm).elim (fun h=>by have:=(hf.lt _ h).1;omega) (fun h=>by have:=hext _ h;simp at this;omega)
   obtain ⟨bs1,hbs⟩:∃ bs1,bs1=bs++ext:=⟨_,rfl⟩
   rw [←hbs] at hf1 hL aeJ
   have eF:=hid hbs
   clear hbs
   have C2:=H (a1+1) (a1+1) n1 bs1 w1 (by omega) hf1 (by omega) (by omega) (by omega)
   go_wp2_with fail
   refine C2.mono ?_
   rintro e w2 (⟨h,_⟩ | ⟨a',ns',ext2,R,h,rfl,hf2,hR,hext2,hbl2,hkp2⟩)
   ·rw [E3.out] at h;cases h
   rw [E3.out] at h
   simp only [Option.some.injEq,Prod.mk.injEq] at h
   obtain ⟨rfl,rfl⟩:=h
   have hP:=hkp2 w.heap.size _ _ hP0 (by decide) (by omega)
   have yM:w.heap.size ∉ bs1++ext2:=fun hm=>(List.mem_append.1 hm).elim aeJ (fun h=>by have:=hext2 _ h;omega)
   have hL2:(bs1++ext2)[n1.length - 1]?=some L:=by rw [List.getElem?_append_left (by rw [hf1.len];omega)];exact hL
   obtain ⟨bs2,hbs2⟩:∃ bs2,bs2=bs1++ext2:=⟨_,rfl⟩
   rw [←hbs2] at hf2 hR yM hL2
   have agn:=hid hbs2
   clear hbs2 hP0
   obtain ⟨hfW,Dn,hoW⟩:=YJ hf2 hP yM (by omega) hL2 hR HB.out
   obtain ⟨p0,p1,p2,p3⟩:=FI hP
   have q:∀ j,w2.frozen? ⟨w.heap.size,j,none⟩=false:=fun j=>frozen_of_row _ _ _ _ _ hP
   obtain ⟨ao,cap,c0,_⟩:=hf2.c0
   have f0:=hf2.f0
   have hsz2:w1.heap.size≤w2.heap.size:=hbl2.size
   have hF2:=hf2.rf
   have HW:=hid hfW
   have own:=(hf2.own c0).2
   have MI:=hid (hoW _ _ _ own)
   have HPW:=hid Dn
   have hlen:=hf2.len
   clear hf1 hf2 hP hfW Dn own hL hL2 hR hoW
   go_wp2_with (at_builtin;refine wpList_append_own _ rfl (.tmp 160) (.tmp 162) 124 rfl (F+1) 127 i0 (.pointer none) 1 8 Tryz.underlying124 hi hz0 hz1 hz2 rfl (by decide) _ _ _ rfl (MI.out.alloc _) ⟨w2.heap.size,0,none⟩ 1 1 [kF w.heap.size] rfl rfl ?c1 ?c2 ?c3 ?c4 ?c5 ?_)
   case c1=>intro j u hj;match j,hj with | 0,hj=>simp at hj;subst hj;simp [Addr.add,kF,World.cell?_alloc_here]
   case c2=>intro u hu;simp at hu;subst hu;rfl
   case c3=>unfold maxLen;omega
   case c4=>omega
   case c5=>simp;omega
   intro v' w3 hown hgrow _
   obtain ⟨ao',cap',hv,hf3,hk3,hb3⟩:=EH HW.out MI.out rfl rfl (P:=w.heap.size) (by omega) ⟨_,n1.length - 1,n2.length - 1⟩ (fun _=>by show n1.length - 1<n2.length;omega) (fun _=>by show n2.length - 1<n2.length;omega) HPW.out hown hgrow
   subst hv
   have ne:∀ j,(⟨w.heap.size,j,none⟩:Addr)≠⟨F,0,none⟩:=fun j e=>by have:=congrArg Addr.block e;simp at this;omega
   have k0:w3.cell? ⟨F,0,none⟩=some (.slice ao n2.length cap):=(hb3.cell (p:=⟨F,0,none⟩) (Nat.lt_succ_self _)).trans (by rw [World.cell?_setCell_other _ _ _ _ (ne _),World.cell?_setCell_other _ _ _ _ (ne _),World.cell?_setCell_other _ _ _ _ (ne _),World.cell?_setCell_other _ _ _ _ (ne _)];exact c0)
   have g0:w3.frozen? ⟨F,0,none⟩=false:=(hb3.frozen (p:=⟨F,0,none⟩) (Nat.lt_succ_self _)).trans (by rw [World.frozen?_setCell,World.frozen?_setCell,World.frozen?_setCell,World.frozen?_setCell];exact f0)
   have HF:=hid hf3
   have bP:F≤w.heap.size:=by omega
   have B1:=hid (((((((((Below.refl F w).alloc (by omega) _).trans hbl).trans hbl2).setCell (p:=⟨w.heap.size,0,none⟩) bP _).setCell (p:=⟨w.heap.size,1,none⟩) bP _).setCell (p:=⟨w.heap.size,2,none⟩) bP _).setCell (p:=⟨w.heap.size,3,none⟩) bP _).trans (hb3.mono (Nat.le_succ F)) |>.setCell (p:=⟨F,0,none⟩) (Nat.le_refl _) (.slice ao' (n2.length+1) cap'))
   have K1:=hid ((((((((Kp.alloc F w _).trans hkp).trans hkp2).set (P:=w.heap.size) (Or.inl (Nat.le_refl _)) 0 _).set (P:=w.heap.size) (Or.inl (Nat.le_refl _)) 1 _).set (P:=w.heap.size) (Or.inl (Nat.le_refl _)) 2 _).set (P:=w.heap.size) (Or.inl (Nat.le_refl _)) 3 _).trans hk3 |>.set (P:=F) (Or.inr rfl) 0 (.slice ao' (n2.length+1) cap'))
   clear hf3 hown hgrow hb3 hk3 c0 f0 p0 p1 p2 p3 q ne
   go_wp2
   go_ret3
   refine Or.inr ⟨_,_,ext++(ext2++[w.heap.size]),w.heap.size,e2.out,rfl,?_,?_,?_,B1.out,K1.out⟩
   ·rw [←List.append_assoc,←List.append_assoc,←eF.out,←agn.out];exact HF.out
   ·rw [←List.append_assoc,←List.append_assoc,←eF.out,←agn.out];exact Bz hlen
   ·intro b hb
    rcases List.mem_append.1 hb with hb | hb
    ·have:=hext _ hb;simp at this;omega
    ·rcases List.mem_append.1 hb with hb | hb
     ·have:=hext2 _ hb;omega
     ·simp at hb;omega
end Go.Proofs.YtjagijohfkffiabGreat
