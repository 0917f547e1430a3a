import Derived.Test.YtjagijohfkffiabGreatALLM01
import Derived.Test.YtjagijohfkffiabGreatALLM02
import Derived.Test.YtjagijohfkffiabGreatALLM04
import Derived.Deep.RegionWith
import Derived.BigQuiet
import Derived.WalkLawsBesides
set_option maxHeartbeats 16000000
set_option maxRecDepth 100000
namespace Go.Proofs.YtjagijohfkffiabGreat
open Go.RowKit
set_option linter.unusedVariables false
def Mi (zss:List (List Int)) (gs:Nat→Nat) (i:Nat):Value:=.slice (some ⟨gs i,0,none⟩) (zss.getD i []).length ((zss.getD i []).length+2)
def l9 (p:Nat):Value:=.slice (some ⟨p,0,none⟩) 1 1
def uF (zss:List (List Int)) (gs:Nat→Nat) (j:Nat):List Value:=(List.range j).map (Mi zss gs)
theorem iZ (zss:List (List Int)) (gs:Nat→Nat) (j:Nat):(uF zss gs j).length=j:=by simp [uF]
theorem QD {zss:List (List Int)} {gs:Nat→Nat} {i j:Nat} (h:i<j):(uF zss gs j)[i]?=some (Mi zss gs i):=by simp [uF,List.getElem?_map,List.getElem?_range h]
theorem Mj {zss:List (List Int)} {gs:Nat→Nat} {j g:Nat}:uF zss (fun i=>if i=j then g else gs i) (j+1)=uF zss gs j++[.slice (some ⟨g,0,none⟩) (zss.getD j []).length ((zss.getD j []).length+2)]:=by
 unfold uF
 rw [List.range_succ,List.map_append]
 congr 1
 ·refine List.map_congr_left fun i hi=>?_
  rw [List.mem_range] at hi
  unfold Mi
  dsimp only
  rw [if_neg (by omega)]
 ·simp [Mi]
structure kJ (w:World) (B G l:Nat) (zss:List (List Int)) (gs:Nat→Nat) (p1 p2:Nat) (vO:Value):Prop where
 hlen:zss.length=l
 blk:w.heap[G]?=some (.cells (uF zss gs l++[l9 p1,l9 p2]).toArray 22 (0,0))
 rows:∀ i,i<l→B≤gs i∧gJ w (gs i) (zss.getD i []).length (zss.getD i [])
 q1:w.heap[p1]?=some (.cells #[.int .i64 77] 3 (0,0))
 q2:w.heap[p2]?=some (.cells #[.int .i64 77] 3 (0,0))
 own:w.ownsRow B 22 1 vO l (uF zss gs l)
theorem rz {w:World} {q:Nat} {o:Obj} (h:w.heap[q]?=some o):q<w.heap.size:=(Array.getElem?_eq_some_iff.1 h).1
theorem kJ.below {w w':World} {B G l:Nat} {zss:List (List Int)} {gs:Nat→Nat} {p1 p2:Nat} {vO:Value} (h:kJ w B G l zss gs p1 p2 vO) (hb:Below w.heap.size w w'):kJ w' B G l zss gs p1 p2 vO:=
 ⟨h.hlen,(hb.block G (rz h.blk)).trans h.blk,fun i hi=>⟨(h.rows i hi).1,(h.rows i hi).2.below hb⟩,(hb.block p1 (rz h.q1)).trans h.q1,(hb.block p2 (rz h.q2)).trans h.q2,ae h.own hb⟩
theorem kJ.cell {w:World} {B G l:Nat} {zss:List (List Int)} {gs:Nat→Nat} {p1 p2:Nat} {vO:Value} (h:kJ w B G l zss gs p1 p2 vO) {i:Nat} (hi:i<l):w.cell? ⟨G,i,none⟩=some (Mi zss gs i):=by
 rw [ig h.blk,List.getElem?_toArray,List.getElem?_append_left (by rw [iZ];exact hi),QD hi]
theorem kJ.c1 {w:World} {B G l:Nat} {zss:List (List Int)} {gs:Nat→Nat} {p1 p2:Nat} {vO:Value} (h:kJ w B G l zss gs p1 p2 vO):w.cell? ⟨G,l,none⟩=some (l9 p1):=by
 rw [ig h.blk,List.getElem?_toArray,List.getElem?_append_right (by rw [iZ];exact Nat.le_refl _),iZ]
 simp
theorem kJ.c2 {w:World} {B G l:Nat} {zss:List (List Int)} {gs:Nat→Nat} {p1 p2:Nat} {vO:Value} (h:kJ w B G l zss gs p1 p2 vO):w.cell? ⟨G,l+1,none⟩=some (l9 p2):=by
 rw [ig h.blk,List.getElem?_toArray,List.getElem?_append_right (by rw [iZ];omega),iZ]
 simp
theorem kJ.lists {w:World} {B G l:Nat} {zss:List (List Int)} {gs:Nat→Nat} {p1 p2:Nat} {vO:Value} (h:kJ w B G l zss gs p1 p2 vO) (hm:l≤2097152) (hr:∀ i,i<l→(zss.getD i []).length≤2097152):Lists w (some ⟨G,0,none⟩) l (l+2) zss:=
 ⟨h.hlen,by omega,by omega,fun e=>by simp at e,fun _=>⟨G,0,rfl,rz h.blk,fun i hi=>⟨some ⟨gs i,0,none⟩,(zss.getD i []).length,(zss.getD i []).length+2,by rw [Nat.zero_add];exact h.cell hi,(h.rows i hi).2.ints (hr i hi)⟩⟩⟩
theorem wz {w:World} {B n g l:Nat} {v:Value} {xs:List Value} {zs:List Int} (ho:w.ownsRow B 22 1 v n xs) (hs:gJ w g l zs):some g≠v.ownBlock:=fun e=>by
 rcases ho.2 with ⟨hv,_⟩ | ⟨g',cap,cur,hv,_,hh,_⟩
 ·rw [hv] at e;simp [Value.ownBlock] at e
 ·rw [hv] at e
  simp [Value.ownBlock] at e
  subst e
  rw [hs.blk] at hh
  simp at hh
theorem VL {B:Nat} {e:TypeId} {k:Nat} {v:Value} {n:Nat} {xs:List Value} {w w':World} (h:w.ownsRow B e k v n xs) (hk:∀ q,B≤q→q<w.heap.size→w'.heap[q]?=w.heap[q]?):w'.ownsRow B e k v n xs:=by
 refine ⟨h.1,?_⟩
 rcases h.2 with hn | ⟨g,cap,cur,rfl,hb,hgg,rest⟩
 ·exact .inl hn
 ·exact .inr ⟨g,cap,cur,rfl,hb,(hk g hb (rz hgg)).trans hgg,rest⟩
def KH (l:Nat) (zss:List (List Int)) (w:World) (e:Ending) (w':World):Prop:=∃ (gs:Nat→Nat) (p1 p2:Nat) (vO:Value),e=.returned (.tuple #[.slice (some ⟨w.heap.size,0,none⟩) l (l+2),vO])∧kJ w' w.heap.size w.heap.size l zss gs p1 p2 vO∧Below w.heap.size w w'
theorem set_mid {A R:List Value} {x v:Value} {j:Nat} (h:A.length=j):(A++x::R).set j v=A++v::R:=by
 subst h
 rw [List.set_append_right _ _ (Nat.le_refl _)]
 simp
theorem JN (a:Option Addr) (l c:Nat) (zss:List (List Int)) (w:World) (h:Lists w a l c zss) (Nn:l≤1048576) (hr:∀ i,i<l→(zss.getD i []).length≤1048576) :
  Calls Tryz.prog 6 #[.slice a l c] w (KH l zss w):=by
 have L:=h.hlen
 have hc:=h.hcap
 have hm:=h.hmax
 have HI:=hid h
 obtain ⟨i0,hi,hz0,hz1,hz2⟩:=info_parts Tryz.Ex
 have wl:Hid ((l:Int)+2=((l+2:Nat):Int)):=hid (by omega)
 have HR:=hid hr
 have HL:=hid L
 clear h hr L
 go_enter Tryz.func6,Tryz.ntmps6
 go_wp2_with (at_make;go_must (refine wpList_make_full _ rfl (.tmp 12) (.tmp 12) 23 rfl w.heap.size 22 i0 (.slice none 0 0) 1 Tryz.underlying23 hi hz0 hz1 .i64 .i64 _ _ (l+2) rfl rfl ?m0 ?m1 ?m2 ?m3 (Nat.le_refl _) ?_))
 case m0=>first | exact wl.out | simp | omega
 case m1=>first | exact wl.out | simp | omega
 case m2=>rw [hz2];omega
 case m3=>unfold maxLen;omega
 intro w1 ay grow1
 have b1:Below w.heap.size w w1:=(Below.refl _ _).grown grow1 (Nat.le_refl _) (fun k h=>by cases h)
 have hb1:=JG ay
 rw [toList_madeCells_one] at hb1
 have HB1:=hid b1
 have HS1:=hid hb1
 have hlt1:=rz hb1
 clear ay grow1 b1 hb1
 go_wp2_with fail
 go_loopw [6,7] (fun v i wq=>∃ (j:Nat) (vL:Value) (gs:Nat→Nat),j≤l∧vL=v∧i=.int .i64 j∧Hid (wq.heap[w.heap.size]?=some (.cells (uF zss gs j++List.replicate (l+2 - j) (Value.slice none 0 0)).toArray 22 (0,0))) ∧
   Hid (∀ i,i<j→w.heap.size+1≤gs i∧gJ wq (gs i) (zss.getD i []).length (zss.getD i []))∧Hid (wq.ownsRow (w.heap.size+1) 22 1 vL j (uF zss gs j))∧Hid (Below w.heap.size w wq)) (fun _ i _=>l - (intOf i).toNat)
 case atStart=>exact ⟨0,_,fun _=>0,Nat.zero_le _,rfl,rfl,hid (by simpa [uF] using HS1.out),hid (fun i h=>by omega),hid (World.ownsRow_nil _ _ _ _),HB1⟩
 case round=>
  clear HB1 HS1 hlt1
  obtain ⟨j,vL,gs,hj,rfl,rfl,HG,HRW,HO,HB⟩:=hrel
  rename World=>W0
  have hlt:=rz HG.out
  by_cases hlj:j<l
  ·obtain ⟨b,o,e,hb,hcl⟩:=(HI.out.below HB.out).hcell (by omega)
   subst e
   obtain ⟨ra,rl,rc,cr,QX⟩:=hcl j hlj
   have hrl:=QX.hlen
   have hrm:=HR.out j hlj
   have NU:=hid (lL ra rl rc (zss.getD j []) W0 QX (by omega))
   have uL:=hid hrl
   have i1:(0:Int)≤(j:Int):=by omega
   have i2:(j:Int)<(l:Int):=by omega
   have i3:(j:Int)<(l:Int)+2:=by omega
   have hrl2:rl≤1048576:=by omega
   clear hcl QX hrl hrm
   go_wp2_with fail
   refine NU.out.mono ?_
   rintro e w2 ⟨rfl,hS2,b2⟩
   have hs2:=b2.size
   have hG2:=(b2.block w.heap.size hlt).trans HG.out
   have hrep:List.replicate (l+2 - j) (Value.slice none 0 0)=Value.slice none 0 0::List.replicate (l+2 - (j+1)) (Value.slice none 0 0):=by
    rw [show l+2 - j=(l+2 - (j+1))+1 by omega];rfl
   rw [hrep] at hG2
   have cG:w2.cell? ⟨w.heap.size,j,none⟩=some (Value.slice none 0 0):=by
    rw [ig hG2,List.getElem?_toArray,List.getElem?_append_right (by rw [iZ];exact Nat.le_refl _),iZ]
    simp
   have fG:w2.frozen? ⟨w.heap.size,j,none⟩=false:=nZ hG2
   have hG3:=jI (o:=j) hG2 (Value.slice (some ⟨W0.heap.size,0,none⟩) rl (rl+2))
   rw [List.setIfInBounds_toArray,set_mid (iZ zss gs j)] at hG3
   have HG3:=hid hG3
   have HS2:=hid hS2
   have hgl:=hS2.lt
   have eG:=ak (ae HO.out b2) (k:=w.heap.size) (by omega) j (Value.slice (some ⟨W0.heap.size,0,none⟩) rl (rl+2))
   have afx:=hid (fun i (hi:i<j)=>(⟨(HRW.out i hi).1,((HRW.out i hi).2.below b2).same (Below.heap_setCell _ _ _ _ (by show gs i≠w.heap.size;have:=(HRW.out i hi).1;omega))⟩:w.heap.size+1≤gs i∧gJ (w2.setCell ⟨w.heap.size,j,none⟩ (Value.slice (some ⟨W0.heap.size,0,none⟩) rl (rl+2))) (gs i) (zss.getD i []).length (zss.getD i [])))
   have uK:=hid (hS2.same (Below.heap_setCell w2 ⟨w.heap.size,j,none⟩ (Value.slice (some ⟨W0.heap.size,0,none⟩) rl (rl+2)) W0.heap.size (by show W0.heap.size≠w.heap.size;omega)))
   have HB3:=hid ((HB.out.trans (b2.mono HB.out.size)).setCell (p:=⟨w.heap.size,j,none⟩) (Nat.le_refl _) (Value.slice (some ⟨W0.heap.size,0,none⟩) rl (rl+2)))
   clear hG2 hG3 hS2 b2 NU HG HRW HO HB hrep cr
   go_wp2_with (at_builtin;go_must (refine wpList_append_own _ rfl (.tmp 28) (.tmp 30) 23 rfl (w.heap.size+1) 22 i0 (.slice none 0 0) 1 24 Tryz.underlying23 hi hz0 hz1 hz2 rfl (by decide) _ _ _ rfl (eG.alloc _) ⟨w2.heap.size,0,none⟩ 1 1 [.slice (some ⟨W0.heap.size,0,none⟩) rl (rl+2)] rfl rfl ?d1 ?d2 ?d3 ?d4 ?d5 ?_))
   case d1=>exact fun m u h=>by have:=ic (w2.setCell ⟨w.heap.size,j,none⟩ (Value.slice (some ⟨W0.heap.size,0,none⟩) rl (rl+2))) [.slice (some ⟨W0.heap.size,0,none⟩) rl (rl+2)] 22 m u h;rw [World.size_setCell] at this;exact this
   case d2=>intro u hu;simp at hu;subst hu;rfl
   case d3=>unfold maxLen;omega
   case d4=>omega
   case d5=>simp;omega
   intro v' w3 own3 grow3 _
   have agH:=eG.alloc (.cells #[.slice (some ⟨W0.heap.size,0,none⟩) rl (rl+2)] 22)
   have kp:∀ q,q<(w2.setCell ⟨w.heap.size,j,none⟩ (Value.slice (some ⟨W0.heap.size,0,none⟩) rl (rl+2))).heap.size→some q≠vL.ownBlock→w3.heap[q]?=(w2.setCell ⟨w.heap.size,j,none⟩ (Value.slice (some ⟨W0.heap.size,0,none⟩) rl (rl+2))).heap[q]?:=fun q h1 h2=>
    (grow3.block q (by rw [World.size_alloc];omega) h2).trans (Below.heap_alloc _ _ _ h1)
   have HG4:Hid (w3.heap[w.heap.size]?=some (.cells (uF zss (fun i=>if i=j then W0.heap.size else gs i) (j+1)++List.replicate (l+2 - (j+1)) (Value.slice none 0 0)).toArray 22 (0,0))):=hid (by
    rw [kp w.heap.size (rz HG3.out) (fun e=>by have:=(eG.lt _ e.symm).1;omega),HG3.out,Mj,uL.out]
    simp)
   have ajs:Hid (∀ i,i<j+1→w.heap.size+1≤(if i=j then W0.heap.size else gs i)∧gJ w3 (if i=j then W0.heap.size else gs i) (zss.getD i []).length (zss.getD i [])):=hid (fun i hi=>by
    by_cases e:i=j
    ·subst e
     rw [if_pos rfl,uL.out]
     exact ⟨by omega,uK.out.same (kp _ uK.out.lt (wz eG uK.out))⟩
    ·rw [if_neg e]
     have:=afx.out i (by omega)
     exact ⟨this.1,this.2.same (kp _ this.2.lt (wz eG this.2))⟩)
   have DT:Hid (w3.ownsRow (w.heap.size+1) 22 1 v' (j+1) (uF zss (fun i=>if i=j then W0.heap.size else gs i) (j+1))):=hid (by
    rw [Mj,uL.out]
    exact own3)
   have dm:=hid ((HB3.out.alloc (by rw [World.size_setCell];omega) _).grown grow3 (by rw [World.size_alloc,World.size_setCell];omega) (fun k h=>by have:=(eG.lt k h).1;omega))
   clear eG agH own3 grow3 kp HG3 afx HS2 uK HB3
   go_wp2_with fail
   go_roundw
   case rel=>exact ⟨j+1,_,_,by omega,rfl,by go_num,HG4,ajs,DT,dm⟩
   case measure=>simp [intOf];omega
  ·obtain rfl:l=j:=by omega
   have hG0:=HG.out
   rw [show l+2 - l=2 by omega,show List.replicate 2 (Value.slice none 0 0)=[Value.slice none 0 0,Value.slice none 0 0] from rfl] at hG0
   have c0:W0.cell? ⟨w.heap.size,l,none⟩=some (Value.slice none 0 0):=by
    rw [ig hG0,List.getElem?_toArray,List.getElem?_append_right (by rw [iZ];exact Nat.le_refl _),iZ]
    simp
   have c1:W0.cell? ⟨w.heap.size,l+1,none⟩=some (Value.slice none 0 0):=by
    rw [ig hG0,List.getElem?_toArray,List.getElem?_append_right (by rw [iZ];omega),iZ]
    simp
   have f0:W0.frozen? ⟨w.heap.size,l,none⟩=false:=nZ hG0
   have f1:W0.frozen? ⟨w.heap.size,l+1,none⟩=false:=nZ hG0
   have hGb:=jI (o:=l) hG0 (l9 W0.heap.size)
   rw [List.setIfInBounds_toArray,set_mid (iZ zss gs l)] at hGb
   have hGd:=jI (o:=l+1) hGb (l9 (W0.heap.size+1))
   have aeU:(uF zss gs l++l9 W0.heap.size::[Value.slice none 0 0]).set (l+1) (l9 (W0.heap.size+1))=uF zss gs l++[l9 W0.heap.size,l9 (W0.heap.size+1)]:=by
    rw [List.set_append_right _ _ (by rw [iZ];omega),iZ]
    simp
   rw [List.setIfInBounds_toArray,aeU] at hGd
   have hz2:((W0.setCell ⟨w.heap.size,l,none⟩ (l9 W0.heap.size)).setCell ⟨w.heap.size,l+1,none⟩ (l9 (W0.heap.size+1))).heap.size=W0.heap.size:=by simp
   have hz3:(((W0.setCell ⟨w.heap.size,l,none⟩ (l9 W0.heap.size)).setCell ⟨w.heap.size,l+1,none⟩ (l9 (W0.heap.size+1))).alloc (.cells #[.int .i64 77] 3)).heap.size=W0.heap.size+1:=by simp
   have kq:∀ q,q<W0.heap.size→q≠w.heap.size→((((W0.setCell ⟨w.heap.size,l,none⟩ (l9 W0.heap.size)).setCell ⟨w.heap.size,l+1,none⟩ (l9 (W0.heap.size+1))).alloc (.cells #[.int .i64 77] 3)).alloc (.cells #[.int .i64 77] 3)).heap[q]?=W0.heap[q]?:=fun q h1 h2=>by
    rw [Below.heap_alloc _ _ _ (by omega),Below.heap_alloc _ _ _ (by omega),Below.heap_setCell _ _ _ _ h2,Below.heap_setCell _ _ _ _ h2]
   have sD:Hid (kJ ((((W0.setCell ⟨w.heap.size,l,none⟩ (l9 W0.heap.size)).setCell ⟨w.heap.size,l+1,none⟩ (l9 (W0.heap.size+1))).alloc (.cells #[.int .i64 77] 3)).alloc (.cells #[.int .i64 77] 3)) w.heap.size w.heap.size l zss gs W0.heap.size (W0.heap.size+1) vL):=hid (by
    refine ⟨HL.out,?_,fun i hi=>?_,?_,?_,?_⟩
    ·rw [Below.heap_alloc _ _ _ (by omega),Below.heap_alloc _ _ _ (by omega)]
     exact hGd
    ·have:=HRW.out i hi
     exact ⟨by omega,this.2.same (kq _ this.2.lt (by omega))⟩
    ·rw [Below.heap_alloc _ _ _ (by omega)]
     have last2:=heap_alloc_last ((W0.setCell ⟨w.heap.size,l,none⟩ (l9 W0.heap.size)).setCell ⟨w.heap.size,l+1,none⟩ (l9 (W0.heap.size+1))) (.cells #[.int .i64 77] 3)
     rw [hz2] at last2
     exact last2
    ·have last3:=heap_alloc_last (((W0.setCell ⟨w.heap.size,l,none⟩ (l9 W0.heap.size)).setCell ⟨w.heap.size,l+1,none⟩ (l9 (W0.heap.size+1))).alloc (.cells #[.int .i64 77] 3)) (.cells #[.int .i64 77] 3)
     rw [hz3] at last3
     exact last3
    ·exact aY (VL HO.out fun q h1 h2=>kq q h2 (by omega)) (Nat.le_succ _))
   have HBZ:=hid ((((HB.out.setCell (p:=⟨w.heap.size,l,none⟩) (Nat.le_refl _) (l9 W0.heap.size)).setCell (p:=⟨w.heap.size,l+1,none⟩) (Nat.le_refl _) (l9 (W0.heap.size+1))).alloc (by omega) (.cells #[.int .i64 77] 3)).alloc (by omega) (.cells #[.int .i64 77] 3))
   unfold l9 at sD HBZ
   have d0:(0:Int)≤(l:Int):=by omega
   have d1:(l:Int)<(l:Int)+2:=by omega
   have d2:(l:Int)+1<(l:Int)+2:=by omega
   have d3:(0:Int)≤(l:Int)+1:=by omega
   have d4:(l:Int)≤(l:Int)+2:=by omega
   have FIN:Hid (∀ W',kJ W' w.heap.size w.heap.size l zss gs W0.heap.size (W0.heap.size+1) vL→Below w.heap.size w W'→KH l zss w (.returned (.tuple #[.slice (some ⟨w.heap.size,0,none⟩) l (l+2),vL])) W'):=hid (fun W' h1 h2=>⟨gs,_,_,vL,rfl,h1,h2⟩)
   clear hG0 hGb hGd kq aeU HG HRW HO HB hz2 hz3
   go_wp2_with fail
   go_ret2
   exact FIN.out _ sD.out HBZ.out
def it (nx:Nat→Nat):Nat→Nat→Nat
 | 0,i=>i
 | s+1,i=>it nx s (nx i)
theorem vF (nx:Nat→Nat) (s i:Nat):it nx (s+1) i=nx (it nx s i):=by
 induction s generalizing i with
 | zero=>rfl
 | succ s ih=>exact ih (nx i)
theorem Nh (nx:Nat→Nat) (s t i:Nat):it nx (s+t) i=it nx s (it nx t i):=by
 induction s with
 | zero=>simp [it]
 | succ s ih=>rw [show s+1+t=(s+t)+1 by omega,vF,vF,ih]
def UU (nx:Nat→Nat) (A B:Nat→Prop) (i:Nat):Prop:=∃ s,B (it nx s i)∧∀ m,m<s→A (it nx m i)
theorem ae6 (nx:Nat→Nat) (A B:Nat→Prop) (i:Nat):UU nx A B i↔B i∨(A i∧UU nx A B (nx i)):=by
 constructor
 ·rintro ⟨s,hb,ha⟩
  cases s with
  | zero=>exact Or.inl hb
  | succ s=>exact Or.inr ⟨ha 0 (by omega),s,hb,fun m hm=>ha (m+1) (by omega)⟩
 ·rintro (hb | ⟨ha,s,hb,h⟩)
  ·exact ⟨0,hb,fun m hm=>by omega⟩
  ·refine ⟨s+1,hb,fun m hm=>?_⟩
   cases m with
   | zero=>exact ha
   | succ m=>exact h m (by omega)
def kI (nx lt:Nat→Nat) (n:Nd) (rs:List (Nat→Prop)) (i:Nat):Prop:=
 if n.op=49 then True
 else if n.op=112 then (lt i).testBit 0=true
 else if n.op=113 then (lt i).testBit 1=true
 else if n.op=114 then (lt i).testBit 2=true
 else if n.op=33 then ¬ rs.getD n.l (fun _=>False) i
 else if n.op=88 then rs.getD n.l (fun _=>False) (nx i)
 else if n.op=70 then ∃ s,rs.getD n.l (fun _=>False) (it nx s i)
 else if n.op=71 then ∀ s,rs.getD n.l (fun _=>False) (it nx s i)
 else if n.op=38 then rs.getD n.l (fun _=>False) i∧rs.getD n.r (fun _=>False) i
 else if n.op=124 then rs.getD n.l (fun _=>False) i∨rs.getD n.r (fun _=>False) i
 else if n.op=85 then ∃ s,rs.getD n.r (fun _=>False) (it nx s i)∧∀ m,m<s→rs.getD n.l (fun _=>False) (it nx m i)
 else if n.op=82 then ∀ s,rs.getD n.r (fun _=>False) (it nx s i)∨∃ m,m<s∧rs.getD n.l (fun _=>False) (it nx m i)
 else False
def rows (nx lt:Nat→Nat) (ns:List Nd):List (Nat→Prop):=ns.foldl (fun rs n=>rs++[kI nx lt n rs]) []
theorem Jy (nx lt:Nat→Nat) (ns:List Nd) (n:Nd):rows nx lt (ns++[n])=rows nx lt ns++[kI nx lt n (rows nx lt ns)]:=by
 simp [rows]
theorem Kc (nx lt:Nat→Nat) (ns:List Nd):∀ rs:List (Nat→Prop),(ns.foldl (fun rs n=>rs++[kI nx lt n rs]) rs).length=rs.length+ns.length:=by
 induction ns with
 | nil=>intro rs;rfl
 | cons n ns ih=>intro rs;simp only [List.foldl_cons,List.length_cons];rw [ih];simp;omega
theorem Ei (nx lt:Nat→Nat) (ns:List Nd):(rows nx lt ns).length=ns.length:=by
 unfold rows;rw [Kc];simp
def dz (nx lt:Nat→Nat) (ns:List Nd) (k i:Nat):Prop:=(rows nx lt ns).getD k (fun _=>False) i
theorem acw {nx lt:Nat→Nat} {ns:List Nd} {n:Nd} {k:Nat} (h:k<ns.length) (i:Nat):dz nx lt (ns++[n]) k i=dz nx lt ns k i:=by
 unfold dz
 rw [Jy,List.getD,List.getD,List.getElem?_append_left (by rw [Ei];exact h)]
theorem QG (nx lt:Nat→Nat) (ns:List Nd) (n:Nd) (i:Nat):dz nx lt (ns++[n]) ns.length i=kI nx lt n (rows nx lt ns) i:=by
 unfold dz
 rw [Jy,List.getD,List.getElem?_append_right (by rw [Ei];exact Nat.le_refl _),Ei]
 simp
theorem Xb (nx lt:Nat→Nat) (ms:List Nd):∀ rs:List (Nat→Prop),∀ k,k<rs.length→(ms.foldl (fun rs n=>rs++[kI nx lt n rs]) rs).getD k (fun _=>False)=rs.getD k (fun _=>False):=by
 induction ms with
 | nil=>intro rs k _;rfl
 | cons n ms ih=>
  intro rs k hk
  simp only [List.foldl_cons]
  rw [ih _ k (by simp;omega)]
  simp [List.getD,List.getElem?_append_left hk]
theorem QF {nx lt:Nat→Nat} {ns ms:List Nd} {k:Nat} (h:k<ns.length) (i:Nat):dz nx lt (ns++ms) k i=dz nx lt ns k i:=by
 unfold dz rows
 rw [List.foldl_append,Xb _ _ _ _ _ (by rw [Kc];simpa using h)]
theorem Xv {nx1 FX nx2 FW:Nat→Nat} {f:Nat→Nat} (hn:∀ i,f (nx1 i)=nx2 (f i)) (hl:∀ i,FX i=FW (f i)) {n:Nd} {r1 r2:List (Nat→Prop)}
  (hr:∀ k i,r1.getD k (fun _=>False) i↔r2.getD k (fun _=>False) (f i)) (i:Nat):kI nx1 FX n r1 i↔kI nx2 FW n r2 (f i):=by
 have hit:∀ s i,f (it nx1 s i)=it nx2 s (f i):=by
  intro s
  induction s with
  | zero=>intro i;rfl
  | succ s ih=>intro i;simp only [it];rw [ih,hn]
 unfold kI
 simp only [hl,hr,hn,hit]
theorem acx {nx1 FX nx2 FW:Nat→Nat} {f:Nat→Nat} (hn:∀ i,f (nx1 i)=nx2 (f i)) (hl:∀ i,FX i=FW (f i)) (ns:List Nd) (k i:Nat):dz nx1 FX ns k i↔dz nx2 FW ns k (f i):=by
 have key:∀ ms:List Nd,∀ r1 r2:List (Nat→Prop),(r1.length=r2.length)→(∀ k i,r1.getD k (fun _=>False) i↔r2.getD k (fun _=>False) (f i)) →
   ∀ k i,(ms.foldl (fun rs n=>rs++[kI nx1 FX n rs]) r1).getD k (fun _=>False) i↔(ms.foldl (fun rs n=>rs++[kI nx2 FW n rs]) r2).getD k (fun _=>False) (f i):=by
  intro ms
  induction ms with
  | nil=>intro r1 r2 _ hr;exact hr
  | cons n ms ih=>
   intro r1 r2 hlen hr
   simp only [List.foldl_cons]
   refine ih _ _ (by simp [hlen]) ?_
   intro k i
   by_cases hk:k<r1.length
   ·simp only [List.getD,List.getElem?_append_left hk,List.getElem?_append_left (show k<r2.length by omega)]
    exact hr k i
   ·simp only [List.getD,List.getElem?_append_right (show r1.length≤k by omega),List.getElem?_append_right (show r2.length≤k by omega),hlen]
    cases hk0:k - r2.length with
    | zero=>simpa using Xv hn hl hr i
    | succ j=>simp
 exact key ns [] [] rfl (fun k i=>by simp) k i
def aG (n back i:Nat):Nat:=if i+1<n then i+1 else back
theorem M4 {n back i:Nat} (hb:back<n):aG n back i<n:=by unfold aG;split <;> omega
theorem jU {n back:Nat} (hb:back<n):∀ s i,i<n→it (aG n back) s i<n:=by
 intro s
 induction s with
 | zero=>intro i h;exact h
 | succ s ih=>intro i h;exact ih _ (M4 hb)
theorem pF {n back:Nat}:∀ s i,i+s<n→it (aG n back) s i=i+s:=by
 intro s
 induction s with
 | zero=>intro i _;rfl
 | succ s ih=>
  intro i h
  simp only [it]
  rw [show aG n back i=i+1 by unfold aG;rw [if_pos (by omega)],ih (i+1) (by omega)]
  omega
theorem ac6 {n back i:Nat} (hi:i<n):it (aG n back) (n - i) i=back:=by
 rw [show n - i=(n - 1 - i)+1 by omega,vF,pF _ _ (by omega)]
 unfold aG
 rw [if_neg (by omega)]
theorem Ng {n back j:Nat} (hb:back<n) (hj:back≤j) (hn:j<n):it (aG n back) (n - back) j=j:=by
 rw [show n - back=(j - back)+(n - j) by omega,Nh,ac6 hn,pF _ _ (by omega)]
 omega
theorem agI {n back:Nat} (hb:back<n):∀ s i,i<n→back≤i+s→back≤it (aG n back) s i:=by
 intro s
 induction s with
 | zero=>intro i _ h;exact h
 | succ s ih=>
  intro i hi h
  rw [vF]
  by_cases hc:back≤i+s
  ·have key:∀ y,back≤y→back≤aG n back y:=by intro y h;unfold aG;split <;> omega
   exact key _ (ih i hi hc)
  ·rw [pF s i (by omega)]
   unfold aG
   split <;> omega
theorem I8 {n back:Nat} (hb:back<n) {A B:Nat→Prop} {i:Nat} (hi:i<n) (h:UU (aG n back) A B i):∃ s,s<n∧B (it (aG n back) s i)∧∀ m,m<s→A (it (aG n back) m i):=by
 obtain ⟨s,h1,h2⟩:=h
 induction s using Nat.strongRecOn with
 | _ s ih=>
  by_cases hs:s<n
  ·exact ⟨s,hs,h1,h2⟩
  ·refine ih (s - (n - back)) (by omega) ?_ (fun m hm=>h2 m (by omega))
   have h3:=Ng hb (agI hb (s - (n - back)) i hi (by omega)) (jU hb (s - (n - back)) i hi)
   rw [←Nh,show n - back+(s - (n - back))=s by omega] at h3
   rw [←h3]
   exact h1
theorem tF {n back:Nat} (hb:back<n) (A B:Nat→Bool) (x1 x2:Nat→Bool)
  (h1:∀ i,i<n→x1 i=(B i||(A i&&(if i+1<n then x1 (i+1) else false)))) (h2:∀ i,i<n→x2 i=(B i||(A i&&(if i+1<n then x2 (i+1) else x1 back)))) (i:Nat) (hi:i<n) :
  x2 i=true↔UU (aG n back) (fun i=>A i=true) (fun i=>B i=true) i:=by
 have fx:=ae6 (aG n back) (fun i=>A i=true) (fun i=>B i=true)
 -- sound
 have s1:∀ d i,i+d+1=n→x1 i=true→UU (aG n back) (fun i=>A i=true) (fun i=>B i=true) i:=by
  intro d
  induction d with
  | zero=>
   intro i hd hx
   rw [h1 i (by omega),if_neg (by omega)] at hx
   rw [fx];simp at hx;exact Or.inl hx
  | succ d ih=>
   intro i hd hx
   rw [h1 i (by omega),if_pos (by omega)] at hx
   rw [fx]
   simp only [Bool.or_eq_true,Bool.and_eq_true] at hx
   rcases hx with hx | ⟨ha,hx⟩
   ·exact Or.inl hx
   ·refine Or.inr ⟨ha,?_⟩
    rw [show aG n back i=i+1 by unfold aG;rw [if_pos (by omega)]]
    exact ih (i+1) (by omega) hx
 -- what comes before the end is seen by the first sweep
 have c1:∀ s i,i+s<n→B (i+s)=true→(∀ m,m<s→A (i+m)=true)→x1 i=true:=by
  intro s
  induction s with
  | zero=>intro i hi hB _;rw [h1 i (by omega)];simp at hB;simp [hB]
  | succ s ih=>
   intro i hi hB hA
   rw [h1 i (by omega),if_pos (by omega)]
   have:=ih (i+1) (by omega) (by rw [show i+1+s=i+(s+1) by omega];exact hB) (fun m hm=>by rw [show i+1+m=i+(m+1) by omega];exact hA (m+1) (by omega))
   have ha:=hA 0 (by omega)
   simp only [Nat.add_zero] at ha
   simp [this,ha]
 have b1:x1 back=true↔UU (aG n back) (fun i=>A i=true) (fun i=>B i=true) back:=by
  constructor
  ·exact s1 (n - 1 - back) back (by omega)
  ·rintro ⟨s,hB,hA⟩
   induction s using Nat.strongRecOn with
   | _ s ih=>
    by_cases hs:s<n - back
    ·rw [pF s back (by omega)] at hB
     exact c1 s back (by omega) hB (fun m hm=>by have:=hA m hm;rw [pF m back (by omega)] at this;exact this)
    ·refine ih (s - (n - back)) (by omega) ?_ (fun m hm=>hA m (by omega))
     have h3:=Ng hb (Nat.le_refl back) hb
     rw [show s=(s - (n - back))+(n - back) by omega,Nh,h3] at hB
     exact hB
 have s2:∀ d i,i+d+1=n→(x2 i=true↔UU (aG n back) (fun i=>A i=true) (fun i=>B i=true) i):=by
  intro d
  induction d with
  | zero=>
   intro i hd
   rw [h2 i (by omega),if_neg (by omega),fx,show aG n back i=back by unfold aG;rw [if_neg (by omega)],←b1]
   simp
  | succ d ih=>
   intro i hd
   rw [h2 i (by omega),if_pos (by omega),fx,show aG n back i=i+1 by unfold aG;rw [if_pos (by omega)],←ih (i+1) (by omega)]
   simp
 exact s2 (n - 1 - i) i (by omega)
def qR (S k:Nat) (b:Bool):Nat:=if b then S ||| 2 ^ k else S - (if S.testBit k then 2 ^ k else 0)
theorem QZ:∀ S:Fin 256,∀ k:Fin 8,(bits BinOp.and IntKind.i64 ((S.val:Int) / 2 ^ k.val) 1==1)=S.val.testBit k.val:=by decide +kernel
theorem UG:∀ S:Fin 256,∀ k:Fin 8,bits BinOp.or IntKind.i64 (S.val:Int) (2 ^ k.val)=((qR S.val k.val true:Nat):Int):=by decide +kernel
theorem UH:∀ S:Fin 256,∀ k:Fin 8,bits BinOp.andNot IntKind.i64 (S.val:Int) (2 ^ k.val)=((qR S.val k.val false:Nat):Int):=by decide +kernel
theorem RU:∀ S:Fin 256,∀ k:Fin 8,∀ b:Bool,qR S.val k.val b<256:=by decide +kernel
theorem PP:∀ S:Fin 256,∀ k:Fin 8,∀ j:Fin 8,∀ b:Bool,(qR S.val k.val b).testBit j.val=if j.val=k.val then b else S.val.testBit j.val:=by decide +kernel
theorem EW {S k:Nat} {b:Bool} (hS:S<256) (hk:k<8):qR S k b<256:=RU ⟨S,hS⟩ ⟨k,hk⟩ b
theorem sG {S k j:Nat} {b:Bool} (hS:S<256) (hk:k<8) (hj:j<8):(qR S k b).testBit j=if j=k then b else S.testBit j:=PP ⟨S,hS⟩ ⟨k,hk⟩ ⟨j,hj⟩ b
theorem MF {k:Nat} (hk:k<8):wrap64 (2 ^ k)=2 ^ k:=by
 have:(2:Int) ^ k≤128∧0≤(2:Int) ^ k:=by
  have h:∀ k:Fin 8,(2:Int) ^ k.val≤128∧0≤(2:Int) ^ k.val:=by decide
  exact h ⟨k,hk⟩
 exact IntWalk.wrap64_in _ ⟨by omega,by omega⟩
theorem qb {a b:Bool} (h:a=b):Ending.returned (.bool a)=.returned (.bool b):=by rw [h]
theorem QK {k:IntKind} {a b:Int} (h:a=b):Ending.returned (.int k a)=.returned (.int k b):=by rw [h]
theorem aX (S k:Nat) (w:World) (hS:S<256) (hk:k<8):Calls Tryz.prog 66 #[.int .i64 S,.int .i64 k] w fun e w'=>e=.returned (.bool (S.testBit k))∧w'=w:=by
 have H:=hid (QZ ⟨S,hS⟩ ⟨k,hk⟩)
 go_enter Tryz.func66,Tryz.ntmps66
 go_wp2
 go_ret
 exact ⟨qb H.out,rfl⟩
theorem Eb (S k:Nat) (b:Bool) (w:World) (hS:S<256) (hk:k<8):Calls Tryz.prog 115 #[.int .i64 S,.int .i64 k,.bool b] w fun e w'=>e=.returned (.int .i64 (qR S k b:Nat))∧w'=w:=by
 have HT:Hid (bits BinOp.or IntKind.i64 (S:Int) (wrap64 (2 ^ k))=((qR S k true:Nat):Int)):=hid (by rw [MF hk];exact UG ⟨S,hS⟩ ⟨k,hk⟩)
 have HF:Hid (bits BinOp.andNot IntKind.i64 (S:Int) (wrap64 (2 ^ k))=((qR S k false:Nat):Int)):=hid (by rw [MF hk];exact UH ⟨S,hS⟩ ⟨k,hk⟩)
 cases b with
 | true=>
  go_enter Tryz.func115,Tryz.ntmps115
  go_wp2
  go_ret
  exact ⟨QK HT.out,rfl⟩
 | false=>
  go_enter Tryz.func115,Tryz.ntmps115
  go_wp2
  go_ret
  exact ⟨QK HF.out,rfl⟩
end Go.Proofs.YtjagijohfkffiabGreat
