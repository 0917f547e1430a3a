import Derived.Test.YtjagijohfkffiabGreatALLM25
import Derived.Test.YtjagijohfkffiabGreatALLM26
import Derived.Test.YtjagijohfkffiabGreatALLM31
import Derived.Test.YtjagijohfkffiabGreatALLM43
import Derived.Deep.AppendLies
import Derived.Deep.RegionHeld3
set_option maxHeartbeats 16000000
set_option maxRecDepth 100000
namespace Go.Proofs.YtjagijohfkffiabGreat
open Go.RowKit
set_option linter.unusedVariables false
structure xL (w:World) (g n:Nat) (lt:Nat→Nat) (ed:Nat→Nat→Bool) (st:Nat→Bool):Prop where
 blk:g<w.heap.size
 l:∀ i,i<n→w.cell? ⟨g,i*8,none⟩=some (.int .i64 (lt i:Nat))
 e:∀ i j,i<n→j<6→w.cell? ⟨g,i*8+(1+j),none⟩=some (.bool (ed i j))
 s:∀ i,i<n→w.cell? ⟨g,i*8+7,none⟩=some (.bool (st i))
theorem xL.below {w w':World} {g n:Nat} {lt:Nat→Nat} {ed:Nat→Nat→Bool} {st:Nat→Bool} (h:xL w g n lt ed st) {B:Nat} (hb:Below B w w') (hB:B≤w.heap.size) (hg:g<B):xL w' g n lt ed st:=
 ⟨Nat.lt_of_lt_of_le h.blk hb.size,fun i hi=>(hb.cell (p:=⟨g,i*8,none⟩) hg).trans (h.l i hi),fun i j hi hj=>(hb.cell (p:=⟨g,i*8+(1+j),none⟩) hg).trans (h.e i j hi hj),fun i hi=>(hb.cell (p:=⟨g,i*8+7,none⟩) hg).trans (h.s i hi)⟩
structure uP (lt:Nat→Nat) (ed:Nat→Nat→Bool) (k l:Nat) (tl:Nat→List (Nat × Nat)):Prop where
 mem:∀ (t:Nat) (s:Nat × Nat),s∈tl t↔(s.1<k∧t<6∨s.1=k∧t<l)∧ed s.1 t=true∧s.2=lt s.1
 len:∀ t,(tl t).length≤6*k+l
theorem aaN (lt:Nat→Nat) (ed:Nat→Nat→Bool):uP lt ed 0 0 (fun _=>[]):=⟨fun t s=>by simp,fun t=>by simp⟩
theorem adB {lt:Nat→Nat} {ed:Nat→Nat→Bool} {k:Nat} {tl:Nat→List (Nat × Nat)} (h:uP lt ed k 6 tl):uP lt ed (k+1) 0 tl:=
 ⟨fun t s=>by rw [h.mem];constructor <;> rintro ⟨a,b⟩ <;> exact ⟨by omega,b⟩,fun t=>by have:=h.len t;omega⟩
theorem adA {lt:Nat→Nat} {ed:Nat→Nat→Bool} {k l:Nat} {tl:Nat→List (Nat × Nat)} (h:uP lt ed k l tl) (he:ed k l=false):uP lt ed k (l+1) tl:=by
 refine ⟨fun t s=>?_,fun t=>by have:=h.len t;omega⟩
 rw [h.mem]
 constructor
 ·rintro ⟨a,b⟩;exact ⟨by omega,b⟩
 ·rintro ⟨a,b,c⟩
  refine ⟨?_,b,c⟩
  rcases a with a | ⟨a1,a2⟩
  ·exact Or.inl a
  ·by_cases e:t=l
   ·subst e
    rw [a1,he] at b
    cases b
   ·exact Or.inr ⟨a1,by omega⟩
theorem ae1 {lt:Nat→Nat} {ed:Nat→Nat→Bool} {k l:Nat} {tl:Nat→List (Nat × Nat)} (h:uP lt ed k l tl) (he:ed k l=true):uP lt ed k (l+1) (uy tl l (tl l++[(k,lt k)])):=by
 refine ⟨fun t s=>?_,fun t=>?_⟩
 ·unfold uy
  by_cases e:t=l
  ·subst e
   rw [if_pos rfl,List.mem_append,h.mem]
   constructor
   ·rintro (⟨a,b⟩ | a)
    ·exact ⟨by omega,b⟩
    ·simp at a
     subst a
     exact ⟨Or.inr ⟨rfl,by omega⟩,he,rfl⟩
   ·rintro ⟨a,b,c⟩
    rcases a with a | ⟨a1,a2⟩
    ·exact Or.inl ⟨Or.inl a,b,c⟩
    ·right
     simp
     exact Prod.ext a1 (by rw [c,a1])
  ·rw [if_neg e,h.mem]
   constructor
   ·rintro ⟨a,b⟩;exact ⟨by omega,b⟩
   ·rintro ⟨a,b⟩;exact ⟨by omega,b⟩
 ·unfold uy
  by_cases e:t=l
  ·rw [if_pos e,List.length_append]
   have:=h.len l
   simp
   omega
  ·rw [if_neg e]
   have:=h.len t
   omega
theorem adz {lt:Nat→Nat} {ed:Nat→Nat→Bool} {n:Nat} {tl:Nat→List (Nat × Nat)} (h:uP lt ed n 0 tl) (hn:n≤6) (hlt:∀ i,i<n→lt i<8):rP n tl:=
 ⟨by omega,fun t ht s hs=>by
  obtain ⟨a,b,c⟩:=(h.mem t s).1 hs
  have:s.1<n:=by omega
  exact ⟨this,by rw [c];exact hlt _ this⟩,fun t ht=>by have:=h.len t;omega⟩
theorem Uw {ns:List Nd} {lt:Nat→Nat} {ed:Nat→Nat→Bool} {n:Nat} {tl:Nat→List (Nat × Nat)} (h:uP lt ed n 0 tl) (hn:n≤6) {y a:Nat}:Ew n ns tl y a↔a<n*256∧∃ i,i<n∧ed i (a / 256)=true∧y=i*256+eT ns (lt i) (a % 256):=by
 unfold Ew
 constructor
 ·rintro ⟨ha,s,hs,rfl⟩
  obtain ⟨h1,h2,h3⟩:=(h.mem _ _).1 hs
  exact ⟨ha,s.1,by omega,h2,by rw [h3]⟩
 ·rintro ⟨ha,i,h1,h2,rfl⟩
  exact ⟨ha,(i,lt i),(h.mem _ _).2 ⟨Or.inl ⟨h1,by omega⟩,h2,rfl⟩,rfl⟩
theorem P9 (e:Nat→Bool) {l:Nat} (hl:l<6) (W:World):(Instr.index 151 (.agg #[.bool (e 0),.bool (e 1),.bool (e 2),.bool (e 3),.bool (e 4),.bool (e 5)]) (.int .i64 (l:Nat))).run Tryz.prog W=.ok (.bool (e l)) W:=by
 refine gY W Tryz.underlying151 (fun w=>yG Tryz.underlying4 w) Tryz.Ci hl ?_
 have:l=0∨l=1∨l=2∨l=3∨l=4∨l=5:=by omega
 rcases this with rfl | rfl | rfl | rfl | rfl | rfl <;> rfl
theorem XU (g n cap:Nat) (lt:Nat→Nat) (ed:Nat→Nat→Bool) (st:Nat→Bool) (w:World) (h0:0<n) (hn:n≤6) (h:xL w g n lt ed st) (hlt:∀ i,i<n→lt i<8) (hed:∀ i j,i<n→ed i j=true→j<n) :
  Calls Tryz.prog 89 #[.slice (some ⟨g,0,none⟩) n cap] w fun e w'=>∃ g2 tl,e=.returned (.agg #[.slice (some ⟨g2,0,none⟩) n n])∧mI w' g2 n tl∧uP lt ed n 0 tl∧Below w.heap.size w w':=by
 have HR:=hid h
 have hg:=h.blk
 have wV:=hid hlt
 have AZ:=hid hed
 clear h hlt hed
 obtain ⟨i0,hi,hz0,hz1,hz2⟩:=info_parts Tryz.BH
 go_enter Tryz.func89,Tryz.ntmps89
 go_wp2_with (at_make;go_must (refine wpList_make_full _ rfl (.tmp 9) (.tmp 9) 157 rfl (w.heap.size+1) 222 i0 (.slice none 0 0) 1 Tryz.underlying157 hi hz0 hz1 .i64 .i64 n n n rfl rfl rfl rfl ?m2 ?m3 (by simp) ?_))
 case m2=>rw [hz2];omega
 case m3=>unfold maxLen;omega
 intro w1 ay grow1
 have eo:(madeCells #[Value.slice none 0 0] n).toList=(List.range n).map (fun _=>Value.slice none 0 0):=by
  rw [toList_madeCells_one]
  exact (List.eq_replicate_iff.2 ⟨by simp,fun b hb=>by obtain ⟨_,_,rfl⟩:=List.mem_map.1 hb;rfl⟩).symm
 have o1:w1.ownsRow (w.heap.size+1) 222 1 (.slice (some ⟨w.heap.size+1,0,none⟩) n n) n ((List.range n).map (fun _=>Value.slice none 0 0)):=by
  rw [←eo]
  exact ay
 have hlt:w.heap.size+1<w1.heap.size:=(o1.lt _ rfl).2
 have b0:=((Below.refl (w.heap.size+1) (w.alloc (.cells #[.slice none 0 0] 159))).grown grow1 (by simp) (fun k h=>by cases h))
 have R0:w1.cell? ⟨w.heap.size,0,none⟩=some (.slice none 0 0):=(b0.cell (p:=⟨w.heap.size,0,none⟩) (by show w.heap.size<w.heap.size+1;omega)).trans (by simp)
 have R1:w1.frozen? ⟨w.heap.size,0,none⟩=false:=(b0.frozen (p:=⟨w.heap.size,0,none⟩) (by show w.heap.size<w.heap.size+1;omega)).trans (by simp)
 have HB1:Hid (Below w.heap.size w w1):=hid (((Below.refl w.heap.size w).alloc (Nat.le_refl _) (.cells #[.slice none 0 0] 159)).trans (b0.mono (by omega)))
 have M1:Hid (lq (w1.alloc (.cells #[.slice (some ⟨w.heap.size+1,0,none⟩) n n] 159)) w1.heap.size (w.heap.size+1) n (fun _=>.slice none 0 0) (fun _=>[])):=hid ⟨hlt,by simp,o1.alloc _,fun j hj=>World.ownsRow_nil _ _ _ _,fun i j hi hj h=>Or.inl rfl⟩
 have HR1:Hid ((w1.alloc (.cells #[.slice (some ⟨w.heap.size+1,0,none⟩) n n] 159)).cell? ⟨w.heap.size,0,none⟩=some (.slice none 0 0)∧(w1.alloc (.cells #[.slice (some ⟨w.heap.size+1,0,none⟩) n n] 159)).frozen? ⟨w.heap.size,0,none⟩=false):=hid ⟨by rw [World.cell?_alloc_lt _ _ _ (by show w.heap.size<w1.heap.size;omega)];exact R0,by rw [World.frozen?_alloc_past _ _ _ (by show w.heap.size<w1.heap.size;omega)];exact R1⟩
 have HB2:=hid (HB1.out.alloc (by omega) (.cells #[.slice (some ⟨w.heap.size+1,0,none⟩) n n] 159))
 clear ay grow1 eo o1 b0 R0 R1 HB1
 go_wp2_with fail
 generalize w1.heap.size=T at *
 go_loopw [14] (fun i wq=>∃ (k:Nat) (V:Nat→Value) (tl:Nat→List (Nat × Nat)),k≤n∧i=.int .i64 k∧Hid (uP lt ed k 0 tl)∧Hid (lq wq T (w.heap.size+1) n V tl)∧Hid (wq.cell? ⟨w.heap.size,0,none⟩=some (.slice none 0 0)∧wq.frozen? ⟨w.heap.size,0,none⟩=false)∧Hid (Below w.heap.size w wq)) (fun i _=>n - (intOf i).toNat)
 case atStart=>exact ⟨0,_,_,by omega,rfl,hid (aaN lt ed),M1,HR1,HB2⟩
 case round=>
  obtain ⟨k,V,tl,hk,rfl,HW,HM,HRR,HB⟩:=hrel
  rename World=>W0
  have rC:=HM.out.Rm
  have Nq:=HM.out.lt
  by_cases hlk:k<n
  ·have r:=HR.out.below HB.out (Nat.le_refl _) hg
   have q0:=r.l k hlk
   have q1:W0.cell? ⟨g,k*8+1,none⟩=some (.bool (ed k 0)):=r.e k 0 hlk (by omega)
   have q2:W0.cell? ⟨g,k*8+2,none⟩=some (.bool (ed k 1)):=r.e k 1 hlk (by omega)
   have q3:W0.cell? ⟨g,k*8+3,none⟩=some (.bool (ed k 2)):=r.e k 2 hlk (by omega)
   have q4:W0.cell? ⟨g,k*8+4,none⟩=some (.bool (ed k 3)):=r.e k 3 hlk (by omega)
   have q5:W0.cell? ⟨g,k*8+5,none⟩=some (.bool (ed k 4)):=r.e k 4 hlk (by omega)
   have q6:W0.cell? ⟨g,k*8+6,none⟩=some (.bool (ed k 5)):=r.e k 5 hlk (by omega)
   have q7:=r.s k hlk
   have hs:=HB.out.size
   clear r
   have uI:=hid ((Below.refl W0.heap.size W0).alloc (Nat.le_refl _) (.cells #[.int .i64 (lt k:Nat),.bool (ed k 0),.bool (ed k 1),.bool (ed k 2),.bool (ed k 3),.bool (ed k 4),.bool (ed k 5),.bool (st k)] 156))
   have DY:=hid (HM.out.keeps uI.out)
   have HR2:=hid (And.intro ((uI.out.cell (p:=⟨w.heap.size,0,none⟩) (by show w.heap.size<W0.heap.size;omega)).trans HRR.out.1) ((uI.out.frozen (p:=⟨w.heap.size,0,none⟩) (by show w.heap.size<W0.heap.size;omega)).trans HRR.out.2))
   have HB3:=hid (HB.out.trans (uI.out.mono hs))
   have NB0:Hid (∀ j,j<n→(V j).ownBlock≠some W0.heap.size):=hid (fun j hj e=>by have:=((HM.out.row j hj).lt _ e).2;omega)
   have NC0:Hid ((W0.alloc (.cells #[.int .i64 (lt k:Nat),.bool (ed k 0),.bool (ed k 1),.bool (ed k 2),.bool (ed k 3),.bool (ed k 4),.bool (ed k 5),.bool (st k)] 156)).cell? ⟨W0.heap.size,0,none⟩=some (.int .i64 (lt k:Nat))):=hid (by simp)
   have ai5:=wV.out k hlk
   have n70:W0.heap.size<(W0.alloc (.cells #[.int .i64 (lt k:Nat),.bool (ed k 0),.bool (ed k 1),.bool (ed k 2),.bool (ed k 3),.bool (ed k 4),.bool (ed k 5),.bool (st k)] 156)).heap.size:=by simp
   clear uI HM HRR
   go_wp2_with fail
   clear q0 q1 q2 q3 q4 q5 q6 q7
   go_loopw [21] (fun i wq=>∃ (l:Nat) (V:Nat→Value) (tl:Nat→List (Nat × Nat)),l≤6∧i=.int .i64 l∧Hid (uP lt ed k l tl)∧Hid (lq wq T (w.heap.size+1) n V tl)∧Hid (wq.cell? ⟨w.heap.size,0,none⟩=some (.slice none 0 0)∧wq.frozen? ⟨w.heap.size,0,none⟩=false)∧Hid (Below w.heap.size w wq)∧Hid (∀ j,j<n→(V j).ownBlock≠some W0.heap.size)∧Hid (wq.cell? ⟨W0.heap.size,0,none⟩=some (.int .i64 (lt k:Nat)))∧W0.heap.size<wq.heap.size) (fun i _=>6 - (intOf i).toNat)
   case atStart=>exact ⟨0,V,tl,by omega,rfl,HW,DY,HR2,HB3,NB0,NC0,n70⟩
   case round=>
    obtain ⟨l,V,tl,hl,rfl,HW,HM,HRR,HB,HNB,Ry,hsz⟩:=hrel
    rename World=>W3
    clear NB0 NC0 n70 DY HR2 HB3
    by_cases hll:l<6
    ·have ix:=fun W=>P9 (ed k) hll W
     have HLEN:=hid (HW.out.len l)
     have nc:=Ry.out
     have ajS:=hid (AZ.out k l hlk)
     cases he:ed k l with
     | false=>
      have ni:=hid (adA HW.out he)
      rw [he] at ix
      clear he
      go_wp2_with fail
      go_roundw
      case rel=>exact ⟨l+1,V,tl,by omega,by go_num,ni,HM,HRR,HB,HNB,Ry,hsz⟩
      case measure=>simp [intOf] <;> omega
     | true=>
      have hto:=ajS.out he
      have HAD:=hid (ae1 HW.out he)
      have AW:=hid (UV T (w.heap.size+1) n k (lt k) l V tl W3 HM.out (by omega) hlk ai5 hto (by have:=HLEN.out;omega))
      rw [he] at ix
      clear he
      generalize lt k=lk at *
      go_wp2_with fail
      refine AW.out.mono ?_
      rintro e w5 ⟨rfl,⟨V5,hm5,hmore⟩,hb5⟩
      obtain ⟨o1,o2⟩:=hmore W0.heap.size hsz (by omega) HNB.out
      have HM5:=hid hm5
      have ajE:=hid o2
      have ajD:=hid ((o1 0).trans Ry.out)
      have Yg:=hid (And.intro ((hb5.cell (p:=⟨w.heap.size,0,none⟩) (by show w.heap.size<w.heap.size+1;omega)).trans HRR.out.1) ((hb5.frozen (p:=⟨w.heap.size,0,none⟩) (by show w.heap.size<w.heap.size+1;omega)).trans HRR.out.2))
      have dV:=hid (HB.out.trans (hb5.mono (by omega)))
      have hs5:=hb5.size
      clear hm5 hb5 AW HM HRR HB hmore o1 o2 nc
      go_wp2_with fail
      go_roundw
      case rel=>exact ⟨l+1,V5,_,by omega,by go_num,HAD,HM5,Yg,dV,ajE,ajD,by omega⟩
      case measure=>simp [intOf] <;> omega
    ·obtain rfl:l=6:=by omega
     have aaX:=hid (adB HW.out)
     go_wp2_with fail
     go_roundw
     case rel=>exact ⟨k+1,V,tl,by omega,by go_num,aaX,HM,HRR,HB⟩
     case measure=>simp [intOf] <;> omega
  ·obtain rfl:k=n:=by omega
   have c1:=HM.out.cell
   have r0:=HRR.out.1
   have r1:=HRR.out.2
   have HWW:=hid (HM.out.Vn (b:=w.heap.size) (by omega) 0 (.slice (some ⟨w.heap.size+1,0,none⟩) k k)).ways
   have dm:=hid (HB.out.setCell (p:=⟨w.heap.size,0,none⟩) (Nat.le_refl _) (.slice (some ⟨w.heap.size+1,0,none⟩) k k))
   have CE:Hid ((W0.setCell ⟨w.heap.size,0,none⟩ (.slice (some ⟨w.heap.size+1,0,none⟩) k k)).cell? ⟨w.heap.size,0,none⟩=some (.slice (some ⟨w.heap.size+1,0,none⟩) k k)):=hid (World.cell?_setCell_same _ _ _ r0)
   go_wp2_with fail
   refine Ej Tryz.results89 ?_ ?_ CE.out ?_
   ·rfl
   ·rfl
   ·exact ⟨_,tl,rfl,HWW.out,HW.out,dm.out⟩
def jk (n:Nat) (zss:List (List Int)) (k:Nat):Bool:=(List.range k).all fun i=>eH n (zss.getD i [])
theorem Fw (n:Nat) (zss:List (List Int)) (k:Nat):jk n zss (k+1)=(jk n zss k&&eH n (zss.getD k [])):=by
 unfold jk
 rw [List.range_succ,List.all_append]
 simp
def bi (zs:List Int) (zss:List (List Int)) (ss:List Int):Bool:=decide (1≤zs.length)&&decide (zs.length≤6)&&decide (zss.length=zs.length)&&bI zs&&decide (ss.length≠0)&&eH zs.length ss&&jk zs.length zss zs.length
theorem MP {n i:Nat} (hi:i<n) (zs:List Int):eH n (o6 i zs)=eH n zs:=by
 unfold o6
 by_cases h:zs.length=0
 ·rw [if_pos h,List.length_eq_zero_iff.1 h]
  have e1:decide ((0:Int)≤(i:Int))=true:=by simp
  have e2:decide ((i:Int)<(n:Int))=true:=by simp;omega
  simp [eH,hi]
 ·rw [if_neg h]
def bR (zs:List Int) (i:Nat):Nat:=(zs.getD i 0).toNat
def dF (zss:List (List Int)) (i j:Nat):Bool:=mW (o6 i (zss.getD i [])) j
def su (ss:List Int) (i:Nat):Bool:=mW ss i
def VS (lt:Nat→Nat) (ed:Nat→Nat→Bool) (st:Nat→Bool) (i:Nat):List Value:=[.int .i64 (lt i:Nat),.bool (ed i 0),.bool (ed i 1),.bool (ed i 2),.bool (ed i 3),.bool (ed i 4),.bool (ed i 5),.bool (st i)]
def rF (lt:Nat→Nat) (ed:Nat→Nat→Bool) (st:Nat→Bool) (k:Nat):List Value:=(List.range k).flatMap (VS lt ed st)
theorem yh (lt:Nat→Nat) (ed:Nat→Nat→Bool) (st:Nat→Bool) (k:Nat):rF lt ed st (k+1)=rF lt ed st k++VS lt ed st k:=by simp [rF,List.range_succ]
theorem uZ (lt:Nat→Nat) (ed:Nat→Nat→Bool) (st:Nat→Bool):∀ k,(rF lt ed st k).length=k*8
 | 0=>rfl
 | k+1=>by rw [yh,List.length_append,uZ lt ed st k];simp [VS];omega
theorem u6 (lt:Nat→Nat) (ed:Nat→Nat→Bool) (st:Nat→Bool) {j:Nat} (hj:j<8):∀ {k i:Nat},i<k→(rF lt ed st k)[i*8+j]?=(VS lt ed st i)[j]?
 | 0,i,hi=>by omega
 | k+1,i,hi=>by
  rw [yh]
  by_cases h:i<k
  ·rw [List.getElem?_append_left (by rw [uZ];omega)]
   exact u6 lt ed st hj h
  ·obtain rfl:i=k:=by omega
   rw [List.getElem?_append_right (by rw [uZ];omega),uZ]
   congr 1
   omega
theorem ZH {w:World} {B g n cap:Nat} {lt:Nat→Nat} {ed:Nat→Nat→Bool} {st:Nat→Bool} (h:w.ownsRow B 156 8 (.slice (some ⟨g,0,none⟩) n cap) n (rF lt ed st n)):xL w g n lt ed st:=by
 refine ⟨(h.lt g rfl).2,fun i hi=>?_,fun i j hi hj=>?_,fun i hi=>?_⟩
 ·rw [h.cellAt (i*8) (by omega)]
  have:=u6 lt ed st (j:=0) (by omega) hi
  exact this
 ·rw [h.cellAt (i*8+(1+j)) (by omega),u6 lt ed st (by omega) hi]
  have:j=0∨j=1∨j=2∨j=3∨j=4∨j=5:=by omega
  rcases this with rfl | rfl | rfl | rfl | rfl | rfl <;> rfl
 ·rw [h.cellAt (i*8+7) (by omega),u6 lt ed st (by omega) hi]
  rfl
theorem Tryz.WI:(Tryz.prog.info? 156).map (fun i=>(i.zero,i.size,i.bytes))=some (some (.agg #[.int .i64 0,.bool false,.bool false,.bool false,.bool false,.bool false,.bool false,.bool false]),8,16):=by kernel_rfl
def ng (zs:List Int) (zss:List (List Int)) (ss:List Int) (w:World) (e:Ending) (w':World):Prop:=
 Below w.heap.size w w'∧((bi zs zss ss=false∧e=.returned (.tuple #[.slice none 0 0,.bool false])) ∨
  (bi zs zss ss=true∧∃ g cap,e=.returned (.tuple #[.slice (some ⟨g,0,none⟩) zs.length cap,.bool true])∧xL w' g zs.length (bR zs) (dF zss) (su ss)))
section
variable (a1 a2 a3:Option Addr) (l1 c1 l2 c2 l3 c3:Nat) (zs:List Int) (zss:List (List Int)) (ss:List Int) (w:World)
theorem U4 (h1:Ints w a1 l1 c1 zs) (h2:Lists w a2 l2 c2 zss) (h3:Ints w a3 l3 c3 ss) (hb:l1=0∨6<l1∨l2≠l1) :
  Calls Tryz.prog 45 #[.agg #[.slice a1 l1 c1,.slice a2 l2 c2,.slice a3 l3 c3]] w (ng zs zss ss w):=by
 have m1:=h1.hcap
 have m2:=h1.hmax
 have L1:=h1.hlen
 have L2:=h2.hlen
 have n1:=h2.hcap
 have n2:=h2.hmax
 have HE:Hid (bi zs zss ss=false):=hid (by
  cases e:bi zs zss ss with
  | false=>rfl
  | true=>
   unfold bi at e
   simp only [Bool.and_eq_true,decide_eq_true_eq] at e
   omega)
 have ba:=hid ((Below.refl w.heap.size w).alloc (Nat.le_refl _) (.cells #[.slice a1 l1 c1,.slice a2 l2 c2,.slice a3 l3 c3] 25))
 have T0:=bK w (.slice a1 l1 c1) (.slice a2 l2 c2) (.slice a3 l3 c3) 25
 have x0:=T0.c0
 have x1:=T0.c1
 clear h1 h2 h3 T0
 by_cases k1:l1=0
 ·subst k1
  go_enter Tryz.func45,Tryz.ntmps45
  go_wp2_with fail
  go_ret2
  unfold ng
  exact ⟨ba.out,Or.inl ⟨HE.out,rfl⟩⟩
 have q1:decide ((l1:Int)<1)=false:=by simp;omega
 by_cases k2:6<l1
 ·have q2:(6:Int)<(l1:Int):=by omega
  go_enter Tryz.func45,Tryz.ntmps45
  go_wp2_with fail
  go_ret2
  unfold ng
  exact ⟨ba.out,Or.inl ⟨HE.out,rfl⟩⟩
 have q2:decide ((6:Int)<(l1:Int))=false:=by simp;omega
 have k3:((l2:Int)!=(l1:Int))=true:=bne_iff_ne.2 (by omega)
 go_enter Tryz.func45,Tryz.ntmps45
 go_wp2_with fail
 go_ret2
 unfold ng
 exact ⟨ba.out,Or.inl ⟨HE.out,rfl⟩⟩
theorem YS (h1:Ints w a1 l1 c1 zs) (h2:Lists w a2 l1 c2 zss) (h3:Ints w a3 l3 c3 ss) (hp:1≤l1) (h6:l1≤6) :
  Calls Tryz.prog 45 #[.agg #[.slice a1 l1 c1,.slice a2 l1 c2,.slice a3 l3 c3]] w (ng zs zss ss w):=by
 have m1:=h1.hcap
 have m2:=h1.hmax
 have L1:=h1.hlen
 have L2:=h2.hlen
 have L3:=h3.hlen
 have n1:=h2.hcap
 have n2:=h2.hmax
 have o1:=h3.hcap
 have o2:=h3.hmax
 have q1:decide ((l1:Int)<1)=false:=by simp;omega
 have q2:decide ((6:Int)<(l1:Int))=false:=by simp;omega
 have q3:((l1:Int)!=(l1:Int))=false:=by simp
 have zf:Hid (bi zs zss ss=(bI zs&&decide (ss.length≠0)&&eH l1 ss&&jk l1 zss l1)):=hid (by
  unfold bi
  rw [L1,show decide (1≤l1)=true by simp;omega,show decide (l1≤6)=true by simp;omega,show decide (zss.length=l1)=true by simp;omega]
  simp)
 have HI1:=hid (fun W (b:Below w.heap.size w W)=>h1.below b)
 have HI2:=hid (fun W (b:Below w.heap.size w W)=>h2.below b)
 have HI3:=hid (fun W (b:Below w.heap.size w W)=>h3.below b)
 have ba:=hid ((Below.refl w.heap.size w).alloc (Nat.le_refl _) (.cells #[.slice a1 l1 c1,.slice a2 l1 c2,.slice a3 l3 c3] 25))
 have T0:=hid (bK w (.slice a1 l1 c1) (.slice a2 l1 c2) (.slice a3 l3 c3) 25)
 obtain ⟨i0,hi0,hz0,hz1,hz2⟩:=info_parts Tryz.WI
 have x0:=T0.out.c0
 have x1:=T0.out.c1
 have x2:=T0.out.c2
 have AL:=hid (iB a1 l1 c1 zs _ (HI1.out _ ba.out))
 clear h1 h2 h3
 go_enter Tryz.func45,Tryz.ntmps45
 go_wp2_with fail
 refine AL.out.mono ?_
 rintro e w1 ⟨rfl,rfl⟩
 cases hal:bI zs with
 | false=>
  have HE:Hid (bi zs zss ss=false):=hid (by rw [zf.out,hal];rfl)
  clear hal
  go_wp2_with fail
  go_ret2
  unfold ng
  exact ⟨ba.out,Or.inl ⟨HE.out,rfl⟩⟩
 | true=>
  have qQ:=hid hal
  clear hal
  by_cases hl3:l3=0
  ·subst hl3
   have HE:Hid (bi zs zss ss=false):=hid (by rw [zf.out,L3];simp)
   go_wp2_with fail
   go_ret2
   unfold ng
   exact ⟨ba.out,Or.inl ⟨HE.out,rfl⟩⟩
  ·have hz3:((l3:Int)==0)=false:=beq_eq_false_iff_ne.2 (by omega)
   have AM:=hid (Cm a3 l3 c3 l1 ss _ (HI3.out _ ba.out) h6)
   go_wp2_with fail
   generalize hW:(w.alloc (.cells #[.slice a1 l1 c1,.slice a2 l1 c2,.slice a3 l3 c3] 25))=W at *
   have hWs:W.heap.size=w.heap.size+1:=by rw [←hW];simp
   clear hW
   refine AM.out.mono ?_
   intro e w2 ham
   unfold lZ at ham
   obtain ⟨fs,rfl,hfs,hb2⟩:=ham
   have Yr:=hid hfs
   have T2:=hid (T0.out.below hb2 (by omega))
   have HB2:=hid (ba.out.trans (hb2.mono (by omega)))
   have hs2:=hb2.size
   clear hfs hb2 AM x0 x1 x2 T0 ba AL
   have bs:=(Below.refl w2.heap.size w2).alloc (Nat.le_refl _) (.cells (six fs) 151)
   have RS:=hid (kS w2 (fun i=>Value.bool (fs i)) 6 151)
   have T3:=hid (T2.out.below bs (by omega))
   have HB3:=hid (HB2.out.trans (bs.mono (by omega)))
   clear bs T2 HB2
   unfold six
   cases hns:eH l1 ss with
   | false=>
    have HE:Hid (bi zs zss ss=false):=hid (by rw [zf.out,hns];simp)
    clear hns
    go_wp2_with fail
    go_ret2
    unfold ng
    exact ⟨HB3.out,Or.inl ⟨HE.out,rfl⟩⟩
   | true=>
    have DV:=hid hns
    have ajO:=hid (Yr.out hns)
    clear hns Yr
    have x0:=T3.out.c0
    have x1:=T3.out.c1
    have hw3:(w2.alloc (.cells (six fs) 151)).heap.size=w2.heap.size+1:=by simp
    have RS3:Hid (bW (w2.alloc (.cells #[.bool (fs 0),.bool (fs 1),.bool (fs 2),.bool (fs 3),.bool (fs 4),.bool (fs 5)] 151)) w2.heap.size 6 (fun i=>Value.bool (fs i))):=RS
    unfold six at T3 HB3 hw3 x0 x1
    clear RS
    go_wp2_with fail
    clear x0 x1
    generalize hW3:(w2.alloc (.cells #[.bool (fs 0),.bool (fs 1),.bool (fs 2),.bool (fs 3),.bool (fs 4),.bool (fs 5)] 151))=W3 at *
    clear hW3
    go_loopw [7,50] (fun v i wq=>∃ k:Nat,k≤l1∧i=.int .i64 k∧Hid (jk l1 zss k=true)∧Hid (wq.ownsRow (w2.heap.size+1) 156 8 v k (rF (bR zs) (dF zss) (su ss) k))∧Hid (Below (w2.heap.size+1) W3 wq)) (fun _ i _=>l1 - (intOf i).toNat)
    case atStart=>exact ⟨0,Nat.zero_le _,rfl,hid (by simp [jk]),hid (World.ownsRow_nil _ _ _ _),hid (Below.refl _ _)⟩
    case round=>
     obtain ⟨k,hk,rfl,DR,HO,HX⟩:=hrel
     rename World=>W4
     obtain ⟨aV,cV,rfl⟩:=ag HO.out
     have hs4:=HX.out.size
     have dm:=hid (HB3.out.trans (HX.out.mono (by omega)))
     by_cases hlk:k<l1
     ·have T4:=T3.out.below HX.out (by omega)
      have x0:=T4.c0
      have x1:=T4.c1
      obtain ⟨b1,o1',e1,hb1,hc1⟩:=(HI1.out W4 dm.out).hcell (by omega)
      obtain ⟨b2,o2',e2,hb2,hc2⟩:=(HI2.out W4 dm.out).hcell (by omega)
      subst e1
      subst e2
      have cz:=hc1 k hlk
      obtain ⟨ra,rl,rc,cr,hr⟩:=hc2 k hlk
      have hzl:nY (zs.getD k 0)=true:=by
       have h9:=qQ.out
       unfold bI at h9
       rw [List.all_eq_true] at h9
       refine h9 _ ?_
       rw [List.getD,List.getElem?_eq_getElem (by omega)]
       exact List.getElem_mem _
      have aiP:=gQ.1 hzl
      have Pw:Hid (zs.getD k 0=((bR zs k:Nat):Int)):=hid (by unfold bR;omega)
      rw [Pw.out] at cz
      have AZ:Hid (∀ j,dF zss k j=mW (o6 k (zss.getD k [])) j):=hid (fun j=>rfl)
      have lu:=hid (MP hlk (zss.getD k []))
      have Rv:=hid (Fw l1 zss k)
      have PD:Hid (jk l1 zss l1=true→eH l1 (zss.getD k [])=true):=hid (fun h9=>by
       unfold jk at h9
       rw [List.all_eq_true] at h9
       exact h9 k (by simpa using hlk))
      have ED:=hid (Xq ra rl rc k l1 (zss.getD k []) W4 hr h6)
      have Yt:=hid (yh (bR zs) (dF zss) (su ss) k)
      unfold VS at Yt
      have jD:=hid (fun q h=>(HO.out.lt q h).1)
      have i1:(0:Int)≤(k:Int):=by omega
      have i2:(k:Int)<(l1:Int):=by omega
      clear hc1 hc2 hr hzl aiP T4
      generalize zss.getD k []=row at *
      generalize bR zs k=m at *
      go_wp2_with fail
      refine ED.out.mono ?_
      intro e w5 ham
      unfold lZ at ham
      obtain ⟨f,rfl,hf,hb5⟩:=ham
      have HF:=hid hf
      have HX5:=hid (HX.out.trans (hb5.mono (by omega)))
      have O5:=hid (ae HO.out hb5)
      have hs5:=hb5.size
      clear hf hb5 ED x0 x1 cz cr
      have bs:=(Below.refl w5.heap.size w5).alloc (Nat.le_refl _) (.cells (six f) 151)
      have Cr:=hid (HX5.out.trans (bs.mono (by omega)))
      have O6:=hid (ae O5.out bs)
      have iQ:=hid (HB3.out.trans (Cr.out.mono (by omega)))
      clear bs HX5 O5
      unfold six
      unfold six at Cr O6 iQ
      cases hnr:eH l1 (o6 k row) with
      | false=>
       have HE:Hid (bi zs zss ss=false):=hid (by
        rw [zf.out]
        have h9:jk l1 zss l1=false:=by
         cases e:jk l1 zss l1 with
         | false=>rfl
         | true=>
          have h10:=PD.out e
          rw [←lu.out,hnr] at h10
          cases h10
        rw [h9];simp)
       clear hnr
       go_wp2_with fail
       go_ret2
       unfold ng
       exact ⟨iQ.out,Or.inl ⟨HE.out,rfl⟩⟩
      | true=>
       have HRK:Hid (jk l1 zss (k+1)=true):=hid (by rw [Rv.out,DR.out,←lu.out,hnr];rfl)
       have jA:=hid (HF.out hnr)
       clear hnr HF
       have f0:(w5.alloc (.cells #[.bool (f 0),.bool (f 1),.bool (f 2),.bool (f 3),.bool (f 4),.bool (f 5)] 151)).cell? ⟨w5.heap.size,0,none⟩=some (.bool (f 0)):=by simp
       have f1:(w5.alloc (.cells #[.bool (f 0),.bool (f 1),.bool (f 2),.bool (f 3),.bool (f 4),.bool (f 5)] 151)).cell? ⟨w5.heap.size,1,none⟩=some (.bool (f 1)):=by simp
       have f2:(w5.alloc (.cells #[.bool (f 0),.bool (f 1),.bool (f 2),.bool (f 3),.bool (f 4),.bool (f 5)] 151)).cell? ⟨w5.heap.size,2,none⟩=some (.bool (f 2)):=by simp
       have f3:(w5.alloc (.cells #[.bool (f 0),.bool (f 1),.bool (f 2),.bool (f 3),.bool (f 4),.bool (f 5)] 151)).cell? ⟨w5.heap.size,3,none⟩=some (.bool (f 3)):=by simp
       have f4:(w5.alloc (.cells #[.bool (f 0),.bool (f 1),.bool (f 2),.bool (f 3),.bool (f 4),.bool (f 5)] 151)).cell? ⟨w5.heap.size,4,none⟩=some (.bool (f 4)):=by simp
       have f5:(w5.alloc (.cells #[.bool (f 0),.bool (f 1),.bool (f 2),.bool (f 3),.bool (f 4),.bool (f 5)] 151)).cell? ⟨w5.heap.size,5,none⟩=some (.bool (f 5)):=by simp
       have sk:=((RS3.out.below Cr.out (by omega)).c k (by omega))
       have aiR:(w5.alloc (.cells #[.bool (f 0),.bool (f 1),.bool (f 2),.bool (f 3),.bool (f 4),.bool (f 5)] 151)).heap.size=w5.heap.size+1:=by simp
       have ER:Hid (([.int .i64 (m:Nat),.bool (dF zss k 0),.bool (dF zss k 1),.bool (dF zss k 2),.bool (dF zss k 3),.bool (dF zss k 4),.bool (dF zss k 5),.bool (su ss k)]:List Value)=[.int .i64 (m:Nat),.bool (f 0),.bool (f 1),.bool (f 2),.bool (f 3),.bool (f 4),.bool (f 5),.bool (fs k)]):=hid (by
        rw [AZ.out 0,AZ.out 1,AZ.out 2,AZ.out 3,AZ.out 4,AZ.out 5,←jA.out 0 (by omega),←jA.out 1 (by omega),←jA.out 2 (by omega),←jA.out 3 (by omega),←jA.out 4 (by omega),←jA.out 5 (by omega),ajO.out k (by omega)]
        rfl)
       have i3:(k:Int)<6:=by omega
       go_wp2_with fail
       generalize hW6:(w5.alloc (.cells #[.bool (f 0),.bool (f 1),.bool (f 2),.bool (f 3),.bool (f 4),.bool (f 5)] 151))=W6 at *
       clear hW6
       have yE:w5.heap.size<W6.heap.size:=by omega
       have yS:w2.heap.size<W6.heap.size:=by omega
       have yB:w2.heap.size+1≤W6.heap.size:=by omega
       clear aiR
       refine wp_region_held_drew (S:=fun w'=>w'.cell? ⟨w5.heap.size,0,none⟩=some (.bool (f 0))∧w'.cell? ⟨w5.heap.size,1,none⟩=some (.bool (f 1))∧w'.cell? ⟨w5.heap.size,2,none⟩=some (.bool (f 2))∧w'.cell? ⟨w5.heap.size,3,none⟩=some (.bool (f 3))∧w'.cell? ⟨w5.heap.size,4,none⟩=some (.bool (f 4))∧w'.cell? ⟨w5.heap.size,5,none⟩=some (.bool (f 5))∧w'.cell? ⟨w2.heap.size,k,none⟩=some (.bool (fs k))) (by kernel_rfl) ⟨f0,f1,f2,f3,f4,f5,sk⟩ (fun hHeld=>?_)
       refine wpAnyH_take (i:=0) (oi:={ dst:=some 68,op:=Op.move (.tmp 7),type:=_,pos:=_,after:=_,guard:=none }) (v:=(Value.slice aV k cV)) rfl (by kernel_rfl) (by kernel_rfl) (by kernel_rfl) (fun _ _ _ h=>h) (Or.inl ⟨by rfl,by intro w' hSw;(try dsimp only at hSw);go_simp⟩) (by assumption) ?_
       simp only [Act.put,List.setIfInBounds_toArray,List.set_cons_zero,List.set_cons_succ]
       refine wpAnyH_take (i:=1) (oi:={ dst:=some 69,op:=Op.move (.tmp 9),type:=_,pos:=_,after:=_,guard:=none }) (v:=(Value.int .i64 (m:Nat))) rfl (by kernel_rfl) (by kernel_rfl) (by kernel_rfl) (fun _ _ _ h=>h) (Or.inl ⟨by rfl,by intro w' hSw;(try dsimp only at hSw);go_simp⟩) (by assumption) ?_
       simp only [Act.put,List.setIfInBounds_toArray,List.set_cons_zero,List.set_cons_succ]
       refine wpAnyH_take (i:=2) (oi:={ dst:=some 70,op:=Op.load _ (.tmp 10),type:=_,pos:=_,after:=_,guard:=none }) (v:=(Value.agg #[.bool (f 0),.bool (f 1),.bool (f 2),.bool (f 3),.bool (f 4),.bool (f 5)])) rfl (by kernel_rfl) (by kernel_rfl) (by kernel_rfl) (fun _ _ _ h=>h) (Or.inl ⟨by rfl,by intro w' hSw;(try dsimp only at hSw);go_simp⟩) (by assumption) ?_
       simp only [Act.put,List.setIfInBounds_toArray,List.set_cons_zero,List.set_cons_succ]
       refine wpAnyH_take (i:=3) (oi:={ dst:=some 71,op:=Op.move (.tmp 8),type:=_,pos:=_,after:=_,guard:=none }) (v:=(Value.int .i64 (k:Nat))) rfl (by kernel_rfl) (by kernel_rfl) (by kernel_rfl) (fun _ _ _ h=>h) (Or.inl ⟨by rfl,by intro w' hSw;(try dsimp only at hSw);go_simp⟩) (by assumption) ?_
       simp only [Act.put,List.setIfInBounds_toArray,List.set_cons_zero,List.set_cons_succ]
       refine wpAnyH_take (i:=4) (oi:={ dst:=some 72,op:=Op.indexAddr _ (.tmp 5) (.tmp 71),type:=_,pos:=_,after:=_,guard:=none }) (v:=(Value.pointer (some ⟨w2.heap.size,k,none⟩))) rfl (by kernel_rfl) (by kernel_rfl) (by kernel_rfl) (fun _ _ _ h=>h) (Or.inl ⟨by rfl,by intro w' hSw;(try dsimp only at hSw);go_simp⟩) (by assumption) ?_
       simp only [Act.put,List.setIfInBounds_toArray,List.set_cons_zero,List.set_cons_succ]
       refine wpAnyH_take (i:=5) (oi:={ dst:=some 73,op:=Op.load _ (.tmp 72),type:=_,pos:=_,after:=_,guard:=none }) (v:=(Value.bool (fs k))) rfl (by kernel_rfl) (by kernel_rfl) (by kernel_rfl) (fun _ _ _ h=>h) (Or.inl ⟨by rfl,by intro w' hSw;(try dsimp only at hSw);go_simp⟩) (by assumption) ?_
       simp only [Act.put,List.setIfInBounds_toArray,List.set_cons_zero,List.set_cons_succ]
       refine wpAnyH_take (i:=6) (oi:={ dst:=some 74,op:=Op.build _ #[(0,.tmp 69),(1,.tmp 70),(2,.tmp 73)],type:=_,pos:=_,after:=_,guard:=none }) (v:=(Value.agg #[.int .i64 (m:Nat),.bool (f 0),.bool (f 1),.bool (f 2),.bool (f 3),.bool (f 4),.bool (f 5),.bool (fs k)])) rfl (by kernel_rfl) (by kernel_rfl) (by kernel_rfl) (fun _ _ _ h=>h) (Or.inl ⟨by rfl,by intro w' hSw;(try dsimp only at hSw);go_simp⟩) (by assumption) ?_
       simp only [Act.put,List.setIfInBounds_toArray,List.set_cons_zero,List.set_cons_succ]
       refine wpAnyH_ready (rs:=[7]) (by kernel_rfl) (by simp) ?_
       refine AllReadyH.cons rfl (fun K hK=>?_) AllReadyH.nil
       go_simp
       have xa:Below W6.heap.size W6 (W6.alloc (.cells #[.int .i64 (m:Nat),.bool (f 0),.bool (f 1),.bool (f 2),.bool (f 3),.bool (f 4),.bool (f 5),.bool (fs k)] 156)):=(Below.refl W6.heap.size W6).alloc (Nat.le_refl _) _
       refine hK.out _ _ ⟨(xa.cell (p:=⟨w5.heap.size,0,none⟩) yE).trans f0,(xa.cell (p:=⟨w5.heap.size,1,none⟩) yE).trans f1,(xa.cell (p:=⟨w5.heap.size,2,none⟩) yE).trans f2,(xa.cell (p:=⟨w5.heap.size,3,none⟩) yE).trans f3,(xa.cell (p:=⟨w5.heap.size,4,none⟩) yE).trans f4,(xa.cell (p:=⟨w5.heap.size,5,none⟩) yE).trans f5,(xa.cell (p:=⟨w2.heap.size,k,none⟩) yS).trans sk⟩ (fun hHeld=>?_)
       clear hK K
       refine wpAnyH_ready (rs:=[8]) (by kernel_rfl) (by simp) ?_
       refine AllReadyH.cons rfl (fun K hK=>?_) AllReadyH.nil
       refine step_append_lies _ (by rfl) (.tmp 68) (.tmp 75) 88 (by rfl) (w2.heap.size+1) 156 i0 (.agg #[.int .i64 0,.bool false,.bool false,.bool false,.bool false,.bool false,.bool false,.bool false]) 8 16 Tryz.underlying88 hi0 hz0 hz1 hz2 rfl (by decide) _ k (rF (bR zs) (dF zss) (su ss) k) (by rfl) ((O6.out.alloc _).drew) ⟨W6.heap.size,0,none⟩ 1 1 [.int .i64 (m:Nat),.bool (f 0),.bool (f 1),.bool (f 2),.bool (f 3),.bool (f 4),.bool (f 5),.bool (fs k)] (by rfl) (by rfl) (World.news_of_block (cs:=#[.int .i64 (m:Nat),.bool (f 0),.bool (f 1),.bool (f 2),.bool (f 3),.bool (f 4),.bool (f 5),.bool (fs k)]) (t:=156) (fr:=(0,0)) (heap_alloc_new W6 _)) (by simp [Value.oneCell']) (by decide) (by unfold maxLen;omega) (by omega) (by simp;omega) (W6.heap.size+1) (by simp) ?_
       intro gg cc w7 hown hgrow hat hlt7
       have KJ:=hid ((Cr.out.trans ((below_drewN xa 1).mono (by omega))).grown hgrow (by show w2.heap.size+1≤(W6.alloc (.cells #[.int .i64 (m:Nat),.bool (f 0),.bool (f 1),.bool (f 2),.bool (f 3),.bool (f 4),.bool (f 5),.bool (fs k)] 156)).heap.size;rw [World.size_alloc];omega) (fun q h=>jD.out q h))
       have O7:Hid (w7.ownsRow (w2.heap.size+1) 156 8 (.slice (some ⟨gg,0,none⟩) (k+1) cc) (k+1) (rF (bR zs) (dF zss) (su ss) (k+1))):=hid (by rw [Yt.out,ER.out];exact hown)
       have KS:∀ (b o:Nat) {v:Value},b<W6.heap.size→some b≠(Value.slice aV k cV).ownBlock→W6.cell? ⟨b,o,none⟩=some v→w7.cell? ⟨b,o,none⟩=some v:=fun b o v hb hne hv=>hgrow.cell ((xa.cell (p:=⟨b,o,none⟩) hb).trans hv) hne
       have MW:some w5.heap.size≠(Value.slice aV k cV).ownBlock:=fun h=>by have:=(HO.out.lt _ h.symm).2;omega
       have neS:some w2.heap.size≠(Value.slice aV k cV).ownBlock:=fun h=>by have:=jD.out _ h.symm;omega
       refine hK.out _ _ ⟨KS _ _ yE MW f0,KS _ _ yE MW f1,KS _ _ yE MW f2,KS _ _ yE MW f3,KS _ _ yE MW f4,KS _ _ yE MW f5,KS _ _ yS neS sk⟩ (fun hHeld=>?_)
       clear hK K hown hgrow hat KS MW neS xa
       (try simp only [Act.put,List.setIfInBounds_toArray])
       refine wpAnyH_take (i:=9) (oi:={ dst:=some 7,op:=Op.assign (.tmp 76),type:=_,pos:=_,after:=_,guard:=none }) (v:=(Value.slice (some ⟨gg,0,none⟩) (k+1) cc)) rfl (by kernel_rfl) (by kernel_rfl) (by kernel_rfl) (fun _ _ _ h=>h) (Or.inl ⟨by rfl,by intro w' hSw;(try dsimp only at hSw);go_simp⟩) (by assumption) ?_
       simp only [Act.put]
       refine wpAnyH_done (by kernel_rfl) ?_ _
       clear hHeld f0 f1 f2 f3 f4 f5 sk
       go_wp2_with fail
       go_roundw
       case rel=>exact ⟨k+1,by omega,by go_num,HRK,O7,KJ⟩
       case measure=>simp [intOf] <;> omega
     ·obtain rfl:k=l1:=by omega
      have HE:Hid (bi zs zss ss=true):=hid (by rw [zf.out,qQ.out,DV.out,DR.out];simp;intro h;rw [h] at L3;simp at L3;omega)
      obtain ⟨gV,eV,_,_,_⟩:=dH HO.out (by omega)
      subst eV
      have DW:=hid (ZH HO.out)
      go_wp2_with fail
      go_ret2
      unfold ng
      exact ⟨dm.out,Or.inr ⟨HE.out,gV,cV,(by rw [L1];rfl),(by rw [L1];exact DW.out)⟩⟩
theorem U6 (h1:Ints w a1 l1 c1 zs) (h2:Lists w a2 l2 c2 zss) (h3:Ints w a3 l3 c3 ss):Calls Tryz.prog 45 #[.agg #[.slice a1 l1 c1,.slice a2 l2 c2,.slice a3 l3 c3]] w (ng zs zss ss w):=by
 by_cases h:l1=0∨6<l1∨l2≠l1
 ·exact U4 a1 a2 a3 l1 c1 l2 c2 l3 c3 zs zss ss w h1 h2 h3 h
 ·obtain rfl:l2=l1:=by omega
  exact YS a1 a2 a3 l2 c1 c2 l3 c3 zs zss ss w h1 h2 h3 (by omega) (by omega)
end
end Go.Proofs.YtjagijohfkffiabGreat
