import Derived.Test.YtjagijohfkffiabGreatALLM22
import Derived.Test.YtjagijohfkffiabGreatALLM44
set_option maxHeartbeats 16000000
set_option maxRecDepth 100000
namespace Go.Proofs.YtjagijohfkffiabGreat
open Go.RowKit
set_option linter.unusedVariables false
theorem wu (a:Option Addr) (l c n:Nat) (zs:List Int) (w:World) (h:Ints w a l c zs) :
  Calls Tryz.prog 84 #[.slice a l c,.int .i64 (n:Nat)] w fun e w'=>e=.returned (.bool (eH n zs))∧w'=w:=by
 have hl:=h.hlen
 have hcap:=h.hcap
 have hmax:=h.hmax
 have HI:=hid h
 clear h
 go_enter Tryz.func84,Tryz.ntmps84
 go_wp2_with fail
 go_loop [5] (fun i=>∃ j:Nat,j≤l∧i=.int .i64 j∧Hid (∀ k,k<j→0≤zs.getD k 0∧zs.getD k 0<(n:Int))) (fun i=>l - (intOf i).toNat)
 case atStart=>exact ⟨0,Nat.zero_le _,rfl,hid (fun k hk=>by omega)⟩
 case round=>
  obtain ⟨j,hj,rfl,HK⟩:=hrel
  by_cases hlt:j<l
  ·obtain ⟨b,o,e,hb,hc⟩:=HI.out.hcell (by omega)
   subst e
   have ck:=hc j hlt
   have HM:Hid (zs.getD j 0∈zs):=hid (by rw [List.getD,List.getElem?_eq_getElem (by omega)];exact List.getElem_mem _)
   have HST:Hid (0≤zs.getD j 0∧zs.getD j 0<(n:Int)→∀ k,k<j+1→0≤zs.getD k 0∧zs.getD k 0<(n:Int)):=hid (fun h k hk=>by
    by_cases e:k=j
    ·subst e;exact h
    ·exact HK.out k (by omega))
   have lu:Hid (¬ (0≤zs.getD j 0∧zs.getD j 0<(n:Int))→eH n zs=false):=hid (fun h=>by
    cases e:eH n zs with
    | false=>rfl
    | true=>exact absurd (nV.1 e _ HM.out) h)
   clear hc
   generalize zs.getD j 0=z at *
   have i1:(0:Int)≤(j:Int):=by omega
   have i2:(j:Int)<(l:Int):=by omega
   by_cases g1:z<0
   ·have HE:=hid (lu.out (by omega))
    go_wp2_with fail
    go_ret
    exact ⟨by rw [HE.out];rfl,rfl⟩
   ·have g1':decide (z<0)=false:=by simp;omega
    by_cases g2:(n:Int)≤z
    ·have HE:=hid (lu.out (by omega))
     go_wp2_with fail
     go_ret
     exact ⟨by rw [HE.out];rfl,rfl⟩
    ·have g2':decide ((n:Int)≤z)=false:=by simp;omega
     have HS:=hid (HST.out (by omega))
     go_wp2_with fail
     go_round
     case rel=>exact ⟨j+1,by omega,by go_num,HS⟩
     case measure=>simp [intOf] <;> omega
  ·obtain rfl:j=l:=by omega
   have HE:Hid (eH n zs=true):=hid (nV.2 (fun z hz=>by
    obtain ⟨k,hk,e⟩:=List.getElem_of_mem hz
    have:=HK.out k (by omega)
    rw [List.getD,List.getElem?_eq_getElem hk] at this
    simpa [e] using this))
   go_wp2_with fail
   go_ret
   exact ⟨by rw [HE.out];rfl,rfl⟩
section
variable (a1 a2 a3:Option Addr) (l1 c1 l2 c2 l3 c3:Nat) (zs:List Int) (zss:List (List Int)) (ss:List Int) (w:World)
theorem yc (h1:Ints w a1 l1 c1 zs) (h2:Lists w a2 l2 c2 zss) (h3:Ints w a3 l3 c3 ss) :
  Calls Tryz.prog 80 #[.agg #[.slice a1 l1 c1,.slice a2 l2 c2,.slice a3 l3 c3]] w fun e w'=>e=.returned (.bool (bi zs zss ss))∧Below w.heap.size w w':=by
 have m1:=h1.hcap
 have m2:=h1.hmax
 have L1:=h1.hlen
 have L2:=h2.hlen
 have L3:=h3.hlen
 have n1:=h2.hcap
 have n2:=h2.hmax
 have o1:=h3.hcap
 have o2:=h3.hmax
 have zf:Hid (bi zs zss ss=(decide (1≤l1)&&decide (l1≤6)&&decide (l2=l1)&&bI zs&&decide (l3≠0)&&eH l1 ss&&jk l1 zss l1)):=hid (by unfold bi;rw [L1,L2,L3])
 have ba:=(Below.refl w.heap.size w).alloc (Nat.le_refl _) (.cells #[.slice a1 l1 c1,.slice a2 l2 c2,.slice a3 l3 c3] 25)
 have T0:=bK w (.slice a1 l1 c1) (.slice a2 l2 c2) (.slice a3 l3 c3) 25
 have x0:=T0.c0
 have x1:=T0.c1
 have x2:=T0.c2
 have WD:=hid (qy a1 l1 c1 zs _ (h1.below ba))
 have NB:=hid (wu a3 l3 c3 l1 ss _ (h3.below ba))
 have HI2:=hid (h2.below ba)
 have HB:=hid ba
 clear h1 h2 h3 ba T0
 generalize hSL:bI zs=sl at *
 generalize hSN:eH l1 ss=sn at *
 go_enter Tryz.func80,Tryz.ntmps80
 go_wp2_with fail
 refine WD.out.mono ?_
 rintro e w1 ⟨rfl,rfl⟩
 go_wp2_with fail
 refine NB.out.mono ?_
 rintro e w2 ⟨rfl,rfl⟩
 by_cases k1:l1=0
 ·have HE:Hid (bi zs zss ss=false):=hid (by rw [zf.out,k1];simp)
  have z1:((l1:Int)==0)=true:=by simp [k1]
  clear k1
  go_wp2_with fail
  go_ret
  exact ⟨by rw [HE.out];rfl,HB.out⟩
 have z1:((l1:Int)==0)=false:=beq_eq_false_iff_ne.2 (by omega)
 by_cases k2:6<l1
 ·have HE:Hid (bi zs zss ss=false):=hid (by rw [zf.out,show decide (l1≤6)=false by simp;omega];simp)
  have z2:(6:Int)<(l1:Int):=by omega
  go_wp2_with fail
  go_ret
  exact ⟨by rw [HE.out];rfl,HB.out⟩
 have z2:decide ((6:Int)<(l1:Int))=false:=by simp;omega
 have z2n:decide (6<l1)=false:=by simp;omega
 by_cases k3:l2=l1
 ·subst k3
  have z3:((l2:Int)!=(l2:Int))=false:=by simp
  cases sl with
  | false=>
   have HE:Hid (bi zs zss ss=false):=hid (by rw [zf.out];simp)
   go_wp2_with fail
   go_ret
   exact ⟨by rw [HE.out];rfl,HB.out⟩
  | true=>
   cases sn with
   | false=>
    have HE:Hid (bi zs zss ss=false):=hid (by rw [zf.out];simp)
    go_wp2_with fail
    go_ret
    exact ⟨by rw [HE.out];rfl,HB.out⟩
   | true=>
    by_cases k4:l3=0
    ·have HE:Hid (bi zs zss ss=false):=hid (by rw [zf.out,k4];simp)
     have z4:((l3:Int)==0)=true:=by simp [k4]
     clear k4
     go_wp2_with fail
     go_ret
     exact ⟨by rw [HE.out];rfl,HB.out⟩
    ·have z4:((l3:Int)==0)=false:=beq_eq_false_iff_ne.2 (by omega)
     have HG2:Hid (bi zs zss ss=jk l2 zss l2):=hid (by rw [zf.out,show decide (1≤l2)=true by simp;omega,show decide (l2≤6)=true by simp;omega,show decide (l3≠0)=true by simpa using k4];simp)
     go_wp2_with fail
     generalize hW:(w.alloc (.cells #[.slice a1 l2 c1,.slice a2 l2 c2,.slice a3 l3 c3] 25))=W at *
     clear hW
     go_loopw [6] (fun i wq=>∃ k:Nat,k≤l2∧i=.int .i64 k∧wq=W∧Hid (jk l2 zss k=true)) (fun i _=>l2 - (intOf i).toNat)
     case atStart=>exact ⟨0,Nat.zero_le _,rfl,rfl,hid (by simp [jk])⟩
     case round=>
      obtain ⟨k,hk,rfl,rfl,DR⟩:=hrel
      by_cases hlk:k<l2
      ·obtain ⟨b,o,e,hb,hc⟩:=HI2.out.hcell (by omega)
       subst e
       obtain ⟨ra,rl,rc,cr,hr⟩:=hc k hlk
       have Rv:=hid (Fw l2 zss k)
       have PD:Hid (jk l2 zss l2=true→eH l2 (zss.getD k [])=true):=hid (fun h9=>by
        unfold jk at h9
        rw [List.all_eq_true] at h9
        exact h9 k (by simpa using hlk))
       have NK:=hid (wu ra rl rc l2 (zss.getD k []) _ hr)
       generalize eH l2 (zss.getD k [])=nk at *
       have i1:(0:Int)≤(k:Int):=by omega
       have i2:(k:Int)<(l2:Int):=by omega
       clear hc hr
       go_wp2_with fail
       refine NK.out.mono ?_
       rintro e w3 ⟨rfl,rfl⟩
       cases nk with
       | false=>
        have HE:Hid (bi zs zss ss=false):=hid (by
         rw [HG2.out]
         cases e:jk l2 zss l2 with
         | false=>rfl
         | true=>exact absurd (PD.out e) (by simp))
        go_wp2_with fail
        go_ret
        exact ⟨by rw [HE.out];rfl,HB.out⟩
       | true=>
        have HRK:Hid (jk l2 zss (k+1)=true):=hid (by rw [Rv.out,DR.out];rfl)
        go_wp2_with fail
        go_roundw
        case rel=>exact ⟨k+1,by omega,by go_num,by first | rfl | trivial,HRK⟩
        case measure=>simp [intOf] <;> omega
      ·obtain rfl:k=l2:=by omega
       have HE:Hid (bi zs zss ss=true):=hid (by rw [HG2.out];exact DR.out)
       go_wp2_with fail
       go_ret
       exact ⟨by rw [HE.out];rfl,HB.out⟩
 ·have HE:Hid (bi zs zss ss=false):=hid (by rw [zf.out,show decide (l2=l1)=false by simpa using k3];simp)
  have z3:((l2:Int)!=(l1:Int))=true:=bne_iff_ne.2 (by omega)
  go_wp2_with fail
  go_ret
  exact ⟨by rw [HE.out];rfl,HB.out⟩
theorem Bn (i j:Nat) (h2:Lists w a2 l2 c2 zss) (hi:i<l2) :
  Calls Tryz.prog 82 #[.agg #[.slice a1 l1 c1,.slice a2 l2 c2,.slice a3 l3 c3],.int .i64 (i:Nat),.int .i64 (j:Nat)] w fun e w'=>e=.returned (.bool (dF zss i j))∧Below w.heap.size w w':=by
 have n1:=h2.hcap
 have n2:=h2.hmax
 have ba:=(Below.refl w.heap.size w).alloc (Nat.le_refl _) (.cells #[.slice a1 l1 c1,.slice a2 l2 c2,.slice a3 l3 c3] 25)
 have T0:=bK w (.slice a1 l1 c1) (.slice a2 l2 c2) (.slice a3 l3 c3) 25
 have x1:=T0.c1
 obtain ⟨b,o,e,hb,hc⟩:=(h2.below ba).hcell (by omega)
 subst e
 obtain ⟨ra,rl,rc,cr,hr⟩:=hc i hi
 have HRR:=hid hr
 have rm:=hr.hmax
 have rcp:=hr.hcap
 have aiM:=hr.hlen
 have HB:=hid ba
 have i1:(0:Int)≤(i:Int):=by omega
 have i2:(i:Int)<(l2:Int):=by omega
 have Hq:Hid (dF zss i j=mW (o6 i (zss.getD i [])) j):=hid rfl
 rw [Hq.out]
 clear h2 hc hr ba T0
 generalize zss.getD i []=row at *
 by_cases h0:rl=0
 ·subst h0
  have HO:Hid (mW (o6 i row) j=((i:Int)==(j:Int))):=hid (by unfold o6;rw [if_pos aiM];simp [mW])
  have z0:((0:Int)==0)=true:=rfl
  generalize mW (o6 i row) j=bv at *
  have hbv:=HO.out
  go_enter Tryz.func82,Tryz.ntmps82
  go_wp2_with fail
  go_ret
  exact ⟨by rw [HO.out];first | rfl | simp,HB.out⟩
 ·have z0:((rl:Int)==0)=false:=beq_eq_false_iff_ne.2 (by omega)
  have HO:Hid (o6 i row=row):=hid (by unfold o6;rw [if_neg (by omega)])
  rw [HO.out]
  go_enter Tryz.func82,Tryz.ntmps82
  go_wp2_with fail
  generalize hW:(w.alloc (.cells #[.slice a1 l1 c1,.slice (some ⟨b,o,none⟩) l2 c2,.slice a3 l3 c3] 25))=W at *
  clear hW
  go_loopw [7] (fun x wq=>∃ k:Nat,k≤rl∧x=.int .i64 k∧wq=W∧Hid (∀ m,m<k→row.getD m 0≠(j:Int))) (fun x _=>rl - (intOf x).toNat)
  case atStart=>exact ⟨0,Nat.zero_le _,rfl,rfl,hid (fun m hm=>by omega)⟩
  case round=>
   obtain ⟨k,hk,rfl,rfl,HN⟩:=hrel
   by_cases hlk:k<rl
   ·obtain ⟨b',o',e,hb',hc'⟩:=HRR.out.hcell (by omega)
    subst e
    have ck:=hc' k hlk
    have HM:Hid (row.getD k 0∈row):=hid (by rw [List.getD,List.getElem?_eq_getElem (by omega)];exact List.getElem_mem _)
    have uM:Hid (row.getD k 0≠(j:Int)→∀ m,m<k+1→row.getD m 0≠(j:Int)):=hid (fun h m hm=>by
     by_cases e:m=k
     ·subst e;exact h
     ·exact HN.out m (by omega))
    have HY:Hid (row.getD k 0=(j:Int)→mW row j=true):=hid (fun h=>vG.2 (by rw [←h];exact HM.out))
    have j1:(0:Int)≤(k:Int):=by omega
    have j2:(k:Int)<(rl:Int):=by omega
    clear hc' HM
    generalize row.getD k 0=z at *
    by_cases ez:z=(j:Int)
    ·have HE:=hid (HY.out ez)
     have zz:(z==(j:Int))=true:=by simp [ez]
     clear ez
     go_wp2_with fail
     go_ret
     exact ⟨by rw [HE.out];rfl,HB.out⟩
    ·have HS:=hid (uM.out ez)
     have zz:(z==(j:Int))=false:=beq_eq_false_iff_ne.2 ez
     clear ez
     go_wp2_with fail
     go_roundw
     case rel=>exact ⟨k+1,by omega,by go_num,by first | rfl | trivial,HS⟩
     case measure=>simp [intOf] <;> omega
   ·obtain rfl:k=rl:=by omega
    have HE:Hid (mW row j=false):=hid (by
     cases e:mW row j with
     | false=>rfl
     | true=>
      obtain ⟨m,hm,e2⟩:=List.getElem_of_mem (vG.1 e)
      have:=HN.out m (by omega)
      rw [List.getD,List.getElem?_eq_getElem hm] at this
      simp [e2] at this)
    go_wp2_with fail
    go_ret
    exact ⟨by rw [HE.out];rfl,HB.out⟩
end
def kW (st f aA:Nat→Bool) (x:Nat):Bool:=st (x / 256)&&(f x&&!aA (x % 256))
theorem UI (P g n cap gl lcap:Nat) (lt:Nat→Nat) (ed:Nat→Nat→Bool) (st f aA:Nat→Bool) (w:World) (hn:n≤6) (h:xL w g n lt ed st) (hf:bC w gl (n*256) f) (hgl:gl<w.heap.size) (hb:aN w P 2305 aA) (hP:P<w.heap.size) :
  Calls Tryz.prog 91 #[.pointer (some ⟨P,0,none⟩),.slice (some ⟨g,0,none⟩) n cap,.slice (some ⟨gl,0,none⟩) n lcap] w fun e w'=>∃ g',e=.returned (.slice (some ⟨g',0,none⟩) n n)∧w.heap.size≤g'∧g'<w'.heap.size∧bC w' g' (n*256) (kW st f aA)∧Below w.heap.size w w':=by
 have HR:=hid h
 have hg:=h.blk
 have HF:=hid hf
 have Ht:=hid hb
 clear h hf hb
 go_enter Tryz.func91,Tryz.ntmps91
 go_wp2_with (at_make;go_must (refine iq _ rfl (.tmp 13) rfl n rfl (by omega) ?_))
 intro w1 F1 hlt1 hb1
 have wX:=hid F1
 have HB1:=hid hb1
 clear F1 hb1
 go_wp2_with fail
 go_loopw [17] (fun i wq=>∃ k:Nat,k≤n∧i=.int .i64 k∧Hid (bC wq w.heap.size (n*256) (upTo (kW st f aA) (k*256)))∧w.heap.size<wq.heap.size∧Hid (Below w.heap.size w wq)) (fun i _=>n - (intOf i).toNat)
 case atStart=>exact ⟨0,Nat.zero_le _,rfl,by rw [Nat.zero_mul,qm];exact wX,hlt1,HB1⟩
 case round=>
  obtain ⟨k,hk,rfl,H5,hz,HB⟩:=hrel
  rename World=>W0
  clear wX HB1
  by_cases hlk:k<n
  ·have r:=HR.out.below HB.out (Nat.le_refl _) hg
   have q0:=r.l k hlk
   have q1:W0.cell? ⟨g,k*8+1,none⟩=some (.bool (ed k 0)):=r.e k 0 hlk (by omega)
   have q2:W0.cell? ⟨g,k*8+2,none⟩=some (.bool (ed k 1)):=r.e k 1 hlk (by omega)
   have q3:W0.cell? ⟨g,k*8+3,none⟩=some (.bool (ed k 2)):=r.e k 2 hlk (by omega)
   have q4:W0.cell? ⟨g,k*8+4,none⟩=some (.bool (ed k 3)):=r.e k 3 hlk (by omega)
   have q5:W0.cell? ⟨g,k*8+5,none⟩=some (.bool (ed k 4)):=r.e k 4 hlk (by omega)
   have q6:W0.cell? ⟨g,k*8+6,none⟩=some (.bool (ed k 5)):=r.e k 5 hlk (by omega)
   have q7:=r.s k hlk
   have dk:decide ((n:Int)≤(k:Int))=false:=by simp;omega
   have dkn:decide (n≤k)=false:=by simp;omega
   have uI:=(Below.refl W0.heap.size W0).alloc (Nat.le_refl _) (.cells #[.int .i64 (lt k:Nat),.bool (ed k 0),.bool (ed k 1),.bool (ed k 2),.bool (ed k 3),.bool (ed k 4),.bool (ed k 5),.bool (st k)] 156)
   have HX:=hid uI
   have HB2:=hid (HB.out.trans (uI.mono HB.out.size))
   have YA:=hid (H5.out.below uI hz)
   clear r uI
   cases hst:st k with
   | false=>
    rw [hst] at q7 HX HB2 YA
    have H53:=hid (YA.out.congr (f':=upTo (kW st f aA) ((k+1)*256)) (fun j hj=>by
     unfold upTo
     by_cases c1:j<k*256
     ·rw [if_pos c1,if_pos (by omega)]
     ·rw [if_neg c1]
      by_cases c2:j<(k+1)*256
      ·rw [if_pos c2]
       unfold kW
       rw [show j / 256=k by omega,hst]
       rfl
      ·rw [if_neg c2]))
    clear hst
    generalize lt k=e0 at *
    generalize ed k 0=e1 at *
    generalize ed k 1=e2 at *
    generalize ed k 2=e3 at *
    generalize ed k 3=e4 at *
    generalize ed k 4=e5 at *
    generalize ed k 5=e6 at *
    go_wp2_with fail
    go_roundw
    case rel=>exact ⟨k+1,by omega,by go_num,H53,by simp;omega,HB2⟩
    case measure=>simp [intOf] <;> omega
   | true=>
    rw [hst] at q7 HX HB2 YA
    have HST:=hid hst
    clear hst
    have GF:=hid ((HF.out.below HB2.out hgl).wI (t:=k) (by omega))
    generalize lt k=e0 at *
    generalize ed k 0=e1 at *
    generalize ed k 1=e2 at *
    generalize ed k 2=e3 at *
    generalize ed k 3=e4 at *
    generalize ed k 4=e5 at *
    generalize ed k 5=e6 at *
    have hz2:w.heap.size<(W0.alloc (.cells #[.int .i64 (e0:Nat),.bool e1,.bool e2,.bool e3,.bool e4,.bool e5,.bool e6,.bool true] 156)).heap.size:=by simp;omega
    go_wp2_with (refine aC rfl (.tmp 33) rfl gl (k*256) _ rfl GF.out ?_)
    go_loopw [35] (fun i wq=>∃ j:Nat,j≤256∧i=.int .i64 j∧Hid (bC wq w.heap.size (n*256) (upTo (kW st f aA) (k*256+j)))∧w.heap.size<wq.heap.size∧Hid (Below w.heap.size w wq)) (fun i _=>256 - (intOf i).toNat)
    case atStart=>exact ⟨0,by omega,rfl,YA,hz2,HB2⟩
    case round=>
     obtain ⟨j,hj,rfl,H5,hz3,HB⟩:=hrel
     rename World=>W3
     clear YA hz2 HB2 q0 q1 q2 q3 q4 q5 q6 q7
     by_cases hlj:j<256
     ·have p0:=H5.out.f (k*256+j) (by omega)
      have p1:=H5.out.c (k*256+j) (by omega)
      have p2:W3.cell? ⟨P,2305+j,none⟩=some (.bool (aA j)):=((Ht.out.below HB.out hP).c j hlj)
      have ix:=fun W=>pU (fun j=>f (k*256+j)) hlj W
      have e9:kW st f aA (k*256+j)=(f (k*256+j)&&!aA j):=by unfold kW;rw [show (k*256+j) / 256=k by omega,show (k*256+j) % 256=j by omega,HST.out];rfl
      have D5:=hid (H5.out.drew.set (k*256+j) (kW st f aA (k*256+j)))
      have DB:=hid (HB.out.drew.setCell (p:=⟨w.heap.size,k*256+j,none⟩) (Nat.le_refl _) (.bool (kW st f aA (k*256+j))))
      rw [qo] at D5
      generalize upTo (kW st f aA) (k*256+j) (k*256+j)=ov at *
      generalize kW st f aA (k*256+j)=sv at *
      generalize f (k*256+j)=fv at *
      generalize aA j=bv at *
      subst e9
      have i1:(0:Int)≤(k:Int):=by omega
      have i2:(k:Int)<(n:Int):=by omega
      have i3:(0:Int)≤(j:Int):=by omega
      have i4:(j:Int)<256:=by omega
      cases fv with
      | false=>
       simp only [Bool.false_and] at D5 DB
       go_wp2_with fail
       refine wp_region_held_drew (S:=fun _=>True) (by kernel_rfl) trivial (fun hHeld=>?_)
       refine wpAnyH_take (i:=0) (oi:={ dst:=some 39,op:=Op.move (.tmp 7),type:=_,pos:=_,after:=_,guard:=none }) (v:=(Value.slice (some ⟨w.heap.size,0,none⟩) n n)) rfl (by kernel_rfl) (by kernel_rfl) (by kernel_rfl) (fun _ _ _ h=>h) (Or.inl ⟨by rfl,by intro w' hSw;(try dsimp only at hSw);go_simp⟩) (by assumption) ?_
       simp only [Act.put,List.setIfInBounds_toArray,List.set_cons_zero,List.set_cons_succ]
       refine wpAnyH_take (i:=1) (oi:={ dst:=some 40,op:=Op.move (.tmp 8),type:=_,pos:=_,after:=_,guard:=none }) (v:=(Value.int .i64 (k:Nat))) rfl (by kernel_rfl) (by kernel_rfl) (by kernel_rfl) (fun _ _ _ h=>h) (Or.inl ⟨by rfl,by intro w' hSw;(try dsimp only at hSw);go_simp⟩) (by assumption) ?_
       simp only [Act.put,List.setIfInBounds_toArray,List.set_cons_zero,List.set_cons_succ]
       refine wpAnyH_take (i:=2) (oi:={ dst:=some 41,op:=Op.move (.tmp 10),type:=_,pos:=_,after:=_,guard:=none }) (v:=(Value.int .i64 (j:Nat))) rfl (by kernel_rfl) (by kernel_rfl) (by kernel_rfl) (fun _ _ _ h=>h) (Or.inl ⟨by rfl,by intro w' hSw;(try dsimp only at hSw);go_simp⟩) (by assumption) ?_
       simp only [Act.put,List.setIfInBounds_toArray,List.set_cons_zero,List.set_cons_succ]
       refine wpAnyH_take (i:=3) (oi:={ dst:=some 42,op:=Op.move (.tmp 11),type:=_,pos:=_,after:=_,guard:=none }) (v:=(Value.bool false)) rfl (by kernel_rfl) (by kernel_rfl) (by kernel_rfl) (fun _ _ _ h=>h) (Or.inl ⟨by rfl,by intro w' hSw;(try dsimp only at hSw);go_simp⟩) (by assumption) ?_
       simp only [Act.put,List.setIfInBounds_toArray,List.set_cons_zero,List.set_cons_succ]
       refine wpAnyH_take (i:=4) (oi:={ dst:=some 43,op:=Op.move (.tmp 42),type:=_,pos:=_,after:=_,guard:=none }) (v:=(Value.bool false)) rfl (by kernel_rfl) (by kernel_rfl) (by kernel_rfl) (fun _ _ _ h=>h) (Or.inl ⟨by rfl,by intro w' hSw;(try dsimp only at hSw);go_simp⟩) (by assumption) ?_
       simp only [Act.put,List.setIfInBounds_toArray,List.set_cons_zero,List.set_cons_succ]
       refine wpAnyH_take (i:=5) (oi:={ dst:=some 44,op:=Op.move (.tmp 0),type:=_,pos:=_,after:=_,guard:=some (4,true) }) (v:=undef) rfl (by kernel_rfl) (by kernel_rfl) (by kernel_rfl) (fun _ _ _ h=>h) (Or.inr ⟨by rfl,rfl⟩) (by assumption) ?_
       simp only [Act.put,List.setIfInBounds_toArray,List.set_cons_zero,List.set_cons_succ]
       refine wpAnyH_take (i:=6) (oi:={ dst:=some 45,op:=Op.move (.tmp 10),type:=_,pos:=_,after:=_,guard:=some (4,true) }) (v:=undef) rfl (by kernel_rfl) (by kernel_rfl) (by kernel_rfl) (fun _ _ _ h=>h) (Or.inr ⟨by rfl,rfl⟩) (by assumption) ?_
       simp only [Act.put,List.setIfInBounds_toArray,List.set_cons_zero,List.set_cons_succ]
       refine wpAnyH_take (i:=7) (oi:={ dst:=some 46,op:=Op.nilCheck (.tmp 44),type:=_,pos:=_,after:=_,guard:=some (4,true) }) (v:=undef) rfl (by kernel_rfl) (by kernel_rfl) (by kernel_rfl) (fun _ _ _ h=>h) (Or.inr ⟨by rfl,rfl⟩) (by assumption) ?_
       simp only [Act.put,List.setIfInBounds_toArray,List.set_cons_zero,List.set_cons_succ]
       refine wpAnyH_take (i:=8) (oi:={ dst:=some 47,op:=Op.fieldAddr _ (.tmp 46) 3,type:=_,pos:=_,after:=_,guard:=some (4,true) }) (v:=undef) rfl (by kernel_rfl) (by kernel_rfl) (by kernel_rfl) (fun _ _ _ h=>h) (Or.inr ⟨by rfl,rfl⟩) (by assumption) ?_
       simp only [Act.put,List.setIfInBounds_toArray,List.set_cons_zero,List.set_cons_succ]
       refine wpAnyH_take (i:=9) (oi:={ dst:=some 48,op:=Op.indexAddr _ (.tmp 47) (.tmp 45),type:=_,pos:=_,after:=_,guard:=some (4,true) }) (v:=undef) rfl (by kernel_rfl) (by kernel_rfl) (by kernel_rfl) (fun _ _ _ h=>h) (Or.inr ⟨by rfl,rfl⟩) (by assumption) ?_
       simp only [Act.put,List.setIfInBounds_toArray,List.set_cons_zero,List.set_cons_succ]
       refine wpAnyH_take (i:=10) (oi:={ dst:=some 49,op:=Op.load _ (.tmp 48),type:=_,pos:=_,after:=_,guard:=some (4,true) }) (v:=undef) rfl (by kernel_rfl) (by kernel_rfl) (by kernel_rfl) (fun _ _ _ h=>h) (Or.inr ⟨by rfl,rfl⟩) (by assumption) ?_
       simp only [Act.put,List.setIfInBounds_toArray,List.set_cons_zero,List.set_cons_succ]
       refine wpAnyH_take (i:=11) (oi:={ dst:=some 50,op:=Op.unOp UnOp.not _ (.tmp 49),type:=_,pos:=_,after:=_,guard:=some (4,true) }) (v:=undef) rfl (by kernel_rfl) (by kernel_rfl) (by kernel_rfl) (fun _ _ _ h=>h) (Or.inr ⟨by rfl,rfl⟩) (by assumption) ?_
       simp only [Act.put,List.setIfInBounds_toArray,List.set_cons_zero,List.set_cons_succ]
       refine wpAnyH_take (i:=12) (oi:={ dst:=some 51,op:=Op.pick (.tmp 43) (.tmp 50) (Operand.const (Value.bool false)),type:=_,pos:=_,after:=_,guard:=none }) (v:=(Value.bool false)) rfl (by kernel_rfl) (by kernel_rfl) (by kernel_rfl) (fun _ _ _ h=>h) (Or.inl ⟨by rfl,by intro w' hSw;(try dsimp only at hSw);go_simp⟩) (by assumption) ?_
       simp only [Act.put,List.setIfInBounds_toArray,List.set_cons_zero,List.set_cons_succ]
       refine wpAnyH_take (i:=13) (oi:={ dst:=some 52,op:=Op.indexAddr _ (.tmp 39) (.tmp 40),type:=_,pos:=_,after:=_,guard:=none }) (v:=(Value.pointer (some ⟨w.heap.size,k*256,none⟩))) rfl (by kernel_rfl) (by kernel_rfl) (by kernel_rfl) (fun _ _ _ h=>h) (Or.inl ⟨by rfl,by intro w' hSw;(try dsimp only at hSw);go_simp⟩) (by assumption) ?_
       simp only [Act.put,List.setIfInBounds_toArray,List.set_cons_zero,List.set_cons_succ]
       refine wpAnyH_take (i:=14) (oi:={ dst:=some 53,op:=Op.indexAddr _ (.tmp 52) (.tmp 41),type:=_,pos:=_,after:=_,guard:=none }) (v:=(Value.pointer (some ⟨w.heap.size,k*256+j,none⟩))) rfl (by kernel_rfl) (by kernel_rfl) (by kernel_rfl) (fun _ _ _ h=>h) (Or.inl ⟨by rfl,by intro w' hSw;(try dsimp only at hSw);go_simp⟩) (by assumption) ?_
       simp only [Act.put,List.setIfInBounds_toArray,List.set_cons_zero,List.set_cons_succ]
       refine wpAnyH_ready (rs:=[15]) (by kernel_rfl) (by simp) ?_
       refine AllReadyH.cons rfl (fun K hK=>?_) AllReadyH.nil
       go_simp
       refine hK.out _ _ trivial (fun hHeld=>?_)
       clear hK K
       refine wpAnyH_done (by kernel_rfl) ?_ _
       go_wp2_with fail
       go_roundw
       case rel=>exact ⟨j+1,by omega,by go_num,D5,by simp;omega,DB⟩
       case measure=>simp [intOf] <;> omega
      | true=>
       simp only [Bool.true_and] at D5 DB
       have s0:((W3.drew.setCell ⟨w.heap.size,k*256+j,none⟩ (.bool (!bv)))).cell? ⟨P,2305+j,none⟩=some (.bool bv):=by
        rw [World.cell?_setCell_other _ _ _ _ (fun e=>by have:=congrArg Addr.block e;simp at this;omega)]
        exact p2
       have s1:((W3.setCell ⟨w.heap.size,k*256+j,none⟩ (.bool (!bv)))).cell? ⟨P,2305+j,none⟩=some (.bool bv):=by
        rw [World.cell?_setCell_other _ _ _ _ (fun e=>by have:=congrArg Addr.block e;simp at this;omega)]
        exact p2
       go_wp2_with fail
       go_region_held3 (fun w'=>w'.cell? ⟨P,2305+j,none⟩=some (.bool bv)) (first | go_keep | exact s0 | exact s1) (fail)
       go_wp2_with fail
       go_roundw
       case rel=>exact ⟨j+1,by omega,by go_num,D5,by simp;omega,DB⟩
       case measure=>simp [intOf] <;> omega
     ·obtain rfl:j=256:=by omega
      go_wp2_with fail
      go_roundw
      case rel=>exact ⟨k+1,by omega,by go_num,by rw [show (k+1)*256=k*256+256 by omega];exact H5,hz3,HB⟩
      case measure=>simp [intOf] <;> omega
  ·obtain rfl:k=n:=by omega
   have HG:=hid (H5.out.congr (f':=kW st f aA) (fun j hj=>by unfold upTo;rw [if_pos hj]))
   go_wp2_with fail
   go_ret
   exact ⟨_,rfl,Nat.le_refl _,hz,HG.out,HB.out⟩
def Goes (E:Nat→Nat→Prop):List Nat→Nat→Prop
 | [],_=>True
 | a::l,e=>E a (l.headD e)∧Goes E l e
theorem qF (l m:List Nat) (e:Nat):(l++m).headD e=l.headD (m.headD e):=by cases l <;> rfl
theorem wJ {E:Nat→Nat→Prop}:∀ {l m:List Nat} {e:Nat},Goes E l (m.headD e)→Goes E m e→Goes E (l++m) e
 | [],m,e,_,h=>h
 | a::l,m,e,⟨h1,h2⟩,h=>⟨by show E a ((l++m).headD e);rw [qF];exact h1,wJ h2 h⟩
theorem WW {E:Nat→Nat→Prop} {l:List Nat} {a b:Nat} (h:Goes E l a) (he:E a b):Goes E (l++[a]) b:=wJ (m:=[a]) h ⟨he,trivial⟩
theorem IC {E:Nat→Nat→Prop}:∀ {l:List Nat} {e:Nat},Goes E l e→∀ i (hi:i<l.length),E l[i] (if h:i+1<l.length then l[i+1] else e)
 | [],e,_,i,hi=>by simp at hi
 | a::l,e,⟨h1,h2⟩,i,hi=>by
  cases i with
  | zero=>
   cases l with
   | nil=>simpa using h1
   | cons b l=>simpa using h1
  | succ i=>
   have:=IC h2 i (by simpa using hi)
   simpa using this
def Toward (E:Nat→Nat→Prop) (a b:Nat):Prop:=a=b∨reach E a b
theorem qV {E:Nat→Nat→Prop} {a b c:Nat} (h:Toward E a b) (k:Toward E b c):Toward E a c:=by
 rcases h with rfl | h
 ·exact k
 ·rcases k with rfl | k
  ·exact Or.inr h
  ·exact Or.inr (dA h k)
theorem Bf {E:Nat→Nat→Prop} {a b c:Nat} (h:Toward E a b) (k:reach E b c):reach E a c:=by
 rcases h with rfl | h
 ·exact k
 ·exact dA h k
theorem Bo {E:Nat→Nat→Prop} {a b c:Nat} (h:reach E a b) (k:Toward E b c):reach E a c:=by
 rcases k with rfl | k
 ·exact h
 ·exact dA h k
theorem Gc {E:Nat→Nat→Prop}:∀ {l:List Nat} {e:Nat},Goes E l e→Toward E (l.headD e) e∧∀ x∈l,reach E x e
 | [],e,_=>⟨Or.inl rfl,fun x hx=>by simp at hx⟩
 | a::l,e,⟨h1,h2⟩=>by
  obtain ⟨k1,k2⟩:=Gc h2
  have:reach E a e:=Bo (jS h1) k1
  exact ⟨Or.inr this,fun x hx=>by
   rcases List.mem_cons.1 hx with rfl | hx
   ·exact this
   ·exact k2 x hx⟩
structure yR (E:Nat→Nat→Prop) (cs:List (Nat→Bool)) (k a b:Nat):Prop where
 go:if k=0 then a=b else reach E a b
 met:∀ c,c∈cs.take k→∃ i,reach E a i∧c i=true∧Toward E i b
theorem Mt (E:Nat→Nat→Prop) (cs:List (Nat→Bool)) (a:Nat):yR E cs 0 a a:=⟨rfl,fun c hc=>by simp at hc⟩
theorem Qb {E:Nat→Nat→Prop} {cs:List (Nat→Bool)} {k a b b':Nat} (h:yR E cs k a b) (hr:reach E b b') (hc:∀ c,cs[k]?=some c→c b'=true):yR E cs (k+1) a b':=by
 have hab:Toward E a b:=by
  have:=h.go
  by_cases e:k=0
  ·rw [if_pos e] at this;exact Or.inl this
  ·rw [if_neg e] at this;exact Or.inr this
 refine ⟨by rw [if_neg (by omega)];exact Bf hab hr,fun c hm=>?_⟩
 rw [List.take_add_one] at hm
 rcases List.mem_append.1 hm with hm | hm
 ·obtain ⟨i,h1,h2,h3⟩:=h.met c hm
  exact ⟨i,h1,h2,qV h3 (Or.inr hr)⟩
 ·cases e:cs[k]? with
  | none=>rw [e] at hm;simp at hm
  | some c'=>
   rw [e] at hm
   simp at hm
   subst hm
   exact ⟨b',Bf hab hr,hc _ e,Or.inl rfl⟩
structure CZ (E:Nat→Nat→Prop) (cs:List (Nat→Bool)) (last:Nat→Bool) (from_:Nat) (seen:Nat→Bool) (at_:Nat):Prop where
 last:last at_=true
 go:Toward E from_ at_
 old:∀ x,seen x=true→∃ y,reach E x y∧(∀ c∈cs,∃ i,reach E x i∧c i=true∧Toward E i y)∧Toward E y at_
theorem PT {E:Nat→Nat→Prop} (cs:List (Nat→Bool)) {last:Nat→Bool} {a:Nat} (h:last a=true):CZ E cs last a (fun _=>false) a:=⟨h,Or.inl rfl,fun x hx=>by cases hx⟩
theorem R8 {E:Nat→Nat→Prop} {cs:List (Nat→Bool)} {last seen:Nat→Bool} {f a b k:Nat} (h:CZ E cs last f seen a) (hr:yR E cs k a b) (hk:0<k) (hkc:cs.length≤k) (hb:last b=true):CZ E cs last f (upd seen a true) b:=by
 have hab:=hr.go
 rw [if_neg (by omega)] at hab
 refine ⟨hb,qV h.go (Or.inr hab),fun x hx=>?_⟩
 by_cases e:x=a
 ·subst e
  refine ⟨b,hab,fun c hc=>hr.met c ?_,Or.inl rfl⟩
  rw [List.take_of_length_le hkc]
  exact hc
 ·unfold upd at hx
  rw [if_neg e] at hx
  obtain ⟨y,h1,h2,h3⟩:=h.old x hx
  exact ⟨y,h1,h2,qV h3 (Or.inr hab)⟩
structure LC (E:Nat→Nat→Prop) (cs:List (Nat→Bool)) (last:Nat→Bool) (f a:Nat):Prop where
 last:last a=true
 go:Toward E f a
 ring:reach E a a
 met:∀ c∈cs,∃ i,reach E a i∧c i=true∧reach E i a
theorem UW {E:Nat→Nat→Prop} {cs:List (Nat→Bool)} {last seen:Nat→Bool} {f a:Nat} (h:CZ E cs last f seen a) (hs:seen a=true):LC E cs last f a:=by
 obtain ⟨y,h1,h2,h3⟩:=h.old a hs
 have hr:reach E a a:=Bo h1 h3
 refine ⟨h.last,h.go,hr,fun c hc=>?_⟩
 obtain ⟨i,k1,k2,k3⟩:=h2 c hc
 refine ⟨i,k1,k2,?_⟩
 rcases qV k3 h3 with rfl | k
 ·exact hr
 ·exact k
structure xM (E:Nat→Nat→Prop) (cs:List (Nat→Bool)) (turn k:Nat) (ps:List Nat) (at_:Nat):Prop where
 go:Goes E ps at_
 head:ps.headD at_=turn
 home:reach E at_ turn
 met:∀ c∈cs.take k,c at_=true∨∃ p∈ps,c p=true
theorem Qk {E:Nat→Nat→Prop} {cs:List (Nat→Bool)} {turn:Nat} (h:reach E turn turn):xM E cs turn 0 [] turn:=⟨trivial,rfl,h,fun c hc=>by simp at hc⟩
theorem FY {E:Nat→Nat→Prop} {cs:List (Nat→Bool)} {turn k at_:Nat} {ps:List Nat} (h:xM E cs turn k ps at_) {c:Nat→Bool} (hc:cs[k]?=some c) (hm:c at_=true∨∃ p∈ps,c p=true):xM E cs turn (k+1) ps at_:=by
 refine ⟨h.go,h.head,h.home,fun d hd=>?_⟩
 rw [List.take_add_one,hc] at hd
 rcases List.mem_append.1 hd with hd | hd
 ·exact h.met d hd
 ·simp at hd;subst hd;exact hm
theorem TL {E:Nat→Nat→Prop} {cs:List (Nat→Bool)} {turn k at_ b:Nat} {ps qs:List Nat} (h:xM E cs turn k ps at_) {c:Nat→Bool} (hc:cs[k]?=some c) (hq:qs≠[]) (hh:qs.headD b=at_) (hg:Goes E qs b) (hb:reach E b turn) (hcb:c b=true):xM E cs turn (k+1) (ps++qs) b:=by
 refine ⟨wJ (by rw [hh];exact h.go) hg,by rw [qF,hh];exact h.head,hb,fun d hd=>?_⟩
 have hat:at_∈qs:=by
  cases qs with
  | nil=>exact absurd rfl hq
  | cons x l=>simp at hh;subst hh;simp
 rw [List.take_add_one,hc] at hd
 rcases List.mem_append.1 hd with hd | hd
 ·rcases h.met d hd with h1 | ⟨p,h1,h2⟩
  ·exact Or.inr ⟨at_,List.mem_append_right _ hat,h1⟩
  ·exact Or.inr ⟨p,List.mem_append_left _ h1,h2⟩
 ·simp at hd;subst hd;exact Or.inl hcb
structure GU (E:Nat→Nat→Prop) (cs:List (Nat→Bool)) (turn:Nat) (ps:List Nat):Prop where
 ne:ps≠[]
 head:ps.headD 0=turn
 go:Goes E ps turn
 met:∀ c∈cs,∃ p∈ps,c p=true
theorem V8 {E:Nat→Nat→Prop} {cs:List (Nat→Bool)} {turn k at_:Nat} {ps qs:List Nat} (h:xM E cs turn k ps at_) (hk:cs.length≤k) (hq:qs≠[]) (hh:qs.headD turn=at_) (hg:Goes E qs turn):GU E cs turn (ps++qs):=by
 have hat:at_∈qs:=by
  cases qs with
  | nil=>exact absurd rfl hq
  | cons x l=>simp at hh;subst hh;simp
 refine ⟨by simp [hq],?_,wJ (by rw [hh];exact h.go) hg,fun c hc=>?_⟩
 ·have e:∀ l:List Nat,l≠[]→∀ x y,l.headD x=l.headD y:=fun l hl x y=>by cases l with
   | nil=>exact absurd rfl hl
   | cons a l=>rfl
  rw [e _ (by simp [hq]) 0 turn,qF,hh];exact h.head
 ·rcases h.met c (by rw [List.take_of_length_le hk];exact hc) with h1 | ⟨p,h1,h2⟩
  ·exact ⟨at_,List.mem_append_right _ hat,h1⟩
  ·exact ⟨p,List.mem_append_left _ h1,h2⟩
def rowAt (A B:List Nat) (i:Nat):Nat:=if i<A.length then A.getD i 0 else B.getD ((i - A.length) % B.length) 0
theorem Fx {E:Nat→Nat→Prop} {cs:List (Nat→Bool)} {A B:List Nat} {turn:Nat} (hA:Goes E A turn) (hB:GU E cs turn B):Path E (rowAt A B)∧tQ (KL cs) cs.length (rowAt A B):=by
 have hb:0<B.length:=List.length_pos_iff.2 hB.ne
 have h0:B.getD 0 0=turn:=by
  have:=hB.head
  cases B with
  | nil=>simp at hb
  | cons b l=>simpa using this
 have ga:=IC hA
 have gb:=IC hB.go
 have inl:∀ j,j<B.length→E (B.getD j 0) (B.getD ((j+1) % B.length) 0):=fun j hj=>by
  have h1:=gb j hj
  rw [show B.getD j 0=B[j] by simp [List.getD,List.getElem?_eq_getElem hj]]
  by_cases e:j+1<B.length
  ·rw [dif_pos e] at h1
   rw [Nat.mod_eq_of_lt e,show B.getD (j+1) 0=B[j+1] by simp [List.getD,List.getElem?_eq_getElem e]]
   exact h1
  ·rw [dif_neg e] at h1
   rw [show j+1=B.length by omega,Nat.mod_self,h0]
   exact h1
 constructor
 ·intro t
  unfold rowAt
  by_cases c1:t<A.length
  ·rw [if_pos c1]
   have h1:=ga t c1
   rw [show A.getD t 0=A[t] by simp [List.getD,List.getElem?_eq_getElem c1]]
   by_cases c2:t+1<A.length
   ·rw [dif_pos c2] at h1
    rw [if_pos c2,show A.getD (t+1) 0=A[t+1] by simp [List.getD,List.getElem?_eq_getElem c2]]
    exact h1
   ·rw [dif_neg c2] at h1
    rw [if_neg c2,show t+1 - A.length=0 by omega,Nat.zero_mod,h0]
    exact h1
  ·rw [if_neg c1,if_neg (by omega),show t+1 - A.length=(t - A.length)+1 by omega]
   have h1:=inl ((t - A.length) % B.length) (Nat.mod_lt _ hb)
   rw [show ((t - A.length) % B.length+1) % B.length=(t - A.length+1) % B.length by rw [Nat.mod_add_mod]] at h1
   exact h1
 ·intro k hk t
  obtain ⟨p,h1,h2⟩:=hB.met cs[k] (List.getElem_mem hk)
  obtain ⟨j,hj,e⟩:=List.getElem_of_mem h1
  refine ⟨A.length+t*B.length+j,?_,cs[k],List.getElem?_eq_getElem hk,?_⟩
  ·have:t*1≤t*B.length:=Nat.mul_le_mul_left t hb
   omega
  ·unfold rowAt
   rw [if_neg (by omega),show A.length+t*B.length+j - A.length=j+B.length*t by rw [Nat.mul_comm];omega,Nat.add_mul_mod_self_left,Nat.mod_eq_of_lt hj]
   rw [show B.getD j 0=p by simp [List.getD,List.getElem?_eq_getElem hj,e]]
   exact h2
theorem TT {E:Nat→Nat→Prop} {cs:List (Nat→Bool)} {c:Nat→Bool} (hc:c∈cs) {x:Nat} (h:gu E cs x):eu E (fun y=>gu E cs y∧c y=true) x:=by
 obtain ⟨q,rfl,hq,hm⟩:=h
 obtain ⟨t,h1,h2⟩:=nX hm c hc 1
 obtain ⟨d,rfl⟩:∃ d,t=0+d+1:=⟨t - 1,by omega⟩
 exact ⟨_,qU hq 0 d,wK hq hm _,h2⟩
theorem Iq {E:Nat→Nat→Prop} {cs:List (Nat→Bool)} {x:Nat} (h:gu E cs x):eu E (fun y=>gu E cs y) x:=by
 obtain ⟨q,rfl,hq,hm⟩:=h
 exact ⟨_,qU hq 0 0,wK hq hm _⟩
end Go.Proofs.YtjagijohfkffiabGreat
