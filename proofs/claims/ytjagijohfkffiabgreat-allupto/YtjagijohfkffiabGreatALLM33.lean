import Derived.Test.YtjagijohfkffiabGreatALLM17
import Derived.Test.YtjagijohfkffiabGreatALLM20
import Derived.Test.YtjagijohfkffiabGreatALLM32
import Derived.Deep.AppendLies
import Derived.Deep.RegionHeld3
import Derived.Deep.MidRow
import Derived.Deep.WholeRow
set_option maxHeartbeats 16000000
set_option maxRecDepth 100000
namespace Go.Proofs.YtjagijohfkffiabGreat
open Go.RowKit
set_option linter.unusedVariables false
theorem bE (w:World) (cs:List Value) (t:TypeId):∀ j u,cs[j]?=some u→(w.alloc (.cells cs.toArray t)).cell? ((⟨w.heap.size,0,none⟩:Addr).add j)=some u:=fun j u hj=>by
 rw [Addr.add_mid,cell_of_row (w.alloc (.cells cs.toArray t)) w.heap.size (0+j) cs.toArray t (0,0) (heap_alloc_last w _)]
 simpa using hj
theorem aQ {w:World} {B e s n:Nat} {v:Value} {xs:List Value} (h:w.ownsRow B e s v n xs) (p:Addr) (u:Value) (h2:v.ownBlock≠some p.block):(w.setCell p u).ownsRow B e s v n xs:=
 h.kept (row:=some p.block) ⟨rfl,rfl,rfl,by rw [World.size_setCell];exact Nat.le_refl _,fun q hq hne=>Below.heap_setCell _ _ _ _ (fun e=>hne (by rw [e]))⟩ (Or.inr h2)
structure KB (w w':World) (T:Nat) (r1 r2:Option Nat):Prop where
 os:w'.os=w.os
 tape:w'.tape=w.tape
 output:w'.output=w.output
 size:w.heap.size≤w'.heap.size
 block:∀ k,k<w.heap.size→k≠T→some k≠r1→some k≠r2→w'.heap[k]?=w.heap[k]?
theorem KB.of_below {w w':World} {T:Nat} {r1 r2:Option Nat} (h:Below w.heap.size w w'):KB w w' T r1 r2:=⟨h.os,h.tape,h.output,h.size,fun k hk _ _ _=>h.block k hk⟩
theorem KB.cell {w w':World} {T:Nat} {r1 r2:Option Nat} (h:KB w w' T r1 r2) {p:Addr} (hp:p.block<w.heap.size) (h1:p.block≠T) (h2:some p.block≠r1) (h3:some p.block≠r2):w'.cell? p=w.cell? p:=World.cell?_of_block (h.block _ hp h1 h2 h3)
theorem fB {w w':World} {T B e s n:Nat} {r1 r2:Option Nat} {v:Value} {xs:List Value} (h:w.ownsRow B e s v n xs) (f:KB w w' T r1 r2) (h1:v.ownBlock≠some T) (h2:v.ownBlock=none∨v.ownBlock≠r1) (h3:v.ownBlock=none∨v.ownBlock≠r2):w'.ownsRow B e s v n xs:=by
 refine ⟨h.1,?_⟩
 rcases h.2 with h0 | ⟨g,cap,cur,ev,hb,hg,r⟩
 ·exact Or.inl h0
 ·subst ev
  refine Or.inr ⟨g,cap,cur,rfl,hb,?_,r⟩
  rw [f.block g (bO hg) (fun e=>h1 (by rw [←e];rfl)) (fun e=>by
   rcases h2 with h2 | h2
   ·simp [Value.ownBlock] at h2
   ·exact h2 (by rw [←e];rfl)) (fun e=>by
   rcases h3 with h3 | h3
   ·simp [Value.ownBlock] at h3
   ·exact h3 (by rw [←e];rfl))]
  exact hg
theorem EK {B0:Nat} {a w w':World} {T:Nat} {r1 r2:Option Nat} (h:Below B0 a w) (f:KB w w' T r1 r2) (hB:B0≤w.heap.size) (h1:B0≤T) (h2:∀ k,r1=some k→B0≤k) (h3:∀ k,r2=some k→B0≤k):Below B0 a w':=
 ⟨f.os.trans h.os,f.tape.trans h.tape,f.output.trans h.output,Nat.le_trans h.size f.size,fun k hk=>(f.block k (by omega) (by omega) (fun e=>by have:=h2 k e.symm;omega) (fun e=>by have:=h3 k e.symm;omega)).trans (h.block k hk)⟩
def mY (rs:List (Nat × Nat)) (M:Nat):List Value:=rs.flatMap fun p=>[.slice (some ⟨p.1,0,none⟩) M M,.slice (some ⟨p.2,0,none⟩) M M]
theorem Dq (rs:List (Nat × Nat)) (M:Nat) (p:Nat × Nat):mY (rs++[p]) M=mY rs M++[.slice (some ⟨p.1,0,none⟩) M M,.slice (some ⟨p.2,0,none⟩) M M]:=by simp [mY]
theorem uY {rs:List (Nat × Nat)} {M i:Nat} {p:Nat × Nat} (h:rs[i]?=some p):(mY rs M)[i*2]?=some (.slice (some ⟨p.1,0,none⟩) M M)∧(mY rs M)[i*2+1]?=some (.slice (some ⟨p.2,0,none⟩) M M):=by
 induction rs generalizing i with
 | nil=>simp at h
 | cons q qs ih=>
  cases i with
  | zero=>simp at h;subst h;simp [mY]
  | succ i=>
   have:=ih (by simpa using h)
   rw [show mY (q::qs) M=[.slice (some ⟨q.1,0,none⟩) M M,.slice (some ⟨q.2,0,none⟩) M M]++mY qs M by simp [mY]]
   rw [List.getElem?_append_right (by simp;omega),List.getElem?_append_right (by simp;omega)]
   simpa [show (i+1)*2 - 2=i*2 by omega,show (i+1)*2+1 - 2=i*2+1 by omega] using this
structure xS (w:World) (B T M:Nat) (vS vO vN:Value) (rs:List (Nat × Nat)) (fs:List ((Nat→Bool) × (Nat→Bool))) (outs:List Nat):Prop where
 t:Three w T vS vO vN
 tB:T<B
 len:fs.length=rs.length
 MN:outs.length=rs.length
 st:w.ownsRow B 144 2 vS rs.length (mY rs M)
 ou:w.ownsRow B 3 1 vO rs.length (au outs)
 row:∀ (i:Nat) p q,rs[i]?=some p→fs[i]?=some q→w.ownsRow B 4 1 (.slice (some ⟨p.1,0,none⟩) M M) M (aj q.1 M M)∧w.ownsRow B 4 1 (.slice (some ⟨p.2,0,none⟩) M M) M (aj q.2 M M)
theorem xS.below {w w':World} {B T M:Nat} {vS vO vN:Value} {rs:List (Nat × Nat)} {fs:List ((Nat→Bool) × (Nat→Bool))} {outs:List Nat} (h:xS w B T M vS vO vN rs fs outs) (hb:Below w.heap.size w w'):xS w' B T M vS vO vN rs fs outs:=
 ⟨h.t.below hb h.t.lt,h.tB,h.len,h.MN,ae h.st hb,ae h.ou hb,fun i p q h1 h2=>⟨ae (h.row i p q h1 h2).1 hb,ae (h.row i p q h1 h2).2 hb⟩⟩
theorem uf {w:World} {B g M:Nat} {f:Nat→Bool} (h:w.ownsRow B 4 1 (.slice (some ⟨g,0,none⟩) M M) M (aj f M M)):Rb w g M f:=⟨(h.lt _ rfl).2,fun i hi=>by rw [h.cellAt i (by omega)];exact jv _ _ _ hi⟩
theorem Tryz.TY:(Tryz.prog.info? 144).map (fun i=>(i.zero,i.size,i.bytes))=some (some (.agg #[.slice none 0 0,.slice none 0 0]),2,48):=by kernel_rfl
def aj2 (w:World) (B T M:Nat) (vS vO vN:Value) (rs:List (Nat × Nat)) (fs:List ((Nat→Bool) × (Nat→Bool))) (outs:List Nat) (by_ bn:Nat) (f h:Nat→Bool) (e:Ending) (w':World):Prop:=
 ∃ j vS' vO' rs' fs' outs',e=.returned (.int .i64 (j:Nat))∧xS w' B T M vS' vO' vN rs' fs' outs'∧KB w w' T vS.ownBlock vO.ownBlock ∧
  (vO'.ownBlock=vO.ownBlock∨∃ q,vO'.ownBlock=some q∧w.heap.size≤q) ∧
  ((rs'=rs∧fs'=fs∧outs'=outs∧∃ p,fs[j]?=some p∧(∀ i,i<M→p.1 i=f i)) ∨
  (j=rs.length∧rs'=rs++[(by_,bn)]∧fs'=fs++[(f,h)]∧outs'=outs++[zt (iF f M) (iF h M)]∧∀ p∈fs,¬ ((∀ i,i<M→p.1 i=f i)∧∀ i,i<M→p.2 i=h i)))
theorem Q8 (w:World) (B T M:Nat) (vS vO vN:Value) (rs:List (Nat × Nat)) (fs:List ((Nat→Bool) × (Nat→Bool))) (outs:List Nat) (by_ bn:Nat) (f h:Nat→Bool) (hm:xS w B T M vS vO vN rs fs outs) (hB:B≤w.heap.size) (hlen:rs.length≤8589934592) (hM:M≤1099511627776)
  (h1:w.ownsRow B 4 1 (.slice (some ⟨by_,0,none⟩) M M) M (aj f M M)) (h2:w.ownsRow B 4 1 (.slice (some ⟨bn,0,none⟩) M M) M (aj h M M)) :
  Calls Tryz.prog 77 #[.pointer (some ⟨T,0,none⟩),.agg #[.slice (some ⟨by_,0,none⟩) M M,.slice (some ⟨bn,0,none⟩) M M]] w (aj2 w B T M vS vO vN rs fs outs by_ bn f h):=by
 have hT:=hm.t.lt
 have Q3:=hm.tB
 have HM:=hid hm
 have H1:=hid h1
 have H2:=hid h2
 obtain ⟨aoS,cpS,rfl⟩:=ag hm.st
 obtain ⟨aoO,cpO,rfl⟩:=ag hm.ou
 obtain ⟨i0,hi,hz0,hz1,hz2⟩:=info_parts Tryz.TY
 obtain ⟨i1,hi1,hz01,hz11,hz21⟩:=info_parts Tryz.kG
 have DV:=hid (fun q (h:(Value.slice aoS rs.length cpS).ownBlock=some q)=>hm.st.lt q h)
 have lu:=hid (fun q (h:(Value.slice aoO rs.length cpO).ownBlock=some q)=>hm.ou.lt q h)
 clear hm h1 h2
 generalize hnE:rs.length=n at *
 have fu:=hid hnE
 clear hnE
 have ba:=hid ((Below.refl w.heap.size w).alloc (Nat.le_refl _) (.cells #[.slice (some ⟨by_,0,none⟩) M M,.slice (some ⟨bn,0,none⟩) M M] 144))
 go_enter Tryz.func77,Tryz.ntmps77
 go_wp2_with fail
 go_loopw [5] (fun i wq=>∃ k:Nat,k≤n∧i=.int .i64 k∧Hid (∀ i p,i<k→fs[i]?=some p→¬ ((∀ i,i<M→p.1 i=f i)∧∀ i,i<M→p.2 i=h i))∧Hid (Two wq w.heap.size (.slice (some ⟨by_,0,none⟩) M M) (.slice (some ⟨bn,0,none⟩) M M))∧w.heap.size<wq.heap.size∧Hid (Below w.heap.size w wq)) (fun i _=>n - (intOf i).toNat)
 case atStart=>exact ⟨0,Nat.zero_le _,rfl,hid (fun i p h=>by omega),hid (bF _ _ _ _),by simp,ba⟩
 case round=>
  obtain ⟨k,hk,rfl,HA,HX,hsz,HB⟩:=hrel
  rename World=>W0
  clear ba
  have dW:=hid (HM.out.below HB.out)
  have cT:=dW.out.t.c0
  have x0:=HX.out.c0
  have x1:=HX.out.c1
  by_cases hlk:k<n
  ·obtain ⟨p,hp⟩:∃ p,rs[k]?=some p:=⟨rs[k]'(by rw [fu.out];exact hlk),List.getElem?_eq_getElem (by rw [fu.out];exact hlk)⟩
   obtain ⟨q,hq⟩:∃ q,fs[k]?=some q:=by
    have h9:k<fs.length:=by rw [HM.out.len,fu.out];exact hlk
    exact ⟨fs[k],List.getElem?_eq_getElem h9⟩
   obtain ⟨o1,o2⟩:=dW.out.row k p q hp hq
   obtain ⟨p1,p2⟩:=p
   obtain ⟨q1,q2⟩:=q
   have uD:=dW.out.st
   rw [fu.out] at uD
   obtain ⟨gS,rfl,hgS,hgSs,hcS⟩:=dH uD (by omega)
   have y0:W0.cell? ⟨gS,k*2,none⟩=some (.slice (some ⟨p1,0,none⟩) M M):=by rw [uD.cellAt (k*2) (by omega),(uY hp).1]
   have y1:W0.cell? ⟨gS,k*2+1,none⟩=some (.slice (some ⟨p2,0,none⟩) M M):=by rw [uD.cellAt (k*2+1) (by omega),(uY hp).2]
   have C1:=fun m=>Jv p1 by_ M q1 f (W0.drewN m) ((uf o1).drewN m) ((uf (ae H1.out HB.out)).drewN m) hM
   have C2:=fun m=>Jv p2 bn M q2 h (W0.drewN m) ((uf o2).drewN m) ((uf (ae H2.out HB.out)).drewN m) hM
   have HQ:=hid hq
   clear hp hq o1 o2 uD
   have cT':∀ m,(W0.drewN m).cell? ⟨T,0,none⟩=some (.slice (some ⟨gS,0,none⟩) n cpS):=fun m=>cT
   have y1':∀ m,(W0.drewN m).cell? ⟨gS,k*2+1,none⟩=some (.slice (some ⟨p2,0,none⟩) M M):=fun m=>y1
   have Bb:∀ m,(W0.drewN m).cell? ⟨w.heap.size,1,none⟩=some (.slice (some ⟨bn,0,none⟩) M M):=fun m=>x1
   have hS1:=hid (xk (f:=q1) (h:=f) (N:=M))
   have hS2:=hid (xk (f:=q2) (h:=h) (N:=M))
   generalize zB q1 f M=s1 at *
   generalize zB q2 h M=s2 at *
   go_wp2_with fail
   go_quiet ((go_at_call 125;exact Calls.quiet_of (C1 _)))
   have z1:=cT' nq
   have z2:=y1' nq
   have z3:=Bb nq
   have C3:=fun m=>(by rw [World.drewN_drewN];exact C2 (nq+m):Calls Tryz.prog 125 #[.slice (some ⟨p2,0,none⟩) M M,.slice (some ⟨bn,0,none⟩) M M] ((W0.drewN nq).drewN m) fun e w'=>e=.returned (.bool s2)∧∃ m',w'=((W0.drewN nq).drewN m).drewN m')
   have HB1:=hid (below_drewN HB.out nq)
   have HX1:Hid (Two (W0.drewN nq) w.heap.size (.slice (some ⟨by_,0,none⟩) M M) (.slice (some ⟨bn,0,none⟩) M M)):=hid (HX.out.below (below_drewN (Below.refl W0.heap.size W0) nq) hsz)
   have hsz1:w.heap.size<(W0.drewN nq).heap.size:=hsz
   clear C1 C2 cT' y1' Bb cT x0 x1 y0 y1 HB HX dW
   generalize W0.drewN nq=W1 at *
   go_wp2_with fail
   go_quiet ((go_at_call 125;exact Calls.quiet_of (C3 _)))
   have HB2:=hid (below_drewN HB1.out nq)
   have Cs:Hid (Two (W1.drewN nq) w.heap.size (.slice (some ⟨by_,0,none⟩) M M) (.slice (some ⟨bn,0,none⟩) M M)):=hid (HX1.out.below (below_drewN (Below.refl W1.heap.size W1) nq) hsz1)
   have hsz2:w.heap.size<(W1.drewN nq).heap.size:=hsz1
   clear C3 z1 z2 z3 HB1 HX1
   generalize W1.drewN nq=W2 at *
   have uu:Hid ((s1&&s2)=false→∀ i p,i<k+1→fs[i]?=some p→¬ ((∀ i,i<M→p.1 i=f i)∧∀ i,i<M→p.2 i=h i)):=hid (fun e i p hi hp=>by
    by_cases c:i=k
    ·subst c
     rw [HQ.out] at hp
     cases hp
     rintro ⟨a1,a2⟩
     rw [hS1.out.2 a1,hS2.out.2 a2] at e
     cases e
    ·exact HA.out i p (by omega) hp)
   cases s1 with
   | false=>
    go_wp2_with fail
    go_roundw
    case rel=>exact ⟨k+1,by omega,by go_num,hid (uu.out rfl),Cs,hsz2,HB2⟩
    case measure=>simp [intOf];omega
   | true=>
    cases s2 with
    | false=>
     go_wp2_with fail
     go_roundw
     case rel=>exact ⟨k+1,by omega,by go_num,hid (uu.out rfl),Cs,hsz2,HB2⟩
     case measure=>simp [intOf];omega
    | true=>
     go_wp2_with fail
     go_ret
     have DY:=HM.out.below HB2.out
     exact ⟨k,_,_,rs,fs,outs,rfl,DY,KB.of_below HB2.out,Or.inl rfl,Or.inl ⟨rfl,rfl,rfl,(q1,q2),HQ.out,hS1.out.1 (by first | rfl | trivial)⟩⟩
  ·obtain rfl:k=n:=by omega
   have TD:=LY by_ bn M f h W0 (uf (ae H1.out HB.out)) (uf (ae H2.out HB.out)) hM
   generalize htd:zt (iF f M) (iF h M)=td at *
   have HTD:=hid htd
   clear htd
   go_wp2_with fail
   refine TD.mono ?_
   rintro e W0 ⟨rfl,rfl⟩
   clear TD
   go_wp2_with fail
   have fT:=dW.out.t.fz 0 (by omega)
   have rC:T<W0.heap.size:=by omega
   have OW:=dW.out.st
   rw [fu.out] at OW
   have OW:=hid OW
   have Je:Hid (∀ q,(Value.slice aoS k cpS).ownBlock=some q→q<w.heap.size):=hid (fun q h=>(DV.out q h).2)
   have ajB:Hid (∀ q,(Value.slice aoS k cpS).ownBlock=some q→B≤q):=hid (fun q h=>(DV.out q h).1)
   have zT:(Value.slice aoS k cpS).ownBlock≠some T:=fun e=>by have:=ajB.out _ e;omega
   have XH:Hid (W0.cell? ⟨w.heap.size,0,none⟩=some (.slice (some ⟨by_,0,none⟩) M M)∧W0.cell? ⟨w.heap.size,1,none⟩=some (.slice (some ⟨bn,0,none⟩) M M)):=hid ⟨x0,x1⟩
   refine wp_region_held_drew (S:=fun W=>W.cell? ⟨w.heap.size,0,none⟩=some (.slice (some ⟨by_,0,none⟩) M M)∧W.cell? ⟨w.heap.size,1,none⟩=some (.slice (some ⟨bn,0,none⟩) M M)) (by kernel_rfl) XH.out (fun hHeld=>?_)
   refine wpAnyH_take (i:=0) (oi:={ dst:=some 50,op:=Op.move (.tmp 0),type:=_,pos:=_,after:=_,guard:=none }) (v:=(Value.pointer (some ⟨T,0,none⟩))) rfl (by kernel_rfl) (by kernel_rfl) (by kernel_rfl) (fun _ _ _ h=>h) (Or.inl ⟨by rfl,by intro w' hSw;(try dsimp only at hSw);go_simp⟩) (by assumption) ?_
   simp only [Act.put,List.setIfInBounds_toArray,List.set_cons_zero,List.set_cons_succ]
   refine wpAnyH_take (i:=1) (oi:={ dst:=some 51,op:=Op.move (.tmp 0),type:=_,pos:=_,after:=_,guard:=none }) (v:=(Value.pointer (some ⟨T,0,none⟩))) rfl (by kernel_rfl) (by kernel_rfl) (by kernel_rfl) (fun _ _ _ h=>h) (Or.inl ⟨by rfl,by intro w' hSw;(try dsimp only at hSw);go_simp⟩) (by assumption) ?_
   simp only [Act.put,List.setIfInBounds_toArray,List.set_cons_zero,List.set_cons_succ]
   refine wpAnyH_take (i:=2) (oi:={ dst:=some 52,op:=Op.nilCheck (.tmp 51),type:=_,pos:=_,after:=_,guard:=none }) (v:=(Value.pointer (some ⟨T,0,none⟩))) rfl (by kernel_rfl) (by kernel_rfl) (by kernel_rfl) (fun _ _ _ h=>h) (Or.inl ⟨by rfl,by intro w' hSw;(try dsimp only at hSw);go_simp⟩) (by assumption) ?_
   simp only [Act.put,List.setIfInBounds_toArray,List.set_cons_zero,List.set_cons_succ]
   refine wpAnyH_take (i:=3) (oi:={ dst:=some 53,op:=Op.fieldAddr _ (.tmp 52) 0,type:=_,pos:=_,after:=_,guard:=none }) (v:=(Value.pointer (some ⟨T,0,none⟩))) rfl (by kernel_rfl) (by kernel_rfl) (by kernel_rfl) (fun _ _ _ h=>h) (Or.inl ⟨by rfl,by intro w' hSw;(try dsimp only at hSw);go_simp⟩) (by assumption) ?_
   simp only [Act.put,List.setIfInBounds_toArray,List.set_cons_zero,List.set_cons_succ]
   refine wpAnyH_take (i:=5) (oi:={ dst:=some 55,op:=Op.load 144 (.tmp 3),type:=_,pos:=_,after:=_,guard:=none }) (v:=(Value.agg #[Value.slice (some ⟨by_,0,none⟩) M M,Value.slice (some ⟨bn,0,none⟩) M M])) rfl (by kernel_rfl) (by kernel_rfl) (by kernel_rfl) (fun _ _ _ h=>h) (Or.inl ⟨by rfl,by intro w' hSw;obtain ⟨hSa,hSb⟩:=hSw;go_simp⟩) (by assumption) ?_
   simp only [Act.put,List.setIfInBounds_toArray,List.set_cons_zero,List.set_cons_succ]
   refine wpAnyH_ready (rs:=[4,6]) (by kernel_rfl) (by simp) ?_
   refine AllReadyH.cons rfl (fun K hK=>?_) (AllReadyH.cons rfl (fun K hK=>?_) AllReadyH.nil)
   ·go_simp
    refine hK.out _ _ (by assumption) (fun hHeld=>?_)
    clear hK K
    refine wpAnyH_ready (rs:=[6]) (by kernel_rfl) (by simp) ?_
    refine AllReadyH.cons rfl (fun K hK=>?_) AllReadyH.nil
    go_simp
    refine hK.out _ _ ⟨by show (W0.alloc _).cell? _=_;rw [World.cell?_alloc_lt _ _ _ hsz];exact XH.out.1,by show (W0.alloc _).cell? _=_;rw [World.cell?_alloc_lt _ _ _ hsz];exact XH.out.2⟩ (fun hHeld=>?_)
    clear hK K
    refine wpAnyH_ready (rs:=[7]) (by kernel_rfl) (by simp) ?_
    refine AllReadyH.cons rfl (fun K hK=>?_) AllReadyH.nil
    refine step_append_lies _ (by rfl) (.tmp 54) (.tmp 56) 79 (by rfl) B 144 i0 (.agg #[.slice none 0 0,.slice none 0 0]) 2 48 Tryz.underlying79 hi hz0 hz1 hz2 rfl (by decide) _ k (mY rs M) (by rfl) ((OW.out.alloc _).drew) ⟨W0.heap.size,0,none⟩ 1 1 [.slice (some ⟨by_,0,none⟩) M M,.slice (some ⟨bn,0,none⟩) M M] (by rfl) (by rfl) (bE W0 _ _) (by intro y hy;simp at hy;rcases hy with rfl | rfl <;> rfl) (by decide) (by unfold maxLen;omega) (by omega) (by simp;omega) (W0.heap.size+1) (by simp) ?_
    intro gg cc w2 hown hgrow hat hlt2
    have hrow:∀ q,some q=(Value.slice aoS k cpS).ownBlock→q<w.heap.size:=fun q h=>Je.out q h.symm
    have nG:gg≠T:=by
     rcases hat with h | h
     ·exact fun e=>zT (by rw [←e];exact h)
     ·omega
    have Ey:W0.heap.size+1≤w2.heap.size:=by
     have h4:(W0.drew.alloc (.cells #[Value.slice (some ⟨by_,0,none⟩) M M,Value.slice (some ⟨bn,0,none⟩) M M] 144)).heap.size≤w2.heap.size:=hgrow.size
     rw [World.size_alloc] at h4
     exact h4
    have fE:KB W0 w2 T (Value.slice aoS k cpS).ownBlock none:=⟨hgrow.os,hgrow.tape,hgrow.output,by omega,fun q hq h1 h2 _=>by
     rw [hgrow.block q (by show q<(W0.alloc (.cells #[Value.slice (some ⟨by_,0,none⟩) M M,Value.slice (some ⟨bn,0,none⟩) M M] 144)).heap.size;rw [World.size_alloc];omega) h2]
     show (W0.alloc (.cells #[Value.slice (some ⟨by_,0,none⟩) M M,Value.slice (some ⟨bn,0,none⟩) M M] 144)).heap[q]?=_
     rw [Below.heap_alloc _ _ _ (by omega)]⟩
    have T2:Three w2 T (.slice aoS k cpS) (.slice aoO k cpO) vN:=by
     have hb:=hgrow.block T (by show T<(W0.alloc (.cells #[Value.slice (some ⟨by_,0,none⟩) M M,Value.slice (some ⟨bn,0,none⟩) M M] 144)).heap.size;rw [World.size_alloc];omega) (fun e=>zT e.symm)
     have hc:∀ o,w2.cell? ⟨T,o,none⟩=W0.cell? ⟨T,o,none⟩:=fun o=>by
      rw [World.cell?_of_block (a:=⟨T,o,none⟩) hb]
      show (W0.alloc (.cells #[Value.slice (some ⟨by_,0,none⟩) M M,Value.slice (some ⟨bn,0,none⟩) M M] 144)).cell? ⟨T,o,none⟩=_
      exact World.cell?_alloc_lt _ _ _ rC
     have hf:∀ o,w2.frozen? ⟨T,o,none⟩=W0.frozen? ⟨T,o,none⟩:=fun o=>by
      rw [World.frozen?_of_block (a:=⟨T,o,none⟩) hb]
      show (W0.alloc (.cells #[Value.slice (some ⟨by_,0,none⟩) M M,Value.slice (some ⟨bn,0,none⟩) M M] 144)).frozen? ⟨T,o,none⟩=_
      exact World.frozen?_alloc_past _ _ _ rC
     exact ⟨(hc 0).trans dW.out.t.c0,(hc 1).trans dW.out.t.c1,(hc 2).trans dW.out.t.c2,fun o ho=>(hf o).trans (dW.out.t.fz o ho)⟩
    have g2:w2.cell? ⟨w.heap.size,0,none⟩=some (.slice (some ⟨by_,0,none⟩) M M)∧w2.cell? ⟨w.heap.size,1,none⟩=some (.slice (some ⟨bn,0,none⟩) M M):=⟨(fE.cell (p:=⟨w.heap.size,0,none⟩) hsz (by show w.heap.size≠T;omega) (fun e=>Nat.lt_irrefl _ (hrow _ e)) (by simp)).trans XH.out.1,(fE.cell (p:=⟨w.heap.size,1,none⟩) hsz (by show w.heap.size≠T;omega) (fun e=>Nat.lt_irrefl _ (hrow _ e)) (by simp)).trans XH.out.2⟩
    have D1:=hid (T2.set0 (.slice (some ⟨gg,0,none⟩) (k+1) cc))
    have D2:=hid (aQ hown ⟨T,0,none⟩ (.slice (some ⟨gg,0,none⟩) (k+1) cc) (by simpa [Value.ownBlock] using nG))
    have FK:=dW.out.ou
    rw [fu.out] at FK
    have zU:(Value.slice aoO k cpO).ownBlock≠some T:=fun e=>by have:=(lu.out _ e).1;omega
    have D3:=hid (aQ (fB FK fE zU (aD FK OW.out (by decide)) (by cases (Value.slice aoO k cpO).ownBlock <;> simp)) ⟨T,0,none⟩ (.slice (some ⟨gg,0,none⟩) (k+1) cc) zU)
    have RW:Hid (∀ (g M:Nat) (F:Nat→Bool),W0.ownsRow B 4 1 (.slice (some ⟨g,0,none⟩) M M) M (aj F M M)→(w2.setCell ⟨T,0,none⟩ (.slice (some ⟨gg,0,none⟩) (k+1) cc)).ownsRow B 4 1 (.slice (some ⟨g,0,none⟩) M M) M (aj F M M)):=hid (fun g M F ho=>by
     have hn:(Value.slice (some ⟨g,0,none⟩) M M).ownBlock≠some T:=fun e=>by have:=(ho.lt _ e).1;omega
     exact aQ (fB ho fE hn (aD ho OW.out (by decide)) (by simp [Value.ownBlock])) ⟨T,0,none⟩ _ hn)
    have nM:Hid (KB w (w2.setCell ⟨T,0,none⟩ (.slice (some ⟨gg,0,none⟩) (k+1) cc)) T (Value.slice aoS k cpS).ownBlock none):=hid ⟨fE.os.trans HB.out.os,fE.tape.trans HB.out.tape,fE.output.trans HB.out.output,by rw [World.size_setCell];omega,fun q hq h1 h2 h3=>by
     rw [Below.heap_setCell _ _ _ _ h1,fE.block q (by omega) h1 h2 h3]
     exact HB.out.block q hq⟩
    refine hK.out _ _ g2 (fun hHeld=>?_)
    have iW:Hid ((w2.setCell ⟨T,0,none⟩ (.slice (some ⟨gg,0,none⟩) (k+1) cc)).cell? ⟨w.heap.size,0,none⟩=some (.slice (some ⟨by_,0,none⟩) M M)∧(w2.setCell ⟨T,0,none⟩ (.slice (some ⟨gg,0,none⟩) (k+1) cc)).cell? ⟨w.heap.size,1,none⟩=some (.slice (some ⟨bn,0,none⟩) M M)):=hid ⟨by rw [World.cell?_setCell_other _ _ _ _ (fun e=>by have:=congrArg Addr.block e;simp at this;omega)];exact g2.1,by rw [World.cell?_setCell_other _ _ _ _ (fun e=>by have:=congrArg Addr.block e;simp at this;omega)];exact g2.2⟩
    have c2:=T2.c0
    have f2:=T2.fz 0 (by omega)
    clear hK K hown hgrow hat g2 hrow FK fE T2
    simp only [Act.put,List.setIfInBounds_toArray]
    refine wpAnyH_take (i:=8) (oi:={ dst:=some 58,op:=Op.nilCheck (.tmp 50),type:=_,pos:=_,after:=_,guard:=none }) (v:=(Value.pointer (some ⟨T,0,none⟩))) rfl (by kernel_rfl) (by kernel_rfl) (by kernel_rfl) (fun _ _ _ h=>h) (Or.inl ⟨by rfl,by intro w' hSw;(try dsimp only at hSw);go_simp⟩) (by assumption) ?_
    simp only [Act.put]
    refine wpAnyH_take (i:=9) (oi:={ dst:=some 59,op:=Op.fieldAddr _ (.tmp 58) 0,type:=_,pos:=_,after:=_,guard:=none }) (v:=(Value.pointer (some ⟨T,0,none⟩))) rfl (by kernel_rfl) (by kernel_rfl) (by kernel_rfl) (fun _ _ _ h=>h) (Or.inl ⟨by rfl,by intro w' hSw;(try dsimp only at hSw);go_simp⟩) (by assumption) ?_
    simp only [Act.put]
    refine wpAnyH_ready (rs:=[10]) (by kernel_rfl) (by simp) ?_
    refine AllReadyH.cons rfl (fun K hK=>?_) AllReadyH.nil
    go_simp
    refine hK.out _ _ iW.out (fun hHeld=>?_)
    clear hK K
    refine wpAnyH_done (by kernel_rfl) ?_ _
    clear hHeld c2 f2 cT fT iW x0 x1
    have hsz5:w.heap.size<(w2.setCell ⟨T,0,none⟩ (.slice (some ⟨gg,0,none⟩) (k+1) cc)).heap.size:=by rw [World.size_setCell];omega
    generalize w2.setCell ⟨T,0,none⟩ (.slice (some ⟨gg,0,none⟩) (k+1) cc)=W5 at *
    have e0:=D1.out.c0
    have e1:=D1.out.c1
    have e2:=D1.out.fz 1 (by omega)
    go_wp2_with (at_builtin;go_must (refine wpList_append_lies _ rfl (.tmp 64) (.tmp 66) 22 rfl B 3 i1 (.int .i64 0) 1 8 Tryz.underlying22 hi1 hz01 hz11 hz21 rfl (by decide) _ k (au outs) rfl (D3.out.alloc _) ⟨W5.heap.size,0,none⟩ 1 1 [.int .i64 (td:Nat)] rfl rfl (bE W5 [.int .i64 (td:Nat)] _) (by intro y hy;simp at hy;rcases hy with rfl;rfl) (by decide) (by unfold maxLen;omega) (by omega) (by simp;omega) (W5.heap.size+1) (by simp) ?_))
    intro go co w6 hownO hgrowO hatO hltO
    have zR:W5.heap.size≤w6.heap.size:=by
     have h4:=hgrowO.size
     simp at h4
     omega
    have zV:go≠T:=by
     rcases hatO with h | h
     ·exact fun e=>zU (by rw [←e];exact h)
     ·omega
    have jh:KB W5 w6 T (Value.slice aoO k cpO).ownBlock none:=⟨hgrowO.os,hgrowO.tape,hgrowO.output,zR,fun q hq h1 h2 _=>by
     rw [hgrowO.block q (by rw [World.size_alloc];omega) h2,Below.heap_alloc _ _ _ (by omega)]⟩
    have rA:=hgrowO.block T (by rw [World.size_alloc];omega) (fun e=>zU e.symm)
    have T6:Three w6 T (.slice (some ⟨gg,0,none⟩) (k+1) cc) (.slice aoO k cpO) vN:=by
     have hc:∀ o,w6.cell? ⟨T,o,none⟩=W5.cell? ⟨T,o,none⟩:=fun o=>by
      rw [World.cell?_of_block (a:=⟨T,o,none⟩) rA]
      exact World.cell?_alloc_lt _ _ _ (by show T<W5.heap.size;omega)
     have hf:∀ o,w6.frozen? ⟨T,o,none⟩=W5.frozen? ⟨T,o,none⟩:=fun o=>by
      rw [World.frozen?_of_block (a:=⟨T,o,none⟩) rA]
      exact World.frozen?_alloc_past _ _ _ (by show T<W5.heap.size;omega)
     exact ⟨(hc 0).trans D1.out.c0,(hc 1).trans D1.out.c1,(hc 2).trans D1.out.c2,fun o ho=>(hf o).trans (D1.out.fz o ho)⟩
    have q0:=T6.c0
    have q1:=T6.c1
    have q2:=T6.fz 1 (by omega)
    have E1:=hid (T6.set1 (.slice (some ⟨go,0,none⟩) (k+1) co))
    have e10:=E1.out.c0
    have hgg:(Value.slice (some ⟨gg,0,none⟩) (k+1) cc).ownBlock≠some T:=by simpa [Value.ownBlock] using nG
    have E2:=hid (aQ (fB D2.out jh hgg (aD D2.out D3.out (by decide)) (by simp [Value.ownBlock])) ⟨T,1,none⟩ (.slice (some ⟨go,0,none⟩) (k+1) co) hgg)
    have E3:=hid (aQ hownO ⟨T,1,none⟩ (.slice (some ⟨go,0,none⟩) (k+1) co) (by simpa [Value.ownBlock] using zV))
    have Gy:Hid (∀ (g M:Nat) (F:Nat→Bool),W0.ownsRow B 4 1 (.slice (some ⟨g,0,none⟩) M M) M (aj F M M)→(w6.setCell ⟨T,1,none⟩ (.slice (some ⟨go,0,none⟩) (k+1) co)).ownsRow B 4 1 (.slice (some ⟨g,0,none⟩) M M) M (aj F M M)):=hid (fun g M F ho=>by
     have hn:(Value.slice (some ⟨g,0,none⟩) M M).ownBlock≠some T:=fun e=>by have:=(ho.lt _ e).1;omega
     have h5:=RW.out _ _ _ ho
     exact aQ (fB h5 jh hn (aD h5 D3.out (by decide)) (by simp [Value.ownBlock])) ⟨T,1,none⟩ _ hn)
    have GX:Hid (KB w (w6.setCell ⟨T,1,none⟩ (.slice (some ⟨go,0,none⟩) (k+1) co)) T (Value.slice aoS k cpS).ownBlock (Value.slice aoO k cpO).ownBlock):=hid ⟨jh.os.trans nM.out.os,jh.tape.trans nM.out.tape,jh.output.trans nM.out.output,by rw [World.size_setCell];omega,fun q hq h1 h2 h3=>by
     rw [Below.heap_setCell _ _ _ _ h1,jh.block q (by omega) h1 h3 (by simp),nM.out.block q hq h1 h2 (by simp)]⟩
    have OB:Hid ((Value.slice (some ⟨go,0,none⟩) (k+1) co).ownBlock=(Value.slice aoO k cpO).ownBlock∨∃ q,(Value.slice (some ⟨go,0,none⟩) (k+1) co).ownBlock=some q∧w.heap.size≤q):=hid (by
     rcases hatO with h | h
     ·exact Or.inl (by rw [h];rfl)
     ·exact Or.inr ⟨go,rfl,by omega⟩)
    clear hownO hgrowO hatO jh T6 rA D1 D2 D3 e0 e1 e2
    go_wp2_with fail
    go_ret
    refine ⟨k,.slice (some ⟨gg,0,none⟩) (k+1) cc,.slice (some ⟨go,0,none⟩) (k+1) co,rs++[(by_,bn)],fs++[(f,h)],outs++[td],by go_num,⟨E1.out,Q3,by rw [List.length_append,List.length_append,HM.out.len];rfl,by rw [List.length_append,List.length_append,HM.out.MN];rfl,?_,?_,?_⟩,GX.out,OB.out,Or.inr ⟨fu.out.symm,rfl,rfl,by rw [HTD.out],fun p hp=>?_⟩⟩
    ·rw [List.length_append,fu.out,Dq]
     exact E2.out
    ·rw [List.length_append,fu.out,show au (outs++[td])=au outs++[.int .i64 (td:Nat)] by simp [au]]
     exact E3.out
    ·intro i p q hp hq
     by_cases c:i<rs.length
     ·rw [List.getElem?_append_left c] at hp
      rw [List.getElem?_append_left (by rw [HM.out.len];exact c)] at hq
      obtain ⟨r1,r2⟩:=dW.out.row i p q hp hq
      exact ⟨Gy.out _ _ _ r1,Gy.out _ _ _ r2⟩
     ·have c2:=(List.getElem?_eq_some_iff.1 hp).1
      simp at c2
      have c3:i=rs.length:=by omega
      subst c3
      rw [←HM.out.len] at hq
      simp at hp hq
      subst hp
      subst hq
      exact ⟨Gy.out _ _ _ (ae H1.out HB.out),Gy.out _ _ _ (ae H2.out HB.out)⟩
    ·obtain ⟨i,hi,e⟩:=List.getElem_of_mem hp
     exact HA.out i p (by rw [←fu.out,←HM.out.len];exact hi) (by rw [List.getElem?_eq_getElem hi,e])
   ·go_simp
    refine hK.out _ _ ⟨by show (W0.alloc _).cell? _=_;rw [World.cell?_alloc_lt _ _ _ hsz];exact XH.out.1,by show (W0.alloc _).cell? _=_;rw [World.cell?_alloc_lt _ _ _ hsz];exact XH.out.2⟩ (fun hHeld=>?_)
    clear hK K
    refine wpAnyH_ready (rs:=[4]) (by kernel_rfl) (by simp) ?_
    refine AllReadyH.cons rfl (fun K hK=>?_) AllReadyH.nil
    go_simp
    refine hK.out _ _ (by assumption) (fun hHeld=>?_)
    clear hK K
    refine wpAnyH_ready (rs:=[7]) (by kernel_rfl) (by simp) ?_
    refine AllReadyH.cons rfl (fun K hK=>?_) AllReadyH.nil
    refine step_append_lies _ (by rfl) (.tmp 54) (.tmp 56) 79 (by rfl) B 144 i0 (.agg #[.slice none 0 0,.slice none 0 0]) 2 48 Tryz.underlying79 hi hz0 hz1 hz2 rfl (by decide) _ k (mY rs M) (by rfl) ((OW.out.alloc _).drew) ⟨W0.heap.size,0,none⟩ 1 1 [.slice (some ⟨by_,0,none⟩) M M,.slice (some ⟨bn,0,none⟩) M M] (by rfl) (by rfl) (bE W0 _ _) (by intro y hy;simp at hy;rcases hy with rfl | rfl <;> rfl) (by decide) (by unfold maxLen;omega) (by omega) (by simp;omega) (W0.heap.size+1) (by simp) ?_
    intro gg cc w2 hown hgrow hat hlt2
    have hrow:∀ q,some q=(Value.slice aoS k cpS).ownBlock→q<w.heap.size:=fun q h=>Je.out q h.symm
    have nG:gg≠T:=by
     rcases hat with h | h
     ·exact fun e=>zT (by rw [←e];exact h)
     ·omega
    have Ey:W0.heap.size+1≤w2.heap.size:=by
     have h4:(W0.drew.alloc (.cells #[Value.slice (some ⟨by_,0,none⟩) M M,Value.slice (some ⟨bn,0,none⟩) M M] 144)).heap.size≤w2.heap.size:=hgrow.size
     rw [World.size_alloc] at h4
     exact h4
    have fE:KB W0 w2 T (Value.slice aoS k cpS).ownBlock none:=⟨hgrow.os,hgrow.tape,hgrow.output,by omega,fun q hq h1 h2 _=>by
     rw [hgrow.block q (by show q<(W0.alloc (.cells #[Value.slice (some ⟨by_,0,none⟩) M M,Value.slice (some ⟨bn,0,none⟩) M M] 144)).heap.size;rw [World.size_alloc];omega) h2]
     show (W0.alloc (.cells #[Value.slice (some ⟨by_,0,none⟩) M M,Value.slice (some ⟨bn,0,none⟩) M M] 144)).heap[q]?=_
     rw [Below.heap_alloc _ _ _ (by omega)]⟩
    have T2:Three w2 T (.slice aoS k cpS) (.slice aoO k cpO) vN:=by
     have hb:=hgrow.block T (by show T<(W0.alloc (.cells #[Value.slice (some ⟨by_,0,none⟩) M M,Value.slice (some ⟨bn,0,none⟩) M M] 144)).heap.size;rw [World.size_alloc];omega) (fun e=>zT e.symm)
     have hc:∀ o,w2.cell? ⟨T,o,none⟩=W0.cell? ⟨T,o,none⟩:=fun o=>by
      rw [World.cell?_of_block (a:=⟨T,o,none⟩) hb]
      show (W0.alloc (.cells #[Value.slice (some ⟨by_,0,none⟩) M M,Value.slice (some ⟨bn,0,none⟩) M M] 144)).cell? ⟨T,o,none⟩=_
      exact World.cell?_alloc_lt _ _ _ rC
     have hf:∀ o,w2.frozen? ⟨T,o,none⟩=W0.frozen? ⟨T,o,none⟩:=fun o=>by
      rw [World.frozen?_of_block (a:=⟨T,o,none⟩) hb]
      show (W0.alloc (.cells #[Value.slice (some ⟨by_,0,none⟩) M M,Value.slice (some ⟨bn,0,none⟩) M M] 144)).frozen? ⟨T,o,none⟩=_
      exact World.frozen?_alloc_past _ _ _ rC
     exact ⟨(hc 0).trans dW.out.t.c0,(hc 1).trans dW.out.t.c1,(hc 2).trans dW.out.t.c2,fun o ho=>(hf o).trans (dW.out.t.fz o ho)⟩
    have g2:w2.cell? ⟨w.heap.size,0,none⟩=some (.slice (some ⟨by_,0,none⟩) M M)∧w2.cell? ⟨w.heap.size,1,none⟩=some (.slice (some ⟨bn,0,none⟩) M M):=⟨(fE.cell (p:=⟨w.heap.size,0,none⟩) hsz (by show w.heap.size≠T;omega) (fun e=>Nat.lt_irrefl _ (hrow _ e)) (by simp)).trans XH.out.1,(fE.cell (p:=⟨w.heap.size,1,none⟩) hsz (by show w.heap.size≠T;omega) (fun e=>Nat.lt_irrefl _ (hrow _ e)) (by simp)).trans XH.out.2⟩
    have D1:=hid (T2.set0 (.slice (some ⟨gg,0,none⟩) (k+1) cc))
    have D2:=hid (aQ hown ⟨T,0,none⟩ (.slice (some ⟨gg,0,none⟩) (k+1) cc) (by simpa [Value.ownBlock] using nG))
    have FK:=dW.out.ou
    rw [fu.out] at FK
    have zU:(Value.slice aoO k cpO).ownBlock≠some T:=fun e=>by have:=(lu.out _ e).1;omega
    have D3:=hid (aQ (fB FK fE zU (aD FK OW.out (by decide)) (by cases (Value.slice aoO k cpO).ownBlock <;> simp)) ⟨T,0,none⟩ (.slice (some ⟨gg,0,none⟩) (k+1) cc) zU)
    have RW:Hid (∀ (g M:Nat) (F:Nat→Bool),W0.ownsRow B 4 1 (.slice (some ⟨g,0,none⟩) M M) M (aj F M M)→(w2.setCell ⟨T,0,none⟩ (.slice (some ⟨gg,0,none⟩) (k+1) cc)).ownsRow B 4 1 (.slice (some ⟨g,0,none⟩) M M) M (aj F M M)):=hid (fun g M F ho=>by
     have hn:(Value.slice (some ⟨g,0,none⟩) M M).ownBlock≠some T:=fun e=>by have:=(ho.lt _ e).1;omega
     exact aQ (fB ho fE hn (aD ho OW.out (by decide)) (by simp [Value.ownBlock])) ⟨T,0,none⟩ _ hn)
    have nM:Hid (KB w (w2.setCell ⟨T,0,none⟩ (.slice (some ⟨gg,0,none⟩) (k+1) cc)) T (Value.slice aoS k cpS).ownBlock none):=hid ⟨fE.os.trans HB.out.os,fE.tape.trans HB.out.tape,fE.output.trans HB.out.output,by rw [World.size_setCell];omega,fun q hq h1 h2 h3=>by
     rw [Below.heap_setCell _ _ _ _ h1,fE.block q (by omega) h1 h2 h3]
     exact HB.out.block q hq⟩
    refine hK.out _ _ g2 (fun hHeld=>?_)
    have iW:Hid ((w2.setCell ⟨T,0,none⟩ (.slice (some ⟨gg,0,none⟩) (k+1) cc)).cell? ⟨w.heap.size,0,none⟩=some (.slice (some ⟨by_,0,none⟩) M M)∧(w2.setCell ⟨T,0,none⟩ (.slice (some ⟨gg,0,none⟩) (k+1) cc)).cell? ⟨w.heap.size,1,none⟩=some (.slice (some ⟨bn,0,none⟩) M M)):=hid ⟨by rw [World.cell?_setCell_other _ _ _ _ (fun e=>by have:=congrArg Addr.block e;simp at this;omega)];exact g2.1,by rw [World.cell?_setCell_other _ _ _ _ (fun e=>by have:=congrArg Addr.block e;simp at this;omega)];exact g2.2⟩
    have c2:=T2.c0
    have f2:=T2.fz 0 (by omega)
    clear hK K hown hgrow hat g2 hrow FK fE T2
    simp only [Act.put,List.setIfInBounds_toArray]
    refine wpAnyH_take (i:=8) (oi:={ dst:=some 58,op:=Op.nilCheck (.tmp 50),type:=_,pos:=_,after:=_,guard:=none }) (v:=(Value.pointer (some ⟨T,0,none⟩))) rfl (by kernel_rfl) (by kernel_rfl) (by kernel_rfl) (fun _ _ _ h=>h) (Or.inl ⟨by rfl,by intro w' hSw;(try dsimp only at hSw);go_simp⟩) (by assumption) ?_
    simp only [Act.put]
    refine wpAnyH_take (i:=9) (oi:={ dst:=some 59,op:=Op.fieldAddr _ (.tmp 58) 0,type:=_,pos:=_,after:=_,guard:=none }) (v:=(Value.pointer (some ⟨T,0,none⟩))) rfl (by kernel_rfl) (by kernel_rfl) (by kernel_rfl) (fun _ _ _ h=>h) (Or.inl ⟨by rfl,by intro w' hSw;(try dsimp only at hSw);go_simp⟩) (by assumption) ?_
    simp only [Act.put]
    refine wpAnyH_ready (rs:=[10]) (by kernel_rfl) (by simp) ?_
    refine AllReadyH.cons rfl (fun K hK=>?_) AllReadyH.nil
    go_simp
    refine hK.out _ _ iW.out (fun hHeld=>?_)
    clear hK K
    refine wpAnyH_done (by kernel_rfl) ?_ _
    clear hHeld c2 f2 cT fT iW x0 x1
    have hsz5:w.heap.size<(w2.setCell ⟨T,0,none⟩ (.slice (some ⟨gg,0,none⟩) (k+1) cc)).heap.size:=by rw [World.size_setCell];omega
    generalize w2.setCell ⟨T,0,none⟩ (.slice (some ⟨gg,0,none⟩) (k+1) cc)=W5 at *
    have e0:=D1.out.c0
    have e1:=D1.out.c1
    have e2:=D1.out.fz 1 (by omega)
    go_wp2_with (at_builtin;go_must (refine wpList_append_lies _ rfl (.tmp 64) (.tmp 66) 22 rfl B 3 i1 (.int .i64 0) 1 8 Tryz.underlying22 hi1 hz01 hz11 hz21 rfl (by decide) _ k (au outs) rfl (D3.out.alloc _) ⟨W5.heap.size,0,none⟩ 1 1 [.int .i64 (td:Nat)] rfl rfl (bE W5 [.int .i64 (td:Nat)] _) (by intro y hy;simp at hy;rcases hy with rfl;rfl) (by decide) (by unfold maxLen;omega) (by omega) (by simp;omega) (W5.heap.size+1) (by simp) ?_))
    intro go co w6 hownO hgrowO hatO hltO
    have zR:W5.heap.size≤w6.heap.size:=by
     have h4:=hgrowO.size
     simp at h4
     omega
    have zV:go≠T:=by
     rcases hatO with h | h
     ·exact fun e=>zU (by rw [←e];exact h)
     ·omega
    have jh:KB W5 w6 T (Value.slice aoO k cpO).ownBlock none:=⟨hgrowO.os,hgrowO.tape,hgrowO.output,zR,fun q hq h1 h2 _=>by
     rw [hgrowO.block q (by rw [World.size_alloc];omega) h2,Below.heap_alloc _ _ _ (by omega)]⟩
    have rA:=hgrowO.block T (by rw [World.size_alloc];omega) (fun e=>zU e.symm)
    have T6:Three w6 T (.slice (some ⟨gg,0,none⟩) (k+1) cc) (.slice aoO k cpO) vN:=by
     have hc:∀ o,w6.cell? ⟨T,o,none⟩=W5.cell? ⟨T,o,none⟩:=fun o=>by
      rw [World.cell?_of_block (a:=⟨T,o,none⟩) rA]
      exact World.cell?_alloc_lt _ _ _ (by show T<W5.heap.size;omega)
     have hf:∀ o,w6.frozen? ⟨T,o,none⟩=W5.frozen? ⟨T,o,none⟩:=fun o=>by
      rw [World.frozen?_of_block (a:=⟨T,o,none⟩) rA]
      exact World.frozen?_alloc_past _ _ _ (by show T<W5.heap.size;omega)
     exact ⟨(hc 0).trans D1.out.c0,(hc 1).trans D1.out.c1,(hc 2).trans D1.out.c2,fun o ho=>(hf o).trans (D1.out.fz o ho)⟩
    have q0:=T6.c0
    have q1:=T6.c1
    have q2:=T6.fz 1 (by omega)
    have E1:=hid (T6.set1 (.slice (some ⟨go,0,none⟩) (k+1) co))
    have e10:=E1.out.c0
    have hgg:(Value.slice (some ⟨gg,0,none⟩) (k+1) cc).ownBlock≠some T:=by simpa [Value.ownBlock] using nG
    have E2:=hid (aQ (fB D2.out jh hgg (aD D2.out D3.out (by decide)) (by simp [Value.ownBlock])) ⟨T,1,none⟩ (.slice (some ⟨go,0,none⟩) (k+1) co) hgg)
    have E3:=hid (aQ hownO ⟨T,1,none⟩ (.slice (some ⟨go,0,none⟩) (k+1) co) (by simpa [Value.ownBlock] using zV))
    have Gy:Hid (∀ (g M:Nat) (F:Nat→Bool),W0.ownsRow B 4 1 (.slice (some ⟨g,0,none⟩) M M) M (aj F M M)→(w6.setCell ⟨T,1,none⟩ (.slice (some ⟨go,0,none⟩) (k+1) co)).ownsRow B 4 1 (.slice (some ⟨g,0,none⟩) M M) M (aj F M M)):=hid (fun g M F ho=>by
     have hn:(Value.slice (some ⟨g,0,none⟩) M M).ownBlock≠some T:=fun e=>by have:=(ho.lt _ e).1;omega
     have h5:=RW.out _ _ _ ho
     exact aQ (fB h5 jh hn (aD h5 D3.out (by decide)) (by simp [Value.ownBlock])) ⟨T,1,none⟩ _ hn)
    have GX:Hid (KB w (w6.setCell ⟨T,1,none⟩ (.slice (some ⟨go,0,none⟩) (k+1) co)) T (Value.slice aoS k cpS).ownBlock (Value.slice aoO k cpO).ownBlock):=hid ⟨jh.os.trans nM.out.os,jh.tape.trans nM.out.tape,jh.output.trans nM.out.output,by rw [World.size_setCell];omega,fun q hq h1 h2 h3=>by
     rw [Below.heap_setCell _ _ _ _ h1,jh.block q (by omega) h1 h3 (by simp),nM.out.block q hq h1 h2 (by simp)]⟩
    have OB:Hid ((Value.slice (some ⟨go,0,none⟩) (k+1) co).ownBlock=(Value.slice aoO k cpO).ownBlock∨∃ q,(Value.slice (some ⟨go,0,none⟩) (k+1) co).ownBlock=some q∧w.heap.size≤q):=hid (by
     rcases hatO with h | h
     ·exact Or.inl (by rw [h];rfl)
     ·exact Or.inr ⟨go,rfl,by omega⟩)
    clear hownO hgrowO hatO jh T6 rA D1 D2 D3 e0 e1 e2
    go_wp2_with fail
    go_ret
    refine ⟨k,.slice (some ⟨gg,0,none⟩) (k+1) cc,.slice (some ⟨go,0,none⟩) (k+1) co,rs++[(by_,bn)],fs++[(f,h)],outs++[td],by go_num,⟨E1.out,Q3,by rw [List.length_append,List.length_append,HM.out.len];rfl,by rw [List.length_append,List.length_append,HM.out.MN];rfl,?_,?_,?_⟩,GX.out,OB.out,Or.inr ⟨fu.out.symm,rfl,rfl,by rw [HTD.out],fun p hp=>?_⟩⟩
    ·rw [List.length_append,fu.out,Dq]
     exact E2.out
    ·rw [List.length_append,fu.out,show au (outs++[td])=au outs++[.int .i64 (td:Nat)] by simp [au]]
     exact E3.out
    ·intro i p q hp hq
     by_cases c:i<rs.length
     ·rw [List.getElem?_append_left c] at hp
      rw [List.getElem?_append_left (by rw [HM.out.len];exact c)] at hq
      obtain ⟨r1,r2⟩:=dW.out.row i p q hp hq
      exact ⟨Gy.out _ _ _ r1,Gy.out _ _ _ r2⟩
     ·have c2:=(List.getElem?_eq_some_iff.1 hp).1
      simp at c2
      have c3:i=rs.length:=by omega
      subst c3
      rw [←HM.out.len] at hq
      simp at hp hq
      subst hp
      subst hq
      exact ⟨Gy.out _ _ _ (ae H1.out HB.out),Gy.out _ _ _ (ae H2.out HB.out)⟩
    ·obtain ⟨i,hi,e⟩:=List.getElem_of_mem hp
     exact HA.out i p (by rw [←fu.out,←HM.out.len];exact hi) (by rw [List.getElem?_eq_getElem hi,e])
end Go.Proofs.YtjagijohfkffiabGreat
