import Derived.Test.YtjagijohfkffiabGreatALLM02
import Derived.Test.YtjagijohfkffiabGreatALLM25
import Derived.Test.YtjagijohfkffiabGreatALLM50
set_option maxHeartbeats 16000000
set_option maxRecDepth 100000
namespace Go.Proofs.YtjagijohfkffiabGreat
open Go.RowKit
set_option linter.unusedVariables false
structure uJ where
 gf:Nat
 ao:Option Addr
 cap:Nat
 ls:List (Nat × Nat)
 goal:Nat→Bool
 found:Nat→Bool
def Jp (n:Nat) (r:uJ):List Value:=[.slice (some ⟨r.gf,0,none⟩) n n,.slice r.ao r.ls.length r.cap,.int .i64 ((az r.goal (n*256)).length:Nat)]
def iI (n:Nat) (rs:List uJ):List Value:=rs.flatMap (Jp n)
theorem Qu (n:Nat) (rs:List uJ) (r:uJ):iI n (rs++[r])=iI n rs++Jp n r:=by simp [iI]
theorem Ui {n:Nat} {rs:List uJ} {i:Nat} {r:uJ} (h:rs[i]?=some r):(iI n rs)[i*3]?=some (.slice (some ⟨r.gf,0,none⟩) n n)∧(iI n rs)[i*3+1]?=some (.slice r.ao r.ls.length r.cap)∧(iI n rs)[i*3+2]?=some (.int .i64 ((az r.goal (n*256)).length:Nat)):=by
 induction rs generalizing i with
 | nil=>simp at h
 | cons q qs ih=>
  cases i with
  | zero=>simp at h;subst h;simp [iI,Jp]
  | succ i=>
   have:=ih (by simpa using h)
   rw [show iI n (q::qs)=Jp n q++iI n qs by simp [iI]]
   have hl:(Jp n q).length=3:=rfl
   rw [List.getElem?_append_right (by omega),List.getElem?_append_right (by omega),List.getElem?_append_right (by omega),hl]
   simpa [show (i+1)*3 - 3=i*3 by omega,show (i+1)*3+1 - 3=i*3+1 by omega,show (i+1)*3+2 - 3=i*3+2 by omega] using this
structure kP (w:World) (B:Nat) (E:Nat→Nat→Prop) (N:Nat) (last:Nat→Bool) (r:uJ):Prop where
 ow:w.ownsRow B 221 3 (.slice r.ao r.ls.length r.cap) r.ls.length (iJ r.ls)
 sk:oO E N r.goal r.ls r.found
 gl:∀ x,r.goal x=true→last x=true
 fd:∀ x,last x=true→r.found x=true
theorem kP.below {w w':World} {B:Nat} {E:Nat→Nat→Prop} {N:Nat} {last:Nat→Bool} {r:uJ} (h:kP w B E N last r) (hb:Below w.heap.size w w'):kP w' B E N last r:=⟨ae h.ow hb,h.sk,h.gl,h.fd⟩
theorem kP.grown {w w':World} {B B':Nat} {E:Nat→Nat→Prop} {N:Nat} {last:Nat→Bool} {r:uJ} {v:Value} {k:Nat} {xs:List Value} (h:kP w B E N last r) (ho:w.ownsRow B' 171 3 v k xs) (hg:w.grownBy w' v.ownBlock):kP w' B E N last r:=⟨h.ow.kept hg (aD h.ow ho (by decide)),h.sk,h.gl,h.fd⟩
theorem kP.lk {w:World} {B:Nat} {E:Nat→Nat→Prop} {N:Nat} {last:Nat→Bool} {r:uJ} (h:kP w B E N last r):vz w r.ao r.cap r.ls:=by
 obtain ⟨ao,cap,e,hl⟩:=zP h.ow
 cases e
 exact hl
structure aaO (n:Nat) (cs:List (Nat→Bool)) (f:Nat→Bool) (rs:List uJ):Prop where
 pos:0<rs.length
 len:cs.length≤rs.length
 le:rs.length≤8
 mark:∀ (k:Nat) c,cs[k]?=some c→∃ r,rs[k]?=some r∧∀ x,r.goal x=true→c (x % 256)=true
theorem Tryz.TV:(Tryz.prog.info? 171).map (fun i=>(i.zero,i.size,i.bytes))=some (some (.agg #[.slice none 0 0,.slice none 0 0,.int .i64 0]),3,56):=by kernel_rfl
def Ao (n:Nat) (ns:List Nd) (into:Nat→List (Nat × Nat)) (cs:List (Nat→Bool)) (f:Nat→Bool) (w:World) (e:Ending) (w':World):Prop:=
 ∃ rs v,e=.returned v∧w'.ownsRow w.heap.size 171 3 v rs.length (iI n rs)∧(∀ r∈rs,kP w' w.heap.size (Ew n ns into) (n*256) f r)∧aaO n cs f rs∧Below w.heap.size w w'
theorem AJ {cs:List (Nat→Bool)} {k:Nat} {c:Nat→Bool} (h:cs[k]?=some c):spread c∈spreads cs:=List.mem_map.2 ⟨c,List.mem_of_getElem? h,rfl⟩
theorem oN (f:Nat→Bool) (n:Nat):(az f n).length≤n:=by rw [pJ];exact yN f n
theorem Mq (P gi n icap g cap:Nat) (ns:List Nd) (into:Nat→List (Nat × Nat)) (cs:List (Nat→Bool)) (f:Nat→Bool) (w:World) (h8:ns.length≤8) (hp:rP n into) (hbm:tC w P ns) (hP:P<w.heap.size) (hcm:mO w P cs) (hcl:cs.length≤8) (hw:mI w gi n into) (hf:bC w g (n*256) f) (hg:g<w.heap.size) (hlast:∀ x,f x=true↔gu (Ew n ns into) (spreads cs) x) :
  Calls Tryz.prog 133 #[.pointer (some ⟨P,0,none⟩),.agg #[.slice (some ⟨gi,0,none⟩) n icap],.slice (some ⟨g,0,none⟩) n cap] w (Ao n ns into cs f w):=by
 have hn:=hp.le
 have HP:=hid hp
 have HM:=hid hbm
 have HW:=hid hw
 have HF:=hid hf
 have KU:=hid hlast
 have hgi:=hw.lt
 obtain ⟨ca,ccap,Cb,hcr⟩:=hcm
 have xQ:=hid hcr
 obtain ⟨i0,hi0,hz0,hz1,hz2⟩:=info_parts Tryz.TV
 clear hp hbm hw hf hcr hlast
 generalize hm:cs.length=m at *
 have nu:=hid hm
 clear hm
 have ba:=hid ((Below.refl w.heap.size w).alloc (Nat.le_refl _) (.cells #[.slice (some ⟨gi,0,none⟩) n icap] 159))
 have C0:Hid ((w.alloc (.cells #[.slice (some ⟨gi,0,none⟩) n icap] 159)).cell? ⟨w.heap.size,0,none⟩=some (.slice (some ⟨gi,0,none⟩) n icap)):=hid (by simp)
 have jO:=(ba.out.cell (p:=⟨P,2048,none⟩) hP).trans Cb
 go_enter Tryz.func133,Tryz.ntmps133
 go_wp2_with fail
 generalize hW:(w.alloc (.cells #[.slice (some ⟨gi,0,none⟩) n icap] 159))=W at *
 have hWs:W.heap.size=w.heap.size+1:=by rw [←hW];simp
 clear hW jO Cb
 go_loopw [7,18] (fun v i wq=>∃ (k:Nat) (rs:List uJ),k≤m∧i=.int .i64 k∧Hid (rs.length=k)∧Hid (wq.ownsRow (w.heap.size+1) 171 3 v rs.length (iI n rs))∧Hid (∀ r∈rs,kP wq w.heap.size (Ew n ns into) (n*256) f r)∧Hid (∀ (j:Nat) c,j<k→cs[j]?=some c→∃ r,rs[j]?=some r∧∀ x,r.goal x=true→c (x % 256)=true)∧Hid (wq.cell? ⟨w.heap.size,0,none⟩=some (.slice (some ⟨gi,0,none⟩) n icap))∧Hid (Below w.heap.size w wq)∧w.heap.size<wq.heap.size) (fun _ i _=>m - (intOf i).toNat)
 case atStart=>exact ⟨0,[],Nat.zero_le _,rfl,hid rfl,hid (World.ownsRow_nil _ _ _ _),hid (fun r hr=>by simp at hr),hid (fun j c hj=>by omega),C0,ba,by omega⟩
 case round=>
  obtain ⟨k,rs,hk,rfl,uL,HO,xO,HMK,HC,HB,hsz⟩:=hrel
  rename World=>W0
  rename Value=>v0
  clear C0 ba
  obtain ⟨aoV,cpV,rfl⟩:=ag HO.out
  by_cases hlk:k<m
  ·obtain ⟨gc,e,hgc,hcell⟩:=xQ.out (by omega)
   subst e
   obtain ⟨c,hc⟩:∃ c,cs[k]?=some c:=⟨cs[k]'(by rw [nu.out];exact hlk),List.getElem?_eq_getElem (by rw [nu.out];exact hlk)⟩
   have GC:=hid ((hcell k c hc).below HB.out hgc)
   have RJ:=hid hc
   clear hcell hc
   go_wp2_with (first | (refine aC rfl (.tmp 20) rfl gc (k*256) c rfl GC.out ?_) | (refine aW rfl (.tmp 9) (.tmp 21) rfl W0.heap.size 0 c rfl rfl (fw W0).there ?_))
   intro w2 S2
   have aZ:Below W0.heap.size W0 w2:=S2.aO _ _ (Nat.le_refl _) ((Below.refl _ _).alloc (Nat.le_refl _) _)
   have A9:=hid S2.at_
   have HB2:=hid (HB.out.trans (aZ.mono (by omega)))
   have Cs:=hid aZ
   have hs2:=aZ.size
   clear S2 aZ GC
   go_wp2_with (refine aC rfl (.tmp 9) rfl W0.heap.size 0 c rfl A9.out ?_)
   refine (EJ g n cap f c w2 (by omega) (HF.out.below HB2.out hg) (by omega)).mono ?_
   rintro e w3 ⟨g3,rfl,hg3,hg3s,F3,hb3⟩
   have F3:=hid F3
   have HB3:=hid (HB2.out.trans (hb3.mono (by omega)))
   have Pg:=hid (Cs.out.trans (hb3.mono hs2))
   have Oo:=(Pg.out.cell (p:=⟨w.heap.size,0,none⟩) hsz).trans HC.out
   have hs3:=hb3.size
   clear hb3 Cs HB2 A9
   go_wp2_with fail
   refine (wh P gi n icap g3 n ns into (dG f c) w3 h8 HP.out (HM.out.below HB3.out hP) (by omega) (HW.out.below HB3.out) F3.out hg3s).mono ?_
   rintro e w4 ⟨g4,found,ls,vl,rfl,hg4,hg4s,F4,L4,SK,OL,hb4⟩
   obtain ⟨al,cl,rfl,LM⟩:=zP OL
   have Pf:=hid (Pg.out.trans (hb4.mono (by omega)))
   have dm:=hid (HB3.out.trans (hb4.mono (by omega)))
   have hs4:=hb4.size
   have Yj:=hid (aY OL (show w.heap.size≤w3.heap.size by omega))
   clear LM
   have ni:=hid SK
   have hgl:=oN (dG f c) (n*256)
   have Pw:Hid (∀ x,dG f c x=true→f x=true∧c (x % 256)=true):=hid (fun x hx=>by unfold dG at hx;simpa using hx)
   have HFD:Hid (∀ x,f x=true→found x=true):=hid (fun x hx=>by
    rw [L4 x]
    have h9:=TT (c:=spread c) (AJ RJ.out) ((KU.out x).1 hx)
    refine eu.mono (fun y hy=>?_) h9
    unfold dG
    rw [(KU.out y).2 hy.1]
    exact hy.2)
   clear hb4 L4 SK OL F3 F4 Oo
   have bc:=(Below.refl w4.heap.size w4).alloc (Nat.le_refl _) (.cells #[.slice (some ⟨g4,0,none⟩) n n,.slice al ls.length cl,.int .i64 ((az (dG f c) (n*256)).length:Nat)] 171)
   have jD:=hid (fun q h=>(HO.out.lt q h).1)
   have O4:=hid ((ae HO.out Pf.out).alloc (.cells #[.slice (some ⟨g4,0,none⟩) n n,.slice al ls.length cl,.int .i64 ((az (dG f c) (n*256)).length:Nat)] 171))
   have hrl:=uL.out
   have KN:Hid (Jp n ⟨g4,al,cl,ls,dG f c,found⟩=[.slice (some ⟨g4,0,none⟩) n n,.slice al ls.length cl,.int .i64 ((az (dG f c) (n*256)).length:Nat)]):=hid rfl
   have HRR:=hid (show (⟨g4,al,cl,ls,dG f c,found⟩:uJ)=⟨g4,al,cl,ls,dG f c,found⟩ from rfl)
   generalize hglE:(az (dG f c) (n*256)).length=gln at *
   clear hrl
   go_wp2_with (at_builtin;go_must (refine wpList_append_lies _ rfl (.tmp 29) (.tmp 31) 216 rfl (w.heap.size+1) 171 i0 (.agg #[.slice none 0 0,.slice none 0 0,.int .i64 0]) 3 56 Tryz.underlying216 hi0 hz0 hz1 hz2 rfl (by decide) _ rs.length _ rfl (O4.out.alloc _) ⟨w4.heap.size+1,0,none⟩ 1 1 [.slice (some ⟨g4,0,none⟩) n n,.slice al ls.length cl,.int .i64 (gln:Nat)] rfl rfl ?c1 ?c2 (by decide) ?c3 ?c4 ?c5 (w4.heap.size+2) ?c6 ?_))
   case c1=>exact (by simpa using uo (w4.alloc (.cells #[.slice (some ⟨g4,0,none⟩) n n,.slice al ls.length cl,.int .i64 (gln:Nat)] 171)) [.slice (some ⟨g4,0,none⟩) n n,.slice al ls.length cl,.int .i64 (gln:Nat)] 171)
   case c2=>intro y hy;simp at hy;rcases hy with rfl | rfl | rfl <;> rfl
   case c3=>unfold maxLen;have:=uL.out;omega
   case c4=>have:=uL.out;omega
   case c5=>simp;omega
   case c6=>simp
   intro gg cc w7 hown hgrow hat hlt7
   have b7:Below w4.heap.size w4 ((w4.alloc (.cells #[.slice (some ⟨g4,0,none⟩) n n,.slice al ls.length cl,.int .i64 (gln:Nat)] 171)).alloc (.cells #[.slice (some ⟨g4,0,none⟩) n n,.slice al ls.length cl,.int .i64 (gln:Nat)] 171)):=bc.alloc (by simp) _
   have fI:=hid ((dm.out.trans (b7.mono (by omega))).grown hgrow (by simp;omega) (fun q h=>by have:=jD.out q h;omega))
   have OX:=(O4.out.alloc (.cells #[.slice (some ⟨g4,0,none⟩) n n,.slice al ls.length cl,.int .i64 (gln:Nat)] 171))
   have C7:Hid (w7.cell? ⟨w.heap.size,0,none⟩=some (.slice (some ⟨gi,0,none⟩) n icap)):=hid (hgrow.cell ((b7.cell (p:=⟨w.heap.size,0,none⟩) (by show w.heap.size<w4.heap.size;omega)).trans ((Pf.out.cell (p:=⟨w.heap.size,0,none⟩) hsz).trans HC.out)) (fun h=>by have:=jD.out w.heap.size h.symm;omega))
   have NEW:Hid (kP w7 w.heap.size (Ew n ns into) (n*256) f ⟨g4,al,cl,ls,dG f c,found⟩):=hid ((kP.below ⟨Yj.out,ni.out,fun x hx=>(Pw.out x hx).1,HFD.out⟩ b7).grown OX hgrow)
   have OLD:Hid (∀ r∈rs,kP w7 w.heap.size (Ew n ns into) (n*256) f r):=hid (fun r hr=>(((xO.out r hr).below Pf.out).below b7).grown OX hgrow)
   have ALL:Hid (∀ r∈rs++[⟨g4,al,cl,ls,dG f c,found⟩],kP w7 w.heap.size (Ew n ns into) (n*256) f r):=hid (fun r hr=>by
    rcases List.mem_append.1 hr with hr | hr
    ·exact OLD.out r hr
    ·simp at hr;rw [hr];exact NEW.out)
   have MK:Hid (∀ (j:Nat) c',j<k+1→cs[j]?=some c'→∃ r,(rs++[⟨g4,al,cl,ls,dG f c,found⟩])[j]?=some r∧∀ x,r.goal x=true→c' (x % 256)=true):=hid (fun j c' hj hc'=>by
    by_cases e:j=k
    ·subst e
     rw [RJ.out] at hc'
     cases hc'
     exact ⟨_,by rw [List.getElem?_append_right (by rw [uL.out];exact Nat.le_refl _),uL.out];simp;rfl,fun x hx=>(Pw.out x hx).2⟩
    ·obtain ⟨r,h1,h2⟩:=HMK.out j c' (by omega) hc'
     exact ⟨r,by rw [List.getElem?_append_left (by rw [uL.out];omega)];exact h1,h2⟩)
   have OWN:Hid (w7.ownsRow (w.heap.size+1) 171 3 (.slice (some ⟨gg,0,none⟩) (rs.length+1) cc) (rs++[(⟨g4,al,cl,ls,dG f c,found⟩:uJ)]).length (iI n (rs++[(⟨g4,al,cl,ls,dG f c,found⟩:uJ)]))):=hid (by
    rw [Qu,KN.out,List.length_append]
    exact hown)
   have RL:Hid ((rs++[(⟨g4,al,cl,ls,dG f c,found⟩:uJ)]).length=k+1):=hid (by rw [List.length_append,uL.out];rfl)
   have aiU:w.heap.size<w7.heap.size:=by have:=hgrow.size;simp at this;omega
   clear hown hgrow hat b7 bc OX
   go_wp2_with fail
   go_roundw
   case rel=>exact ⟨k+1,_,by omega,by go_num,RL,OWN,ALL,MK,C7,fI,aiU⟩
   case measure=>simp [intOf] <;> omega
  ·obtain rfl:k=m:=by omega
   have hcs:cs.length=k:=nu.out
   by_cases hk0:k=0
   ·subst hk0
    obtain rfl:rs=[]:=List.length_eq_zero_iff.1 uL.out
    have Oo:=HC.out
    have Ry:Hid (cs=[]):=hid (List.length_eq_zero_iff.1 hcs)
    go_wp2_with fail
    refine (wh P gi n icap g cap ns into f _ h8 HP.out (HM.out.below HB.out hP) (by omega) (HW.out.below HB.out) (HF.out.below HB.out hg) (by omega)).mono ?_
    rintro e w4 ⟨g4,found,ls,vl,rfl,hg4,hg4s,F4,L4,SK,OL,hb4⟩
    obtain ⟨al,cl,rfl⟩:=ag OL
    have dm:=hid (HB.out.trans (hb4.mono (by omega)))
    have hs4:=hb4.size
    have Yj:=hid (aY OL (show w.heap.size≤W0.heap.size by omega))
    have ni:=hid SK
    have HFD:Hid (∀ x,f x=true→found x=true):=hid (fun x hx=>by
     rw [L4 x]
     have h9:=Iq ((KU.out x).1 hx)
     exact eu.mono (fun y hy=>(KU.out y).2 hy) h9)
    have bc:=(Below.refl w4.heap.size w4).alloc (Nat.le_refl _) (.cells #[.slice (some ⟨g4,0,none⟩) n n,.slice al ls.length cl,.int .i64 ((az f (n*256)).length:Nat)] 171)
    have KN:Hid (Jp n ⟨g4,al,cl,ls,f,found⟩=[.slice (some ⟨g4,0,none⟩) n n,.slice al ls.length cl,.int .i64 ((az f (n*256)).length:Nat)]):=hid rfl
    have jD:=hid (fun q h=>(HO.out.lt q h).1)
    have O4:Hid ((w4.alloc (.cells #[.slice (some ⟨g4,0,none⟩) n n,.slice al ls.length cl,.int .i64 ((az f (n*256)).length:Nat)] 171)).ownsRow (w.heap.size+1) 171 3 (.slice aoV 0 cpV) 0 []):=hid ((ae HO.out hb4).alloc _)
    clear hb4 L4 SK OL F4 Oo
    generalize (az f (n*256)).length=gln at *
    go_wp2_with (at_builtin;go_must (refine wpList_append_lies _ rfl (.tmp 41) (.tmp 43) 216 rfl (w.heap.size+1) 171 i0 (.agg #[.slice none 0 0,.slice none 0 0,.int .i64 0]) 3 56 Tryz.underlying216 hi0 hz0 hz1 hz2 rfl (by decide) _ 0 [] rfl (O4.out.alloc _) ⟨w4.heap.size+1,0,none⟩ 1 1 [.slice (some ⟨g4,0,none⟩) n n,.slice al ls.length cl,.int .i64 (gln:Nat)] rfl rfl ?c1 ?c2 (by decide) ?c3 ?c4 ?c5 (w4.heap.size+2) ?c6 ?_))
    case c1=>exact (by simpa using uo (w4.alloc (.cells #[.slice (some ⟨g4,0,none⟩) n n,.slice al ls.length cl,.int .i64 (gln:Nat)] 171)) [.slice (some ⟨g4,0,none⟩) n n,.slice al ls.length cl,.int .i64 (gln:Nat)] 171)
    case c2=>intro y hy;simp at hy;rcases hy with rfl | rfl | rfl <;> rfl
    case c3=>unfold maxLen;omega
    case c4=>omega
    case c5=>simp;omega
    case c6=>simp
    intro gg cc w7 hown hgrow hat hlt7
    have b7:Below w4.heap.size w4 ((w4.alloc (.cells #[.slice (some ⟨g4,0,none⟩) n n,.slice al ls.length cl,.int .i64 (gln:Nat)] 171)).alloc (.cells #[.slice (some ⟨g4,0,none⟩) n n,.slice al ls.length cl,.int .i64 (gln:Nat)] 171)):=bc.alloc (by simp) _
    have fI:=hid ((dm.out.trans (b7.mono (by omega))).grown hgrow (by simp;omega) (fun q h=>by have:=jD.out q h;omega))
    have OX:=(O4.out.alloc (.cells #[.slice (some ⟨g4,0,none⟩) n n,.slice al ls.length cl,.int .i64 (gln:Nat)] 171))
    have N0:kP w4 w.heap.size (Ew n ns into) (n*256) f ⟨g4,al,cl,ls,f,found⟩:=⟨Yj.out,ni.out,fun x hx=>hx,HFD.out⟩
    have NEW:Hid (kP w7 w.heap.size (Ew n ns into) (n*256) f ⟨g4,al,cl,ls,f,found⟩):=hid ((N0.below b7).grown OX hgrow)
    have DK:Hid (aaO n cs f [⟨g4,al,cl,ls,f,found⟩]):=hid ⟨by simp,by rw [Ry.out];simp,by simp,fun j c hc=>by rw [Ry.out] at hc;simp at hc⟩
    have OWN:Hid (w7.ownsRow w.heap.size 171 3 (.slice (some ⟨gg,0,none⟩) 1 cc) 1 (iI n [⟨g4,al,cl,ls,f,found⟩])):=hid (by
     rw [show iI n [⟨g4,al,cl,ls,f,found⟩]=Jp n ⟨g4,al,cl,ls,f,found⟩ by simp [iI],KN.out]
     exact aY hown (by omega))
    clear hown hgrow hat b7 bc OX
    go_wp2_with fail
    go_ret
    unfold Ao
    exact ⟨[⟨g4,al,cl,ls,f,found⟩],_,rfl,OWN.out,fun r hr=>by simp at hr;rw [hr];exact NEW.out,DK.out,fI.out⟩
   ·have DK:Hid (aaO n cs f rs):=hid ⟨by rw [uL.out];omega,by rw [uL.out,hcs];exact Nat.le_refl _,by rw [uL.out];omega,fun j c hc=>HMK.out j c (by have:=(List.getElem?_eq_some_iff.1 hc).1;omega) hc⟩
    have hz:((rs.length:Int)==0)=false:=beq_eq_false_iff_ne.2 (by have:=uL.out;omega)
    have OWN:=hid (aY HO.out (show w.heap.size≤w.heap.size+1 by omega))
    go_wp2_with fail
    go_ret
    unfold Ao
    exact ⟨rs,_,rfl,OWN.out,xO.out,DK.out,HB.out⟩
structure UE (g:Nat) (w w':World):Prop where
 size:w.heap.size≤w'.heap.size
 block:∀ i,i<w.heap.size→i≠g→w'.heap[i]?=w.heap[i]?
theorem CO {g:Nat} {B:Nat} {e:TypeId} {s:Nat} {v:Value} {n:Nat} {xs:List Value} {w w':World} (h:w.ownsRow B e s v n xs) (hs:UE g w w') (hne:v.ownBlock≠some g):w'.ownsRow B e s v n xs:=by
 refine ⟨h.1,?_⟩
 rcases h.2 with h0 | ⟨g',cap,cur,ev,hb,hg,r⟩
 ·exact Or.inl h0
 ·refine Or.inr ⟨g',cap,cur,ev,hb,(hs.block g' (Array.getElem?_eq_some_iff.1 hg).1 (fun e=>hne ?_)).trans hg,r⟩
  rw [ev,e]
  rfl
theorem ja (xa:Nat) {xb:Nat} (h:xb<256):(xa*256+xb) / 256=xa∧(xa*256+xb) % 256=xb:=⟨by omega,by omega⟩
theorem jq (xa:Nat) {xb:Nat} (h:xb<256):Az (xa*256+xb)=.agg #[.int .i64 (xa:Nat),.int .u8 (xb:Nat)]:=by
 unfold Az
 rw [(ja xa h).1,(ja xa h).2]
theorem LV {w:World} {b:Nat} {x0 x1:Value} (d0:w.cell? ⟨b,0,none⟩=some x0) (d1:w.cell? ⟨b,1,none⟩=some x1) (y0 y1:Value):((w.setCell ⟨b,0,none⟩ y0).setCell ⟨b,1,none⟩ y1).rangeAt b 0 [y0,y1]:=by
 have e1:(w.setCell ⟨b,0,none⟩ y0).cell? ⟨b,1,none⟩=some x1:=by rw [World.cell?_setCell_other _ _ _ _ (by simp)];exact d1
 intro j v hj
 have:j=0∨j=1:=by have:=(List.getElem?_eq_some_iff.1 hj).1;simp at this;omega
 rcases this with rfl | rfl
 ·simp at hj
  subst hj
  rw [Nat.zero_add,World.cell?_setCell_other _ _ _ _ (by simp)]
  exact World.cell?_setCell_same _ _ _ d0
 ·simp at hj
  subst hj
  exact World.cell?_setCell_same _ _ _ e1
theorem Two.sets {w:World} {b:Nat} {x y:Value} (h:Two w b x y) (x' y':Value):Two ((w.setCell ⟨b,0,none⟩ x').setCell ⟨b,1,none⟩ y') b x' y':=by
 have:=LV h.c0 h.c1 x' y'
 refine ⟨?_,?_,?_,?_⟩
 ·have h1:=this 0 x' rfl
  simpa using h1
 ·have h1:=this 1 y' rfl
  simpa using h1
 ·rw [World.frozen?_setCell,World.frozen?_setCell];exact h.f0
 ·rw [World.frozen?_setCell,World.frozen?_setCell];exact h.f1
theorem Tryz.Vb:(Tryz.prog.info? 166).map (·.size)=some 2:=by kernel_rfl
theorem nP {w:World} {b o i:Nat} {v:Value} (h:i≠b):(w.setCell ⟨b,o,none⟩ v).heap[i]?=w.heap[i]?:=by
 unfold World.setCell
 simp only [Array.getElem?_modify]
 rw [if_neg (fun e=>h e.symm)]
def CY (n:Nat) (ns:List Nd) (into:Nat→List (Nat × Nat)) (cs:List (Nat→Bool)) (f:Nat→Bool) (x:Nat) (w:World) (e:Ending) (w':World):Prop:=
 ∃ t,e=.returned (Az t)∧t<n*256∧LC (Ew n ns into) (spreads cs) f x t∧Below w.heap.size w w'
theorem YK (P gi n icap g cap x:Nat) (ns:List Nd) (into:Nat→List (Nat × Nat)) (cs:List (Nat→Bool)) (f:Nat→Bool) (w:World) (h8:ns.length≤8) (hp:rP n into) (AR:n≤1048576) (hbm:tC w P ns) (hP:P<w.heap.size) (hcm:mO w P cs) (hcl:cs.length≤8) (hw:mI w gi n into) (hf:bC w g (n*256) f) (hg:g<w.heap.size) (hlast:∀ x,f x=true↔gu (Ew n ns into) (spreads cs) x) (hx:f x=true) (hxn:x<n*256) :
  Calls Tryz.prog 93 #[.pointer (some ⟨P,0,none⟩),.agg #[.slice (some ⟨gi,0,none⟩) n icap],.slice (some ⟨g,0,none⟩) n cap,Az x] w (CY n ns into cs f x w):=by
 have hn:=hp.le
 have SR:=hid (fun W (b:Below w.heap.size w W)=>Mq P gi n icap g cap ns into cs f W h8 hp (hbm.below b hP) (Nat.lt_of_lt_of_le hP b.size) (hcm.below b hP) hcl (hw.below b) (hf.below b hg) (Nat.lt_of_lt_of_le hg b.size) hlast)
 have Yt:Hid (∀ y,f y=true→y<n*256):=hid (fun y hy=>by
  obtain ⟨q,h0,hq,_⟩:=(hlast y).1 hy
  rw [←h0]
  exact IU h8 hp (hq 0))
 obtain ⟨xa,xb,rfl,hxb⟩:∃ xa xb,x=xa*256+xb∧xb<256:=⟨x / 256,x % 256,by omega,by omega⟩
 rw [jq xa hxb]
 have HX:=hid hx
 have hxa:xa<n:=by omega
 unfold Ao at SR
 clear hbm hcm hw hf hlast hp hx
 have ba:=(Below.refl w.heap.size w).alloc (Nat.le_refl _) (.cells #[.slice (some ⟨gi,0,none⟩) n icap] 159)
 have bb:=ba.alloc (by simp) (.cells #[.int .i64 (xa:Nat),.int .u8 (xb:Nat)] 166)
 have bc:=bb.alloc (by simp;omega) (.cells #[.int .i64 0,.int .u8 0] 166)
 have B0:=hid bc
 have F0:Hid (Two (((w.alloc (.cells #[.slice (some ⟨gi,0,none⟩) n icap] 159)).alloc (.cells #[.int .i64 (xa:Nat),.int .u8 (xb:Nat)] 166)).alloc (.cells #[.int .i64 0,.int .u8 0] 166)) (w.heap.size+1) (.int .i64 (xa:Nat)) (.int .u8 (xb:Nat))):=hid (by
  have h1:=bF (w.alloc (.cells #[.slice (some ⟨gi,0,none⟩) n icap] 159)) (.int .i64 (xa:Nat)) (.int .u8 (xb:Nat)) 166
  rw [show (w.alloc (.cells #[.slice (some ⟨gi,0,none⟩) n icap] 159)).heap.size=w.heap.size+1 by simp] at h1
  exact h1.below ((Below.refl (w.heap.size+2) _).alloc (by simp) (.cells #[.int .i64 0,.int .u8 0] 166)) (by omega))
 have R0:Hid (Two (((w.alloc (.cells #[.slice (some ⟨gi,0,none⟩) n icap] 159)).alloc (.cells #[.int .i64 (xa:Nat),.int .u8 (xb:Nat)] 166)).alloc (.cells #[.int .i64 0,.int .u8 0] 166)) (w.heap.size+2) (.int .i64 0) (.int .u8 0)):=hid (by
  have h1:=bF ((w.alloc (.cells #[.slice (some ⟨gi,0,none⟩) n icap] 159)).alloc (.cells #[.int .i64 (xa:Nat),.int .u8 (xb:Nat)] 166)) (.int .i64 0) (.int .u8 0) 166
  rw [show ((w.alloc (.cells #[.slice (some ⟨gi,0,none⟩) n icap] 159)).alloc (.cells #[.int .i64 (xa:Nat),.int .u8 (xb:Nat)] 166)).heap.size=w.heap.size+2 by simp] at h1
  exact h1)
 clear ba bb bc
 go_enter Tryz.func93,Tryz.ntmps93
 go_wp2_with fail
 generalize hW:(((w.alloc (.cells #[.slice (some ⟨gi,0,none⟩) n icap] 159)).alloc (.cells #[.int .i64 (xa:Nat),.int .u8 (xb:Nat)] 166)).alloc (.cells #[.int .i64 0,.int .u8 0] 166))=W at *
 have hWs:W.heap.size=w.heap.size+3:=by rw [←hW];simp
 clear hW
 refine (SR.out _ B0.out).mono ?_
 rintro e w1 ⟨rs,vS,rfl,OS,OK,SP,hb1⟩
 obtain ⟨aS,cS,rfl⟩:=ag OS
 have F1:=hid (F0.out.below hb1 (by omega))
 have R1:=hid (R0.out.below hb1 (by omega))
 have B1:=hid (B0.out.trans (hb1.mono (by omega)))
 have hs1:=hb1.size
 have gN:=hid OS
 have xO:=hid OK
 have DK:=hid SP
 have He:Hid ((∀ k,(Value.slice aS rs.length cS).ownBlock=some k→k<w1.heap.size)∧∀ r∈rs,∀ k,(Value.slice r.ao r.ls.length r.cap).ownBlock=some k→k<w1.heap.size):=hid ⟨fun k h=>(OS.lt k h).2,fun r hr k h=>((OK r hr).ow.lt k h).2⟩
 clear hb1 OS OK SP F0 R0 B0 SR
 go_wp2_with (at_make;go_must (refine iq _ rfl (.tmp 21) rfl n rfl (by omega) ?_))
 intro w2 F2 hlt2 hb2
 have G2:=hid F2
 have Rp:=hid (ae gN.out hb2)
 have OK2:Hid (∀ r∈rs,kP w2 W.heap.size (Ew n ns into) (n*256) f r):=hid (fun r hr=>(xO.out r hr).below hb2)
 have FF2:=hid (F1.out.below hb2 (by omega))
 have R2:=hid (R1.out.below hb2 (by omega))
 have B2:=hid (B1.out.trans (hb2.mono (by omega)))
 have f0:=FF2.out.c0
 have f1:=FF2.out.c1
 clear F2 hb2 F1 R1 B1 gN xO
 have ba:=(Below.refl w2.heap.size w2).alloc (Nat.le_refl _) (.cells #[.int .i64 (xa:Nat),.int .u8 (xb:Nat)] 166)
 have T3:=hid (bF w2 (.int .i64 (xa:Nat)) (.int .u8 (xb:Nat)) 166)
 have G3:=hid (G2.out.below ba hlt2)
 have OS3:=hid (ae Rp.out ba)
 have OK3:Hid (∀ r∈rs,kP (w2.alloc (.cells #[.int .i64 (xa:Nat),.int .u8 (xb:Nat)] 166)) W.heap.size (Ew n ns into) (n*256) f r):=hid (fun r hr=>(OK2.out r hr).below ba)
 have R3:=hid (R2.out.below ba (by omega))
 have B3:=hid (B2.out.trans (ba.mono (by omega)))
 clear ba G2 Rp OK2 FF2 R2 B2
 go_wp2_with fail
 generalize hW3:(w2.alloc (.cells #[.int .i64 (xa:Nat),.int .u8 (xb:Nat)] 166))=W3 at *
 have amU:W3.heap.size=w2.heap.size+1:=by rw [←hW3];simp
 clear hW3 f0 f1
 have TI0:Hid (CZ (Ew n ns into) (spreads cs) f (xa*256+xb) (fun _=>false) (xa*256+xb)):=hid (PT _ HX.out)
 go_loopw [] (fun wq=>∃ (ya yb:Nat) (seen:Nat→Bool),ya<n∧yb<256∧Hid (Two wq w2.heap.size (.int .i64 (ya:Nat)) (.int .u8 (yb:Nat)))∧Hid (bC wq w1.heap.size (n*256) seen)∧Hid (CZ (Ew n ns into) (spreads cs) f (xa*256+xb) seen (ya*256+yb))∧Hid (wq.ownsRow W.heap.size 171 3 (.slice aS rs.length cS) rs.length (iI n rs))∧Hid (∀ r∈rs,kP wq W.heap.size (Ew n ns into) (n*256) f r)∧Hid (Two wq (w.heap.size+2) (.int .i64 0) (.int .u8 0))∧Hid (Below w.heap.size w wq)∧w2.heap.size<wq.heap.size) (fun wq=>n*256 - Be wq w1.heap.size (n*256))
 case atStart=>exact ⟨xa,xb,_,hxa,hxb,T3,G3,TI0,OS3,OK3,R3,B3,by omega⟩
 case round=>
  obtain ⟨ya,yb,seen,hya,hyb,HT,HG,HI,gN,xO,HR,HB,hsz⟩:=hrel
  rename World=>W0
  clear T3 G3 TI0 OS3 OK3 R3 B3
  have t0:=HT.out.c0
  have t1:=HT.out.c1
  have hyN:ya*256+yb<n*256:=by omega
  have cs0:=HG.out.c (ya*256+yb) hyN
  have cf0:=HG.out.f (ya*256+yb) hyN
  have yX:=hid (tT HG.out _ (Nat.le_refl _))
  have i1:(0:Int)≤(ya:Int):=by omega
  have i2:(ya:Int)<(n:Int):=by omega
  have i3:(0:Int)≤(yb:Int):=by omega
  have i4:(yb:Int)<256:=by omega
  cases hse:seen (ya*256+yb) with
  | true=>
   rw [hse] at cs0
   have AY:=hid (UW HI.out hse)
   clear hse
   have u0:=HR.out.c0
   have u1:=HR.out.c1
   have v0:=HR.out.f0
   have v1:=HR.out.f1
   have HQ:Hid (∀ q,Two (W0.drewN q) w2.heap.size (.int .i64 (ya:Nat)) (.int .u8 (yb:Nat))∧Two (W0.drewN q) (w.heap.size+2) (.int .i64 0) (.int .u8 0)∧Below w.heap.size w (W0.drewN q)):=hid (fun q=>⟨HT.out.below (below_drewN (Below.refl _ _) q) HT.out.lt,HR.out.below (below_drewN (Below.refl _ _) q) HR.out.lt,below_drewN HB.out q⟩)
   go_wp2_with fail
   go_quiet (fail)
   obtain ⟨q1,q2,q3⟩:=HQ.out nq
   have t0:=q1.c0
   have t1:=q1.c1
   have u0:=q2.c0
   have u1:=q2.c1
   have v0:=q2.f0
   have v1:=q2.f1
   have DZ:=hid q3
   clear q1 q2 q3 HQ
   generalize W0.drewN nq=W4 at *
   go_wp2_with fail
   refine tX (cs:=[.int .i64 (ya:Nat),.int .u8 (yb:Nat)]) (b:=w.heap.size+2) Tryz.results93 ?_ ?_ ?_ Tryz.underlying166 rfl Tryz.Vb ?_
   ·rfl
   ·rfl
   ·exact LV u0 u1 _ _
   ·unfold CY
    refine ⟨ya*256+yb,by rw [jq ya hyb],hyN,AY.out,?_⟩
    exact (DZ.out.setCell (p:=⟨w.heap.size+2,0,none⟩) (by show w.heap.size≤w.heap.size+2;omega) _).setCell (p:=⟨w.heap.size+2,1,none⟩) (by show w.heap.size≤w.heap.size+2;omega) _
  | false=>
   rw [hse] at cs0
   have Yd:=hid hse
   clear hse
   have amD:w1.heap.size<w2.heap.size:=hlt2
   have NX:Hid (∀ q,∃ W5,W5=((W0.drewN q).setCell ⟨w1.heap.size,ya*256+yb,none⟩ (.bool true)).drew∧Two W5 w2.heap.size (.int .i64 (ya:Nat)) (.int .u8 (yb:Nat))∧bC W5 w1.heap.size (n*256) (upd seen (ya*256+yb) true)∧W5.ownsRow W.heap.size 171 3 (.slice aS rs.length cS) rs.length (iI n rs)∧(∀ r∈rs,kP W5 W.heap.size (Ew n ns into) (n*256) f r)∧Two W5 (w.heap.size+2) (.int .i64 0) (.int .u8 0)∧Below w.heap.size w W5∧w2.heap.size<W5.heap.size):=hid (fun q=>by
    have bt:UE w1.heap.size W0 ((W0.drewN q).setCell ⟨w1.heap.size,ya*256+yb,none⟩ (.bool true)).drew:=⟨by simp,fun i hi hne=>by
     have:=nP (w:=W0.drewN q) (b:=w1.heap.size) (o:=ya*256+yb) (v:=.bool true) hne
     exact this⟩
    have D5:=HG.out.set (ya*256+yb) true
    have hsep:=He.out
    refine ⟨_,rfl,?_,⟨D5.c,D5.f⟩,CO gN.out bt ?_,fun r hr=>?_,?_,?_,by simp;omega⟩
    ·have X:=HT.out.other (k:=w1.heap.size) (o:=ya*256+yb) (by omega) (.bool true)
     exact ⟨X.c0,X.c1,X.f0,X.f1⟩
    ·exact fun e=>by have:=hsep.1 _ e;omega
    ·have h9:=xO.out r hr
     exact ⟨CO h9.ow bt (fun e=>by have:=hsep.2 r hr _ e;omega),h9.sk,h9.gl,h9.fd⟩
    ·have X:=HR.out.other (k:=w1.heap.size) (o:=ya*256+yb) (by omega) (.bool true)
     exact ⟨X.c0,X.c1,X.f0,X.f1⟩
    ·exact below_drewN ((below_drewN HB.out q).setCell (p:=⟨w1.heap.size,ya*256+yb,none⟩) (by show w.heap.size≤w1.heap.size;omega) (.bool true)) 1)
   have HQ:Hid (∀ q,(W0.drewN q).cell? ⟨w2.heap.size,0,none⟩=some (.int .i64 (ya:Nat))∧(W0.drewN q).cell? ⟨w2.heap.size,1,none⟩=some (.int .u8 (yb:Nat))∧(W0.drewN q).cell? ⟨w1.heap.size,ya*256+yb,none⟩=some (.bool false)∧(W0.drewN q).frozen? ⟨w1.heap.size,ya*256+yb,none⟩=false):=hid (fun q=>⟨t0,t1,cs0,cf0⟩)
   go_wp2_with fail
   go_quiet (fail)
   obtain ⟨q0,q1,q2,q3⟩:=HQ.out nq
   obtain ⟨W5,eW,n1,n2,n3,n4,n5,n6,n7⟩:=NX.out nq
   have N1:=hid n1
   have N2:=hid n2
   have N3:=hid n3
   have N4:=hid n4
   have N5:=hid n5
   have N6:=hid n6
   have s0:=n1.c0
   have s1:=n1.c1
   subst eW
   clear n1 n2 n3 n4 n5 n6 NX HQ t0 t1 cs0 cf0 HT HG gN xO HR HB
   generalize W0.drewN nq=W4 at *
   go_wp2_with fail
   go_region_held3 (fun w'=>w'.cell? ⟨w2.heap.size,0,none⟩=some (.int .i64 (ya:Nat))∧w'.cell? ⟨w2.heap.size,1,none⟩=some (.int .u8 (yb:Nat)))
    (first
     | go_keep
     | exact ⟨s0,s1⟩)
    (fail)
   clear s0 s1 q0 q1 q2 q3
   generalize (W4.setCell ⟨w1.heap.size,ya*256+yb,none⟩ (.bool true)).drew=W5 at *
   have hrl:=DK.out.le
   have hrp:=DK.out.pos
   have RI0:Hid (yR (Ew n ns into) (spreads cs) 0 (ya*256+yb) (ya*256+yb)):=hid (Mt _ _ _)
   have L0:Hid (f (ya*256+yb)=true):=hid HI.out.last
   go_wp2_with fail
   go_loopw [54] (fun k wq=>∃ (j za zb:Nat),j≤rs.length∧k=.int .i64 j∧za<n∧zb<256∧Hid (Two wq w2.heap.size (.int .i64 (za:Nat)) (.int .u8 (zb:Nat)))∧Hid (yR (Ew n ns into) (spreads cs) j (ya*256+yb) (za*256+zb))∧Hid (f (za*256+zb)=true)∧Hid (bC wq w1.heap.size (n*256) (upd seen (ya*256+yb) true))∧Hid (wq.ownsRow W.heap.size 171 3 (.slice aS rs.length cS) rs.length (iI n rs))∧Hid (∀ r∈rs,kP wq W.heap.size (Ew n ns into) (n*256) f r)∧Hid (Two wq (w.heap.size+2) (.int .i64 0) (.int .u8 0))∧Hid (Below w.heap.size w wq)∧w2.heap.size<wq.heap.size) (fun k _=>rs.length - (intOf k).toNat)
   case atStart=>exact ⟨0,ya,yb,Nat.zero_le _,rfl,hya,hyb,N1,RI0,L0,N2,N3,N4,N5,N6,n7⟩
   case round=>
    obtain ⟨j,za,zb,hj,rfl,hza,hzb,HT,HRI,Yp,HG,gN,xO,HR,HB,hsz⟩:=hrel
    rename World=>W6
    clear N1 RI0 L0 N2 N3 N4 N5 N6 n7
    by_cases hlj:j<rs.length
    ·obtain ⟨r,hr⟩:∃ r,rs[j]?=some r:=⟨rs[j],List.getElem?_eq_getElem hlj⟩
     obtain ⟨gS,eS,_,hgS,_⟩:=dH gN.out (by omega)
     cases eS
     obtain ⟨k0,k1,k2⟩:=Ui (n:=n) hr
     have d0:=(gN.out.cellAt (j*3) (by omega)).trans k0
     have d1:=(gN.out.cellAt (j*3+1) (by omega)).trans k1
     have d2:=(gN.out.cellAt (j*3+2) (by omega)).trans k2
     have hok:=xO.out r (List.mem_of_getElem? hr)
     have ni:=hid hok.sk
     have Hm:=hid hok.lk
     have Pw:=hid hok.gl
     have ajQ:=hid (hok.sk.in_ (za*256+zb) (hok.fd _ Yp.out))
     have ajF:Hid (∀ c,(spreads cs)[j]?=some c→∀ y,r.goal y=true→c y=true):=hid (fun c hc y hy=>by
      unfold spreads at hc
      rw [List.getElem?_map] at hc
      cases hcs:cs[j]? with
      | none=>rw [hcs] at hc;simp at hc
      | some c0=>
       rw [hcs] at hc
       simp at hc
       subst hc
       obtain ⟨r',h1,h2⟩:=DK.out.mark j c0 hcs
       rw [hr] at h1
       cases h1
       exact h2 y hy)
     have hll:=mg hok.sk
     have aeE:=oN r.goal (n*256)
     clear k0 k1 k2 hok hr
     obtain ⟨gf,rao,nE,ls,goal,found⟩:=r
     dsimp only at *
     have bs:=(Below.refl W6.heap.size W6).alloc (Nat.le_refl _) (.cells #[.slice (some ⟨gf,0,none⟩) n n,.slice rao ls.length nE,.int .i64 ((az goal (n*256)).length:Nat)] 171)
     have uK:=hid (bK W6 (.slice (some ⟨gf,0,none⟩) n n) (.slice rao ls.length nE) (.int .i64 ((az goal (n*256)).length:Nat)) 171)
     have Rt:=hid (HT.out.below bs (by omega))
     have KJ:=hid bs
     have t0:=Rt.out.c0
     have t1:=Rt.out.c1
     have afS:=hid (Hm.out.below bs)
     have i1:(0:Int)≤(j:Int):=by omega
     have i2:(j:Int)<(rs.length:Int):=by omega
     have NA:=xW W6.heap.size (za*256+zb) (.slice (some ⟨gf,0,none⟩) n n) rao nE (az goal (n*256)).length ls _ uK.out afS.out (by omega) (by omega) ajQ.out
     rw [jq za hzb] at NA
     have KR:=hid NA
     clear bs NA
     generalize hgln:(az goal (n*256)).length=gln at *
     have Av:=hid hgln
     clear hgln
     go_wp2_with fail
     refine KR.out.mono ?_
     rintro e w8 ⟨i,t,rfl,hgi,hit,hb8⟩
     simp only [World.size_alloc] at hb8
     have yU:=hid (KJ.out.trans (hb8.mono (by omega)))
     have wU:=hid (uK.out.below hb8 (by omega))
     have afR:=hid (Hm.out.below yU.out)
     have pG:=yU.out.size
     have aiY:W6.heap.size<w8.heap.size:=wU.out.lt
     have WA:=zn W6.heap.size i (za*256+zb) t (Ew n ns into) (n*256) goal found (.slice (some ⟨gf,0,none⟩) n n) rao nE ls w8 ni.out (by rw [Av.out];exact wU.out) afR.out (by omega) (by omega) hit
     rw [Av.out] at WA
     have Ct:=hid WA
     clear hb8 t0 t1 d0 d1 d2 KJ Rt afS KR uK wU afR WA
     go_wp2_with fail
     refine Ct.out.mono ?_
     intro e w9 htr
     unfold vP at htr
     obtain ⟨ps,en,vp,rfl,OP,hgo,hne,_,hhd,hge,hen,hpn,hpl,hb9⟩:=htr
     obtain ⟨ap,cp,rfl⟩:=ag OP
     have AX:=hid (yU.out.trans (hb9.mono (by omega)))
     obtain ⟨ea,eb,rfl,heb⟩:∃ ea eb,en=ea*256+eb∧eb<256:=⟨en / 256,en % 256,by omega,by omega⟩
     rw [(ja ea heb).1,(ja ea heb).2]
     have aey:reach (Ew n ns into) (za*256+zb) (ea*256+eb):=by
      have h9:=Gc hgo
      have h10:=hne hgi
      cases ps with
      | nil=>exact absurd rfl h10
      | cons p ps=>
       have h11:p=za*256+zb:=hhd
       have h12:=h9.2 p (by simp)
       rw [h11] at h12
       exact h12
     have ajt:=hid (Qb HRI.out aey (fun c hc=>ajF.out c hc _ hge))
     have jA:=hid (Pw.out _ hge)
     have hea:ea<n:=by omega
     have bt:=(Below.refl w9.heap.size w9).alloc (Nat.le_refl _) (.cells #[.slice ap ps.length cp,.int .i64 (ea:Nat),.int .u8 (eb:Nat)] 175)
     have Jc:=hid (AX.out.trans (bt.mono (by have:=AX.out.size;omega)))
     have hs9:=AX.out.size
     have Rn:=HT.out.below Jc.out (by omega)
     have a0:=Rn.c0
     have a1:=Rn.c1
     have af0:=Rn.f0
     have af1:=Rn.f1
     have N1:=hid (Rn.sets (.int .i64 (ea:Nat)) (.int .u8 (eb:Nat)))
     have G10:=HG.out.below Jc.out (by omega)
     have N2:=hid ((G10.other ⟨w2.heap.size,0,none⟩ (.int .i64 (ea:Nat)) (by show w2.heap.size≠w1.heap.size;omega)).other ⟨w2.heap.size,1,none⟩ (.int .u8 (eb:Nat)) (by show w2.heap.size≠w1.heap.size;omega))
     have R10:=HR.out.below Jc.out (by omega)
     have N5:=hid ((R10.other (k:=w2.heap.size) (o:=0) (by omega) (.int .i64 (ea:Nat))).other (k:=w2.heap.size) (o:=1) (by omega) (.int .u8 (eb:Nat)))
     have bt2:UE w2.heap.size (w9.alloc (.cells #[.slice ap ps.length cp,.int .i64 (ea:Nat),.int .u8 (eb:Nat)] 175)) (((w9.alloc (.cells #[.slice ap ps.length cp,.int .i64 (ea:Nat),.int .u8 (eb:Nat)] 175)).setCell ⟨w2.heap.size,0,none⟩ (.int .i64 (ea:Nat))).setCell ⟨w2.heap.size,1,none⟩ (.int .u8 (eb:Nat))):=⟨by simp,fun i hi hne=>by rw [nP hne,nP hne]⟩
     have hsep:=He.out
     have N3:=hid (CO (ae gN.out Jc.out) bt2 (fun e=>by have:=hsep.1 _ e;omega))
     have N4:Hid (∀ r∈rs,kP (((w9.alloc (.cells #[.slice ap ps.length cp,.int .i64 (ea:Nat),.int .u8 (eb:Nat)] 175)).setCell ⟨w2.heap.size,0,none⟩ (.int .i64 (ea:Nat))).setCell ⟨w2.heap.size,1,none⟩ (.int .u8 (eb:Nat))) W.heap.size (Ew n ns into) (n*256) f r):=hid (fun r hr=>by
      have h9:=(xO.out r hr).below Jc.out
      exact ⟨CO h9.ow bt2 (fun e=>by have:=hsep.2 r hr _ e;omega),h9.sk,h9.gl,h9.fd⟩)
     have N6:=hid (((HB.out.trans (Jc.out.mono (by have:=HB.out.size;omega))).setCell (p:=⟨w2.heap.size,0,none⟩) (by show w.heap.size≤w2.heap.size;omega) (.int .i64 (ea:Nat))).setCell (p:=⟨w2.heap.size,1,none⟩) (by show w.heap.size≤w2.heap.size;omega) (.int .u8 (eb:Nat)))
     have n7:w2.heap.size<(((w9.alloc (.cells #[.slice ap ps.length cp,.int .i64 (ea:Nat),.int .u8 (eb:Nat)] 175)).setCell ⟨w2.heap.size,0,none⟩ (.int .i64 (ea:Nat))).setCell ⟨w2.heap.size,1,none⟩ (.int .u8 (eb:Nat))).heap.size:=by simp;omega
     clear OP hgo hne hhd hge hpn hpl hb9 aey bt Rn G10 R10 bt2 Ct
     go_wp2_with fail
     go_roundw
     case rel=>exact ⟨j+1,ea,eb,by omega,by go_num,hea,heb,N1,ajt,jA,N2,N3,N4,N5,N6,n7⟩
     case measure=>simp [intOf] <;> omega
    ·obtain rfl:j=rs.length:=by omega
     have HI2:=hid (R8 HI.out HRI.out hrp (by have:=DK.out.len;simpa [spreads] using this) Yp.out)
     have ajn:=hid (tT HG.out _ (Nat.le_refl _))
     have Yv:=hid (EI Yd.out (n*256) hyN)
     have oG:=hid (yN (upd seen (ya*256+yb) true) (n*256))
     go_wp2_with fail
     go_roundw
     case rel=>exact ⟨za,zb,_,hza,hzb,HT,HG,HI2,gN,xO,HR,HB,hsz⟩
     case measure=>
      rw [ajn.out,yX.out,Yv.out]
      have:=oG.out
      rw [Yv.out] at this
      omega
end Go.Proofs.YtjagijohfkffiabGreat
