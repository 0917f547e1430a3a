import Derived.Test.YtjagijohfkffiabGreatALLM08
import Derived.Test.YtjagijohfkffiabGreatALLM51
set_option maxHeartbeats 16000000
set_option maxRecDepth 100000
namespace Go.Proofs.YtjagijohfkffiabGreat
open Go.RowKit
set_option linter.unusedVariables false
structure Aq (w:World) (E:Nat→Nat→Prop) (n t gh:Nat) (ao:Option Addr) (cap:Nat) (ls:List (Nat × Nat)) (found:Nat→Bool):Prop where
 fl:bC w gh (n*256) found
 lt:gh<w.heap.size
 lk:vz w ao cap ls
 sk:oO E (n*256) (fun y=>decide (y=t)) ls found
 fd:∀ x,found x=true↔eu E (fun y=>decide (y=t)=true) x
theorem Aq.below {w w':World} {E:Nat→Nat→Prop} {n t gh:Nat} {ao:Option Addr} {cap:Nat} {ls:List (Nat × Nat)} {found:Nat→Bool} (h:Aq w E n t gh ao cap ls found) (hb:Below w.heap.size w w'):Aq w' E n t gh ao cap ls found:=
 ⟨h.fl.below hb h.lt,Nat.lt_of_lt_of_le h.lt hb.size,h.lk.below hb,h.sk,h.fd⟩
theorem Aq.reach {w:World} {E:Nat→Nat→Prop} {n t gh:Nat} {ao:Option Addr} {cap:Nat} {ls:List (Nat × Nat)} {found:Nat→Bool} (h:Aq w E n t gh ao cap ls found) (x:Nat):found x=true↔reach E x t:=by
 rw [h.fd x]
 constructor
 ·rintro ⟨y,h1,h2⟩
  have:y=t:=by simpa using h2
  rw [←this];exact h1
 ·intro h1
  exact ⟨t,h1,by simp⟩
def Ja (n:Nat) (ns:List Nd) (into:Nat→List (Nat × Nat)) (cs:List (Nat→Bool)) (t:Nat) (w:World) (e:Ending) (w':World):Prop:=
 ∃ ps v,e=.returned v∧w'.ownsRow w.heap.size 166 2 v ps.length (bM ps)∧GU (Ew n ns into) (spreads cs) t ps∧(∀ p∈ps,p<n*256)∧ps.length≤(cs.length+1)*(n*256)∧Below w.heap.size w w'
theorem Qi {c:Nat→Bool} {xs:List Nat}:qB c xs=true↔∃ p∈xs,spread c p=true:=by
 unfold qB spread
 rw [List.any_eq_true]
theorem Sm {cs:List (Nat→Bool)} {k:Nat} {c:Nat→Bool} (h:cs[k]?=some c):(spreads cs)[k]?=some (spread c):=by simp [spreads,h]
theorem Gg (xs:List Nat):(bM xs).length=xs.length*2:=by
 induction xs with
 | nil=>rfl
 | cons x xs ih=>rw [show bM (x::xs)=[.int .i64 (x / 256:Nat),.int .u8 (x % 256:Nat)]++bM xs by simp [bM],List.length_append,ih];simp;omega
theorem Gh (xs ys:List Nat):bM (xs++ys)=bM xs++bM ys:=by simp [bM]
theorem Gf (xs:List Nat):∀ u∈bM xs,u.oneCell'=true:=by
 intro u hu
 simp only [bM,List.mem_flatMap] at hu
 obtain ⟨x,_,h⟩:=hu
 simp at h
 rcases h with rfl | rfl <;> rfl
theorem QH {w:World} {B:Nat} {ao:Option Addr} {cap:Nat} {xs:List Nat} (h:w.ownsRow B 166 2 (.slice ao xs.length cap) xs.length (bM xs)):(ao=none→xs.length=0∧cap=0)∧∀ ad,ao=some ad→∀ j u,(bM xs)[j]?=some u→w.cell? (ad.add j)=some u:=by
 rcases h.2 with ⟨e,h0⟩ | ⟨g,cap',cur,e,hb,hh,hc,hm,_⟩
 ·obtain ⟨e1,e2,e3⟩:=Value.slice.inj e
  exact ⟨fun _=>⟨h0,e3⟩,(fun ad h=>by rw [e1] at h;cases h)⟩
 ·obtain ⟨e1,e2,e3⟩:=Value.slice.inj e
  refine ⟨(fun h=>by rw [e1] at h;cases h),fun ad e j u hj=>?_⟩
  rw [e1] at e
  cases e
  exact h.cells (by rw [e1];rfl) j u hj
theorem Dc {ops:Array Oper} {rest:List Oper} {op:Oper} {a:Act} {w:World} {Q:Exit→Act→World→Prop} (hw:Region.wanted op (yielded ops a.tmps)=true) (x:Operand) (ho:op.op=.load 61 x)
  (b o:Nat) (g:Nat→Bool) (hx:a.eval x=.pointer (some ⟨b,o,none⟩)) (hg:aN w b o g)
  (h:wpList Tryz.prog ops Q rest (a.put op.dst (.agg (gv g).toArray)) w):wpList Tryz.prog ops Q (op::rest) a w:=
 wpList_step fun K hK=>by
  rw [if_pos hw]
  exact wp_load_mid 61 x ho b o hx (gv g) _ hg.r9 Tryz.iH rfl (Tryz.nC g) (hK _ _ h)
theorem Vw (P gi n icap t gh:Nat) (ns:List Nd) (into:Nat→List (Nat × Nat)) (cs:List (Nat→Bool)) (f:Nat→Bool) (x:Nat) (ao:Option Addr) (cap:Nat) (ls:List (Nat × Nat)) (found:Nat→Bool) (w:World) (h8:ns.length≤8) (hp:rP n into) (AR:n≤1048576) (hbm:tC w P ns) (hP:P<w.heap.size) (hcm:mO w P cs) (hcl:cs.length≤8) (hw:mI w gi n into) (hh:Aq w (Ew n ns into) n t gh ao cap ls found) (ht:LC (Ew n ns into) (spreads cs) f x t) (htn:t<n*256) :
  Calls Tryz.prog 99 #[.pointer (some ⟨P,0,none⟩),.agg #[.slice (some ⟨gi,0,none⟩) n icap],.agg #[.slice (some ⟨gh,0,none⟩) n n,.slice ao ls.length cap,.int .i64 ((az (fun y=>decide (y=t)) (n*256)).length:Nat)],Az t] w (Ja n ns into cs t w):=by
 have hn:=hp.le
 have HP:=hid hp
 have HM:=hid (fun W (b:Below w.heap.size w W)=>hbm.below b hP)
 have HW:=hid (fun W (b:Below w.heap.size w W)=>hw.below b)
 have HH:=hid (fun W (b:Below w.heap.size w W)=>hh.below b)
 have Yf:=hid hh.reach
 have AY:=hid ht
 obtain ⟨ca,ccap,Cb,hcr⟩:=hcm
 have xQ:=hid hcr
 have hll:=mg hh.sk
 have aeE:=oN (fun y=>decide (y=t)) (n*256)
 have hgh:=hh.lt
 obtain ⟨i0,hi0,hz0,hz1,hz2⟩:=info_parts Tryz.BI
 clear hp hbm hw hh ht hcr
 obtain ⟨ta,tb,rfl,htb⟩:∃ ta tb,t=ta*256+tb∧tb<256:=⟨t / 256,t % 256,by omega,by omega⟩
 rw [jq ta htb]
 have hta:ta<n:=by omega
 have HGO:Hid ((az (fun y=>decide (y=ta*256+tb)) (n*256)).length=(az (fun y=>decide (y=ta*256+tb)) (n*256)).length):=hid rfl
 generalize hglE:(az (fun y=>decide (y=ta*256+tb)) (n*256)).length=gl at *
 have aa0:=hid hglE
 clear hglE HGO
 generalize hm:cs.length=m at *
 have nu:=hid hm
 clear hm
 have ba:=(Below.refl w.heap.size w).alloc (Nat.le_refl _) (.cells #[.slice (some ⟨gi,0,none⟩) n icap] 159)
 have bb:=ba.alloc (by simp) (.cells #[.slice (some ⟨gh,0,none⟩) n n,.slice ao ls.length cap,.int .i64 (gl:Nat)] 171)
 have bc:=bb.alloc (by simp;omega) (.cells #[.int .i64 (ta:Nat),.int .u8 (tb:Nat)] 166)
 have bd:=bc.alloc (by simp;omega) (.cells #[.int .i64 (ta:Nat),.int .u8 (tb:Nat)] 166)
 have B0:=hid bd
 go_enter Tryz.func99,Tryz.ntmps99
 have jO:=(bd.cell (p:=⟨P,2048,none⟩) hP).trans Cb
 have C0:((((w.alloc (.cells #[.slice (some ⟨gi,0,none⟩) n icap] 159)).alloc (.cells #[.slice (some ⟨gh,0,none⟩) n n,.slice ao ls.length cap,.int .i64 (gl:Nat)] 171)).alloc (.cells #[.int .i64 (ta:Nat),.int .u8 (tb:Nat)] 166)).alloc (.cells #[.int .i64 (ta:Nat),.int .u8 (tb:Nat)] 166)).cell? ⟨w.heap.size,0,none⟩=some (.slice (some ⟨gi,0,none⟩) n icap):=by
  have h1:(w.alloc (.cells #[.slice (some ⟨gi,0,none⟩) n icap] 159)).cell? ⟨w.heap.size,0,none⟩=some (.slice (some ⟨gi,0,none⟩) n icap):=by simp
  exact (((((Below.refl (w.heap.size+1) _).alloc (by simp) (.cells #[.slice (some ⟨gh,0,none⟩) n n,.slice ao ls.length cap,.int .i64 (gl:Nat)] 171)).alloc (by simp) (.cells #[.int .i64 (ta:Nat),.int .u8 (tb:Nat)] 166)).alloc (by simp) (.cells #[.int .i64 (ta:Nat),.int .u8 (tb:Nat)] 166)).cell (p:=⟨w.heap.size,0,none⟩) (by show w.heap.size<w.heap.size+1;omega)).trans h1
 have T0:Three ((((w.alloc (.cells #[.slice (some ⟨gi,0,none⟩) n icap] 159)).alloc (.cells #[.slice (some ⟨gh,0,none⟩) n n,.slice ao ls.length cap,.int .i64 (gl:Nat)] 171)).alloc (.cells #[.int .i64 (ta:Nat),.int .u8 (tb:Nat)] 166)).alloc (.cells #[.int .i64 (ta:Nat),.int .u8 (tb:Nat)] 166)) (w.heap.size+1) (.slice (some ⟨gh,0,none⟩) n n) (.slice ao ls.length cap) (.int .i64 (gl:Nat)):=by
  have h1:=bK (w.alloc (.cells #[.slice (some ⟨gi,0,none⟩) n icap] 159)) (.slice (some ⟨gh,0,none⟩) n n) (.slice ao ls.length cap) (.int .i64 (gl:Nat)) 171
  rw [show (w.alloc (.cells #[.slice (some ⟨gi,0,none⟩) n icap] 159)).heap.size=w.heap.size+1 by simp] at h1
  exact h1.below (((Below.refl (w.heap.size+2) _).alloc (by simp) (.cells #[.int .i64 (ta:Nat),.int .u8 (tb:Nat)] 166)).alloc (by simp) (.cells #[.int .i64 (ta:Nat),.int .u8 (tb:Nat)] 166)) (by omega)
 have A0:Two ((((w.alloc (.cells #[.slice (some ⟨gi,0,none⟩) n icap] 159)).alloc (.cells #[.slice (some ⟨gh,0,none⟩) n n,.slice ao ls.length cap,.int .i64 (gl:Nat)] 171)).alloc (.cells #[.int .i64 (ta:Nat),.int .u8 (tb:Nat)] 166)).alloc (.cells #[.int .i64 (ta:Nat),.int .u8 (tb:Nat)] 166)) (w.heap.size+3) (.int .i64 (ta:Nat)) (.int .u8 (tb:Nat)):=by
  have h1:=bF (((w.alloc (.cells #[.slice (some ⟨gi,0,none⟩) n icap] 159)).alloc (.cells #[.slice (some ⟨gh,0,none⟩) n n,.slice ao ls.length cap,.int .i64 (gl:Nat)] 171)).alloc (.cells #[.int .i64 (ta:Nat),.int .u8 (tb:Nat)] 166)) (.int .i64 (ta:Nat)) (.int .u8 (tb:Nat)) 166
  rw [show (((w.alloc (.cells #[.slice (some ⟨gi,0,none⟩) n icap] 159)).alloc (.cells #[.slice (some ⟨gh,0,none⟩) n n,.slice ao ls.length cap,.int .i64 (gl:Nat)] 171)).alloc (.cells #[.int .i64 (ta:Nat),.int .u8 (tb:Nat)] 166)).heap.size=w.heap.size+3 by simp] at h1
  exact h1
 have Yw:=hid C0
 have HT0:=hid T0
 have HA0:=hid A0
 clear ba bb bc bd C0 T0 A0 Cb
 go_wp2_with fail
 generalize hWE:((((w.alloc (.cells #[.slice (some ⟨gi,0,none⟩) n icap] 159)).alloc (.cells #[.slice (some ⟨gh,0,none⟩) n n,.slice ao ls.length cap,.int .i64 (gl:Nat)] 171)).alloc (.cells #[.int .i64 (ta:Nat),.int .u8 (tb:Nat)] 166)).alloc (.cells #[.int .i64 (ta:Nat),.int .u8 (tb:Nat)] 166))=W at *
 have hWs:W.heap.size=w.heap.size+4:=by rw [←hWE];simp
 clear hWE jO
 have LI0:Hid (xM (Ew n ns into) (spreads cs) (ta*256+tb) 0 [] (ta*256+tb)):=hid (Qk AY.out.ring)
 go_loopw [9,25] (fun v i wq=>∃ (k ya yb:Nat) (ps:List Nat),k≤m∧i=.int .i64 k∧ya<n∧yb<256∧Hid (wq.ownsRow (w.heap.size+4) 166 2 v ps.length (bM ps))∧Hid (xM (Ew n ns into) (spreads cs) (ta*256+tb) k ps (ya*256+yb))∧Hid (Two wq (w.heap.size+3) (.int .i64 (ya:Nat)) (.int .u8 (yb:Nat)))∧Hid (∀ p∈ps,p<n*256)∧ps.length≤k*(n*256)∧Hid (Below (w.heap.size+3) W wq)∧w.heap.size+4≤wq.heap.size) (fun _ i _=>m - (intOf i).toNat)
 case atStart=>exact ⟨0,ta,tb,[],Nat.zero_le _,rfl,hta,htb,hid (World.ownsRow_nil _ _ _ _),LI0,HA0,hid (fun p hp=>by simp at hp),Nat.zero_le _,hid (Below.refl _ _),by omega⟩
 case round=>
  obtain ⟨k,ya,yb,ps,hk,rfl,hya,hyb,HO,HLI,HA,HPN,hpl,HB,hsz⟩:=hrel
  rename World=>W0
  rename Value=>v0
  clear LI0 HA0
  obtain ⟨aV,cV,rfl⟩:=ag HO.out
  have uN:=hid (B0.out.trans (HB.out.mono (by omega)))
  have hkN:k*(n*256)≤8*(n*256):=Nat.mul_le_mul_right _ (by omega)
  have a0:=HA.out.c0
  have a1:=HA.out.c1
  have i3:(0:Int)≤(yb:Int):=by omega
  have i4:(yb:Int)<256:=by omega
  by_cases hlk:k<m
  ·obtain ⟨gc,e,hgc,hcell⟩:=xQ.out (by omega)
   subst e
   obtain ⟨c,hc⟩:∃ c,cs[k]?=some c:=⟨cs[k]'(by rw [nu.out];exact hlk),List.getElem?_eq_getElem (by rw [nu.out];exact hlk)⟩
   have GC:=hid ((hcell k c hc).below uN.out hgc)
   have RJ:=hid (Sm hc)
   have HCM:=hid (AJ hc)
   clear hcell hc
   go_wp2_with (first | (refine aC rfl (.tmp 27) rfl gc (k*256) c rfl GC.out ?_) | (refine aW rfl (.tmp 12) (.tmp 28) rfl W0.heap.size 0 c rfl rfl (fw W0).there ?_))
   intro w2 S2
   have aZ:Below W0.heap.size W0 w2:=S2.aO _ _ (Nat.le_refl _) ((Below.refl _ _).alloc (Nat.le_refl _) _)
   have A2:=hid S2.at_
   have Cs:=hid aZ
   have hs2:=aZ.size
   have aiZ:W0.heap.size<w2.heap.size:=World.block_lt_of_cell? w2 ⟨W0.heap.size,0,none⟩ (by have:=S2.at_.c 0 (by omega);exact this)
   have AA2:=HA.out.below aZ (by omega)
   have cy:w2.cell? ⟨W0.heap.size,yb,none⟩=some (.bool (c yb)):=by have:=S2.at_.c yb hyb;rwa [Nat.zero_add] at this
   have HB2:=hid (HB.out.trans (aZ.mono (by omega)))
   clear S2 aZ GC a0 a1
   have a0:=AA2.c0
   have a1:=AA2.c1
   have aa4:=hid AA2
   have O2:=hid (ae HO.out Cs.out)
   clear AA2
   cases hcy:c yb with
   | true=>
    have HL2:=hid (FY HLI.out RJ.out (Or.inl (by unfold spread;rw [(ja ya hyb).2];exact hcy)))
    rw [hcy] at cy
    clear hcy
    go_wp2_with fail
    go_roundw
    case rel=>exact ⟨k+1,ya,yb,ps,by omega,by go_num,hya,hyb,O2,HL2,aa4,HPN,by rw [Nat.succ_mul];omega,HB2,by omega⟩
    case measure=>simp [intOf] <;> omega
   | false=>
    rw [hcy] at cy
    clear hcy
    obtain ⟨aV',cV',eV,SM⟩:=Mr O2.out
    cases eV
    have Ru:=hid SM
    clear SM
    have MT:=hid (fun W (h:O0 W aV cV ps)=>VY aV cV ps c W h (by omega))
    go_wp2_with (first | (refine Dc (by rfl) (.tmp 12) rfl W0.heap.size 0 c rfl A2.out ?_))
    refine (MT.out _ Ru.out).mono ?_
    rintro e w3 ⟨rfl,hb3⟩
    have Pg:=hid (Cs.out.trans (hb3.mono (by omega)))
    have A3:=hid (A2.out.below hb3 aiZ)
    have HB3:=hid (HB2.out.trans (hb3.mono (by omega)))
    have AA3:=hid (aa4.out.below hb3 (by omega))
    have O3:=hid (ae O2.out hb3)
    have hs3:=hb3.size
    clear hb3 Ru MT a0 a1 cy aa4 O2 A2
    cases hmt:qB c ps with
    | true=>
     have HL2:=hid (FY HLI.out RJ.out (Or.inr (by obtain ⟨p,h1,h2⟩:=Qi.1 hmt;exact ⟨p,h1,h2⟩)))
     clear hmt
     go_wp2_with fail
     go_roundw
     case rel=>exact ⟨k+1,ya,yb,ps,by omega,by go_num,hya,hyb,O3,HL2,AA3,HPN,by rw [Nat.succ_mul];omega,HB3,by omega⟩
     case measure=>simp [intOf] <;> omega
    | false=>
     clear hmt
     have T3:=hid (HT0.out.below HB3.out (by omega))
     have ajW:=hid (B0.out.trans (HB3.out.mono (by omega)))
     have th0:=T3.out.c0
     have RA:=hid (HH.out _ ajW.out)
     go_wp2_with (refine aC rfl (.tmp 12) rfl W0.heap.size 0 c rfl A3.out ?_)
     refine (EJ gh n n found c w3 (by omega) RA.out.fl (by omega)).mono ?_
     rintro e w4 ⟨g4,rfl,hg4,hg4s,F4,hb4⟩
     have Pf:=hid (Pg.out.trans (hb4.mono (by omega)))
     have dm:=hid (HB3.out.trans (hb4.mono (by omega)))
     have agk:=hid (B0.out.trans (dm.out.mono (by omega)))
     have c4:=(dm.out.cell (p:=⟨w.heap.size,0,none⟩) (by show w.heap.size<w.heap.size+3;omega)).trans Yw.out
     have KW:=hid F4
     have hs4:=hb4.size
     clear th0 hb4 F4 A3
     go_wp2_with fail
     refine (wh P gi n icap g4 n ns into (dG found c) w4 h8 HP.out (HM.out _ agk.out) (by omega) (HW.out _ agk.out) KW.out hg4s).mono ?_
     rintro e w5 ⟨g5,fo5,ls5,v5,rfl,hg5,hg5s,_,L5,SK5,OL5,hb5⟩
     obtain ⟨a5,cp5,rfl,LM5⟩:=zP OL5
     have HX5:=hid (Pf.out.trans (hb5.mono (by omega)))
     have dV:=hid (dm.out.trans (hb5.mono (by omega)))
     have hs5:=hb5.size
     have afQ:=hid LM5
     have ajr:=hid SK5
     have amM:=mg SK5
     have amO:=oN (dG found c) (n*256)
     have ajM:Hid (∀ y,dG found c y=true→reach (Ew n ns into) y (ta*256+tb)∧spread c y=true):=hid (fun y hy=>by
      unfold dG at hy
      simp only [Bool.and_eq_true] at hy
      exact ⟨(Yf.out y).1 hy.1,hy.2⟩)
     have ajP:Hid (∃ i t:Nat,(az (dG found c) (n*256)).length≤i∧ls5[i]?=some (ya*256+yb,t)):=hid (SK5.in_ _ (by
      rw [L5]
      obtain ⟨i,h1,h2,h3⟩:=AY.out.met _ HCM.out
      refine ⟨i,dA HLI.out.home h1,?_⟩
      show (found i&&c (i % 256))=true
      rw [(Yf.out i).2 h3]
      exact h2))
     generalize hgln:(az (dG found c) (n*256)).length=gln at *
     have Av:=hid hgln
     clear hgln L5 SK5 OL5 LM5 hb5 c4
     have bs:=(Below.refl w5.heap.size w5).alloc (Nat.le_refl _) (.cells #[.slice (some ⟨g5,0,none⟩) n n,.slice a5 ls5.length cp5,.int .i64 (gln:Nat)] 171)
     have Pj:=hid (bK w5 (.slice (some ⟨g5,0,none⟩) n n) (.slice a5 ls5.length cp5) (.int .i64 (gln:Nat)) 171)
     have Cr:=hid (HX5.out.trans (bs.mono (by omega)))
     have AA6:=hid (HA.out.below Cr.out (by omega))
     have a0:=AA6.out.c0
     have a1:=AA6.out.c1
     have afP:=hid (afQ.out.below bs)
     have NA:=xW w5.heap.size (ya*256+yb) (.slice (some ⟨g5,0,none⟩) n n) a5 cp5 gln ls5 _ Pj.out afP.out (by omega) (by omega) ajP.out
     rw [jq ya hyb] at NA
     have KR:=hid NA
     clear bs NA afP
     go_wp2_with fail
     refine KR.out.mono ?_
     rintro e w7 ⟨i,t,rfl,hgi,hit,lM⟩
     simp only [World.size_alloc] at lM
     have KJ:=hid (Cr.out.trans (lM.mono (by omega)))
     have Ye:=hid (Pj.out.below lM (by omega))
     have hs7:w5.heap.size<w7.heap.size:=Ye.out.lt
     have b57:Below w5.heap.size w5 w7:=((Below.refl w5.heap.size w5).alloc (Nat.le_refl _) (.cells #[.slice (some ⟨g5,0,none⟩) n n,.slice a5 ls5.length cp5,.int .i64 (gln:Nat)] 171)).trans (lM.mono (by omega))
     have WA:=zn w5.heap.size i (ya*256+yb) t (Ew n ns into) (n*256) (dG found c) fo5 (.slice (some ⟨g5,0,none⟩) n n) a5 cp5 ls5 w7 ajr.out (by rw [Av.out];exact Ye.out) (afQ.out.below b57) (by omega) (by omega) hit
     rw [Av.out] at WA
     have Ct:=hid WA
     clear lM a0 a1 b57 WA KR Pj Ye
     go_wp2_with fail
     refine Ct.out.mono ?_
     intro e w8 htr
     unfold vP at htr
     obtain ⟨qs,en,vp,rfl,OP,hgo,hne,_,hhd,hge,hen,hpn,Nj,hb8⟩:=htr
     obtain ⟨ap,cp,rfl⟩:=ag OP
     obtain ⟨ea,eb,rfl,heb⟩:∃ ea eb,en=ea*256+eb∧eb<256:=⟨en / 256,en % 256,by omega,by omega⟩
     rw [(ja ea heb).1,(ja ea heb).2]
     have hea:ea<n:=by omega
     obtain ⟨g1,g2⟩:=ajM.out _ hge
     have HL2:=hid (TL HLI.out RJ.out (hne hgi) hhd hgo g1 g2)
     have yU:=hid (KJ.out.trans (hb8.mono (by omega)))
     have pG:=yU.out.size
     have aiY:=hb8.size
     have bt:=(Below.refl w8.heap.size w8).alloc (Nat.le_refl _) (.cells #[.slice ap qs.length cp,.int .i64 (ea:Nat),.int .u8 (eb:Nat)] 175)
     have AX:=hid (yU.out.trans (bt.mono (by omega)))
     have O9:=hid (ae HO.out AX.out)
     have NW:=QH (ae OP bt)
     have NW1:=hid NW.1
     have NW2:=hid NW.2
     have jD:=hid (fun q h=>(HO.out.lt q h).1)
     have aaU:Hid (∀ p∈ps++qs,p<n*256):=hid (fun p hp=>(List.mem_append.1 hp).elim (HPN.out p) (hpn p))
     have hkl:(k+1)*(n*256)=k*(n*256)+n*256:=Nat.succ_mul _ _
     clear OP hgo hne hhd hge hpn hb8 NW Ct g1 g2
     go_wp2_with (at_builtin;go_must (refine lw _ rfl (.tmp 50) (.tmp 52) 163 rfl (w.heap.size+4) 166 i0 (.agg #[.int .i64 0,.int .u8 0]) 2 16 Tryz.underlying163 hi0 hz0 hz1 hz2 rfl (by decide) _ ps.length _ rfl O9.out ap qs.length cp (bM qs) rfl (Gg qs) NW1.out NW2.out (Gf qs) ?c3 ?c4 ?c5 ?_))
     case c3=>unfold maxLen;omega
     case c4=>omega
     case c5=>simp;omega
     intro v10 w10 hown hgrow
     have b10:Below (w.heap.size+4) (w8.alloc (.cells #[.slice ap qs.length cp,.int .i64 (ea:Nat),.int .u8 (eb:Nat)] 175)) w10:=(Below.refl (w.heap.size+4) _).grown hgrow (by simp;omega) (fun q h=>jD.out q h)
     have T9:Three (w8.alloc (.cells #[.slice ap qs.length cp,.int .i64 (ea:Nat),.int .u8 (eb:Nat)] 175)) w8.heap.size (.slice ap qs.length cp) (.int .i64 (ea:Nat)) (.int .u8 (eb:Nat)):=bK _ _ _ _ _
     have afo:=fun q h=>(HO.out.lt q h).2
     have e1:w10.cell? ⟨w8.heap.size,1,none⟩=some (.int .i64 (ea:Nat)):=hgrow.cell T9.c1 (fun h=>by have:=afo w8.heap.size h.symm;omega)
     have e2:w10.cell? ⟨w8.heap.size,2,none⟩=some (.int .u8 (eb:Nat)):=hgrow.cell T9.c2 (fun h=>by have:=afo w8.heap.size h.symm;omega)
     have Jf:=(HA.out.below AX.out (by omega)).below b10 (by omega)
     have a0:=Jf.c0
     have a1:=Jf.c1
     have af0:=Jf.f0
     have af1:=Jf.f1
     have N1:=hid (Jf.sets (.int .i64 (ea:Nat)) (.int .u8 (eb:Nat)))
     have N2:Hid (((w10.setCell ⟨w.heap.size+3,0,none⟩ (.int .i64 (ea:Nat))).setCell ⟨w.heap.size+3,1,none⟩ (.int .u8 (eb:Nat))).ownsRow (w.heap.size+4) 166 2 v10 (ps++qs).length (bM (ps++qs))):=hid (by
      rw [Gh,List.length_append]
      exact ak (ak hown (k:=w.heap.size+3) (by omega) 0 _) (k:=w.heap.size+3) (by omega) 1 _)
     have N3:=hid ((((HB.out.trans (AX.out.mono (by omega))).trans (b10.mono (by omega))).setCell (p:=⟨w.heap.size+3,0,none⟩) (Nat.le_refl _) (.int .i64 (ea:Nat))).setCell (p:=⟨w.heap.size+3,1,none⟩) (Nat.le_refl _) (.int .u8 (eb:Nat)))
     have n4:w.heap.size+4≤((w10.setCell ⟨w.heap.size+3,0,none⟩ (.int .i64 (ea:Nat))).setCell ⟨w.heap.size+3,1,none⟩ (.int .u8 (eb:Nat))).heap.size:=by have:=b10.size;simp at this ⊢;omega
     have n5:(ps++qs).length≤(k+1)*(n*256):=by rw [List.length_append,hkl];omega
     have n6:e2=e2:=rfl
     obtain ⟨av10,cv10,rfl⟩:=ag hown
     clear hown hgrow b10 T9 Jf hkl n6
     go_wp2_with fail
     go_roundw
     case rel=>exact ⟨k+1,ea,eb,ps++qs,by omega,by go_num,hea,heb,N2,HL2,N1,aaU,n5,N3,n4⟩
     case measure=>simp [intOf] <;> omega
  ·obtain rfl:k=m:=by omega
   have hs0:=HB.out.size
   have T3:=hid (HT0.out.below HB.out (by omega))
   have RA:=hid (HH.out _ uN.out)
   have FN:Hid (∃ i t:Nat,gl≤i∧ls[i]?=some (ya*256+yb,t)):=hid (by
    have h9:=RA.out.sk.in_ _ ((Yf.out (ya*256+yb)).2 HLI.out.home)
    rw [aa0.out] at h9
    exact h9)
   have NA:=xW (w.heap.size+1) (ya*256+yb) (.slice (some ⟨gh,0,none⟩) n n) ao cap gl ls W0 T3.out RA.out.lk (by omega) (by omega) FN.out
   rw [jq ya hyb] at NA
   have KR:=hid NA
   clear NA
   go_wp2_with fail
   refine KR.out.mono ?_
   rintro e w7 ⟨i,t,rfl,hgi,hit,lM⟩
   have T7:=hid (T3.out.below lM (by omega))
   have WA:=zn (w.heap.size+1) i (ya*256+yb) t (Ew n ns into) (n*256) (fun y=>decide (y=ta*256+tb)) found (.slice (some ⟨gh,0,none⟩) n n) ao cap ls w7 RA.out.sk (by rw [aa0.out];exact T7.out) (RA.out.lk.below lM) (by omega) (by omega) hit
   rw [aa0.out] at WA
   have Ct:=hid WA
   have KJ:=hid lM
   have hs7:=lM.size
   clear lM WA KR a0 a1
   go_wp2_with fail
   refine Ct.out.mono ?_
   intro e w8 htr
   unfold vP at htr
   obtain ⟨qs,en,vp,rfl,OP,hgo,hne,_,hhd,hge,hen,hpn,Nj,hb8⟩:=htr
   obtain ⟨ap,cp,rfl⟩:=ag OP
   have hent:en=ta*256+tb:=by simpa using hge
   subst hent
   rw [(ja ta htb).1,(ja ta htb).2]
   have HLP:=hid (V8 HLI.out (by rw [show (spreads cs).length=cs.length by simp [spreads],nu.out];exact Nat.le_refl _) (hne hgi) hhd hgo)
   have yU:=hid (KJ.out.trans (hb8.mono (by omega)))
   have pG:=yU.out.size
   have bt:=(Below.refl w8.heap.size w8).alloc (Nat.le_refl _) (.cells #[.slice ap qs.length cp,.int .i64 (ta:Nat),.int .u8 (tb:Nat)] 175)
   have AX:=hid (yU.out.trans (bt.mono (by omega)))
   have O9:=hid (ae HO.out AX.out)
   have NW:=QH (ae OP bt)
   have NW1:=hid NW.1
   have NW2:=hid NW.2
   have jD:=hid (fun q h=>(HO.out.lt q h).1)
   have aaU:Hid (∀ p∈ps++qs,p<n*256):=hid (fun p hp=>(List.mem_append.1 hp).elim (HPN.out p) (hpn p))
   have hkl:(k+1)*(n*256)=k*(n*256)+n*256:=Nat.succ_mul _ _
   have t1:(w8.alloc (.cells #[.slice ap qs.length cp,.int .i64 (ta:Nat),.int .u8 (tb:Nat)] 175)).cell? ⟨w8.heap.size,0,none⟩=some (.slice ap qs.length cp):=(bK w8 _ _ _ _).c0
   clear OP hgo hne hhd hge hpn hb8 NW Ct bt
   go_wp2_with (at_builtin;go_must (refine lw _ rfl (.tmp 61) (.tmp 63) 163 rfl (w.heap.size+4) 166 i0 (.agg #[.int .i64 0,.int .u8 0]) 2 16 Tryz.underlying163 hi0 hz0 hz1 hz2 rfl (by decide) _ ps.length _ rfl O9.out ap qs.length cp (bM qs) rfl (Gg qs) NW1.out NW2.out (Gf qs) ?c3 ?c4 ?c5 ?_))
   case c3=>unfold maxLen;omega
   case c4=>omega
   case c5=>simp;omega
   intro v10 w10 hown hgrow
   have N2:Hid (w10.ownsRow w.heap.size 166 2 v10 (ps++qs).length (bM (ps++qs))):=hid (by
    rw [Gh,List.length_append]
    exact aY hown (by omega))
   have N3:=hid ((uN.out.trans (AX.out.mono (by omega))).grown hgrow (by simp;omega) (fun q h=>by have:=jD.out q h;omega))
   have n5:(ps++qs).length≤(cs.length+1)*(n*256):=by rw [List.length_append,nu.out,hkl];omega
   clear hown hgrow hkl
   go_wp2_with fail
   go_ret
   unfold Ja
   exact ⟨ps++qs,_,rfl,N2.out,HLP.out,aaU.out,n5,N3.out⟩
end Go.Proofs.YtjagijohfkffiabGreat
