import Derived.Test.YtjagijohfkffiabGreatALLM27
import Derived.Test.YtjagijohfkffiabGreatALLM44
import Derived.Test.YtjagijohfkffiabGreatALLM45
import Derived.Test.YtjagijohfkffiabGreatALLM46
import Derived.Test.YtjagijohfkffiabGreatALLM47
import Derived.Test.YtjagijohfkffiabGreatALLM48
import Derived.Test.YtjagijohfkffiabGreatALLM52
import Derived.OwnWalk
set_option maxHeartbeats 16000000
set_option maxRecDepth 100000
namespace Go.Proofs.YtjagijohfkffiabGreat
open Go.RowKit
set_option linter.unusedVariables false
def GJ (n:Nat) (ns:List Nd) (cs:List (Nat→Bool)) (lt:Nat→Nat) (ed:Nat→Nat→Bool) (st aA:Nat→Bool) (w:World) (e:Ending) (w':World):Prop:=
 ∃ (tl:Nat→List (Nat × Nat)) (f:Nat→Bool),uP lt ed n 0 tl∧(∀ x,f x=true↔gu (Ew n ns tl) (spreads cs) x)∧Below w.heap.size w w' ∧
  ((e=.returned (.tuple #[.slice none 0 0,.slice none 0 0,.bool false])∧∀ x,x<n*256→kW st f aA x=false) ∨
   ∃ (A B:List Nat) (t B2:Nat) (v1 v2:Value),e=.returned (.tuple #[v1,v2,.bool true])∧w'.ownsRow w.heap.size 3 1 v1 A.length (bD (A.map (· / 256)))∧w'.ownsRow B2 3 1 v2 B.length (bD (B.map (· / 256)))∧w.heap.size≤B2∧(∀ k,v1.ownBlock=some k→k<B2) ∧
    Goes (Ew n ns tl) A t∧GU (Ew n ns tl) (spreads cs) t B∧kW st f aA ((A++B).headD 0)=true∧(∀ p∈A++B,p<n*256)∧A.length+B.length≤(cs.length+2)*(n*256))
theorem Qo {f:Nat→Bool} {n:Nat} (h:(az f n).length=0):∀ x,x<n→f x=false:=fun x hx=>by
 have h1:az f n=[]:=List.length_eq_zero_iff.1 h
 cases e:f x with
 | false=>rfl
 | true=>
  have:x∈az f n:=by unfold az;rw [List.mem_filter,List.mem_range];exact ⟨hx,e⟩
  rw [h1] at this
  simp at this
theorem Zv (P g n cap:Nat) (ns:List Nd) (cs:List (Nat→Bool)) (lt:Nat→Nat) (ed:Nat→Nat→Bool) (st aA:Nat→Bool) (w:World) (h0:0<n) (hn:n≤6) (h8:ns.length≤8) (h:xL w g n lt ed st) (hlt:∀ i,i<n→lt i<8) (hed:∀ i j,i<n→ed i j=true→j<n) (hbm:tC w P ns) (hP:P<w.heap.size) (hcm:mO w P cs) (hcl:cs.length≤8) (hbg:aN w P 2305 aA) :
  Calls Tryz.prog 46 #[.pointer (some ⟨P,0,none⟩),.slice (some ⟨g,0,none⟩) n cap] w (GJ n ns cs lt ed st aA w):=by
 have hg:=h.blk
 have HR:=hid (fun W (b:Below w.heap.size w W)=>h.below b (Nat.le_refl _) hg)
 have HM:=hid (fun W (b:Below w.heap.size w W)=>hbm.below b hP)
 have HC:=hid (fun W (b:Below w.heap.size w W)=>hcm.below b hP)
 have Ht:=hid (fun W (b:Below w.heap.size w W)=>hbg.below b hP)
 have wV:=hid hlt
 have AL:=hid (XU g n cap lt ed st w h0 hn h hlt hed)
 clear h hlt hed hbm hcm hbg
 go_enter Tryz.func46,Tryz.ntmps46
 go_wp2_with fail
 refine AL.out.mono ?_
 rintro e w1 ⟨gi,tl,rfl,WM,AP,b1⟩
 have HWP:=hid (adz AP hn wV.out)
 have Yz:=hid AP
 have HB1:=hid b1
 have HWM:=hid WM
 have bw:=(Below.refl w1.heap.size w1).alloc (Nat.le_refl _) (.cells #[.slice (some ⟨gi,0,none⟩) n n] 159)
 have HB2:=hid (b1.trans (bw.mono b1.size))
 have HW2:=hid (WM.below bw)
 have C2:Hid ((w1.alloc (.cells #[.slice (some ⟨gi,0,none⟩) n n] 159)).cell? ⟨w1.heap.size,0,none⟩=some (.slice (some ⟨gi,0,none⟩) n n)):=hid (by simp)
 have hs1:=b1.size
 clear WM AP b1 bw AL HB1 HWM
 go_wp2_with fail
 generalize hW:(w1.alloc (.cells #[.slice (some ⟨gi,0,none⟩) n n] 159))=W at *
 have hWs:W.heap.size=w1.heap.size+1:=by rw [←hW];simp
 clear hW
 refine (x9 P gi n n ns tl cs W h8 HWP.out (HM.out _ HB2.out) (by omega) (HC.out _ HB2.out) hcl HW2.out).mono ?_
 rintro e w3 ⟨gl,f,rfl,hgl,hgls,F3,L3,b3⟩
 have HF3:=hid F3
 have ll:=hid L3
 have X3:=hid b3
 have HB3:=hid (HB2.out.trans (b3.mono (by omega)))
 have hs3:=b3.size
 clear F3 L3 b3
 go_wp2_with fail
 refine (UI P g n cap gl n lt ed st f aA w3 hn (HR.out _ HB3.out) HF3.out hgls (Ht.out _ HB3.out) (by omega)).mono ?_
 rintro e w4 ⟨gw,rfl,hgw,hgws,F4,b4⟩
 have KW:=hid F4
 have X4:=hid (X3.out.trans (b4.mono (by omega)))
 have dm:=hid (HB3.out.trans (b4.mono (by omega)))
 have agb:=hid (HF3.out.below b4 hgls)
 have hs4:=b4.size
 clear F4 b4 X3 HF3
 go_wp2_with fail
 refine (Nb gw n n (kW st f aA) w4 (by omega) KW.out hgws).mono ?_
 rintro e w5 ⟨vs,rfl,OS,b5⟩
 obtain ⟨as_,cs_,rfl⟩:=ag OS
 have X5:=hid (X4.out.trans (b5.mono (by omega)))
 have dV:=hid (dm.out.trans (b5.mono (by omega)))
 have aga:=hid (agb.out.below b5 (by omega))
 have Py:=hid (KW.out.below b5 hgws)
 have gN:=hid OS
 have hs5:=b5.size
 have hln:=oN (kW st f aA) (n*256)
 clear OS b5 X4 dm agb KW
 by_cases hz:(az (kW st f aA) (n*256)).length=0
 ·have lu:=hid (Qo hz)
  rw [hz]
  clear hz gN
  go_wp2_with fail
  go_ret3
  unfold GJ
  exact ⟨tl,f,Yz.out,ll.out,dV.out,Or.inl ⟨rfl,lu.out⟩⟩
 ·obtain ⟨x,hx0⟩:∃ x,(az (kW st f aA) (n*256))[0]?=some x:=⟨_,List.getElem?_eq_getElem (by omega)⟩
  have hxm:x<n*256∧kW st f aA x=true:=by
   have h9:=List.mem_of_getElem? hx0
   unfold az at h9
   rw [List.mem_filter,List.mem_range] at h9
   exact h9
  have hfx:f x=true:=by
   have h9:=hxm.2
   unfold kW at h9
   simp only [Bool.and_eq_true] at h9
   exact h9.2.1
  obtain ⟨gs,es,_,hgs,_⟩:=dH gN.out (by omega)
  subst es
  obtain ⟨k0,k1⟩:=uX hx0
  have d0:=(gN.out.cellAt (0*2) (by omega)).trans k0
  have d1:=(gN.out.cellAt (0*2+1) (by omega)).trans k1
  have HXM:=hid hxm
  have HFX:=hid hfx
  have C5:=(X5.out.cell (p:=⟨w1.heap.size,0,none⟩) (by show w1.heap.size<W.heap.size;omega)).trans C2.out
  have hlz:(((az (kW st f aA) (n*256)).length:Int)==0)=false:=beq_eq_false_iff_ne.2 (by omega)
  generalize (az (kW st f aA) (n*256)).length=ln at *
  clear k0 k1 hxm hfx hx0
  obtain ⟨xa,xb,rfl,hxb⟩:∃ xa xb,x=xa*256+xb∧xb<256:=⟨x / 256,x % 256,by omega,by omega⟩
  rw [(ja xa hxb).1,Nat.zero_mul] at d0
  rw [(ja xa hxb).2,Nat.zero_mul] at d1
  go_wp2_with fail
  rename_i KK hKK
  have Ay:∀ (W6:World) (T ta tb:Nat),ta<n→tb<256→Hid (Two W6 T (.int .i64 (ta:Nat)) (.int .u8 (tb:Nat)))→Hid (LC (Ew n ns tl) (spreads cs) f (xa*256+xb) (ta*256+tb))→Hid (Below w5.heap.size w5 W6)→T<W6.heap.size→KK { tmps:=#[(.pointer (some ⟨P,0,none⟩)),(.slice (some ⟨g,0,none⟩) n cap),undef,undef,.slice none 0 0,.slice none 0 0,.bool false,.pointer (some ⟨w1.heap.size,0,none⟩),(.slice (some ⟨gl,0,none⟩) n n),(.slice (some ⟨gw,0,none⟩) n n),(.slice (some ⟨gs,0,none⟩) ln cs_),.pointer (some ⟨T,0,none⟩),undef,undef,undef,undef,undef,undef,undef,(.slice (some ⟨g,0,none⟩) n cap),(.agg #[.slice (some ⟨gi,0,none⟩) n n]),(.pointer (some ⟨P,0,none⟩)),(.agg #[.slice (some ⟨gi,0,none⟩) n n]),(.slice (some ⟨gl,0,none⟩) n n),(.pointer (some ⟨P,0,none⟩)),(.slice (some ⟨g,0,none⟩) n cap),(.slice (some ⟨gl,0,none⟩) n n),(.slice (some ⟨gw,0,none⟩) n n),(.slice (some ⟨gw,0,none⟩) n n),(.slice (some ⟨gs,0,none⟩) ln cs_),(.slice (some ⟨gs,0,none⟩) ln cs_),.int .i64 (ln:Nat),.bool false,(.pointer (some ⟨P,0,none⟩)),(.agg #[.slice (some ⟨gi,0,none⟩) n n]),(.slice (some ⟨gl,0,none⟩) n n),(.slice (some ⟨gs,0,none⟩) ln cs_),.pointer (some ⟨gs,0,none⟩),.agg #[.int .i64 (xa:Nat),.int .u8 (xb:Nat)],.agg #[.int .i64 (ta:Nat),.int .u8 (tb:Nat)],undef,undef,undef,undef,undef,undef,undef,undef,undef,undef,undef,undef,undef,undef,undef,undef,undef,undef,undef,undef,undef,undef,undef],defers:=[] } W6:=by
   intro W6 T ta tb hta htb HT AY X6 oZ
   refine hKK _ _ ?_
   clear hKK d0 d1 C5
   have hs6:=X6.out.size
   have iQ:=hid (dV.out.trans (X6.out.mono (by omega)))
   have XW6:=hid (X5.out.trans (X6.out.mono (by omega)))
   have C6:=(XW6.out.cell (p:=⟨w1.heap.size,0,none⟩) (by show w1.heap.size<W.heap.size;omega)).trans C2.out
   have af9:=hid (aga.out.below X6.out (by omega))
   have RF:=hid (Py.out.below X6.out (by omega))
   have t0:=HT.out.c0
   have t1:=HT.out.c1
   have ON:=ZB (ta*256+tb) gl n n f W6 (by omega) af9.out (by omega) (by omega) AY.out.last
   rw [jq ta htb] at ON
   have HON:=hid ON
   clear ON
   go_wp2_with fail
   refine HON.out.mono ?_
   rintro e w7 ⟨g7,rfl,WP,hg7s,F7,b7⟩
   have HF7:=hid F7
   have fI:=hid (iQ.out.trans (b7.mono (by omega)))
   have XW7:=hid (XW6.out.trans (b7.mono (by omega)))
   have Rt:=hid (HT.out.below b7 oZ)
   have af7:=hid (RF.out.below b7 (by omega))
   have hs7:=b7.size
   have C7:=(b7.cell (p:=⟨w1.heap.size,0,none⟩) (by show w1.heap.size<W6.heap.size;omega)).trans C6
   clear F7 b7 C6 t0 t1 HON HT af9 RF
   go_wp2_with fail
   refine (wh P gi n n g7 n ns tl (fun y=>decide (y=ta*256+tb)) w7 h8 HWP.out (HM.out _ fI.out) (by omega) (HW2.out.below XW7.out) HF7.out hg7s).mono ?_
   rintro e w8 ⟨gh,found,ls,vh,rfl,hgh,hghs,F8,L8,SK8,OL8,b8⟩
   obtain ⟨ah,ch,rfl,LM8⟩:=zP OL8
   have HHP:Hid (Aq w8 (Ew n ns tl) n (ta*256+tb) gh ah ch ls found):=hid ⟨F8,hghs,LM8,SK8,L8⟩
   have zh:=hid (fI.out.trans (b8.mono (by omega)))
   have XW8:=hid (XW7.out.trans (b8.mono (by omega)))
   have HT8:=hid (Rt.out.below b8 (by omega))
   have af6:=hid (af7.out.below b8 (by omega))
   have pG:=b8.size
   have hll:=mg SK8
   have aeE:=oN (fun y=>decide (y=ta*256+tb)) (n*256)
   have C8:=(b8.cell (p:=⟨w1.heap.size,0,none⟩) (by show w1.heap.size<w7.heap.size;omega)).trans C7
   have bg:Hid (∀ p∈ls,p.1<n*256):=hid (fun p hp=>(SK8.lead.sound p.1 (List.mem_map.2 ⟨p,hp,rfl⟩)).1)
   -- some link is wrong
   have fu:Hid (∃ (i:Nat) (p:Nat × Nat),ls[i]?=some p∧kW st f aA p.1=true):=hid (by
    rcases AY.out.go with e | e
    ·have hm:ta*256+tb∈az (fun y=>decide (y=ta*256+tb)) (n*256):=by
      unfold az
      rw [List.mem_filter,List.mem_range]
      exact ⟨by omega,by simp⟩
     obtain ⟨i,hi,e2⟩:=List.getElem_of_mem hm
     have h9:=SK8.pre i _ (List.getElem?_eq_getElem hi)
     rw [e2] at h9
     exact ⟨i,_,h9,by rw [←e];exact HXM.out.2⟩
    ·have h9:=(HHP.out.reach (xa*256+xb)).2 e
     obtain ⟨i,t,_,h10⟩:=SK8.in_ _ h9
     exact ⟨i,_,h10,HXM.out.2⟩)
   generalize hgln:(az (fun y=>decide (y=ta*256+tb)) (n*256)).length=gln at *
   have Av:=hid hgln
   clear hgln F8 L8 SK8 OL8 LM8 b8 C7 HF7 Rt af7
   have bs:=(Below.refl w8.heap.size w8).alloc (Nat.le_refl _) (.cells #[.slice (some ⟨gh,0,none⟩) n n,.slice ah ls.length ch,.int .i64 (gln:Nat)] 171)
   have HS9:=hid (bK w8 (.slice (some ⟨gh,0,none⟩) n n) (.slice ah ls.length ch) (.int .i64 (gln:Nat)) 171)
   have HH9:=hid (HHP.out.below bs)
   have ajN:=hid (af6.out.below bs (by omega))
   have HT9:=hid (HT8.out.below bs (by omega))
   have KY:=hid (zh.out.trans (bs.mono (by omega)))
   have XW9:=hid (XW8.out.trans (bs.mono (by omega)))
   clear bs HHP af6 HT8 zh
   have NR:=Qh w8.heap.size gw n n (kW st f aA) (.slice (some ⟨gh,0,none⟩) n n) (.int .i64 (gln:Nat)) ah ch ls _ HS9.out HH9.out.lk (by omega) (by omega) ajN.out (by simp;omega) bg.out fu.out
   have Yk:=hid NR
   clear NR C8
   go_wp2_with fail
   generalize hW9:(w8.alloc (.cells #[.slice (some ⟨gh,0,none⟩) n n,.slice ah ls.length ch,.int .i64 (gln:Nat)] 171))=W9 at *
   have amT:W9.heap.size=w8.heap.size+1:=by rw [←hW9];simp
   clear hW9
   refine Yk.out.mono ?_
   rintro e w10 ⟨i,p,rfl,hip,hwp,b10⟩
   obtain ⟨px,pt⟩:=p
   dsimp only at hwp
   have aaS:=hid (HS9.out.below b10 (by omega))
   have UD:=hid (HH9.out.below b10)
   have afr:=hid (HT9.out.below b10 (by omega))
   have agr:=hid (KY.out.trans (b10.mono (by omega)))
   have ae5:=hid (XW9.out.trans (b10.mono (by omega)))
   have amJ:=b10.size
   have ajk:=hid hwp
   have WA:=zn w8.heap.size i px pt (Ew n ns tl) (n*256) (fun y=>decide (y=ta*256+tb)) found (.slice (some ⟨gh,0,none⟩) n n) ah ch ls w10 UD.out.sk (by rw [Av.out];exact aaS.out) UD.out.lk (by omega) (by omega) hip
   rw [Av.out] at WA
   have Ct:=hid WA
   clear WA b10 Yk fu HS9 HH9 HT9 KY XW9 hwp
   go_wp2_with fail
   refine Ct.out.mono ?_
   intro e w11 htr
   unfold vP at htr
   obtain ⟨A,en,vp,rfl,OP,hgo,_,_,hhd,hge,hen,hpn,Nj,b11⟩:=htr
   have hent:en=ta*256+tb:=by simpa using hge
   subst hent
   obtain ⟨ap,cp,rfl,SM⟩:=Mr OP
   rw [(ja ta htb).1,(ja ta htb).2]
   have ajL:=hid hgo
   have HHD:=hid hhd
   have HPA:=hid hpn
   have bt:=(Below.refl w11.heap.size w11).alloc (Nat.le_refl _) (.cells #[.slice ap A.length cp,.int .i64 (ta:Nat),.int .u8 (tb:Nat)] 175)
   have Qw:=b11.trans (bt.mono b11.size)
   have afw:=hid (aaS.out.below Qw (by omega))
   have afY:=hid (UD.out.below Qw)
   have afq:=hid (afr.out.below Qw (by omega))
   have agq:=hid (agr.out.trans (Qw.mono (by omega)))
   have ae4:=hid (ae5.out.trans (Qw.mono (by omega)))
   have ajh:=hid (SM.below bt)
   have amI:=b11.size
   have tr0:(w11.alloc (.cells #[.slice ap A.length cp,.int .i64 (ta:Nat),.int .u8 (tb:Nat)] 175)).cell? ⟨w11.heap.size,0,none⟩=some (.slice ap A.length cp):=(bK w11 _ _ _ _).c0
   have SPA:=hid (Jq ap cp A _ ajh.out (by omega))
   clear OP hgo hhd hge hpn b11 SM bt Qw Ct aaS UD afr agr ae5
   go_wp2_with fail
   generalize hW12:(w11.alloc (.cells #[.slice ap A.length cp,.int .i64 (ta:Nat),.int .u8 (tb:Nat)] 175))=W12 at *
   have amA:W12.heap.size=w11.heap.size+1:=by rw [←hW12];simp
   clear hW12 tr0
   refine SPA.out.mono ?_
   rintro e w13 ⟨v1,rfl,O1,b13⟩
   obtain ⟨av1,cv1,rfl⟩:=ag O1
   have aaR:=hid (afw.out.below b13 (by omega))
   have ajK:=hid (afY.out.below b13)
   have afp:=hid (afq.out.below b13 (by omega))
   have aa3:=hid (agq.out.trans (b13.mono (by omega)))
   have ae3:=hid (ae4.out.trans (b13.mono (by omega)))
   have yZ:=hid O1
   have amH:=b13.size
   have s0:=aaR.out.c0
   have s1:=aaR.out.c1
   have s2:=aaR.out.c2
   have t0:=afp.out.c0
   have t1:=afp.out.c1
   have C13:=(ae3.out.cell (p:=⟨w1.heap.size,0,none⟩) (by show w1.heap.size<W.heap.size;omega)).trans C2.out
   have RD:=Vw P gi n n (ta*256+tb) gh ns tl cs f (xa*256+xb) ah ch ls found w13 h8 HWP.out (by omega) (HM.out _ aa3.out) (by omega) (HC.out _ aa3.out) hcl (HW2.out.below ae3.out) ajK.out AY.out (by omega)
   rw [jq ta htb,Av.out] at RD
   have HRD:=hid RD
   clear RD O1 b13 SPA afw afY afq agq ae4
   go_wp2_with fail
   refine HRD.out.mono ?_
   intro e w14 hrd
   unfold Ja at hrd
   obtain ⟨B,vr,rfl,OR,LP,hpB,hlB,b14⟩:=hrd
   obtain ⟨ar,cr,rfl,SMB⟩:=Mr OR
   have amX:B.length≤10*(6*256):=Nat.le_trans hlB (Nat.mul_le_mul (by omega) (by omega))
   have HLP:=hid LP
   have lX:=hid hpB
   have ajZ:=hid (aa3.out.trans (b14.mono (by omega)))
   have ajy:=hid (ae yZ.out b14)
   have SPB:=hid (Jq ar cr B w14 SMB (by omega))
   have amG:=b14.size
   have Yy:Hid (∀ k,(Value.slice av1 A.length cv1).ownBlock=some k→k<w14.heap.size):=hid (fun k h=>by have:=(yZ.out.lt k h).2;omega)
   clear OR LP hpB b14 SMB HRD s0 s1 s2 t0 t1 C13
   go_wp2_with fail
   refine SPB.out.mono ?_
   rintro e w15 ⟨v2,rfl,O2,b15⟩
   obtain ⟨av2,cv2,rfl⟩:=ag O2
   have ajY:=hid (ajZ.out.trans (b15.mono (by omega)))
   have ajx:=hid (aY (ae ajy.out b15) (show w.heap.size≤W12.heap.size by omega))
   have lg:=hid O2
   clear O2 b15 SPB
   go_wp2_with fail
   go_ret3
   unfold GJ
   refine ⟨tl,f,Yz.out,ll.out,ajY.out,Or.inr ⟨A,B,ta*256+tb,w14.heap.size,_,_,rfl,ajx.out,lg.out,by omega,Yy.out,ajL.out,HLP.out,?_,?_,?_⟩⟩
   ·have h9:=HHD.out
    rw [qF,show B.headD 0=ta*256+tb from HLP.out.head,h9]
    exact ajk.out
   ·intro p hp
    rcases List.mem_append.1 hp with hp | hp
    ·exact HPA.out p hp
    ·exact lX.out p hp
   ·have h9:(cs.length+2)*(n*256)=(cs.length+1)*(n*256)+n*256:=Nat.succ_mul _ _
    omega
  have hxa:xa<n:=by have:=HXM.out.1;omega
  have TA:=hid (fun W' (X:Below w5.heap.size w5 W')=>YK P gi n n gl n (xa*256+xb) ns tl cs f W' h8 HWP.out (by omega) (HM.out _ (dV.out.trans (X.mono (by omega)))) (by have:=X.size;omega) (HC.out _ (dV.out.trans (X.mono (by omega)))) hcl (HW2.out.below (X5.out.trans (X.mono (by omega)))) (aga.out.below X (by omega)) (by have:=X.size;omega) ll.out HFX.out HXM.out.1)
  rw [jq xa hxb] at TA
  have i1:(0:Int)<(ln:Int):=by omega
  have yx:gs<w5.heap.size:=hgs
  have Qv:w1.heap.size<w5.heap.size:=by omega
  refine wp_region_held_drew (S:=fun w'=>w'.cell? ⟨w1.heap.size,0,none⟩=some (.slice (some ⟨gi,0,none⟩) n n)∧w'.cell? ⟨gs,0,none⟩=some (.int .i64 (xa:Nat))∧w'.cell? ⟨gs,1,none⟩=some (.int .u8 (xb:Nat))) (by kernel_rfl) ⟨C5,d0,d1⟩ (fun hHeld=>?_)
  refine wpAnyH_take (i:=0) (oi:={ dst:=some 33,op:=Op.move (.tmp 0),type:=_,pos:=_,after:=_,guard:=none }) (v:=(Value.pointer (some ⟨P,0,none⟩))) rfl (by kernel_rfl) (by kernel_rfl) (by kernel_rfl) (fun _ _ _ h=>h) (Or.inl ⟨by rfl,by intro w' hSw;(try dsimp only at hSw);go_simp⟩) (by assumption) ?_
  simp only [Act.put,List.setIfInBounds_toArray,List.set_cons_zero,List.set_cons_succ]
  refine wpAnyH_take (i:=1) (oi:={ dst:=some 34,op:=Op.load _ (.tmp 7),type:=_,pos:=_,after:=_,guard:=none }) (v:=(Value.agg #[.slice (some ⟨gi,0,none⟩) n n])) rfl (by kernel_rfl) (by kernel_rfl) (by kernel_rfl) (fun _ _ _ h=>h) (Or.inl ⟨by rfl,by intro w' hSw;(try dsimp only at hSw);go_simp⟩) (by assumption) ?_
  simp only [Act.put,List.setIfInBounds_toArray,List.set_cons_zero,List.set_cons_succ]
  refine wpAnyH_take (i:=2) (oi:={ dst:=some 35,op:=Op.move (.tmp 8),type:=_,pos:=_,after:=_,guard:=none }) (v:=(Value.slice (some ⟨gl,0,none⟩) n n)) rfl (by kernel_rfl) (by kernel_rfl) (by kernel_rfl) (fun _ _ _ h=>h) (Or.inl ⟨by rfl,by intro w' hSw;(try dsimp only at hSw);go_simp⟩) (by assumption) ?_
  simp only [Act.put,List.setIfInBounds_toArray,List.set_cons_zero,List.set_cons_succ]
  refine wpAnyH_take (i:=3) (oi:={ dst:=some 36,op:=Op.move (.tmp 10),type:=_,pos:=_,after:=_,guard:=none }) (v:=(Value.slice (some ⟨gs,0,none⟩) ln cs_)) rfl (by kernel_rfl) (by kernel_rfl) (by kernel_rfl) (fun _ _ _ h=>h) (Or.inl ⟨by rfl,by intro w' hSw;(try dsimp only at hSw);go_simp⟩) (by assumption) ?_
  simp only [Act.put,List.setIfInBounds_toArray,List.set_cons_zero,List.set_cons_succ]
  refine wpAnyH_take (i:=4) (oi:={ dst:=some 37,op:=Op.indexAddr _ (.tmp 36) (Operand.const (Value.int .i64 0)),type:=_,pos:=_,after:=_,guard:=none }) (v:=(Value.pointer (some ⟨gs,0,none⟩))) rfl (by kernel_rfl) (by kernel_rfl) (by kernel_rfl) (fun _ _ _ h=>h) (Or.inl ⟨by rfl,by intro w' hSw;(try dsimp only at hSw);go_simp⟩) (by assumption) ?_
  simp only [Act.put,List.setIfInBounds_toArray,List.set_cons_zero,List.set_cons_succ]
  refine wpAnyH_take (i:=5) (oi:={ dst:=some 38,op:=Op.load _ (.tmp 37),type:=_,pos:=_,after:=_,guard:=none }) (v:=(Value.agg #[.int .i64 (xa:Nat),.int .u8 (xb:Nat)])) rfl (by kernel_rfl) (by kernel_rfl) (by kernel_rfl) (fun _ _ _ h=>h) (Or.inl ⟨by rfl,by intro w' hSw;(try dsimp only at hSw);go_simp⟩) (by assumption) ?_
  simp only [Act.put,List.setIfInBounds_toArray,List.set_cons_zero,List.set_cons_succ]
  refine wpAnyH_ready (rs:=[6,7]) (by kernel_rfl) (by simp) ?_
  refine AllReadyH.cons rfl (fun K hK=>?_) (AllReadyH.cons rfl (fun K hK=>?_) AllReadyH.nil)
  ·go_simp
   have bd:=below_drewN (Below.refl w5.heap.size w5) 1
   refine (TA.out _ bd).mono ?_
   intro e w6 htn
   unfold CY at htn
   obtain ⟨t,rfl,htl,AY,b6⟩:=htn
   obtain ⟨ta,tb,rfl,htb⟩:∃ ta tb,t=ta*256+tb∧tb<256:=⟨t / 256,t % 256,by omega,by omega⟩
   rw [jq ta htb]
   dsimp only
   have x6:Below w5.heap.size w5 w6:=bd.trans b6
   have e1:=(x6.cell (p:=⟨w1.heap.size,0,none⟩) Qv).trans C5
   have e2:=(x6.cell (p:=⟨gs,0,none⟩) yx).trans d0
   have e3:=(x6.cell (p:=⟨gs,1,none⟩) yx).trans d1
   have x7:Below w5.heap.size w5 (w6.alloc (.cells #[.int .i64 0,.int .u8 0] 166)):=x6.alloc x6.size _
   have f1:=(x7.cell (p:=⟨w1.heap.size,0,none⟩) Qv).trans C5
   have f2:=(x7.cell (p:=⟨gs,0,none⟩) yx).trans d0
   have f3:=(x7.cell (p:=⟨gs,1,none⟩) yx).trans d1
   have hs6:=x6.size
   refine hK.out _ _ ⟨e1,e2,e3⟩ (fun hHeld=>?_)
   clear hK K
   (try simp only [Act.put,List.setIfInBounds_toArray,List.set_cons_zero,List.set_cons_succ])
   refine wpAnyH_ready (rs:=[7]) (by kernel_rfl) (by simp) ?_
   refine AllReadyH.cons rfl (fun K hK=>?_) AllReadyH.nil
   go_simp
   refine hK.out _ _ ⟨f1,f2,f3⟩ (fun hHeld=>?_)
   clear hK K
   have G9:=hid (bF w6 (.int .i64 (ta:Nat)) (.int .u8 (tb:Nat)) 166)
   have x8:=x6.alloc x6.size (.cells #[.int .i64 (ta:Nat),.int .u8 (tb:Nat)] 166)
   have g1:=(x8.cell (p:=⟨w1.heap.size,0,none⟩) Qv).trans C5
   have g2:=(x8.cell (p:=⟨gs,0,none⟩) yx).trans d0
   have g3:=(x8.cell (p:=⟨gs,1,none⟩) yx).trans d1
   have yU:=hid x8
   (try simp only [Act.put,List.setIfInBounds_toArray,List.set_cons_zero,List.set_cons_succ])
   refine wpAnyH_ready (rs:=[8]) (by kernel_rfl) (by simp) ?_
   refine AllReadyH.cons rfl (fun K hK=>?_) AllReadyH.nil
   go_simp
   refine hK.out _ _ ⟨g1,g2,g3⟩ (fun hHeld=>?_)
   clear hK K
   refine wpAnyH_done (by kernel_rfl) ?_ _
   exact Ay _ w6.heap.size ta tb (by omega) htb G9 (hid AY) yU (by simp)
  ·go_simp
   have x6:Below w5.heap.size w5 (w5.alloc (.cells #[.int .i64 0,.int .u8 0] 166)).drew:=below_drewN ((Below.refl w5.heap.size w5).alloc (Nat.le_refl _) (.cells #[.int .i64 0,.int .u8 0] 166)) 1
   have e1:=(x6.cell (p:=⟨w1.heap.size,0,none⟩) Qv).trans C5
   have e2:=(x6.cell (p:=⟨gs,0,none⟩) yx).trans d0
   have e3:=(x6.cell (p:=⟨gs,1,none⟩) yx).trans d1
   refine hK.out _ _ ⟨e1,e2,e3⟩ (fun hHeld=>?_)
   clear hK K
   (try simp only [Act.put,List.setIfInBounds_toArray,List.set_cons_zero,List.set_cons_succ])
   refine wpAnyH_ready (rs:=[6]) (by kernel_rfl) (by simp) ?_
   refine AllReadyH.cons rfl (fun K hK=>?_) AllReadyH.nil
   go_simp
   refine (TA.out _ x6).mono ?_
   intro e w6 htn
   unfold CY at htn
   obtain ⟨t,rfl,htl,AY,b6⟩:=htn
   obtain ⟨ta,tb,rfl,htb⟩:∃ ta tb,t=ta*256+tb∧tb<256:=⟨t / 256,t % 256,by omega,by omega⟩
   rw [jq ta htb]
   dsimp only
   have b6':Below (w5.heap.size+1) (w5.alloc (.cells #[.int .i64 0,.int .u8 0] 166)).drew w6:=by
    have h9:(w5.alloc (.cells #[.int .i64 0,.int .u8 0] 166)).drew.heap.size=w5.heap.size+1:=by show (w5.alloc (.cells #[.int .i64 0,.int .u8 0] 166)).heap.size=_;simp
    rw [h9] at b6
    exact b6
   have x7:Below w5.heap.size w5 w6:=x6.trans (b6'.mono (by omega))
   have f1:=(x7.cell (p:=⟨w1.heap.size,0,none⟩) Qv).trans C5
   have f2:=(x7.cell (p:=⟨gs,0,none⟩) yx).trans d0
   have f3:=(x7.cell (p:=⟨gs,1,none⟩) yx).trans d1
   have TZ:=((bF w5 (.int .i64 0) (.int .u8 0) 166).below (below_drewN (Below.refl (w5.heap.size+1) _) 1) (by omega)).below b6' (by omega)
   have hs6:w5.heap.size<w6.heap.size:=TZ.lt
   refine hK.out _ _ ⟨f1,f2,f3⟩ (fun hHeld=>?_)
   clear hK K
   have z0:=TZ.c0
   have z1:=TZ.c1
   have z2:=TZ.f0
   have z3:=TZ.f1
   have G9:=hid (TZ.sets (.int .i64 (ta:Nat)) (.int .u8 (tb:Nat)))
   have x8:=(x7.setCell (p:=⟨w5.heap.size,0,none⟩) (Nat.le_refl _) (.int .i64 (ta:Nat))).setCell (p:=⟨w5.heap.size,1,none⟩) (Nat.le_refl _) (.int .u8 (tb:Nat))
   have g1:=(x8.cell (p:=⟨w1.heap.size,0,none⟩) Qv).trans C5
   have g2:=(x8.cell (p:=⟨gs,0,none⟩) yx).trans d0
   have g3:=(x8.cell (p:=⟨gs,1,none⟩) yx).trans d1
   have yU:=hid x8
   (try simp only [Act.put,List.setIfInBounds_toArray,List.set_cons_zero,List.set_cons_succ])
   refine wpAnyH_ready (rs:=[8]) (by kernel_rfl) (by simp) ?_
   refine AllReadyH.cons rfl (fun K hK=>?_) AllReadyH.nil
   go_simp
   refine hK.out _ _ ⟨g1,g2,g3⟩ (fun hHeld=>?_)
   clear hK K
   refine wpAnyH_done (by kernel_rfl) ?_ _
   exact Ay _ w5.heap.size ta tb (by omega) htb G9 (hid AY) yU (by simp;omega)
theorem aeS {zs:List Int} {zss:List (List Int)} {ss:List Int} (h:bi zs zss ss=true) {i j:Nat} (hi:i<zs.length) (he:dF zss i j=true):j<zs.length:=by
 unfold bi at h
 simp only [Bool.and_eq_true,decide_eq_true_eq] at h
 obtain ⟨_,h7⟩:=h
 unfold jk at h7
 rw [List.all_eq_true] at h7
 have h9:=h7 i (by simpa using hi)
 rw [←MP hi] at h9
 have:=nV.1 h9 (j:Int) (vG.1 he)
 omega
theorem aeR {zs:List Int} {zss:List (List Int)} {ss:List Int} (h:bi zs zss ss=true) {i:Nat} (hi:i<zs.length):bR zs i<8:=by
 unfold bi at h
 simp only [Bool.and_eq_true,decide_eq_true_eq] at h
 have h9:=h.1.1.1.2
 unfold bI at h9
 rw [List.all_eq_true] at h9
 have:=gQ.1 (h9 (zs.getD i 0) (by rw [List.getD,List.getElem?_eq_getElem hi];exact List.getElem_mem _))
 unfold bR
 omega
theorem WU {zs:List Int} {zss:List (List Int)} {ss:List Int} (h:bi zs zss ss=true):1≤zs.length∧zs.length≤6:=by
 unfold bi at h
 simp only [Bool.and_eq_true,decide_eq_true_eq] at h
 omega
theorem qX {fn:Func} {t u v x:Tmp} (h:fn.results=#[.tmp t,.tmp u,.tmp v,.tmp x]) (tmps:Array Value) (P:Program) (w:World) :
  (results fn tmps).run P w=.ok (.tuple #[tmps.getD t undef,tmps.getD u undef,tmps.getD v undef,tmps.getD x undef]) w:=by
 simp [results,h]
def tu (zs:List Int) (zss:List (List Int)) (ss:List Int) (s:ByteArray) (w:World) (e:Ending) (w':World):Prop:=
 ∃ (y:Bool) (v1 v2:Value) (er:Nat),e=.returned (.tuple #[.bool y,v1,v2,.int .i64 (er:Nat)])∧Below w.heap.size w w' ∧
  (bi zs zss ss=false→er=10∧y=false∧v1=.slice none 0 0∧v2=.slice none 0 0) ∧
  (bi zs zss ss=true→(af s).1≠0→er=(af s).1∧y=false∧v1=.slice none 0 0∧v2=.slice none 0 0) ∧
  (bi zs zss ss=true→(af s).1=0→er=0 ∧
   ((y=true∧v1=.slice none 0 0∧v2=.slice none 0 0∧oU (af s).2 zs.length (bR zs) (dF zss) (su ss)) ∨
    (y=false∧∃ (SA SB:List Nat) (B2:Nat),pM (af s).2 zs.length (bR zs) (dF zss) (su ss) SA SB∧w'.ownsRow w.heap.size 3 1 v1 SA.length (bD SA)∧w'.ownsRow B2 3 1 v2 SB.length (bD SB)∧w.heap.size≤B2∧∀ k,v1.ownBlock=some k→k<B2)))
section
variable (a1 a2 a3:Option Addr) (l1 c1 l2 c2 l3 c3:Nat) (zs:List Int) (zss:List (List Int)) (ss:List Int) (s:ByteArray) (w:World)
theorem XD (hm:s.size≤maxLen) (h1:Ints w a1 l1 c1 zs) (h2:Lists w a2 l2 c2 zss) (h3:Ints w a3 l3 c3 ss) :
  Calls Tryz.prog 17 #[.agg #[.slice a1 l1 c1,.slice a2 l2 c2,.slice a3 l3 c3],.string s] w (tu zs zss ss s w):=by
 have ba:=(Below.refl w.heap.size w).alloc (Nat.le_refl _) (.cells #[.slice a1 l1 c1,.slice a2 l2 c2,.slice a3 l3 c3] 25)
 have TK:=hid (U6 a1 a2 a3 l1 c1 l2 c2 l3 c3 zs zss ss _ (h1.below ba) (h2.below ba) (h3.below ba))
 have HB0:=hid ba
 have C:=hid (fun W=>jr s W hm)
 unfold jP at C
 have qP:=hid Tryz.wC
 clear h1 h2 h3 ba
 go_enter Tryz.func17,Tryz.ntmps17
 go_wp2_with fail
 refine TK.out.mono ?_
 intro e w1 htk
 unfold ng at htk
 obtain ⟨b1,htk⟩:=htk
 simp only [World.size_alloc] at b1
 have HB1:=hid (HB0.out.trans (b1.mono (by omega)))
 have hs1:=b1.size
 simp only [World.size_alloc] at hs1
 clear TK HB0 b1
 rcases htk with ⟨hgb,rfl⟩ | ⟨hgb,g,cap,rfl,NM⟩
 ·have xP:=hid hgb
  clear hgb
  go_wp2_with fail
  refine bodyPost_ret (qX rfl _ _ _) rfl ?_
  unfold tu
  exact ⟨false,_,_,10,rfl,HB1.out,fun _=>⟨rfl,rfl,rfl,rfl⟩,(fun h=>by rw [xP.out] at h;cases h),(fun h=>by rw [xP.out] at h;cases h)⟩
 ·have xP:=hid hgb
  have DW:=hid NM
  have hg1:=NM.blk
  obtain ⟨hl1,Nl⟩:=WU hgb
  clear hgb NM
  by_cases he:(af s).1=0
  ·have G:=hid (fV he)
   have HE:=hid he
   rw [he] at C
   have hpos:=G.out.pos
   have h8:=G.out.le
   obtain ⟨m1',hlen⟩:∃ m1',(af s).2.length=m1'+1:=⟨(af s).2.length - 1,by omega⟩
   have bg:=hid hlen
   rw [hlen] at C
   clear hlen hpos he
   have Yi:=hid (show af s=af s from rfl)
   generalize hns:(af s).2=ns at *
   have DV:=hid hns
   clear hns Yi
   go_wp2_with fail
   refine (C.out _).mono ?_
   rintro e w2 ⟨ao,pcap,rfl,own,hb2⟩
   obtain ⟨gn,rfl,_,hgn,_⟩:=pu own (by omega)
   have ND:=hid (FP own bg.out)
   have HB2:=hid (HB1.out.trans (hb2.mono (by omega)))
   have afK:=hid (DW.out.below hb2 (Nat.le_refl _) hg1)
   have hs2:=hb2.size
   clear C own hb2 HB1 DW
   go_wp2_with fail
   refine (zO gn m1' pcap ns _ ND.out G.out bg.out).mono ?_
   rintro e w3 ⟨sl,aa,rfl,hlv,hcv,hon,hb3⟩
   have kK:=hid hlv
   have HB3:=hid (HB2.out.trans (hb3.mono (by omega)))
   have afJ:=hid (afK.out.below hb3 (Nat.le_refl _) (by omega))
   have hs3:=hb3.size
   have Pz:=hid (hcv.below ((Below.refl w3.heap.size w3).alloc (Nat.le_refl _) (.cells Tryz.zeroCells63 63)))
   clear hlv hb3 hcv ND HB2 afK
   have hth:(w3.alloc (.cells Tryz.zeroCells63 63)).there w3.heap.size 0 2561:=by
    have:=kS w3 (bX (fun _=>0) (.slice none 0 0) (fun _=>false) (fun _=>false)) 2561 63
    rw [←qP.out] at this
    exact this.there 0 2561 (by omega)
   have Cv:=hid hth
   clear hth
   go_wp2_with (refine dE rfl 63 (.tmp 12) (.tmp 32) rfl w3.heap.size 2561 (bX (lS ns) sl aa (aB ns aa)) rfl rfl Cv.out Tryz.qz (sN _ _ _ hon) ?_)
   intro w4 S4
   have OM:=hid (CP S4.at_)
   have Cg:Below w3.heap.size w3 w4:=S4.aO _ _ (Nat.le_refl _) ((Below.refl _ _).alloc (Nat.le_refl _) _)
   have hcm:mO w4 w3.heap.size (aI ns ns.length):=by
    obtain ⟨aoc,cpc,rfl,h2⟩:=Pz.out
    refine ⟨aoc,cpc,Bp S4.at_,fun h0=>?_⟩
    obtain ⟨gc,h3,h4,h5⟩:=h2 h0
    have hne:gc≠w3.heap.size:=fun e=>by
     have c1:=(h5 0 _ (List.getElem?_eq_getElem h0)).c 0 (by omega)
     rw [e,Nat.zero_mul] at c1
     have c2:=kS w3 (bX (fun _=>0) (.slice none 0 0) (fun _=>false) (fun _=>false)) 2561 63
     rw [←qP.out] at c2
     have c3:=c2.c 0 (by omega)
     rw [Nat.zero_add] at c1
     rw [c1] at c3
     simp [bX] at c3
    refine ⟨gc,h3,by rw [S4.size];exact h4,fun k c hk=>⟨fun j hj=>?_,fun j hj=>?_⟩⟩
    ·rw [S4.cell ⟨gc,k*256+j,none⟩ hne];exact (h5 k c hk).c j hj
    ·rw [S4.fz];exact (h5 k c hk).f j hj
   have HCM:=hid hcm
   have dm:=hid (HB3.out.trans (Cg.mono (by omega)))
   have ajC:=hid (afJ.out.below Cg (Nat.le_refl _) (by omega))
   have hcl:=pK ns ns.length
   have hs4:=Cg.size
   have hP4:=OM.out.lt
   have ajT:=hid (fun i j (hi:i<zs.length) he=>aeS xP.out (j:=j) hi he)
   have aaZ:=hid (fun i (hi:i<zs.length)=>aeR xP.out hi)
   clear S4 Cv HB3 hcm Cg Pz afJ
   have PA:=hid (Zv w3.heap.size g zs.length cap ns (aI ns ns.length) (bR zs) (dF zss) (su ss) (aB ns aa) w4 (by omega) Nl h8 ajC.out aaZ.out ajT.out (fun x N hx hN=>OM.out.eT x N hx hN) hP4 HCM.out (by omega) OM.out.aA)
   go_wp2_with fail
   refine PA.out.mono ?_
   intro e w5 hpa
   unfold GJ at hpa
   obtain ⟨tl,f,AP,LF,b5,hpa⟩:=hpa
   have dV:=hid (dm.out.trans (b5.mono (by omega)))
   have Yz:=hid AP
   have HLF:=hid LF
   clear AP LF b5 PA dm
   rcases hpa with ⟨rfl,hno⟩ | ⟨A,B,t,B2,v1,v2,rfl,O1,O2,hB2,hsep,hgo,hlp,hwr,hpn,hln⟩
   ·have HH:=hid (TB G.out kK.out Nl aaZ.out Yz.out HLF.out hno)
    clear hno
    go_wp2_with fail
    refine bodyPost_ret (qX rfl _ _ _) rfl ?_
    unfold tu
    refine ⟨true,_,_,0,rfl,dV.out,(fun h=>by rw [xP.out] at h;cases h),fun _ h=>absurd HE.out h,fun _ _=>⟨rfl,Or.inl ⟨rfl,rfl,rfl,?_⟩⟩⟩
    rw [DV.out]
    exact HH.out
   ·have Nn:A.length+B.length≤20000:=by
     have h9:(aI ns ns.length).length+2≤10:=by omega
     have h10:=Nat.mul_le_mul h9 (Nat.mul_le_mul_right 256 Nl)
     omega
    have HSH:=hid (Tt (st:=su ss) (f:=f) G.out kK.out Nl aaZ.out Yz.out hgo hlp hwr Nn hpn)
    obtain ⟨av1,cv1,rfl⟩:=ag O1
    obtain ⟨av2,cv2,rfl⟩:=ag O2
    have yZ:=hid (aY O1 (show w.heap.size≤w4.heap.size by omega))
    have lg:=hid O2
    have DK:=hid hsep
    clear hgo hlp hwr hpn hln O1 O2 hsep
    go_wp2_with fail
    refine bodyPost_ret (qX rfl _ _ _) rfl ?_
    unfold tu
    refine ⟨false,_,_,0,rfl,dV.out,(fun h=>by rw [xP.out] at h;cases h),fun _ h=>absurd HE.out h,fun _ _=>⟨rfl,Or.inr ⟨rfl,A.map (· / 256),B.map (· / 256),B2,?_,?_,?_,by omega,DK.out⟩⟩⟩
    ·rw [DV.out];exact HSH.out
    ·rw [List.length_map];exact yZ.out
    ·rw [List.length_map];exact lg.out
  ·have HE:=hid he
   have ke:(((af s).1:Int)!=0)=true:=by rw [bne_iff_ne];omega
   clear he
   generalize hpe:(af s).1=pe at *
   have HPE:=hid hpe
   clear hpe
   go_wp2_with fail
   refine (C.out _).mono ?_
   rintro e w2 ⟨ao,pcap,rfl,own,hb2⟩
   have HB2:=hid (HB1.out.trans (hb2.mono (by omega)))
   clear own hb2 C
   go_wp2_with fail
   refine bodyPost_ret (qX rfl _ _ _) rfl ?_
   unfold tu
   exact ⟨false,_,_,pe,rfl,HB2.out,(fun h=>by rw [xP.out] at h;cases h),fun _ _=>⟨by rw [HPE.out],rfl,rfl,rfl⟩,fun _ h=>absurd (by rw [HPE.out] at h;exact h) HE.out⟩
end
theorem nU (n:Int) (w:World):Calls Tryz.prog 43 #[.int .i64 n] w fun e w'=>e=.returned (.int .i64 n)∧w'=w:=by
 go_enter Tryz.func43,Tryz.ntmps43
 go_wp2
 go_ret
 exact ⟨rfl,rfl⟩
section
variable (a1 a2 a3:Option Addr) (l1 c1 l2 c2 l3 c3:Nat) (zs:List Int) (zss:List (List Int)) (ss:List Int) (s:ByteArray) (w:World)
theorem Ur (hm:s.size≤maxLen) (h1:Ints w a1 l1 c1 zs) (h2:Lists w a2 l2 c2 zss) (h3:Ints w a3 l3 c3 ss) :
  Calls Tryz.prog 16 #[.agg #[.slice a1 l1 c1,.slice a2 l2 c2,.slice a3 l3 c3],.string s] w fun e w'=>e=.returned (.bool true)∧Below w.heap.size w w':=by
 have ba:=(Below.refl w.heap.size w).alloc (Nat.le_refl _) (.cells #[.slice a1 l1 c1,.slice a2 l2 c2,.slice a3 l3 c3] 25)
 have T0:=hid (bK w (.slice a1 l1 c1) (.slice a2 l2 c2) (.slice a3 l3 c3) 25)
 have HB0:=hid ba
 have J1:=hid (h1.below ba)
 have J2:=hid (h2.below ba)
 have J3:=hid (h3.below ba)
 have C1:=hid (XD a1 a2 a3 l1 c1 l2 c2 l3 c3 zs zss ss s _ hm (h1.below ba) (h2.below ba) (h3.below ba))
 have C2:=hid (fun W (b:Below (w.alloc (.cells #[.slice a1 l1 c1,.slice a2 l2 c2,.slice a3 l3 c3] 25)).heap.size (w.alloc (.cells #[.slice a1 l1 c1,.slice a2 l2 c2,.slice a3 l3 c3] 25)) W)=>Tm a1 a2 a3 l1 c1 l2 c2 l3 c3 zs zss ss s W hm ((h1.below ba).below b) ((h2.below ba).below b) ((h3.below ba).below b))
 have C3:=hid (fun W a4 l4 k4 a5 l5 k5 SA SB (b:Below (w.alloc (.cells #[.slice a1 l1 c1,.slice a2 l2 c2,.slice a3 l3 c3] 25)).heap.size (w.alloc (.cells #[.slice a1 l1 c1,.slice a2 l2 c2,.slice a3 l3 c3] 25)) W)=>Vj a1 a2 a3 a4 a5 l1 c1 l2 c2 l3 c3 l4 k4 l5 k5 zs zss ss SA SB s W hm ((h1.below ba).below b) ((h2.below ba).below b) ((h3.below ba).below b))
 unfold tu at C1
 unfold qj at C2
 clear h1 h2 h3 ba J1 J2 J3
 go_enter Tryz.func16,Tryz.ntmps16
 go_wp2_with fail
 refine C1.out.mono ?_
 rintro e w1 ⟨y,v1,v2,er,rfl,b1,k1,k2,k3⟩
 have B1:=hid b1
 have T1:=T0.out.below b1 (by simp)
 have x0:=T1.c0
 have x1:=T1.c1
 have x2:=T1.c2
 have HT1:=hid T1
 have Pv:=hid k1
 have Yo:=hid k2
 have Yn:=hid k3
 clear C1 b1 T0 T1 k1 k2 k3
 go_wp2_with fail
 refine (C2.out _ B1.out).mono ?_
 rintro e w2 ⟨y',er',rfl,b2,k1,k2,k3⟩
 have hl1:=HT1.out.lt
 have T2:=HT1.out.below b2 hl1
 have B2:=hid (B1.out.trans (b2.mono B1.out.size))
 have HW2:=hid (HB0.out.trans (B2.out.mono HB0.out.size))
 have HB2:=hid b2
 have Pt:=hid k1
 have Ps:=hid k2
 have Pq:=hid k3
 clear C2 b2 x0 x1 x2 HT1 k1 k2 k3
 have x0:=T2.c0
 have x1:=T2.c1
 have x2:=T2.c2
 clear T2
 by_cases hG:bi zs zss ss=true
 ·by_cases hp:(af s).1=0
  ·obtain ⟨rfl,hor⟩:=Yn.out hG hp
   obtain ⟨rfl,hy'⟩:=Pq.out hG hp
   rcases hor with ⟨rfl,rfl,rfl,hH⟩ | ⟨rfl,SA,SB,Bq,hS,oA,oB,hB2,hap⟩
   ·obtain rfl:y'=true:=hy'.2 hH
    clear Pv Yo Yn Pt Ps Pq C3 hH hy' hG hp
    go_wp2_with fail
    refine (nU _ _).mono ?_
    rintro e w3 ⟨rfl,rfl⟩
    go_wp2_with fail
    refine (nU _ _).mono ?_
    rintro e w4 ⟨rfl,rfl⟩
    go_wp2_with fail
    go_ret
    exact ⟨rfl,HW2.out⟩
   ·obtain rfl:y'=false:=by
     cases y' with
     | false=>rfl
     | true=>exact absurd (hy'.1 rfl) (Vi hS)
    obtain ⟨a4,k4,rfl,I4⟩:=zL oA rfl
    obtain ⟨a5,k5,rfl,I5⟩:=zL oB rfl
    have SH:=hid (C3.out w2 a4 SA.length k4 a5 SB.length k5 SA SB B2.out (I4.below HB2.out) (I5.below HB2.out) hG hp hS)
    clear Pv Yo Yn Pt Ps Pq C3 hy' hG hp hS oA oB I4 I5 hap
    generalize SA.length=la at *
    generalize SB.length=lb at *
    go_wp2_with fail
    refine (nU _ _).mono ?_
    rintro e w3 ⟨rfl,rfl⟩
    go_wp2_with fail
    refine (nU _ _).mono ?_
    rintro e w4 ⟨rfl,rfl⟩
    go_wp2_with fail
    refine SH.out.mono ?_
    rintro e w5 ⟨rfl,b5⟩
    have HW5:=hid (HW2.out.trans (b5.mono HW2.out.size))
    clear b5 SH
    go_wp2_with fail
    go_ret
    exact ⟨rfl,HW5.out⟩
  ·obtain ⟨rfl,rfl,rfl,rfl⟩:=Yo.out hG hp
   obtain ⟨rfl,rfl⟩:=Ps.out hG hp
   clear Pv Yo Yn Pt Ps Pq C3
   generalize (af s).1=er at *
   have k:((er:Int)!=0)=true:=by rw [bne_iff_ne];omega
   clear hp hG
   go_wp2_with fail
   refine (nU _ _).mono ?_
   rintro e w3 ⟨rfl,rfl⟩
   go_wp2_with fail
   refine (nU _ _).mono ?_
   rintro e w4 ⟨rfl,rfl⟩
   go_wp2_with fail
   go_ret
   exact ⟨rfl,HW2.out⟩
 ·have hG':bi zs zss ss=false:=by
   cases e:bi zs zss ss with
   | false=>rfl
   | true=>exact absurd e hG
  obtain ⟨rfl,rfl,rfl,rfl⟩:=Pv.out hG'
  obtain ⟨rfl,rfl⟩:=Pt.out hG'
  clear Pv Yo Yn Pt Ps Pq C3 hG hG'
  go_wp2_with fail
  refine (nU _ _).mono ?_
  rintro e w3 ⟨rfl,rfl⟩
  go_wp2_with fail
  refine (nU _ _).mono ?_
  rintro e w4 ⟨rfl,rfl⟩
  go_wp2_with fail
  go_ret
  exact ⟨rfl,HW2.out⟩
end
end Go.Proofs.YtjagijohfkffiabGreat
