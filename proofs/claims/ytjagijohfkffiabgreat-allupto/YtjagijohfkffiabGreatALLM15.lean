import Derived.Test.YtjagijohfkffiabGreatALLM02
import Derived.Test.YtjagijohfkffiabGreatALLM13
import Derived.Test.YtjagijohfkffiabGreatALLM14
import Derived.Deep.AppendLies
set_option maxHeartbeats 16000000
set_option maxRecDepth 100000
namespace Go.Proofs.YtjagijohfkffiabGreat
open Go.RowKit
set_option linter.unusedVariables false
theorem acs (S:Nat→Bool) {k:Nat} {nd:Nd} (h:nd.op=48):gq nd k S=(!S k):=by simp [gq,h]
theorem acr (S:Nat→Bool) {k:Nat} {nd:Nd} (h:nd.op=49):gq nd k S=S k:=by simp [gq,h]
theorem Y7 (S:Nat→Bool) {k:Nat} {nd:Nd} (h:nd.op=112):gq nd k S=true:=by simp [gq,h]
theorem Y6 (S:Nat→Bool) {k:Nat} {nd:Nd} (h:nd.op=113):gq nd k S=true:=by simp [gq,h]
theorem Y5 (S:Nat→Bool) {k:Nat} {nd:Nd} (h:nd.op=114):gq nd k S=true:=by simp [gq,h]
theorem acv (S:Nat→Bool) {k:Nat} {nd:Nd} (h:nd.op=33):gq nd k S=(S k!=S nd.l):=by simp [gq,h]
theorem acl (S:Nat→Bool) {k:Nat} {nd:Nd} (h:nd.op=88):gq nd k S=true:=by simp [gq,h]
theorem acp (S:Nat→Bool) {k:Nat} {nd:Nd} (h:nd.op=70):gq nd k S=(S k||!S nd.l):=by simp [gq,h]
theorem aco (S:Nat→Bool) {k:Nat} {nd:Nd} (h:nd.op=71):gq nd k S=(!S k||S nd.l):=by simp [gq,h]
theorem acu (S:Nat→Bool) {k:Nat} {nd:Nd} (h:nd.op=38):gq nd k S=(S k==(S nd.l&&S nd.r)):=by simp [gq,h]
theorem Y4 (S:Nat→Bool) {k:Nat} {nd:Nd} (h:nd.op=124):gq nd k S=(S k==(S nd.l||S nd.r)):=by simp [gq,h]
theorem acm (S:Nat→Bool) {k:Nat} {nd:Nd} (h:nd.op=85):gq nd k S=((S k||!S nd.r)&&(!S k||S nd.l||S nd.r)):=by simp [gq,h]
theorem acn (S:Nat→Bool) {k:Nat} {nd:Nd} (h:nd.op=82):gq nd k S=((!S k||S nd.r)&&(S k||!S nd.l||!S nd.r)):=by simp [gq,h]
theorem Ad {a:Act} (h0:a.defers=[]) (h1:a.tmps.size=257):∃ u:Nat→Value,(∀ i,u i=a.tmps.getD i undef)∧a=⟨#[u 0,u 1,u 2,u 3,u 4,u 5,u 6,u 7,u 8,u 9,u 10,u 11,u 12,u 13,u 14,u 15,u 16,u 17,u 18,u 19,u 20,u 21,u 22,u 23,u 24,u 25,u 26,u 27,u 28,u 29,u 30,u 31,u 32,u 33,u 34,u 35,u 36,u 37,u 38,u 39,u 40,u 41,u 42,u 43,u 44,u 45,u 46,u 47,u 48,u 49,u 50,u 51,u 52,u 53,u 54,u 55,u 56,u 57,u 58,u 59,u 60,u 61,u 62,u 63,u 64,u 65,u 66,u 67,u 68,u 69,u 70,u 71,u 72,u 73,u 74,u 75,u 76,u 77,u 78,u 79,u 80,u 81,u 82,u 83,u 84,u 85,u 86,u 87,u 88,u 89,u 90,u 91,u 92,u 93,u 94,u 95,u 96,u 97,u 98,u 99,u 100,u 101,u 102,u 103,u 104,u 105,u 106,u 107,u 108,u 109,u 110,u 111,u 112,u 113,u 114,u 115,u 116,u 117,u 118,u 119,u 120,u 121,u 122,u 123,u 124,u 125,u 126,u 127,u 128,u 129,u 130,u 131,u 132,u 133,u 134,u 135,u 136,u 137,u 138,u 139,u 140,u 141,u 142,u 143,u 144,u 145,u 146,u 147,u 148,u 149,u 150,u 151,u 152,u 153,u 154,u 155,u 156,u 157,u 158,u 159,u 160,u 161,u 162,u 163,u 164,u 165,u 166,u 167,u 168,u 169,u 170,u 171,u 172,u 173,u 174,u 175,u 176,u 177,u 178,u 179,u 180,u 181,u 182,u 183,u 184,u 185,u 186,u 187,u 188,u 189,u 190,u 191,u 192,u 193,u 194,u 195,u 196,u 197,u 198,u 199,u 200,u 201,u 202,u 203,u 204,u 205,u 206,u 207,u 208,u 209,u 210,u 211,u 212,u 213,u 214,u 215,u 216,u 217,u 218,u 219,u 220,u 221,u 222,u 223,u 224,u 225,u 226,u 227,u 228,u 229,u 230,u 231,u 232,u 233,u 234,u 235,u 236,u 237,u 238,u 239,u 240,u 241,u 242,u 243,u 244,u 245,u 246,u 247,u 248,u 249,u 250,u 251,u 252,u 253,u 254,u 255,u 256],[]⟩:=by
 refine ⟨fun i=>a.tmps.getD i undef,fun _=>rfl,?_⟩
 obtain ⟨t,d⟩:=a
 simp only at h0 h1
 subst h0
 have:=Kz h1
 exact congrArg (fun x=>(⟨x,[]⟩:Act)) this
section
variable (F gp cap g scap:Nat) (ns:List Nd) (bs:List Nat) (S:Nat→Bool) (w:World)
def o8 (j:Nat):Prop:=∀ k,k<j→gq (ai ns k) k S=true
theorem Xi (hf:FR w F gp cap ns bs) (hs:Rb w g ns.length S) (hg:Good ns) (hc:ns.length≤scap) (Q0:Exit→Act→World→Prop)
  (hx:xG ns S=true→∀ a' w'',a'.defers=[]→a'.tmps.size=257→(∃ m,w''=w.drewN m)→Q0 (.exit 0) a' w'')
  (hr:xG ns S=false→∀ a' w'',a'.defers=[]→a'.tmps.size=257→a'.tmps.getD 4 undef=.bool false→(∃ m,w''=w.drewN m)→Q0 .ret a' w'')
  (a:Act) (w':World) (hI:GI 257 [(0,.pointer (some ⟨F,0,none⟩)),(1,.slice (some ⟨g,0,none⟩) ns.length scap)] 5 ns.length (o8 ns S) w a w'):Code.wp Tryz.prog (Code.loop (dI Tryz.f120)) Q0 a w':=by
 refine wp_loop (GI 257 [(0,.pointer (some ⟨F,0,none⟩)),(1,.slice (some ⟨g,0,none⟩) ns.length scap)] 5 ns.length (o8 ns S) w) (GM 5 ns.length) hI ?_
 intro a w1 hI
 obtain ⟨d0,d1,d2,j,hj,d5,hP,m,rfl⟩:=hI
 have e0:=d2 _ (List.mem_cons_self ..)
 have e1:=d2 _ (List.mem_cons_of_mem _ (List.mem_cons_self ..))
 have hM:GM 5 ns.length a (w.drewN m)=ns.length - j:=by unfold GM;rw [d5];simp [intOf]
 rw [hM]
 obtain ⟨u,hu,ea⟩:=Ad d0 d1
 simp only at e0 e1
 rw [←hu] at e0 e1 d5
 rw [ea,e0,e1,d5]
 have hle:=hg.le
 have k0:=hf.c0
 have kc:=hf.hcap
 by_cases hlt:j<ns.length
 ·have c1:=hf.ptr j hlt
  have c2:=hf.op j hlt
  have sj:=hs.cell j hlt
  have hcl:=hg.wf j _ (iO hlt)
  have bg:∀ k,k<j→w.cell? ⟨bZ bs k,3,none⟩=some (.int .i64 k)∧w.cell? ⟨g,k,none⟩=some (.bool (S k)):=fun k hk=>⟨hf.nn k (by omega),hs.cell k (by omega)⟩
  have HY:gq (ai ns j) j S=true→o8 ns S (j+1):=fun h k hk=>by
   by_cases e:k<j
   ·exact hP k e
   ·rw [show k=j by omega];exact h
  have HN:gq (ai ns j) j S=false→∀ a' w'',a'.defers=[]→a'.tmps.size=257→a'.tmps.getD 4 undef=.bool false→(∃ m,w''=w.drewN m)→Q0 .ret a' w'':=fun h=>hr (I7 hlt h)
  have lp:=hf.lp j hlt
  have rp:=hf.rp j hlt
  rcases hcl with ⟨hop,_,_⟩ | ⟨hop,hl,_⟩ | ⟨hop,hl,hr2⟩
  ·rcases kV hop with e | e | e | e | e
   ·rw [acs S e] at HY HN
    rw [e] at c2
    exact Lp F gp cap g scap ns.length j (bZ bs j) (S j) u (o8 ns S) Q0 w m hc hle kc hlt k0 c1 c2 sj (hid HY) (hid HN)
   ·rw [acr S e] at HY HN
    rw [e] at c2
    exact Lm F gp cap g scap ns.length j (bZ bs j) (S j) u (o8 ns S) Q0 w m hc hle kc hlt k0 c1 c2 sj (hid HY) (hid HN)
   ·rw [Y7 S e] at HY HN
    rw [e] at c2
    exact IQ F gp cap g scap ns.length j (bZ bs j) (S j) u (o8 ns S) Q0 w m hc hle kc hlt k0 c1 c2 sj (hid (HY rfl))
   ·rw [Y6 S e] at HY HN
    rw [e] at c2
    exact IP F gp cap g scap ns.length j (bZ bs j) (S j) u (o8 ns S) Q0 w m hc hle kc hlt k0 c1 c2 sj (hid (HY rfl))
   ·rw [Y5 S e] at HY HN
    rw [e] at c2
    exact IM F gp cap g scap ns.length j (bZ bs j) (S j) u (o8 ns S) Q0 w m hc hle kc hlt k0 c1 c2 sj (hid (HY rfl))
  ·rcases mR hop with e | e | e | e
   ·rw [acv S e] at HY HN
    rw [e] at c2
    exact Ls F gp cap g scap ns.length j (bZ bs j) (ai ns j).l (bZ bs (ai ns j).l) (S j) (S (ai ns j).l) u (o8 ns S) Q0 w m hc hle kc hlt hl k0 c1 c2 sj (lp (by rw [e];rfl)) (bg _ hl).1 (bg _ hl).2 (hid HY) (hid HN)
   ·rw [acl S e] at HY HN
    rw [e] at c2
    exact Lg F gp cap g scap ns.length j (bZ bs j) (ai ns j).l (bZ bs (ai ns j).l) (S j) (S (ai ns j).l) u (o8 ns S) Q0 w m hc hle kc hlt hl k0 c1 c2 sj (lp (by rw [e];rfl)) (bg _ hl).1 (bg _ hl).2 (hid (HY rfl))
   ·rw [acp S e] at HY HN
    rw [e] at c2
    exact Ll F gp cap g scap ns.length j (bZ bs j) (ai ns j).l (bZ bs (ai ns j).l) (S j) (S (ai ns j).l) u (o8 ns S) Q0 w m hc hle kc hlt hl k0 c1 c2 sj (lp (by rw [e];rfl)) (bg _ hl).1 (bg _ hl).2 (hid HY) (hid HN)
   ·rw [aco S e] at HY HN
    rw [e] at c2
    exact Lj F gp cap g scap ns.length j (bZ bs j) (ai ns j).l (bZ bs (ai ns j).l) (S j) (S (ai ns j).l) u (o8 ns S) Q0 w m hc hle kc hlt hl k0 c1 c2 sj (lp (by rw [e];rfl)) (bg _ hl).1 (bg _ hl).2 (hid HY) (hid HN)
  ·rcases jL hop with e | e | e | e
   ·rw [acu S e] at HY HN
    rw [e] at c2
    exact Lr F gp cap g scap ns.length j (bZ bs j) (ai ns j).l (bZ bs (ai ns j).l) (ai ns j).r (bZ bs (ai ns j).r) (S j) (S (ai ns j).l) (S (ai ns j).r) u (o8 ns S) Q0 w m hc hle kc hlt hl hr2 k0 c1 c2 sj (lp (by rw [e];rfl)) (bg _ hl).1 (bg _ hl).2 (rp (by rw [e];rfl)) (bg _ hr2).1 (bg _ hr2).2 (hid HY) (hid HN)
   ·rw [Y4 S e] at HY HN
    rw [e] at c2
    exact IL F gp cap g scap ns.length j (bZ bs j) (ai ns j).l (bZ bs (ai ns j).l) (ai ns j).r (bZ bs (ai ns j).r) (S j) (S (ai ns j).l) (S (ai ns j).r) u (o8 ns S) Q0 w m hc hle kc hlt hl hr2 k0 c1 c2 sj (lp (by rw [e];rfl)) (bg _ hl).1 (bg _ hl).2 (rp (by rw [e];rfl)) (bg _ hr2).1 (bg _ hr2).2 (hid HY) (hid HN)
   ·rw [acm S e] at HY HN
    rw [e] at c2
    exact Lh F gp cap g scap ns.length j (bZ bs j) (ai ns j).l (bZ bs (ai ns j).l) (ai ns j).r (bZ bs (ai ns j).r) (S j) (S (ai ns j).l) (S (ai ns j).r) u (o8 ns S) Q0 w m hc hle kc hlt hl hr2 k0 c1 c2 sj (lp (by rw [e];rfl)) (bg _ hl).1 (bg _ hl).2 (rp (by rw [e];rfl)) (bg _ hr2).1 (bg _ hr2).2 (hid HY) (hid HN)
   ·rw [acn S e] at HY HN
    rw [e] at c2
    exact Li F gp cap g scap ns.length j (bZ bs j) (ai ns j).l (bZ bs (ai ns j).l) (ai ns j).r (bZ bs (ai ns j).r) (S j) (S (ai ns j).l) (S (ai ns j).r) u (o8 ns S) Q0 w m hc hle kc hlt hl hr2 k0 c1 c2 sj (lp (by rw [e];rfl)) (bg _ hl).1 (bg _ hl).2 (rp (by rw [e];rfl)) (bg _ hr2).1 (bg _ hr2).2 (hid HY) (hid HN)
 ·obtain rfl:j=ns.length:=by omega
  exact aal F gp cap g scap ns.length u _ Q0 w m hle kc k0 (hx (qi.2 hP))
theorem aaj (hf:FR w F gp cap ns bs) (hs:Rb w g ns.length S) (hg:Good ns) (hc:ns.length≤scap) :
  Calls Tryz.prog 120 #[.pointer (some ⟨F,0,none⟩),.slice (some ⟨g,0,none⟩) ns.length scap] w fun e w'=>e=.returned (.bool (xG ns S))∧∃ m,w'=w.drewN m:=by
 have L:=Xi F gp cap g scap ns bs S w hf hs hg hc
 have HL:=hid L
 clear L hf hs hg hc
 generalize ns.length=n at *
 go_enter Tryz.func120,Tryz.ntmps120
 go_wp2_with fail
 refine HL.out _ ?_ ?_ _ _ ?_
 ·intro h a' w'' d0 d1 hm
  obtain ⟨m,rfl⟩:=hm
  obtain ⟨u,_,rfl⟩:=Ad d0 d1
  have H:=hid h
  clear h HL d0 d1
  go_wp2_with fail
  go_ret
  exact ⟨by rw [H.out];rfl,m,rfl⟩
 ·intro h a' w'' d0 d1 h4 hm
  obtain ⟨m,rfl⟩:=hm
  obtain ⟨u,_,rfl⟩:=Ad d0 d1
  have H:=hid h
  have h5:u 4=.bool false:=h4
  have H5:=hid h5
  clear h HL d0 d1 h4 h5
  go_wp2_with fail
  go_ret
  exact ⟨by rw [H.out];exact congrArg Ending.returned H5.out,m,rfl⟩
 ·exact ⟨rfl,rfl,by simp,0,Nat.zero_le _,rfl,fun k hk=>by omega,0,rfl⟩
end
section
variable (F gp cap g scap:Nat) (ns:List Nd) (bs:List Nat) (S:Nat→Bool) (w:World)
theorem zG (x:Nat) (hx:x<8) (hf:FR w F gp cap ns bs) (hs:Rb w g ns.length S) (hg:Good ns) (hc:ns.length≤scap) :
  Calls Tryz.prog 81 #[.pointer (some ⟨F,0,none⟩),.slice (some ⟨g,0,none⟩) ns.length scap,.int .i64 x] w fun e w'=>e=.returned (.bool (gB ns S x))∧w'=w:=by
 have hle:=hg.le
 have k0:=hf.c0
 have kc:=hf.hcap
 have HN:=hid (fun k hk h=>I7 (ns:=ns) (p:=fun nd k=>nK nd k S x) (k:=k) hk h)
 have HY:=hid (qi (ns:=ns) (p:=fun nd k=>nK nd k S x)).2
 have HF:=hid hf
 have HS:=hid hs
 have HW:=hid hg.wf
 unfold gB
 generalize Cn ns (fun nd k=>nK nd k S x)=V at *
 have hlen:∃ n,n=ns.length:=⟨_,rfl⟩
 obtain ⟨n,hn⟩:=hlen
 rw [←hn] at k0 kc hle hc ⊢
 have Hg:=hid hn
 clear hn hf hs hg
 go_enter Tryz.func81,Tryz.ntmps81
 go_wp2_with fail
 go_loop [7] (fun i=>∃ j:Nat,j≤n∧i=.int .i64 j∧Hid (∀ k,k<j→nK (ai ns k) k S x=true)) (fun i=>n - (intOf i).toNat)
 case atStart=>exact ⟨0,Nat.zero_le _,rfl,hid (fun k hk=>by omega)⟩
 case round=>
  obtain ⟨j,hj,rfl,HI⟩:=hrel
  by_cases hlt:j<n
  ·have hjn:j<ns.length:=by rw [←Hg.out];exact hlt
   have c1:=HF.out.ptr j hjn
   have c2:=HF.out.op j hjn
   have sj:=HS.out.cell j hjn
   have hcl:=dx HW.out (iO hjn)
   have uu:Hid (nK (ai ns j) j S x=false→V=false):=hid (fun h=>HN.out j hjn h)
   have DV:Hid (nK (ai ns j) j S x=true→∀ k,k<j+1→nK (ai ns k) k S x=true):=hid (fun h k hk=>by
    by_cases e:k<j
    ·exact HI.out k e
    ·rw [show k=j by omega];exact h)
   have ho8:(ai ns j).op<256:=by
    rcases hcl.1 with h | h | h
    ·rcases kV h with e | e | e | e | e <;> omega
    ·rcases mR h with e | e | e | e <;> omega
    ·rcases jL h with e | e | e | e <;> omega
   have HV:Hid (nK (ai ns j) j S x=if (ai ns j).op=112∨(ai ns j).op=113∨(ai ns j).op=114 then jB x (ai ns j).op==S j else true):=hid rfl
   generalize nK (ai ns j) j S x=rv at *
   generalize (ai ns j).op=op at *
   generalize bZ bs j=b at *
   clear hcl
   generalize S j=va at *
   by_cases hp:op=112∨op=113∨op=114
   ·have SY:=zA x op w hx hp
    have pQ:Hid (rv=(jB x op==va)):=hid (by rw [HV.out,if_pos hp])
    generalize jB x op=sv at *
    rcases hp with rfl | rfl | rfl
    all_goals
     go_wp2_with fail
     refine SY.mono ?_
     rintro e w' ⟨rfl,rfl⟩
     go_wp2_with fail
     all_goals
      first
      | (go_round
       case rel=>exact ⟨j+1,by omega,by go_num,hid (DV.out (by rw [pQ.out];cases sv <;> cases va <;> first | rfl | contradiction))⟩
       case measure=>simp [intOf];omega)
      | (go_ret
       exact ⟨by rw [uu.out (by rw [pQ.out];cases sv <;> cases va <;> first | rfl | contradiction)];rfl,rfl⟩)
   ·have pQ:Hid (rv=true):=hid (by rw [HV.out,if_neg hp])
    have k1:((op:Int)==112)=false:=beq_eq_false_iff_ne.2 (by omega)
    have k2:((op:Int)==113)=false:=beq_eq_false_iff_ne.2 (by omega)
    have k3:((op:Int)==114)=false:=beq_eq_false_iff_ne.2 (by omega)
    clear hp
    go_wp2_with fail
    go_round
    case rel=>exact ⟨j+1,by omega,by go_num,hid (DV.out pQ.out)⟩
    case measure=>simp [intOf];omega
  ·have HT:Hid (V=true):=hid (HY.out (fun k hk=>HI.out k (by rw [←Hg.out] at hk;omega)))
   go_wp2_with fail
   go_ret
   exact ⟨by rw [HT.out];rfl,rfl⟩
theorem Ev (k:Nat) (hk:k<ns.length) (hf:FR w F gp cap ns bs) (hs:Rb w g ns.length S) (hg:Good ns) (hc:ns.length≤scap) :
  Calls Tryz.prog 83 #[.pointer (some ⟨F,0,none⟩),.slice (some ⟨g,0,none⟩) ns.length scap,.int .i64 k] w fun e w'=>e=.returned (.bool (fD (ai ns k) k S))∧w'=w:=by
 have hle:=hg.le
 have k0:=hf.c0
 have kc:=hf.hcap
 have c1:=hf.ptr k hk
 have c2:=hf.op k hk
 have sj:=hs.cell k hk
 have hcl:=dx hg.wf (iO hk)
 have bg:=hid (fun i (hi:i<k)=>(⟨hf.nn i (by omega),hs.cell i (by omega)⟩:w.cell? ⟨bZ bs i,3,none⟩=some (.int .i64 i)∧w.cell? ⟨g,i,none⟩=some (.bool (S i))))
 have lp:=hid (hf.lp k hk)
 have rp:=hid (hf.rp k hk)
 clear hf hs hg
 have HV:Hid (fD (ai ns k) k S=if (ai ns k).op=70 then S (ai ns k).l||!S k else if (ai ns k).op=85 then S (ai ns k).r||!S k else if (ai ns k).op=71 then S k||!S (ai ns k).l else if (ai ns k).op=82 then S k||!S (ai ns k).r else true):=hid rfl
 generalize fD (ai ns k) k S=V at *
 generalize ai ns k=nd at *
 generalize bZ bs k=b at *
 have AR:ns.length≤8:=hle
 generalize ns.length=n at *
 by_cases h1:nd.op=70
 ·have lpp:=lp.out (by rw [h1];rfl)
  obtain ⟨ln,ls⟩:=bg.out nd.l (hcl.2.1 (by rw [h1];rfl))
  have hlk:=hcl.2.1 (by rw [h1];rfl)
  have pQ:Hid (V=(S nd.l||!S k)):=hid (by rw [HV.out,if_pos h1])
  rw [h1] at c2
  clear HV h1 lp rp hcl
  generalize nd.l=l at *
  generalize bZ bs l=bl at *
  generalize S l=vl at *
  generalize S k=vk at *
  cases vl <;> cases vk
  all_goals
   go_enter Tryz.func83,Tryz.ntmps83
   go_wp2_with fail
   go_ret
   exact ⟨by rw [pQ.out];rfl,rfl⟩
 by_cases h2:nd.op=85
 ·have rpp:=rp.out (by rw [h2];rfl)
  obtain ⟨rn,rs⟩:=bg.out nd.r (hcl.2.2 (by rw [h2];rfl))
  have WK:=hcl.2.2 (by rw [h2];rfl)
  have pQ:Hid (V=(S nd.r||!S k)):=hid (by rw [HV.out,if_neg h1,if_pos h2])
  rw [h2] at c2
  clear HV h1 h2 lp rp hcl
  generalize nd.r=r at *
  generalize bZ bs r=br at *
  generalize S r=vl at *
  generalize S k=vk at *
  cases vl <;> cases vk
  all_goals
   go_enter Tryz.func83,Tryz.ntmps83
   go_wp2_with fail
   go_ret
   exact ⟨by rw [pQ.out];rfl,rfl⟩
 by_cases h3:nd.op=71
 ·have lpp:=lp.out (by rw [h3];rfl)
  obtain ⟨ln,ls⟩:=bg.out nd.l (hcl.2.1 (by rw [h3];rfl))
  have hlk:=hcl.2.1 (by rw [h3];rfl)
  have pQ:Hid (V=(S k||!S nd.l)):=hid (by rw [HV.out,if_neg h1,if_neg h2,if_pos h3])
  rw [h3] at c2
  clear HV h1 h2 h3 lp rp hcl
  generalize nd.l=l at *
  generalize bZ bs l=bl at *
  generalize S l=vl at *
  generalize S k=vk at *
  cases vl <;> cases vk
  all_goals
   go_enter Tryz.func83,Tryz.ntmps83
   go_wp2_with fail
   go_ret
   exact ⟨by rw [pQ.out];rfl,rfl⟩
 by_cases h4:nd.op=82
 ·have rpp:=rp.out (by rw [h4];rfl)
  obtain ⟨rn,rs⟩:=bg.out nd.r (hcl.2.2 (by rw [h4];rfl))
  have WK:=hcl.2.2 (by rw [h4];rfl)
  have pQ:Hid (V=(S k||!S nd.r)):=hid (by rw [HV.out,if_neg h1,if_neg h2,if_neg h3,if_pos h4])
  rw [h4] at c2
  clear HV h1 h2 h3 h4 lp rp hcl
  generalize nd.r=r at *
  generalize bZ bs r=br at *
  generalize S r=vl at *
  generalize S k=vk at *
  cases vl <;> cases vk
  all_goals
   go_enter Tryz.func83,Tryz.ntmps83
   go_wp2_with fail
   go_ret
   exact ⟨by rw [pQ.out];rfl,rfl⟩
 have pQ:Hid (V=true):=hid (by rw [HV.out,if_neg h1,if_neg h2,if_neg h3,if_neg h4])
 generalize nd.op=op at *
 have q1:((op:Int)==70)=false:=beq_eq_false_iff_ne.2 (by omega)
 have q2:((op:Int)==85)=false:=beq_eq_false_iff_ne.2 (by omega)
 have q3:((op:Int)==71)=false:=beq_eq_false_iff_ne.2 (by omega)
 have q4:((op:Int)==82)=false:=beq_eq_false_iff_ne.2 (by omega)
 clear HV h1 h2 h3 h4 lp rp hcl
 go_enter Tryz.func83,Tryz.ntmps83
 go_wp2_with fail
 go_ret
 exact ⟨by rw [pQ.out];rfl,rfl⟩
end
theorem Tryz.QV:(Tryz.prog.info? 138).map (fun i=>(i.zero,i.size,i.bytes))=some (some (.slice none 0 0),1,24):=by kernel_rfl
def jV (v:Nat):Nat→Bool:=fun k=>v.testBit k
def uW (ns:List Nd) (v:Nat):Bool:=xG ns (jV v)&&(List.range 8).any fun a=>gB ns (jV v) a
def dn (ns:List Nd) (j:Nat):List Nat:=(List.range j).filter (uW ns)
def fA (n:Nat) (b:Nat):Value:=.slice (some ⟨b,0,none⟩) n n
def bG (vs:List Nat) (i:Nat):Nat:=vs.getD i 0
def uB (w:World) (B:Nat) (v:Value) (n:Nat) (vs:List Nat):Prop:=
 ∃ b:Nat→Nat,w.ownsRow B 138 1 v vs.length ((List.range vs.length).map fun i=>fA n (b i))∧∀ i,i<vs.length→w.ownsRow B 4 1 (fA n (b i)) n (aj (jV (bG vs i)) n n)
theorem uB.keeps {w w':World} {B:Nat} {v:Value} {n:Nat} {vs:List Nat} (h:uB w B v n vs) (hb:Below w.heap.size w w'):uB w' B v n vs:=by
 obtain ⟨b,h1,h2⟩:=h
 exact ⟨b,ae h1 hb,fun i hi=>ae (h2 i hi) hb⟩
theorem Mm {w:World} {B n b:Nat} {f:Nat→Bool} (hn:0<n) (h:w.ownsRow B 4 1 (fA n b) n (aj f n n)):Rb w b n f:=by
 unfold fA at h
 refine ⟨?_,fun i hi=>?_⟩
 ·rcases h.2 with ⟨e,h0⟩ | ⟨g,cap,cur,e,_,hg,_⟩
  ·omega
  ·cases e
   exact bO hg
 ·rw [h.cellAt i (by omega)]
  exact jv f n i hi
theorem YH {ns:List Nd} {j:Nat} (h:uW ns j=true):dn ns (j+1)=dn ns j++[j]:=by simp [dn,List.range_succ,List.filter_append,h]
theorem Qz {ns:List Nd} {j:Nat} (h:uW ns j=false):dn ns (j+1)=dn ns j:=by simp [dn,List.range_succ,List.filter_append,h]
theorem LQ (ns:List Nd) (j:Nat):(dn ns j).length≤j:=by
 have:=List.length_filter_le (uW ns) (List.range j)
 simpa [dn] using this
theorem Ip {f:Nat→Value} {l:List Nat} {x:Value}:(List.range (l.length+1)).map (fun i=>if i=l.length then x else f i)=(List.range l.length).map f++[x]:=by
 rw [List.range_succ,List.map_append]
 congr 1
 ·apply List.map_congr_left
  intro i hi
  rw [List.mem_range] at hi
  rw [if_neg (by omega)]
 ·simp
theorem Vl {w w0 w1:World} {B:Nat} {v:Value} {n:Nat} {vs:List Nat} {b:Nat→Nat} {j g gg cc:Nat} (h1:w.ownsRow B 138 1 v vs.length ((List.range vs.length).map fun i=>fA n (b i)))
  (h2:∀ i,i<vs.length→w.ownsRow B 4 1 (fA n (b i)) n (aj (jV (bG vs i)) n n)) (hs:w.ownsRow B 4 1 (fA n g) n (aj (jV j) n n)) (hb:Below w.heap.size w w0) (hgrow:w0.grownBy w1 v.ownBlock)
  (hown:w1.ownsRow B 138 1 (.slice (some ⟨gg,0,none⟩) (vs.length+1) cc) (vs.length+1) (((List.range vs.length).map fun i=>fA n (b i))++[fA n g])) :
  uB w1 B (.slice (some ⟨gg,0,none⟩) (vs.length+1) cc) n (vs++[j]):=by
 refine ⟨fun i=>if i=vs.length then g else b i,?_,fun i hi=>?_⟩
 ·rw [List.length_append,List.length_singleton]
  have this:=hown
  rw [←Ip (f:=fun i=>fA n (b i))] at this
  have e:(List.range (vs.length+1)).map (fun i=>fA n (if i=vs.length then g else b i))=(List.range (vs.length+1)).map (fun i=>if i=vs.length then fA n g else fA n (b i)):=by
   apply List.map_congr_left
   intro i _
   by_cases e:i=vs.length <;> simp [e]
  rw [e];exact this
 ·rw [List.length_append,List.length_singleton] at hi
  by_cases e:i=vs.length
  ·subst e
   simp only [if_true]
   rw [show bG (vs++[j]) vs.length=j by simp [bG,List.getD]]
   exact (ae hs hb).kept hgrow (aD (ae hs hb) (ae h1 hb) (by decide))
  ·simp only [if_neg e]
   rw [show bG (vs++[j]) i=bG vs i by simp [bG,List.getD,List.getElem?_append_left (show i<vs.length by omega)]]
   exact (ae (h2 i (by omega)) hb).kept hgrow (aD (ae (h2 i (by omega)) hb) (ae h1 hb) (by decide))
theorem JC {k:Nat} (hk:k≤8):wrap64 (2 ^ k)=((2 ^ k:Nat):Int)∧2 ^ k≤256:=by
 have h:∀ k:Fin 9,(2:Int) ^ k.val≤256∧0≤(2:Int) ^ k.val∧((2 ^ k.val:Nat):Int)=2 ^ k.val∧2 ^ k.val≤256:=by decide
 have:=h ⟨k,by omega⟩
 simp only at this
 exact ⟨by rw [this.2.2.1];exact IntWalk.wrap64_in _ ⟨by omega,by omega⟩,this.2.2.2⟩
theorem aaM {p:Nat→Bool} {a:Nat}:(List.range (a+1)).any p=((List.range a).any p||p a):=by simp [List.range_succ]
theorem Y8 (F gp cap:Nat) (ns:List Nd) (bs:List Nat) (w:World) (hf:FR w F gp cap ns bs) (hg:Good ns) :
  Calls Tryz.prog 73 #[.pointer (some ⟨F,0,none⟩)] w fun e w'=>∃ v,e=.returned v∧uB w' w.heap.size v ns.length (dn ns (2 ^ ns.length))∧Below w.heap.size w w':=by
 have hle:=hg.le
 have hpos:=hg.pos
 have k0:=hf.c0
 have kc:=hf.hcap
 have hF:=hf.JL
 have hgp:=hf.ltp
 obtain ⟨i0,hi,hz0,hz1,hz2⟩:=info_parts Tryz.dw
 obtain ⟨i1,hi1,hz01,hz11,hz21⟩:=info_parts Tryz.QV
 have FT:=hid (fun (W:World) (b:Nat) S (h1:Below w.heap.size w W) (h2:Rb W b ns.length S)=>aaj F gp cap b ns.length ns bs S W (hf.below h1) h2 hg (Nat.le_refl _))
 have RD:=hid (fun (W:World) (b:Nat) S (a:Nat) (ha:a<8) (h1:Below w.heap.size w W) (h2:Rb W b ns.length S)=>zG F gp cap b ns.length ns bs S W a ha (hf.below h1) h2 hg (Nat.le_refl _))
 have HGV:Hid (∀ v,uW ns v=(xG ns (jV v)&&(List.range 8).any fun a=>gB ns (jV v) a)):=hid (fun v=>rfl)
 clear hf hg
 generalize ns.length=n at *
 obtain ⟨M,hM⟩:∃ M,M=2 ^ n:=⟨_,rfl⟩
 have pw:wrap64 (2 ^ n)=(M:Int):=by rw [hM];exact (JC hle).1
 have pm:M≤256:=by rw [hM];exact (JC hle).2
 rw [←hM]
 clear hM
 go_enter Tryz.func73,Tryz.ntmps73
 go_wp2_with fail
 go_loopw [5,3] (fun i s wr=>∃ j:Nat,j≤M∧i=.int .i64 j∧Hid (uB wr w.heap.size s n (dn ns j))∧Below w.heap.size w wr) (fun i _ _=>M - (intOf i).toNat)
 case atStart=>exact ⟨0,Nat.zero_le _,rfl,hid ⟨fun _=>0,by simpa [dn] using World.ownsRow_nil _ _ _ _,fun i hi=>by simp [dn] at hi⟩,Below.refl _ _⟩
 case round=>
  obtain ⟨j,hj,rfl,HL,hb⟩:=hrel
  rename World=>W0
  have hsz:=hb.size
  by_cases hlt:j<M
  ·have kd:decide ((j:Int)<(M:Int))=true:=by simp;omega
   go_wp2_with (at_make;go_must (refine wpList_make_full _ rfl (.tmp 23) (.tmp 23) 138 rfl w.heap.size 4 i0 (.bool false) 1 Tryz.underlying138 hi hz0 hz1 .i64 .i64 n n n rfl rfl rfl rfl ?m2 ?m3 hsz ?_))
   case m2=>rw [hz2];omega
   case m3=>unfold maxLen;omega
   intro w1 ay grow1
   have eo:(madeCells #[Value.bool false] n).toList=List.replicate n (.bool false):=toList_madeCells_one _ _
   rw [eo,←bJ (jV j)] at ay
   have hb1:Below W0.heap.size W0 w1:=(Below.refl _ _).grown grow1 (Nat.le_refl _) (fun k h=>by cases h)
   have hs1:W0.heap.size<w1.heap.size:=(ay.lt _ rfl).2
   have OS:=hid ay
   have HB1:=hid hb1
   clear ay grow1 eo hb1 pw kd
   go_wp2_with fail
   go_loopw [7] (fun i wq=>∃ k:Nat,k≤n∧i=.int .i64 k∧Hid (wq.ownsRow w.heap.size 4 1 (.slice (some ⟨W0.heap.size,0,none⟩) n n) n (aj (jV j) n k))∧Below W0.heap.size W0 wq) (fun i _=>n - (intOf i).toNat)
   case atStart=>exact ⟨0,Nat.zero_le _,rfl,OS,HB1.out⟩
   case round=>
    obtain ⟨k,hk,rfl,HO,hbq⟩:=hrel
    by_cases hlk:k<n
    ·have own:=HO.out
     have q0:=own.frozenAt k
     have q1:(wr.cell? ⟨W0.heap.size,k,none⟩).isSome=true:=by
      rw [own.cellAt k (by omega)]
      simp [aj,hlk]
     obtain ⟨qv,q2⟩:=Option.isSome_iff_exists.1 q1
     have hO:=own.stored k (.bool (jV j k))
     rw [dX] at hO
     have lg:=hid hO.1
     have HB2:=hid (hbq.setCell (p:=⟨W0.heap.size,k,none⟩) (Nat.le_refl _) (.bool (jV j k)))
     have HBV:Hid ((bits BinOp.and IntKind.i64 ((j:Int) / 2 ^ k) 1==1)=jV j k):=hid (QZ ⟨j,by omega⟩ ⟨k,by omega⟩)
     clear hO q1 own HO
     go_wp2_with fail
     go_roundw
     case rel=>
      have o:=lg.out
      have g:=HB2.out
      rw [←HBV.out] at o g
      exact ⟨k+1,by omega,by go_num,hid o,g⟩
     case measure=>simp [intOf];omega
    ·obtain rfl:k=n:=by omega
     rename World=>W1
     have own:=HO.out
     have rb:Rb W1 W0.heap.size k (jV j):=Mm hpos own
     have bw:Below w.heap.size w W1:=hb.trans (hbq.mono hsz)
     have C:=FT.out W1 W0.heap.size (jV j) bw rb
     obtain ⟨rvf,hrvf⟩:∃ rvf:Nat→Bool,rvf=fun a=>gB ns (jV j) a:=⟨_,rfl⟩
     have HGJ:Hid (uW ns j=(xG ns (jV j)&&(List.range 8).any rvf)):=hid (by rw [hrvf];exact HGV.out j)
     have HRV:Hid (∀ a,gB ns (jV j) a=rvf a):=hid (fun a=>by rw [hrvf])
     clear hrvf
     have HOW:=hid own
     have DR:=hid rb
     have uN:=hid bw
     have KV:=hid (HL.out.keeps hbq)
     have hsz1:=hbq.size
     clear own rb bw hbq HO HL OS HB1
     generalize xG ns (jV j)=fv at *
     go_wp2_with fail
     refine C.mono ?_
     rintro e w2 ⟨rfl,m,rfl⟩
     clear C
     have RD2:=hid (fun a ha=>RD.out (W1.drewN m) W0.heap.size (jV j) a ha (below_drewN uN.out m) (DR.out.drewN m))
     go_wp2_with fail
     go_loop [10,9] (fun a s=>∃ x:Nat,x≤8∧a=.int .i64 x∧s=.bool ((List.range x).any rvf)) (fun a _=>8 - (intOf a).toNat)
     case atStart=>exact ⟨0,Nat.zero_le _,rfl,rfl⟩
     case round=>
      obtain ⟨x,hx,rfl,rfl⟩:=hrel
      by_cases AQ:x<8
      ·have R:=RD2.out x AQ
       rw [HRV.out x] at R
       have HAN:Hid ((List.range (x+1)).any rvf=((List.range x).any rvf||rvf x)):=hid aaM
       generalize rvf x=rv at *
       generalize (List.range x).any rvf=cur at *
       cases cur
       ·go_wp2_with fail
        refine R.mono ?_
        rintro e w3 ⟨rfl,rfl⟩
        go_wp2_with fail
        go_round
        case rel=>exact ⟨x+1,by omega,by go_num,by rw [HAN.out];rfl⟩
        case measure=>simp [intOf];omega
       ·go_wp2_with fail
        refine R.mono ?_
        rintro e w3 ⟨rfl,rfl⟩
        go_wp2_with fail
        go_round
        case rel=>exact ⟨x+1,by omega,by go_num,by rw [HAN.out];rfl⟩
        case measure=>simp [intOf];omega
      ·obtain rfl:x=8:=by omega
       generalize (List.range 8).any rvf=sv at *
       cases fv
       ·have HN:=hid (Qz (by rw [HGJ.out];rfl):dn ns (j+1)=dn ns j)
        go_wp2_with fail
        go_roundw
        case rel=>exact ⟨j+1,by omega,by go_num,by rw [HN.out];exact hid (KV.out.keeps (below_drewN (Below.refl _ _) m)),below_drewN uN.out m⟩
        case measure=>simp [intOf];omega
       ·cases sv
        ·have HN:=hid (Qz (by rw [HGJ.out];rfl):dn ns (j+1)=dn ns j)
         go_wp2_with fail
         go_roundw
         case rel=>exact ⟨j+1,by omega,by go_num,by rw [HN.out];exact hid (KV.out.keeps (below_drewN (Below.refl _ _) m)),below_drewN uN.out m⟩
         case measure=>simp [intOf];omega
        ·have HN:=hid (YH (by rw [HGJ.out];rfl):dn ns (j+1)=dn ns j++[j])
         have hvl:=LQ ns j
         have HL2:=hid (KV.out.keeps (below_drewN (Below.refl W1.heap.size W1) m))
         have aju:=hid (ae HOW.out (below_drewN (Below.refl W1.heap.size W1) m))
         obtain ⟨bb,so,sr⟩:=HL2.out
         have KN:=hid sr
         have hbd:Below w.heap.size w (W1.drewN m):=below_drewN uN.out m
         have PK:=hid hbd
         have hsd:=hbd.size
         clear sr HL2 hbd RD2 HRV KV HOW uN DR
         generalize dn ns j=vs at *
         have hsl:vs.length≤300:=by omega
         generalize W1.drewN m=W2 at *
         go_wp2_with (at_builtin;go_must (refine wpList_append_lies _ rfl (.tmp 57) (.tmp 59) 130 rfl w.heap.size 138 i1 (.slice none 0 0) 1 24 Tryz.underlying130 hi1 hz01 hz11 hz21 rfl (by decide) _ _ _ rfl (so.alloc _) ⟨W2.heap.size,0,none⟩ 1 1 [.slice (some ⟨W0.heap.size,0,none⟩) k k] rfl rfl ?e1 ?c2 (by decide) ?c3 ?c4 ?c5 _ rfl ?_))
         case c2=>first | (intro u hu;simp at hu;subst hu;rfl) | rfl | (simp [Value.oneCell'];done) | (go_simp;done) | trace_state
         case c3=>first | (unfold maxLen;omega) | omega
         case c4=>omega
         case c5=>first | omega | (simp;omega)
         intro gg cc w3 hown hgrow hat hlt3
         have PU:=hid (Vl (j:=j) so KN.out aju.out ((Below.refl _ _).alloc (Nat.le_refl _) _) hgrow hown)
         have B3:=hid ((PK.out.alloc hsd _).grown hgrow (by simp;omega) (fun k h=>(so.lt k h).1))
         clear hown hgrow hat so
         go_wp2_with fail
         go_roundw
         case rel=>exact ⟨j+1,by omega,by go_num,by rw [HN.out];exact PU,B3.out⟩
         case measure=>simp [intOf];omega
  ·obtain rfl:j=M:=by omega
   have kd:decide ((j:Int)<(j:Int))=false:=by simp
   go_wp2_with fail
   go_ret
   exact ⟨_,rfl,HL.out,hb⟩
end Go.Proofs.YtjagijohfkffiabGreat
