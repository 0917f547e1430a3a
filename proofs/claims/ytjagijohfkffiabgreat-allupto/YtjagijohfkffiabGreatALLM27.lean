import Derived.Test.YtjagijohfkffiabGreatALLM13
import Derived.Test.YtjagijohfkffiabGreatALLM21
import Derived.Test.YtjagijohfkffiabGreatALLM26
import Derived.ProofKit
import Derived.OpenShut
import Derived.ShutString
import Derived.ChangeOld
set_option maxHeartbeats 16000000
set_option maxRecDepth 100000
namespace Go.Proofs.YtjagijohfkffiabGreat
open Go.RowKit
set_option linter.unusedVariables false
def wY (f:Nat→Nat) (k:Nat):Nat→Nat:=fun i=>if i<k then f i else 0
theorem RZ (f:Nat→Nat) (k:Nat):RX (wY f k) k (f k)=wY f (k+1):=by
 funext j
 unfold RX wY
 by_cases e:j=k
 ·subst e;simp
 ·by_cases h:j<k
  ·rw [if_neg e,if_pos h,if_pos (by omega)]
  ·rw [if_neg e,if_neg h,if_neg (by omega)]
theorem RY (f:Nat→Nat):wY f 0=fun _=>0:=by funext j;simp [wY]
def aI (ns:List Nd) (k:Nat):List (Nat→Bool):=((List.range k).filter fun i=>ky (ai ns i).op).map fun i=>jm i (gF (ai ns i))
theorem Cc (ns:List Nd) (k:Nat):aI ns (k+1)=aI ns k++(if ky (ai ns k).op=true then [jm k (gF (ai ns k))] else []):=by
 unfold aI
 rw [List.range_succ,List.filter_append,List.map_append]
 cases e:ky (ai ns k).op <;> simp [e]
theorem pK (ns:List Nd):∀ k,(aI ns k).length≤k
 | 0=>by simp [aI]
 | k+1=>by
  have:=pK ns k
  rw [Cc,List.length_append]
  split <;> simp <;> omega
theorem Ac (cs:List (Nat→Bool)) (c:Nat→Bool):mE (cs++[c])=mE cs++gv c:=by simp [mE]
theorem DF.drew {w:World} {gn:Nat} {ns:List Nd} (h:DF w gn ns):DF w.drew gn ns:=⟨h.lt,h.c0,h.c1,h.c2⟩
theorem bW.drew {w:World} {b N:Nat} {c:Nat→Value} (h:bW w b N c):bW w.drew b N c:=⟨h.c,h.f⟩
theorem PV {w:World} {b o n:Nat} (h:w.there b o n):w.drew.there b o n:=h
theorem EE (w:World) (g:Nat→Bool) (t:TypeId):∀ j u,(gv g)[j]?=some u→(w.alloc (.cells (gv g).toArray t)).cell? ((⟨w.heap.size,0,none⟩:Addr).add j)=some u:=fun j u hj=>by
 rw [Addr.add_mid]
 exact (sS w g t).r9 j u hj
def kL (w:World) (B:Nat) (sl:Value) (cs:List (Nat→Bool)):Prop:=∃ ao cap,sl=.slice ao cs.length cap∧(0<cs.length→∃ gc,ao=some ⟨gc,0,none⟩∧B≤gc∧gc<w.heap.size∧∀ k c,cs[k]?=some c→aN w gc (k*256) c)
theorem XG {w:World} {B:Nat} {sl:Value} {cs:List (Nat→Bool)} (h:w.ownsRow B 61 256 sl cs.length (mE cs)):kL w B sl cs:=by
 obtain ⟨ao,cap,e,h2⟩:=Ce h
 refine ⟨ao,cap,e,fun h0=>?_⟩
 obtain ⟨gc,h3,h4,h5⟩:=h2 h0
 subst h3
 subst e
 exact ⟨gc,rfl,(h.lt _ rfl).1,h4,h5⟩
theorem kL.v {w:World} {B:Nat} {sl:Value} {cs:List (Nat→Bool)} (h:kL w B sl cs):Aw w sl cs:=by
 obtain ⟨ao,cap,e,h2⟩:=h
 exact ⟨ao,cap,e,fun h0=>(h2 h0).imp fun gc ⟨a,_,b,c⟩=>⟨a,b,c⟩⟩
theorem kL.one {w:World} {B:Nat} {sl:Value} {cs:List (Nat→Bool)} (h:kL w B sl cs):sl.oneCell'=true:=by
 obtain ⟨ao,cap,rfl,_⟩:=h
 rfl
theorem kL.below {w w':World} {B:Nat} {sl:Value} {cs:List (Nat→Bool)} (h:kL w B sl cs) (hb:Below w.heap.size w w'):kL w' B sl cs:=by
 obtain ⟨ao,cap,h1,h2⟩:=h
 refine ⟨ao,cap,h1,fun h0=>?_⟩
 obtain ⟨gc,h3,h6,h4,h5⟩:=h2 h0
 exact ⟨gc,h3,h6,Nat.lt_of_lt_of_le h4 hb.size,fun k c hk=>(h5 k c hk).below hb h4⟩
theorem kL.stored {w w1:World} {B b o:Nat} {sl:Value} {cs:List (Nat→Bool)} {g:Nat→Bool} (h:kL w B sl cs) (s:sZ w b o g w1) (hb:b<B):kL w1 B sl cs:=by
 obtain ⟨ao,cap,h1,h2⟩:=h
 refine ⟨ao,cap,h1,fun h0=>?_⟩
 obtain ⟨gc,h3,h6,h4,h5⟩:=h2 h0
 exact ⟨gc,h3,h6,by rw [s.size];exact h4,fun k c hk=>s.wI (h5 k c hk) (Or.inl (by omega))⟩
theorem kL.Ib {w w1:World} {B b N:Nat} {sl:Value} {cs:List (Nat→Bool)} {r:Nat→Value} (h:kL w B sl cs) (s:yQ w b N r w1) (hb:b<B):kL w1 B sl cs:=by
 obtain ⟨ao,cap,h1,h2⟩:=h
 refine ⟨ao,cap,h1,fun h0=>?_⟩
 obtain ⟨gc,h3,h6,h4,h5⟩:=h2 h0
 exact ⟨gc,h3,h6,by rw [s.size];exact h4,fun k c hk=>⟨fun j hj=>by rw [s.cell ⟨gc,k*256+j,none⟩ (by show gc≠b;omega)];exact (h5 k c hk).c j hj,fun j hj=>by rw [s.fz];exact (h5 k c hk).f j hj⟩⟩
theorem kL.set {w:World} {B:Nat} {sl:Value} {cs:List (Nat→Bool)} (h:kL w B sl cs) (p:Addr) (v:Value) (hb:p.block<B):kL (w.setCell p v) B sl cs:=by
 obtain ⟨ao,cap,h1,h2⟩:=h
 refine ⟨ao,cap,h1,fun h0=>?_⟩
 obtain ⟨gc,h3,h6,h4,h5⟩:=h2 h0
 exact ⟨gc,h3,h6,by rw [World.size_setCell];exact h4,fun k c hk=>(h5 k c hk).other p v (Or.inl (by omega))⟩
theorem acE {fn:Func} {p b N:Nat} {ty:TypeId} {d:TypeDesc} {c:Nat→Value} {a:Act} {w:World} {R:Ending→World→Prop} (h:fn.results=#[.cell p ty]) (hd:a.defers=[]) (hp:a.tmps.getD p undef=.pointer (some ⟨b,0,none⟩))
  (hg:bW w b N c) (hu:Tryz.prog.underlying ty=some d) (hr:d.isRow=true) (hs:(Tryz.prog.info? ty).map (·.size)=some N) (hR:R (.returned (.agg (rv c N).toArray)) w):bodyPost Tryz.prog fn R .ret a w:=by
 refine bodyPost_ret (v:=.agg (rv c N).toArray) ?_ hd hR
 rw [mi h,hp]
 simp only [asAddr,Sem.run_pure,Result.andThen_ok]
 exact run_loadVar_mid w b 0 _ (rv c N) d hg.r9 hu hr (by rw [nQ];exact hs)
def aB (ns:List Nd) (aa:Nat→Bool):Nat→Bool:=fun v=>aa v&&v.testBit (ns.length - 1)
theorem Tryz.MJ:∃ d,Tryz.prog.underlying 63=some d∧d.isRow=true:=⟨_,Tryz.underlying63,rfl⟩
theorem zO (gn m1 ncap:Nat) (ns:List Nd) (w:World) (hm:DF w gn ns) (hg:Good ns) (hlm:ns.length=m1+1) :
  Calls Tryz.prog 31 #[.slice (some ⟨gn,0,none⟩) (m1+1) ncap] w fun e w'=>∃ sl aa,e=.returned (.agg (rv (bX (lS ns) sl aa (aB ns aa)) 2561).toArray)∧gW ns (aI ns ns.length) aa∧Aw w' sl (aI ns ns.length)∧sl.oneCell'=true∧Below w.heap.size w w':=by
 have h8:=hg.le
 have HG:=hid hg
 have HM:=hid hm
 have hgn:=hm.lt
 have nu:=hid hlm
 have hm8:m1+1≤8:=by omega
 obtain ⟨od,hod,hor⟩:=Tryz.MJ
 have HOD:=hid (And.intro hod hor)
 have qP:=hid Tryz.wC
 have HZC:Hid ((Value.agg (gv fun _=>false).toArray).cells.size=256):=hid (by show (gv fun _=>false).toArray.size=256;rw [List.size_toArray,jN])
 obtain ⟨i0,hi,hz0,hz1,hz2⟩:=info_parts Tryz.BJ
 clear hg hm hlm hod hor
 go_enter Tryz.func31,Tryz.ntmps31
 go_wp2_with (refine dE rfl 63 (.tmp 3) (.tmp 11) rfl (w.heap.size+1) 2561 (bX (fun _=>0) (.slice none 0 0) (fun _=>false) (fun _=>false)) rfl (congrArg Value.agg qP.out) ?t1 Tryz.qz (sN _ _ _ rfl) ?_)
 case t1=>
  have:=kS (w.alloc (.cells Tryz.zeroCells63 63)) (bX (fun _=>0) (.slice none 0 0) (fun _=>false) (fun _=>false)) 2561 63
  rw [←qP.out,size_alloc] at this
  exact this.there 0 2561 (by omega)
 intro w1 S1
 have R3:=hid S1.at_
 have R2:Hid (bW w1 w.heap.size 2561 (bX (fun _=>0) (.slice none 0 0) (fun _=>false) (fun _=>false))):=by
  have:=kS w (bX (fun _=>0) (.slice none 0 0) (fun _=>false) (fun _=>false)) 2561 63
  rw [←qP.out] at this
  exact hid (S1.raw (this.below ((Below.refl (w.heap.size+1) _).alloc (by simp) (.cells Tryz.zeroCells63 63)) (by omega)) (by omega))
 have HB1:Hid (Below w.heap.size w w1):=hid (S1.aO _ _ (by omega) (((Below.refl _ _).alloc (Nat.le_refl _) _).alloc (by simp) _))
 have hs1:w.heap.size+1<w1.heap.size:=by rw [S1.size];simp
 have R2:=hid (R2.out.there 0 2561 (by omega))
 clear S1
 go_wp2_with fail
 go_loopw [12] (fun i wq=>∃ x:Nat,x≤8∧i=.int .i64 x∧Hid (bW wq (w.heap.size+1) 2561 (bX (wY (lS ns) (x*256)) (.slice none 0 0) (fun _=>false) (fun _=>false)))∧Hid (wq.there w.heap.size 0 2561)∧w.heap.size+1<wq.heap.size∧Hid (Below w.heap.size w wq)) (fun i _=>8 - (intOf i).toNat)
 case atStart=>exact ⟨0,by omega,rfl,by rw [Nat.zero_mul,RY];exact R3,R2,hs1,HB1⟩
 case round=>
  obtain ⟨x,hx,rfl,H3,H2,hz,HB⟩:=hrel
  rename World=>W0
  by_cases hlx:x<8
  ·go_wp2_with fail
   go_loopw [15] (fun i wq=>∃ N:Nat,N≤256∧i=.int .i64 N∧Hid (bW wq (w.heap.size+1) 2561 (bX (wY (lS ns) (x*256+N)) (.slice none 0 0) (fun _=>false) (fun _=>false)))∧Hid (wq.there w.heap.size 0 2561)∧w.heap.size+1<wq.heap.size∧Hid (Below w.heap.size w wq)) (fun i _=>256 - (intOf i).toNat)
   case atStart=>exact ⟨0,by omega,rfl,H3,H2,hz,HB⟩
   case round=>
    obtain ⟨N,hN,rfl,H3,H2,hz,HB⟩:=hrel
    rename World=>W3
    by_cases hlN:N<256
    ·have BF:=fun W (h:DF W gn ns)=>Ut gn (m1+1) ncap x N ns W h HG.out nu.out hlx hlN
     have HND:=hid (HM.out.below HB.out hgn).drew
     have H3:=hid H3.out.drew
     have H2:=hid (PV H2.out)
     have HB:=hid HB.out.drew
     have hz':w.heap.size+1<W3.drew.heap.size:=hz
     have HE:Hid (lS ns (x*256+N)=eT ns x N):=hid (by unfold lS;rw [show (x*256+N) / 256=x by omega,show (x*256+N) % 256=N by omega])
     go_wp2_with fail
     go_region_held3 (fun _=>True) (trivial) ((go_at_call 62;refine (BF _ (by exact HND.out)).mono ?_;rintro e w9 ⟨rfl,hb9⟩;have q0:=(H3.out.below hb9 hz').f (x*256+N) (by omega);have q1:=(H3.out.below hb9 hz').c (x*256+N) (by omega)))
     have D3:=hid ((H3.out.below hb9 hz').set (x*256+N) (.int .u8 (eT ns x N:Nat)))
     rw [ZA _ _ _ _ (by omega),←HE.out,RZ,HE.out] at D3
     have D2:Hid ((w9.setCell ⟨w.heap.size+1,x*256+N,none⟩ (.int .u8 (eT ns x N:Nat))).there w.heap.size 0 2561):=hid (fun j hj=>by
      obtain ⟨a1,a2⟩:=H2.out j hj
      rw [World.frozen?_setCell,World.cell?_setCell_other _ _ _ _ (fun e=>by have:=congrArg Addr.block e;simp at this),hb9.cell (p:=⟨w.heap.size,0+j,none⟩) (by show w.heap.size<W3.drew.heap.size;omega),hb9.frozen (p:=⟨w.heap.size,0+j,none⟩) (by show w.heap.size<W3.drew.heap.size;omega)]
      exact ⟨a1,a2⟩)
     have DB:=hid ((HB.out.trans (hb9.mono (by have:=HB.out.size;omega))).setCell (p:=⟨w.heap.size+1,x*256+N,none⟩) (by show w.heap.size≤w.heap.size+1;omega) (.int .u8 (eT ns x N:Nat)))
     have hz9:w.heap.size+1<w9.heap.size:=Nat.lt_of_lt_of_le hz' hb9.size
     clear hb9 q0 q1 H3 H2 HB BF
     go_wp2_with fail
     go_roundw
     case rel=>exact ⟨N+1,by omega,by go_num,D3,D2,by simp;omega,DB⟩
     case measure=>simp [intOf];omega
    ·obtain rfl:N=256:=by omega
     go_wp2_with fail
     go_roundw
     case rel=>exact ⟨x+1,by omega,by go_num,by rw [show (x+1)*256=x*256+256 by omega];exact H3,H2,hz,HB⟩
     case measure=>simp [intOf];omega
  ·obtain rfl:x=8:=by omega
   have H3:=hid (H3.out.congr (d:=bX (lS ns) (.slice none 0 0) (fun _=>false) (fun _=>false)) (fun j hj=>by
    unfold bX wY
    by_cases h1:j<2048
    ·rw [if_pos h1,if_pos h1,if_pos (by omega)]
    ·rw [if_neg h1,if_neg h1]))
   go_wp2_with fail
   go_loopw [31] (fun i wq=>∃ (k:Nat) (sl:Value),k≤m1+1∧i=.int .i64 k∧Hid (bW wq (w.heap.size+1) 2561 (bX (lS ns) sl (fun _=>false) (fun _=>false)))∧Hid (wq.ownsRow (w.heap.size+2) 61 256 sl (aI ns k).length (mE (aI ns k)))∧Hid (wq.there w.heap.size 0 2561)∧w.heap.size+1<wq.heap.size∧Hid (Below w.heap.size w wq)) (fun i _=>m1+1 - (intOf i).toNat)
   case atStart=>exact ⟨0,_,by omega,rfl,H3,hid (World.ownsRow_nil _ _ _ _),H2,hz,HB⟩
   case round=>
    obtain ⟨k,sl,hk,rfl,H3,HO,H2,hz,HB⟩:=hrel
    rename World=>W4
    by_cases hlk:k<m1+1
    ·have JY:k<8:=by omega
     obtain ⟨h1,h2⟩:=fO.small HG.out.wf HG.out.le (jZ (ns:=ns) (k:=k) (by rw [nu.out];exact hlk))
     have n0:=(HB.out.cell (p:=⟨gn,k*3,none⟩) hgn).trans (HM.out.c0 k (by rw [nu.out];exact hlk))
     have n1:=(HB.out.cell (p:=⟨gn,k*3+1,none⟩) hgn).trans (HM.out.c1 k (by rw [nu.out];exact hlk))
     have n2:=(HB.out.cell (p:=⟨gn,k*3+2,none⟩) hgn).trans (HM.out.c2 k (by rw [nu.out];exact hlk))
     have HS:=hid (Cc ns k)
     have hcl:=pK ns k
     have LW:=fun W=>UT (ai ns k) W
     have LS:=fun W=>P7 (ai ns k) k W JY h1 h2
     unfold uG at LW LS
     generalize ai ns k=nd at *
     generalize aI ns k=cs at *
     go_wp2_with fail
     refine (LW _).mono ?_
     rintro e w5 ⟨rfl,hb5⟩
     have Ot:Below W4.heap.size W4 w5:=((Below.refl _ _).alloc (Nat.le_refl _) (.cells #[.int .u8 nd.op,.int .i64 nd.l,.int .i64 nd.r] 109)).trans (hb5.mono (by simp))
     have PM:=hid (H3.out.below Ot hz)
     have Hf:=hid (ae HO.out Ot)
     have RP:Hid (w5.there w.heap.size 0 2561):=hid (fun j hj=>by
      rw [Ot.cell (p:=⟨w.heap.size,0+j,none⟩) (by show w.heap.size<_;omega),Ot.frozen (p:=⟨w.heap.size,0+j,none⟩) (by show w.heap.size<_;omega)]
      exact H2.out j hj)
     have dV:=hid (HB.out.trans (Ot.mono (by omega)))
     have hs5:=Ot.size
     have b0:w5.cell? ⟨W4.heap.size,0,none⟩=some (.int .u8 nd.op):=(hb5.cell (p:=⟨W4.heap.size,0,none⟩) (by simp)).trans (by simp)
     have b1:w5.cell? ⟨W4.heap.size,1,none⟩=some (.int .i64 nd.l):=(hb5.cell (p:=⟨W4.heap.size,1,none⟩) (by simp)).trans (by simp)
     have b2:w5.cell? ⟨W4.heap.size,2,none⟩=some (.int .i64 nd.r):=(hb5.cell (p:=⟨W4.heap.size,2,none⟩) (by simp)).trans (by simp)
     clear hb5 Ot H3 HO H2 HB n0 n1 n2 LW
     cases hwv:ky nd.op with
     | false=>
      rw [hwv] at HS
      clear hwv
      go_wp2_with fail
      go_roundw
      case rel=>exact ⟨k+1,sl,by omega,by go_num,PM,by rw [HS.out];simpa using Hf,RP,by omega,dV⟩
      case measure=>simp [intOf];omega
     | true=>
      rw [hwv] at HS
      clear hwv
      go_wp2_with fail
      refine (LS _).mono ?_
      rintro e w6 ⟨rfl,hb6⟩
      have hs6:=hb6.size
      clear LS b0 b1 b2
      go_wp2_with (refine aW rfl (.tmp 8) (.tmp 40) rfl w6.heap.size 0 (jm k (gF nd)) rfl rfl (fw w6).there ?_)
      intro w7 S7
      have Rh:Below w5.heap.size w5 w7:=S7.aO _ _ hs6 (hb6.alloc hs6 _)
      have H37:=hid (PM.out.below Rh (by omega))
      have Po:=hid (ae Hf.out Rh)
      have H27:Hid (w7.there w.heap.size 0 2561):=hid (fun j hj=>by
       rw [Rh.cell (p:=⟨w.heap.size,0+j,none⟩) (by show w.heap.size<_;omega),Rh.frozen (p:=⟨w.heap.size,0+j,none⟩) (by show w.heap.size<_;omega)]
       exact RP.out j hj)
      have fI:=hid (dV.out.trans (Rh.mono (by omega)))
      have A8:=hid S7.at_
      have hs7:w7.heap.size=w6.heap.size+1:=by rw [S7.size];simp
      have csl:=Bp H37.out
      have cfz:=H37.out.f 2048 (by omega)
      clear S7 Rh hb6 PM Hf RP dV
      generalize hgc:jm k (gF nd)=gc at *
      go_wp2_with (first | (refine aC rfl (.tmp 8) rfl w6.heap.size 0 gc rfl A8.out ?_) | (refine vQ rfl (.tmp 43) rfl gc rfl ?_) | (at_builtin;go_must (refine wpList_append_own _ rfl (.tmp 42) (.tmp 44) 59 rfl (w.heap.size+2) 61 i0 (.agg (gv fun _=>false).toArray) 256 256 Tryz.underlying59 hi hz0 hz1 hz2 HZC.out (by decide) _ _ _ rfl (Po.out.alloc _) ⟨w7.heap.size,0,none⟩ 1 1 (gv gc) rfl (by rw [jN]) (EE w7 gc _) (BM gc) (by unfold maxLen;omega) (by omega) (by simp;omega) ?_)))
      intro v8 w8 hown hgrow _
      have bs:Below (w.heap.size+2) w7 w8:=((Below.refl _ _).alloc (by omega) _).grown hgrow (by simp;omega) (fun k h=>(Po.out.lt k h).1)
      obtain ⟨ao8,cap8,rfl⟩:=ag hown
      have H38:=H37.out.below bs (by omega)
      have amY:=Bp H38
      have amZ:=H38.f 2048 (by omega)
      have D3:=hid (H38.set 2048 (.slice ao8 (cs.length+1) cap8))
      rw [acL] at D3
      have DO:Hid ((w8.setCell ⟨w.heap.size+1,2048,none⟩ (.slice ao8 (cs.length+1) cap8)).ownsRow (w.heap.size+2) 61 256 (.slice ao8 (cs.length+1) cap8) (aI ns (k+1)).length (mE (aI ns (k+1)))):=hid (by
       rw [HS.out,if_pos (by trivial),List.length_append,Ac]
       exact ak hown (k:=w.heap.size+1) (by omega) 2048 _)
      have D2:Hid ((w8.setCell ⟨w.heap.size+1,2048,none⟩ (.slice ao8 (cs.length+1) cap8)).there w.heap.size 0 2561):=hid (fun j hj=>by
       obtain ⟨a1,a2⟩:=H27.out j hj
       rw [World.frozen?_setCell,World.cell?_setCell_other _ _ _ _ (fun e=>by have:=congrArg Addr.block e;simp at this),bs.cell (p:=⟨w.heap.size,0+j,none⟩) (by show w.heap.size<_;omega),bs.frozen (p:=⟨w.heap.size,0+j,none⟩) (by show w.heap.size<_;omega)]
       exact ⟨a1,a2⟩)
      have DB:=hid ((fI.out.trans (bs.mono (by omega))).setCell (p:=⟨w.heap.size+1,2048,none⟩) (by show w.heap.size≤w.heap.size+1;omega) (.slice ao8 (cs.length+1) cap8))
      have hz8:w.heap.size+1<w8.heap.size:=by have:=bs.size;omega
      clear hown hgrow bs H38 H37 Po H27 fI csl cfz
      go_wp2_with fail
      go_roundw
      case rel=>exact ⟨k+1,_,by omega,by go_num,D3,DO,D2,by simp;omega,DB⟩
      case measure=>simp [intOf];omega
    ·obtain rfl:k=m1+1:=by omega
     have hcl:=pK ns (m1+1)
     have CN:=hid (XG HO.out)
     clear HO
     go_wp2_with fail
     refine (IR (w.heap.size+1) ns (aI ns (m1+1)) W4 h8 (MC H3.out) hz (aaF H3.out CN.out.v) (by omega)).mono ?_
     rintro e w5 ⟨aa,rfl,hlv,hb5⟩
     have kK:=hid hlv
     have PM:=hid (H3.out.below hb5 hz)
     have CN5:=hid (CN.out.below hb5)
     have RP:Hid (w5.there w.heap.size 0 2561):=hid (fun j hj=>by
      rw [hb5.cell (p:=⟨w.heap.size,0+j,none⟩) (by show w.heap.size<_;omega),hb5.frozen (p:=⟨w.heap.size,0+j,none⟩) (by show w.heap.size<_;omega)]
      exact H2.out j hj)
     have dV:=hid (HB.out.trans (hb5.mono (by omega)))
     have hz5:w.heap.size+1<w5.heap.size:=Nat.lt_of_lt_of_le hz hb5.size
     clear hb5 hlv H3 H2 HB CN
     go_wp2_with (refine aW rfl (.tmp 49) (.tmp 48) rfl (w.heap.size+1) 2049 aa rfl rfl (PM.out.there 2049 256 (by omega)) ?_)
     intro w6 S6
     have H36:=hid (acG PM.out S6)
     have CN6:=hid (CN5.out.stored S6 (by omega))
     have H26:Hid (w6.there w.heap.size 0 2561):=hid (fun j hj=>by
      rw [S6.cell ⟨w.heap.size,0+j,none⟩ (Or.inl (by show w.heap.size≠w.heap.size+1;omega)),S6.fz]
      exact RP.out j hj)
     have iQ:=hid (S6.aO _ _ (by omega) dV.out)
     have hz6:w.heap.size+1<w6.heap.size:=by rw [S6.size];exact hz5
     clear S6 PM CN5 RP dV
     go_wp2_with fail
     go_loopw [50] (fun i wq=>∃ v:Nat,v≤256∧i=.int .i64 v∧Hid (bW wq (w.heap.size+1) 2561 (bX (lS ns) sl aa (upTo (aB ns aa) v)))∧Hid (kL wq (w.heap.size+2) sl (aI ns (m1+1)))∧Hid (wq.there w.heap.size 0 2561)∧w.heap.size+1<wq.heap.size∧Hid (Below w.heap.size w wq)) (fun i _=>256 - (intOf i).toNat)
     case atStart=>exact ⟨0,by omega,rfl,by rw [qm];exact H36,CN6,H26,hz6,iQ⟩
     case round=>
      obtain ⟨v,hv,rfl,H3,CN,H2,hz,HB⟩:=hrel
      rename World=>W7
      by_cases hlv:v<256
      ·have HA:=fun W=>aX v m1 W hlv (by omega)
       have c1:=(JA H3.out).c v hlv
       have q0:=H3.out.f (2305+v) (by omega)
       have q1:=H3.out.c (2305+v) (by omega)
       have hbg:aB ns aa v=(aa v&&v.testBit m1):=by unfold aB;rw [nu.out];rfl
       have D3:=hid (H3.out.set (2305+v) (.bool (aB ns aa v)))
       rw [Zz _ _ _ _ hlv,qo] at D3
       have DN:=hid (CN.out.set ⟨w.heap.size+1,2305+v,none⟩ (.bool (aB ns aa v)) (by show w.heap.size+1<w.heap.size+2;omega))
       have D2:Hid ((W7.setCell ⟨w.heap.size+1,2305+v,none⟩ (.bool (aB ns aa v))).there w.heap.size 0 2561):=hid (fun j hj=>by
        rw [World.frozen?_setCell,World.cell?_setCell_other _ _ _ _ (fun e=>by have:=congrArg Addr.block e;simp at this)]
        exact H2.out j hj)
       have DB:=hid (HB.out.setCell (p:=⟨w.heap.size+1,2305+v,none⟩) (by show w.heap.size≤w.heap.size+1;omega) (.bool (aB ns aa v)))
       rw [hbg] at DN D2 DB
       have D3:Hid (bW (W7.setCell ⟨w.heap.size+1,2305+v,none⟩ (.bool (aa v&&v.testBit m1))) (w.heap.size+1) 2561 (bX (lS ns) sl aa (upTo (aB ns aa) (v+1)))):=by rw [←hbg];exact D3
       clear hbg
       generalize bX (lS ns) sl aa (upTo (aB ns aa) v) (2305+v)=ov at *
       generalize hlvv:aa v=lv at *
       generalize hbit:v.testBit m1=bv at *
       clear hlvv hbit
       cases lv with
       | false=>
        simp only [Bool.false_and] at D3 DN D2 DB
        go_wp2_with fail
        refine (HA _).mono ?_
        rintro e w8 ⟨rfl,rfl⟩
        clear HA
        go_wp2_with fail
        go_roundw
        case rel=>exact ⟨v+1,by omega,by go_num,D3,DN,D2,by simp;omega,DB⟩
        case measure=>simp [intOf];omega
       | true=>
        simp only [Bool.true_and] at D3 DN D2 DB
        go_wp2_with fail
        refine (HA _).mono ?_
        rintro e w8 ⟨rfl,rfl⟩
        clear HA
        go_wp2_with fail
        go_roundw
        case rel=>exact ⟨v+1,by omega,by go_num,D3,DN,D2,by simp;omega,DB⟩
        case measure=>simp [intOf];omega
      ·obtain rfl:v=256:=by omega
       have H3:=hid (H3.out.congr (d:=bX (lS ns) sl aa (aB ns aa)) (fun j hj=>by
        unfold bX
        by_cases h1:j<2048
        ·rw [if_pos h1,if_pos h1]
        ·rw [if_neg h1,if_neg h1]
         by_cases h2:j=2048
         ·rw [if_pos h2,if_pos h2]
         ·rw [if_neg h2,if_neg h2]
          by_cases h3:j<2305
          ·rw [if_pos h3,if_pos h3]
          ·rw [if_neg h3,if_neg h3,Ec _ (by omega)]))
       have hon:=CN.out.one
       go_wp2_with (first | (refine nH rfl 63 (.tmp 3) rfl (w.heap.size+1) 2561 (bX (lS ns) sl aa (aB ns aa)) od rfl H3.out HOD.out.1 HOD.out.2 Tryz.qz ?_) | (refine dE rfl 63 (.tmp 2) (.tmp 69) rfl w.heap.size 2561 (bX (lS ns) sl aa (aB ns aa)) rfl rfl H2.out Tryz.qz (sN _ _ _ hon) ?_))
       intro w9 S9
       have CN9:=hid (CN.out.Ib S9 (by omega))
       have KY:=hid (S9.aO _ _ (Nat.le_refl _) HB.out)
       have R9:=hid S9.at_
       clear S9
       go_wp2_with fail
       refine acE Tryz.results31 ?_ ?_ R9.out HOD.out.1 HOD.out.2 Tryz.qz ?_
       ·rfl
       ·rfl
       ·exact ⟨sl,aa,rfl,by rw [nu.out];exact kK.out,by rw [nu.out];exact CN9.out.v,hon,KY.out⟩
theorem JU {nd:Nd} {i x:Nat} {a b a' b' t n:Bool} (hw:(aP nd.op=true∧nd.l=0∧nd.r=0)∨(dB nd.op=true∧nd.l<i∧nd.r=0)∨(bz nd.op=true∧nd.l<i∧nd.r<i)) (hl:nd.l<i→a=a') (hr:nd.r<i→b=b'):aK nd.op x a b t n=aK nd.op x a' b' t n:=by
 rcases hw with ⟨h,_,_⟩ | ⟨h,h1,_⟩ | ⟨h,h1,h2⟩
 ·simp [aP] at h
  rcases h with (((h | h) | h) | h) | h <;> simp [aK,h]
 ·rw [hl h1]
  simp [dB] at h
  rcases h with ((h | h) | h) | h <;> simp [aK,h]
 ·rw [hl h1,hr h2]
def bY (S:Nat→Bool):Nat→Nat
 | 0=>0
 | k+1=>qR (bY S k) k (S k)
theorem qK (S:Nat→Bool):∀ k,k≤8→bY S k<256
 | 0,_=>by simp [bY]
 | k+1,h=>EW (qK S k (by omega)) (by omega)
theorem qh (S:Nat→Bool):∀ k,k≤8→∀ j,j<8→(bY S k).testBit j=(if j<k then S j else false)
 | 0,_,j,_=>by simp [bY]
 | k+1,h,j,hj=>by
  rw [bY,sG (qK S k (by omega)) (by omega) hj,qh S k (by omega) j hj]
  by_cases e:j=k
  ·rw [if_pos e,if_pos (by omega),e]
  ·rw [if_neg e]
   by_cases h2:j<k
   ·rw [if_pos h2,if_pos (by omega)]
   ·rw [if_neg h2,if_neg (by omega)]
theorem Aj {S T:Nat→Bool}:∀ k,(∀ j,j<k→S j=T j)→bY S k=bY T k
 | 0,_=>rfl
 | k+1,h=>by rw [bY,bY,Aj k (fun j hj=>h j (by omega)),h k (by omega)]
def tb (v:Nat):Nat→Bool:=fun k=>v.testBit k
theorem Ox {ns:List Nd} (hg:Good ns) {x N:Nat} {S T:Nat→Bool} (hs:Step ns x S T) (hN:dh ns.length (tb N) T):∀ k,k≤ns.length→iK ns x N k=bY S k
 | 0,_=>rfl
 | k+1,h=>by
  have h8:=hg.le
  have hn:=jZ (ns:=ns) (k:=k) (by omega)
  obtain ⟨h1,h2,h3⟩:=lF hg.wf hn
  rw [iK,bY,Ox hg hs hN k (by omega),hs k _ hn]
  congr 1
  have e1:N.testBit k=T k:=hN k (by omega)
  have e2:N.testBit (ai ns k).l=T (ai ns k).l:=hN _ h2
  rw [e1,e2]
  exact JU (hg.wf k _ hn) (fun hl=>by rw [qh S k (by omega) _ (by omega),if_pos hl]) (fun hr=>by rw [qh S k (by omega) _ (by omega),if_pos hr])
theorem wQ {ns:List Nd} (hg:Good ns) {x N:Nat} {S T:Nat→Bool} (hs:Step ns x S T) (hN:dh ns.length (tb N) T):eT ns x N=bY S ns.length:=Ox hg hs hN _ (Nat.le_refl _)
theorem iA {ns:List Nd} (hg:Good ns) (S:Nat→Bool):dh ns.length (tb (bY S ns.length)) S:=fun k hk=>by
 have h8:=hg.le
 show (bY S ns.length).testBit k=S k
 rw [qh S _ h8 k (by omega),if_pos hk]
theorem Ow {ns:List Nd} (hg:Good ns) {x N:Nat} {S T:Nat→Bool} (hs:Step ns x S T) (hN:dh ns.length (tb N) T):dh ns.length (tb (eT ns x N)) S:=by
 rw [wQ hg hs hN];exact iA hg S
theorem Cj (ns:List Nd) (x N:Nat) {j k:Nat} (hj:j<k):∀ d,k+d≤8→(iK ns x N (k+d)).testBit j=(iK ns x N k).testBit j
 | 0,_=>rfl
 | d+1,h=>by
  rw [show k+(d+1)=(k+d)+1 by omega,iK,sG (sV ns x N _ (by omega)) (by omega) (by omega),if_neg (by omega)]
  exact Cj ns x N hj d (by omega)
theorem jd {ns:List Nd} (hg:Good ns) (x N:Nat):Step ns x (tb (eT ns x N)) (tb N):=by
 intro k nd hn
 have h8:=hg.le
 obtain ⟨h1,h2,h3⟩:=lF hg.wf hn
 have hnd:ai ns k=nd:=by have:=jZ (ns:=ns) h1;rw [hn] at this;exact (Option.some.inj this).symm
 have st:∀ j i,j<i→i≤ns.length→(eT ns x N).testBit j=(iK ns x N i).testBit j:=fun j i hj hi=>by
  have:=Cj ns x N hj (ns.length - i) (by omega)
  rw [show i+(ns.length - i)=ns.length by omega] at this
  exact this
 show (eT ns x N).testBit k=_
 rw [st k (k+1) (by omega) (by omega),iK,sG (sV ns x N k (by omega)) (by omega) (by omega),if_pos rfl,hnd]
 exact JU (hg.wf k nd hn) (fun hl=>(st _ _ hl (by omega)).symm) (fun hr=>(st _ _ hr (by omega)).symm)
theorem wN {ns:List Nd} {y a:Nat}:Ew 1 ns (d9 8) y a↔a<256∧∃ l,l<8∧y=eT ns l a:=by
 unfold Ew
 constructor
 ·rintro ⟨ha,st,hs,rfl⟩
  have h0:a / 256=0:=by omega
  rw [h0] at hs
  simp [d9] at hs
  obtain ⟨l,hl,rfl⟩:=hs
  exact ⟨by omega,l,hl,by simp [show a % 256=a by omega]⟩
 ·rintro ⟨ha,l,hl,rfl⟩
  refine ⟨by omega,(0,l),?_,by simp [show a % 256=a by omega]⟩
  have h0:a / 256=0:=by omega
  rw [h0]
  simp [d9,hl]
theorem qL {nd:Nd} {k x:Nat} {S T:Nat→Bool} (hs:S k=aK nd.op x (S nd.l) (S nd.r) (T k) (T nd.l)) (hw:ky nd.op=true):fD nd k S=(S k==S (gF nd)):=by
 simp [ky,jM] at hw
 rcases hw with (h | h) | h | h
 ·simp only [aK,fD,gF,h] at *
  simp at *
  rw [hs]
  cases S nd.l <;> cases T k <;> rfl
 ·simp only [aK,fD,gF,h] at *
  simp at *
  rw [hs]
  cases S nd.l <;> cases S nd.r <;> cases T k <;> rfl
 ·simp only [aK,fD,gF,h] at *
  simp at *
  rw [hs]
  cases S nd.l <;> cases T k <;> rfl
 ·simp only [aK,fD,gF,h] at *
  simp at *
  rw [hs]
  cases S nd.l <;> cases S nd.r <;> cases T k <;> rfl
theorem BC {nd:Nd} {k:Nat} {S:Nat→Bool} (hw:ky nd.op=false):fD nd k S=true:=by
 simp [ky,jM] at hw
 simp [fD,hw]
theorem kr {ns:List Nd} {c:Nat→Bool} {m:Nat}:c∈spreads (aI ns m)↔∃ k,k<m∧ky (ai ns k).op=true∧c=spread (jm k (gF (ai ns k))):=by
 simp only [spreads,aI,List.map_map,List.mem_map,List.mem_filter,List.mem_range,Function.comp]
 constructor
 ·rintro ⟨k,⟨h1,h2⟩,rfl⟩;exact ⟨k,h1,h2,rfl⟩
 ·rintro ⟨k,h1,h2,rfl⟩;exact ⟨k,⟨h1,h2⟩,rfl⟩
theorem nW {cs:List (Nat→Bool)} {q:Nat→Nat} (h:∀ c∈cs,∀ t,∃ t',t≤t'∧c (q t')=true):tQ (KL cs) cs.length q:=fun k hk t=>by
 obtain ⟨t',h1,h2⟩:=h cs[k] (List.getElem_mem hk) t
 exact ⟨t',h1,cs[k],List.getElem?_eq_getElem hk,h2⟩
abbrev rV (ns:List Nd) (v:Nat):Prop:=gu (Ew 1 ns (d9 8)) (spreads (aI ns ns.length)) v
theorem xY {ns:List Nd} (hg:Good ns) {v:Nat} (h:rV ns v):chain ns [] (tb v):=by
 have h8:=hg.le
 obtain ⟨q,rfl,hq,hm⟩:=h
 have hx:∀ t,∃ l,l<8∧q t=eT ns l (q (t+1)):=fun t=>(wN.1 (hq t)).2
 have ajd:∀ t,q t<256:=fun t=>by
  obtain ⟨l,_,e⟩:=hx t
  rw [e];exact rJ h8 _ _
 refine ⟨fun t=>Classical.choose (hx t),fun t=>tb (q t),fun t=>(Classical.choose_spec (hx t)).1,⟨fun t=>?_,fun k nd hn t=>?_⟩,dh.refl _ _⟩
 ·have:=jd hg (Classical.choose (hx t)) (q (t+1))
  rw [←(Classical.choose_spec (hx t)).2] at this
  exact this
 ·obtain ⟨h1,h2,h3⟩:=lF hg.wf hn
  have hnd:ai ns k=nd:=by have:=jZ (ns:=ns) h1;rw [hn] at this;exact (Option.some.inj this).symm
  cases hw:ky nd.op with
  | false=>exact ⟨t,Nat.le_refl _,BC hw⟩
  | true=>
   obtain ⟨t',h4,h5⟩:=nX hm _ (kr.2 ⟨k,h1,by rw [hnd];exact hw,rfl⟩) t
   refine ⟨t',h4,?_⟩
   obtain ⟨l,_,e⟩:=hx t'
   have hst:=jd hg l (q (t'+1)) k nd hn
   rw [←e] at hst
   rw [qL hst hw]
   have:q t' % 256=q t':=Nat.mod_eq_of_lt (ajd t')
   simp only [spread,this,jm,hnd] at h5
   exact h5
theorem tO {ns:List Nd} (hg:Good ns) {S:Nat→Bool} (h:chain ns [] S):rV ns (bY S ns.length):=by
 have h8:=hg.le
 obtain ⟨x,S',hl,hr,he⟩:=h
 have lt:∀ t,bY (S' t) ns.length<256:=fun t=>qK _ _ h8
 refine ⟨fun t=>bY (S' t) ns.length,Aj _ he,fun t=>?_,nW fun c hc t=>?_⟩
 ·exact wN.2 ⟨lt _,x t,hl t,(wQ hg (hr.step t) (iA hg _)).symm⟩
 ·obtain ⟨k,h1,h2,rfl⟩:=kr.1 hc
  have hn:=jZ (ns:=ns) h1
  obtain ⟨_,h3,h4⟩:=lF hg.wf hn
  obtain ⟨t',h5,h6⟩:=hr.kept k _ hn t
  refine ⟨t',h5,?_⟩
  rw [qL (hr.step t' k _ hn) h2] at h6
  have e1:=iA hg (S' t') k h1
  have hen:gF (ai ns k)<ns.length:=by unfold gF;split <;> omega
  have e2:=iA hg (S' t') _ hen
  have e3:bY (S' t') ns.length % 256=bY (S' t') ns.length:=Nat.mod_eq_of_lt (lt t')
  simp only [tb] at e1 e2
  simp only [spread,jm,e3,e1,e2]
  exact h6
theorem JM {ns:List Nd} {x N:Nat} (hx:x<8) (h:rV ns N) (hN:N<256):rV ns (eT ns x N):=by
 obtain ⟨q,h0,hq,hm⟩:=h
 refine ⟨fun t=>if t=0 then eT ns x N else q (t - 1),rfl,fun t=>?_,fun k hk t=>?_⟩
 ·cases t with
  | zero=>simp;rw [h0];exact wN.2 ⟨hN,x,hx,rfl⟩
  | succ t=>simpa using hq t
 ·obtain ⟨t',h1,h2⟩:=hm k hk t
  exact ⟨t'+1,by omega,by simpa using h2⟩
theorem Es {ns:List Nd} (h8:ns.length≤8) {v:Nat} (h:rV ns v):v<256:=by
 obtain ⟨q,rfl,hq,_⟩:=h
 obtain ⟨_,l,_,e⟩:=wN.1 (hq 0)
 rw [e];exact rJ h8 _ _
def back (ns:List Nd):List Nat→Nat→Nat
 | [],N=>N
 | a::u,N=>eT ns a (back ns u N)
theorem Ky (ns:List Nd) (u:List Nat) (x N:Nat):back ns (u++[x]) N=back ns u (eT ns x N):=by
 induction u with
 | nil=>rfl
 | cons a u ih=>simp [back,ih]
theorem mh {ns:List Nd} (hg:Good ns) {aa:Nat→Bool} (hl:gW ns (aI ns ns.length) aa) (u:List Nat) (hu:∀ x∈u,x<8):∀ N,(cZ ns aa (aB ns aa) u N=true↔aa N=true∧(back ns u N).testBit (ns.length - 1)=true):=by
 have h8:=hg.le
 generalize hn:u.length=n
 induction n generalizing u with
 | zero=>
  obtain rfl:=List.eq_nil_of_length_eq_zero hn
  intro N
  simp [cZ,aB,back]
 | succ n ih=>
  intro N
  obtain ⟨u',x,rfl⟩:∃ u' x,u=u'++[x]:=⟨u.dropLast,u.getLast (by intro e;rw [e] at hn;simp at hn),(List.dropLast_concat_getLast _).symm⟩
  rw [nR,Ky]
  have hx:=hu x (by simp)
  unfold stepG
  rw [Bool.and_eq_true,ih u' (fun y hy=>hu y (by simp [hy])) (by simpa using hn)]
  constructor
  ·rintro ⟨h1,_,h2⟩;exact ⟨h1,h2⟩
  ·rintro ⟨h1,h2⟩
   have hN:=(hl N).1 h1
   exact ⟨h1,(hl _).2 (JM hx hN (Es h8 hN)),h2⟩
theorem Gt {ns:List Nd} (hg:Good ns):∀ (u:List Nat) (S:Nat→Bool),chain ns u S→∃ N,rV ns N∧dh ns.length (tb (back ns u N)) S
 | [],S,h=>⟨bY S ns.length,tO hg h,iA hg S⟩
 | a::u,S,⟨_,T,hs,hc⟩=>by
  obtain ⟨N,h1,h2⟩:=Gt hg u T hc
  exact ⟨N,h1,Ow hg hs h2⟩
theorem Gu {ns:List Nd} (hg:Good ns):∀ (u:List Nat) (hu:∀ x∈u,x<8) (N:Nat),rV ns N→chain ns u (tb (back ns u N))
 | [],_,N,h=>xY hg h
 | a::u,hu,N,h=>⟨hu a (by simp),tb (back ns u N),jd hg a _,Gu hg u (fun x hx=>hu x (by simp [hx])) N h⟩
theorem M0 {ns:List Nd} (hg:Good ns) {u:List Nat} (hu:∀ x∈u,x<8) (b:Bool):May ns u b↔∃ N,rV ns N∧(back ns u N).testBit (ns.length - 1)=b:=by
 have hp:=hg.pos
 rw [QP hg]
 constructor
 ·rintro ⟨S,h1,h2⟩
  obtain ⟨N,h3,h4⟩:=Gt hg u S h2
  exact ⟨N,h3,by rw [←h1];exact h4 _ (by omega)⟩
 ·rintro ⟨N,h1,h2⟩
  exact ⟨_,h2,Gu hg u hu N h1⟩
theorem mP {ns:List Nd} (hg:Good ns) {aa:Nat→Bool} (hl:gW ns (aI ns ns.length) aa) {u:List Nat} (hu:∀ x∈u,x<8):iC ns u (oJ aa (cZ ns aa (aB ns aa) u)):=by
 have h8:=hg.le
 have hr:=mh hg hl u hu
 have mt:=M0 hg hu true
 have mf:=M0 hg hu false
 have ht:geq (cZ ns aa (aB ns aa) u) (fun _=>false)=true↔¬ May ns u true:=by
  rw [iN,mt]
  constructor
  ·rintro h ⟨N,h1,h2⟩
   have:=h N (Es h8 h1)
   rw [(hr N).2 ⟨(hl N).2 h1,h2⟩] at this
   cases this
  ·intro h N hN
   cases e:cZ ns aa (aB ns aa) u N with
   | false=>rfl
   | true=>
    obtain ⟨h1,h2⟩:=(hr N).1 e
    exact absurd ⟨N,(hl N).1 h1,h2⟩ h
 have hf:geq (cZ ns aa (aB ns aa) u) aa=true↔¬ May ns u false:=by
  rw [iN,mf]
  constructor
  ·rintro h ⟨N,h1,h2⟩
   have h3:=h N (Es h8 h1)
   rw [(hl N).2 h1] at h3
   rw [((hr N).1 h3).2] at h2
   cases h2
  ·intro h N hN
   cases e:cZ ns aa (aB ns aa) u N with
   | true=>exact ((hr N).1 e).1.symm
   | false=>
    cases e2:aa N with
    | false=>rfl
    | true=>
     exfalso
     refine h ⟨N,(hl N).1 e2,?_⟩
     cases e3:(back ns u N).testBit (ns.length - 1) with
     | false=>rfl
     | true=>rw [(hr N).2 ⟨e2,e3⟩] at e;cases e
 have some_:May ns u true∨May ns u false:=by
  obtain ⟨S,hS,hR⟩:=mF hg.wf (fun i=>u.getD i 0)
  have hL:dM (fun i=>u.getD i 0):=fun t=>by
   show u.getD t 0<8
   rw [List.getD]
   cases e:u[t]? with
   | none=>simp
   | some y=>exact hu y (List.mem_of_getElem? e)
  by_cases h3:dz (fun i=>i+1) (fun i=>u.getD i 0) ns (ns.length - 1) 0
  ·exact Or.inl ⟨_,hL,fun i _=>rfl,by simpa using h3⟩
  ·exact Or.inr ⟨_,hL,fun i _=>rfl,by simpa using h3⟩
 unfold oJ
 by_cases h1:geq (cZ ns aa (aB ns aa) u) aa=true
 ·rw [if_pos h1]
  have:=hf.1 h1
  exact Or.inr (Or.inl ⟨rfl,some_.resolve_right this,this⟩)
 ·rw [if_neg h1]
  have hm:May ns u false:=Classical.byContradiction fun h=>h1 (hf.2 h)
  by_cases h2:geq (cZ ns aa (aB ns aa) u) (fun _=>false)=true
  ·rw [if_pos h2]
   exact Or.inl ⟨rfl,ht.1 h2⟩
  ·rw [if_neg h2]
   exact Or.inr (Or.inr ⟨rfl,Classical.byContradiction fun h=>h2 (ht.2 h),hm⟩)
theorem FP {w:World} {B gn m ncap:Nat} {ns:List Nd} (h:w.ownsRow B 109 3 (.slice (some ⟨gn,0,none⟩) m ncap) m (flat ns)) (hl:ns.length=m):DF w gn ns:=
 ⟨(h.lt _ rfl).2,fun i hi=>(h.cellAt (i*3) (by omega)).trans (flat_get ns i (by omega)).1,fun i hi=>(h.cellAt (i*3+1) (by omega)).trans (flat_get ns i (by omega)).2.1,fun i hi=>(h.cellAt (i*3+2) (by omega)).trans (flat_get ns i (by omega)).2.2⟩
section
variable (s:ByteArray) (a1:Option Addr) (l1 c1:Nat) (z1:List Int) (w:World)
theorem ZT (hm:s.size≤maxLen) (h:(af s).1≠0):Calls Tryz.prog 53 #[.string s,.slice a1 l1 c1] w (lU s z1 w):=by
 have E:Hid (jH s z1=(af s).1):=hid (by unfold jH;rw [if_neg h])
 have C:=jr s w hm
 unfold jP at C
 unfold lU
 rw [E.out]
 generalize af s=p at *
 have k:((p.1:Int)!=0)=true:=by rw [bne_iff_ne];omega
 go_enter Tryz.func53,Tryz.ntmps53
 go_wp2_with fail
 refine C.mono ?_
 rintro e w1 ⟨ao,cap,rfl,_,hb⟩
 go_wp2_with fail
 go_ret2
 exact ⟨0,rfl,fun h1=>absurd h1 h,fun _=>rfl,hb⟩
theorem Ww (hm:s.size≤maxLen) (h:(af s).1=0) (h1:Ints w a1 l1 c1 z1):Calls Tryz.prog 53 #[.string s,.slice a1 l1 c1] w (lU s z1 w):=by
 have E:Hid (jH s z1=if 40<z1.length then 5 else if bI z1=true then 0 else 6):=hid (by unfold jH;rw [if_pos h])
 have C:=jr s w hm
 unfold jP at C
 have G:=hid (fV h)
 have m1:=h1.hmax
 have m3:=h1.hcap
 have L1:=h1.hlen
 have R1:=fun W (b:Below w.heap.size w W)=>iB a1 l1 c1 z1 W (h1.below b)
 unfold lU
 rw [E.out]
 generalize af s=p at *
 obtain ⟨p1,ns⟩:=p
 dsimp only at *
 subst h
 rw [L1]
 by_cases q1:40<l1
 ·rw [if_pos q1]
  have k1:(40:Int)<(l1:Int):=by omega
  go_enter Tryz.func53,Tryz.ntmps53
  go_wp2_with fail
  refine C.mono ?_
  rintro e w1 ⟨ao,cap,rfl,_,hb⟩
  go_wp2_with fail
  go_ret2
  exact ⟨0,rfl,fun h1=>(by cases h1),fun _=>rfl,hb⟩
 rw [if_neg q1]
 have k1:¬ (40:Int)<(l1:Int):=by omega
 cases hal:bI z1 with
 | false=>
  rw [hal] at R1
  rw [if_neg (by simp)]
  clear hal
  go_enter Tryz.func53,Tryz.ntmps53
  go_wp2_with fail
  refine C.mono ?_
  rintro e w1 ⟨ao,cap,rfl,_,hb⟩
  go_wp2_with fail
  refine (R1 _ hb).mono ?_
  rintro e w2 ⟨rfl,rfl⟩
  go_wp2_with fail
  go_ret2
  exact ⟨0,rfl,fun h1=>(by cases h1),fun _=>rfl,hb⟩
 | true=>
  rw [hal] at R1
  rw [if_pos rfl]
  have qQ:=hid hal
  have H1:=hid h1
  clear hal h1
  have hpos:=G.out.pos
  obtain ⟨m1',hlen⟩:∃ m1',ns.length=m1'+1:=⟨ns.length - 1,by omega⟩
  have bg:=hid hlen
  rw [hlen] at C
  clear hlen hpos
  obtain ⟨od,hod,hor⟩:=Tryz.MJ
  have qP:=hid Tryz.wC
  clear hod hor
  go_enter Tryz.func53,Tryz.ntmps53
  go_wp2_with fail
  refine C.mono ?_
  rintro e w1 ⟨ao,cap,rfl,own,hb⟩
  obtain ⟨gn,rfl,_,hgn,_⟩:=pu own (by omega)
  have ND:=hid (FP own bg.out)
  clear C own
  go_wp2_with fail
  refine (R1 _ hb).mono ?_
  rintro e w2 ⟨rfl,rfl⟩
  clear R1
  go_wp2_with fail
  refine (zO gn m1' cap ns _ ND.out G.out bg.out).mono ?_
  rintro e w3 ⟨sl,aa,rfl,hlv,_,hon,hb3⟩
  have kK:=hid hlv
  have HB3:=hid (hb.trans (hb3.mono hb.size))
  have hs3:w.heap.size≤w3.heap.size:=HB3.out.size
  clear hlv hb3 ND hb
  have hth:(w3.alloc (.cells Tryz.zeroCells63 63)).there w3.heap.size 0 2561:=by
   have:=kS w3 (bX (fun _=>0) (.slice none 0 0) (fun _=>false) (fun _=>false)) 2561 63
   rw [←qP.out] at this
   exact this.there 0 2561 (by omega)
  have Cv:=hid hth
  clear hth
  go_wp2_with (refine dE rfl 63 (.tmp 8) (.tmp 24) rfl w3.heap.size 2561 (bX (lS ns) sl aa (aB ns aa)) rfl rfl Cv.out Tryz.qz (sN _ _ _ hon) ?_)
  intro w4 S4
  have OM:=hid (CP S4.at_)
  have dm:=hid (S4.aO _ _ hs3 (HB3.out.alloc hs3 (.cells Tryz.zeroCells63 63)))
  clear S4 Cv HB3
  go_wp2_with fail
  refine (Tw w3.heap.size ns aa (aB ns aa) a1 l1 c1 z1 w4 G.out.le OM.out (H1.out.below dm.out) qQ.out).mono ?_
  rintro e w5 ⟨rfl,hb5⟩
  have dV:=hid (dm.out.trans (hb5.mono dm.out.size))
  have HV:=hid (mP G.out kK.out (VT qQ.out))
  clear hb5 dm OM
  go_wp2_with fail
  go_ret2
  exact ⟨_,rfl,fun _=>HV.out,fun h0=>absurd rfl h0,dV.out⟩
theorem Wx (hm:s.size≤maxLen) (h1:Ints w a1 l1 c1 z1):Calls Tryz.prog 53 #[.string s,.slice a1 l1 c1] w (lU s z1 w):=by
 by_cases h:(af s).1=0
 ·exact Ww s a1 l1 c1 z1 w hm h h1
 ·exact ZT s a1 l1 c1 z1 w hm h
end
end Go.Proofs.YtjagijohfkffiabGreat
namespace Go.Proofs.YtjagijohfkffiabGreat.judges
open Go.ChangeShapes Go.WideShapes Go.ChangeAt Go.RowKit
open Go.ChangeMaps (open_string shut_string)
set_option linter.unusedVariables false
theorem TR (s:ByteArray) (a1:Option Addr) (l1 c1:Nat) (z1:List Int) (w:World) (hm:s.size≤maxLen) (h1:Ints w a1 l1 c1 z1) :
  Calls Tryz.prog 25 #[.string s,.slice a1 l1 c1] w fun e w'=>e=.returned (.bool true)∧Below w.heap.size w w':=by
 have C1:=Wx s a1 l1 c1 z1 w hm h1
 have C2:=fun W (b:Below w.heap.size w W)=>Tc s a1 l1 c1 z1 W hm (h1.below b)
 unfold lU at C1 C2
 generalize jH s z1=er at *
 go_enter Tryz.func25,Tryz.ntmps25
 go_wp2_with fail
 refine C1.mono ?_
 rintro e w1 ⟨v1,rfl,p1,q1,hb1⟩
 go_wp2_with fail
 refine (C2 _ hb1).mono ?_
 rintro e w2 ⟨v2,rfl,p2,q2,hb2⟩
 obtain rfl:v1=v2:=by
  by_cases h0:er=0
  ·exact jW (p1 h0) (p2 h0)
  ·rw [q1 h0,q2 h0]
 have B:=hid (hb1.trans (hb2.mono hb1.size))
 clear C1 C2 hb1 hb2 p1 p2 q1 q2
 go_wp2
 go_ret
 exact ⟨rfl,B.out⟩
end Go.Proofs.YtjagijohfkffiabGreat.judges
