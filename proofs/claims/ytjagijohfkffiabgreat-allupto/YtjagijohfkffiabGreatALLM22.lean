import Derived.Test.YtjagijohfkffiabGreatALLM06
import Derived.Test.YtjagijohfkffiabGreatALLM07
import Derived.Test.YtjagijohfkffiabGreatALLM17
import Derived.Test.YtjagijohfkffiabGreatALLM21
import Derived.Outline
import Derived.ChangeKeysEq
import Derived.Deep.RegionHeld3
set_option maxHeartbeats 16000000
set_option maxRecDepth 100000
namespace Go.Proofs.YtjagijohfkffiabGreat
open Go.RowKit
set_option linter.unusedVariables false
structure DF (w:World) (gn:Nat) (ns:List Nd):Prop where
 lt:gn<w.heap.size
 c0:∀ i,i<ns.length→w.cell? ⟨gn,i*3,none⟩=some (.int .u8 (ai ns i).op)
 c1:∀ i,i<ns.length→w.cell? ⟨gn,i*3+1,none⟩=some (.int .i64 (ai ns i).l)
 c2:∀ i,i<ns.length→w.cell? ⟨gn,i*3+2,none⟩=some (.int .i64 (ai ns i).r)
theorem DF.below {B:Nat} {w w':World} {gn:Nat} {ns:List Nd} (h:DF w gn ns) (hb:Below B w w') (hB:gn<B):DF w' gn ns:=
 ⟨Nat.lt_of_lt_of_le h.lt hb.size,fun i hi=>(hb.cell (p:=⟨gn,i*3,none⟩) hB).trans (h.c0 i hi),fun i hi=>(hb.cell (p:=⟨gn,i*3+1,none⟩) hB).trans (h.c1 i hi),fun i hi=>(hb.cell (p:=⟨gn,i*3+2,none⟩) hB).trans (h.c2 i hi)⟩
def ky (op:Nat):Bool:=op==70||op==85||jM op
def gF (n:Nd):Nat:=if n.op=85∨n.op=82 then n.r else n.l
theorem UT (n:Nd) (w:World):Calls Tryz.prog 63 #[uG n] w fun e w'=>e=.returned (.bool (ky n.op))∧Below w.heap.size w w':=by
 obtain ⟨op,l,r⟩:=n
 have LW:=fun W=>JV ⟨op,l,r⟩ W
 unfold uG at *
 dsimp only at *
 by_cases h1:op=70
 ·subst h1
  clear LW
  go_enter Tryz.func63,Tryz.ntmps63
  go_wp2_with fail
  go_ret
  exact ⟨rfl,(Below.refl _ _).alloc (Nat.le_refl _) _⟩
 by_cases h2:op=85
 ·subst h2
  clear LW
  go_enter Tryz.func63,Tryz.ntmps63
  go_wp2_with fail
  go_ret
  exact ⟨rfl,(Below.refl _ _).alloc (Nat.le_refl _) _⟩
 have k1:((op:Int)==70)=false:=beq_eq_false_iff_ne.2 (by omega)
 have k2:((op:Int)==85)=false:=beq_eq_false_iff_ne.2 (by omega)
 have E:Hid (ky op=jM op):=hid (by simp [ky,h1,h2])
 go_enter Tryz.func63,Tryz.ntmps63
 go_wp2_with fail
 refine (LW _).mono ?_
 rintro e w' ⟨rfl,hb⟩
 go_wp2_with fail
 go_ret
 exact ⟨by rw [E.out];rfl,((Below.refl _ _).alloc (Nat.le_refl _) _).trans (hb.mono (by simp))⟩
theorem adi (n:Nd) (w:World):Calls Tryz.prog 117 #[uG n] w fun e w'=>e=.returned (.int .i64 (gF n:Nat))∧Below w.heap.size w w':=by
 obtain ⟨op,l,r⟩:=n
 unfold uG
 dsimp only at *
 by_cases h1:op=85
 ·subst h1
  go_enter Tryz.func117,Tryz.ntmps117
  go_wp2_with fail
  go_ret
  exact ⟨by simp [gF],(Below.refl _ _).alloc (Nat.le_refl _) _⟩
 by_cases h2:op=82
 ·subst h2
  go_enter Tryz.func117,Tryz.ntmps117
  go_wp2_with fail
  go_ret
  exact ⟨by simp [gF],(Below.refl _ _).alloc (Nat.le_refl _) _⟩
 have k1:((op:Int)==85)=false:=beq_eq_false_iff_ne.2 (by omega)
 have k2:((op:Int)==82)=false:=beq_eq_false_iff_ne.2 (by omega)
 have E:Hid (gF ⟨op,l,r⟩=l):=hid (by simp [gF,h1,h2])
 go_enter Tryz.func117,Tryz.ntmps117
 go_wp2_with fail
 go_ret
 exact ⟨by rw [E.out];rfl,(Below.refl _ _).alloc (Nat.le_refl _) _⟩
def iK (ns:List Nd) (x N:Nat):Nat→Nat
 | 0=>0
 | k+1=>qR (iK ns x N k) k (aK (ai ns k).op x ((iK ns x N k).testBit (ai ns k).l) ((iK ns x N k).testBit (ai ns k).r) (N.testBit k) (N.testBit (ai ns k).l))
def eT (ns:List Nd) (x N:Nat):Nat:=iK ns x N ns.length
theorem sV (ns:List Nd) (x N:Nat):∀ k,k≤8→iK ns x N k<256
 | 0,_=>by simp [iK]
 | k+1,h=>EW (sV ns x N k (by omega)) (by omega)
theorem rJ {ns:List Nd} (h:ns.length≤8) (x N:Nat):eT ns x N<256:=sV ns x N _ h
theorem jZ {ns:List Nd} {k:Nat} (h:k<ns.length):ns[k]?=some (ai ns k):=by simp [ai,List.getD,List.getElem?_eq_getElem h]
theorem Ut (gn m ncap x N:Nat) (ns:List Nd) (w:World) (hm:DF w gn ns) (hg:Good ns) (hlm:ns.length=m) (hx:x<8) (hN:N<256) :
  Calls Tryz.prog 62 #[.slice (some ⟨gn,0,none⟩) m ncap,.int .i64 x,.int .i64 N] w fun e w'=>e=.returned (.int .u8 (eT ns x N:Nat))∧Below w.heap.size w w':=by
 have hle:=hg.le
 have HG:=hid hg
 have HM:=hid hm
 have hgn:=hm.lt
 have HE:Hid (iK ns x N m=eT ns x N):=hid (by rw [←hlm];rfl)
 have HL:=hid hlm
 have hm8:m≤8:=by omega
 clear hm hg hle hlm
 go_enter Tryz.func62,Tryz.ntmps62
 go_wp2_with fail
 go_loopw [7,13] (fun h i wq=>∃ k:Nat,k≤m∧i=.int .i64 k∧h=.int .i64 (iK ns x N k:Nat)∧Below w.heap.size w wq) (fun _ i _=>m - (intOf i).toNat)
 case atStart=>exact ⟨0,Nat.zero_le _,rfl,rfl,Below.refl _ _⟩
 case round=>
  obtain ⟨k,hk,rfl,rfl,hb⟩:=hrel
  by_cases hlk:k<m
  ·have JY:k<8:=by omega
   have hS:=sV ns x N k (by omega)
   obtain ⟨h1,h2⟩:=fO.small HG.out.wf HG.out.le (jZ (ns:=ns) (k:=k) (by rw [HL.out];exact hlk))
   have n0:=(hb.cell (p:=⟨gn,k*3,none⟩) hgn).trans (HM.out.c0 k (by rw [HL.out];exact hlk))
   have n1:=(hb.cell (p:=⟨gn,k*3+1,none⟩) hgn).trans (HM.out.c1 k (by rw [HL.out];exact hlk))
   have n2:=(hb.cell (p:=⟨gn,k*3+2,none⟩) hgn).trans (HM.out.c2 k (by rw [HL.out];exact hlk))
   have LW:=fun W=>QS (ai ns k) k x (iK ns x N k) N W h1 h2 JY hx hS hN
   have HS:Hid (iK ns x N (k+1)=qR (iK ns x N k) k (aK (ai ns k).op x ((iK ns x N k).testBit (ai ns k).l) ((iK ns x N k).testBit (ai ns k).r) (N.testBit k) (N.testBit (ai ns k).l))):=hid rfl
   unfold uG at LW
   generalize ai ns k=nd at *
   generalize iK ns x N k=S at *
   go_wp2_with fail
   refine (LW _).mono ?_
   rintro e w2 ⟨rfl,hb2⟩
   clear LW n0 n1 n2
   generalize aK nd.op x (S.testBit nd.l) (S.testBit nd.r) (N.testBit k) (N.testBit nd.l)=v at *
   go_wp2_with fail
   refine (Eb S k v _ hS JY).mono ?_
   rintro e w3 ⟨rfl,rfl⟩
   go_wp2_with fail
   go_roundw
   case rel=>exact ⟨k+1,by omega,by go_num,by rw [HS.out],(hb.alloc hb.size _).trans (hb2.mono (by have:=hb.size;simp;omega))⟩
   case measure=>simp [intOf];omega
  ·obtain rfl:k=m:=by omega
   have hS:=sV ns x N k (by omega)
   have e1:IntKind.u8.wrap ((iK ns x N k:Nat):Int)=((iK ns x N k:Nat):Int):=by
    rw [IntKind.wrap_u8];omega
   go_wp2_with fail
   go_ret
   exact ⟨by rw [←HE.out];rfl,hb⟩
theorem size_alloc (w:World) (o:Obj):(w.alloc o).heap.size=w.heap.size+1:=by simp
def upTo (f:Nat→Bool) (n:Nat):Nat→Bool:=fun j=>if j<n then f j else false
theorem qo (f:Nat→Bool) (n:Nat):upd (upTo f n) n (f n)=upTo f (n+1):=by
 funext j
 unfold upd upTo
 by_cases e:j=n
 ·subst e;simp
 ·by_cases h:j<n
  ·simp [e,h];intro;omega
  ·simp [e,h];intro;omega
theorem qm (f:Nat→Bool):upTo f 0=fun _=>false:=by funext j;simp [upTo]
theorem Ec (f:Nat→Bool) {j:Nat} (h:j<256):upTo f 256 j=f j:=by simp [upTo,h]
def jm (k e:Nat):Nat→Bool:=fun v=>v.testBit k==v.testBit e
theorem P7 (nd:Nd) (k:Nat) (w:World) (hk:k<8) (hl:nd.l<8) (hr:nd.r<8) :
  Calls Tryz.prog 64 #[uG nd,.int .i64 k] w fun e w'=>e=.returned (.agg (gv (jm k (gF nd))).toArray)∧Below w.heap.size w w':=by
 have hE:gF nd<8:=by unfold gF;split <;> omega
 have LE:=fun W=>adi nd W
 have HZ:=hid Tryz.rD
 unfold uG at *
 go_enter Tryz.func64,Tryz.ntmps64
 go_wp2_with (refine aW rfl (.tmp 5) (.tmp 10) rfl (w.heap.size+1+1) 0 (fun _=>false) rfl (congrArg Value.agg HZ.out) ?t1 ?_)
 case t1=>
  have:=(fw ((w.alloc (.cells #[.int .u8 nd.op,.int .i64 nd.l,.int .i64 nd.r] 109)).alloc (.cells Tryz.zeroCells61 61))).there
  simpa using this
 intro w1 S1
 have b3:Below (w.heap.size+1) (w.alloc (.cells #[.int .u8 nd.op,.int .i64 nd.l,.int .i64 nd.r] 109)) w1:=S1.aO _ _ (by omega) (((Below.refl _ _).alloc (by simp) _).alloc (by simp) _)
 have n0:w1.cell? ⟨w.heap.size,0,none⟩=some (.int .u8 nd.op):=(b3.cell (p:=⟨w.heap.size,0,none⟩) (by show w.heap.size<_;omega)).trans (by simp)
 have n1:w1.cell? ⟨w.heap.size,1,none⟩=some (.int .i64 nd.l):=(b3.cell (p:=⟨w.heap.size,1,none⟩) (by show w.heap.size<_;omega)).trans (by simp)
 have n2:w1.cell? ⟨w.heap.size,2,none⟩=some (.int .i64 nd.r):=(b3.cell (p:=⟨w.heap.size,2,none⟩) (by show w.heap.size<_;omega)).trans (by simp)
 clear b3
 have G5:=hid S1.at_
 have G4:Hid (aN w1 (w.heap.size+1) 0 (fun _=>false)):=by
  have z:=(fw (w.alloc (.cells #[.int .u8 nd.op,.int .i64 nd.l,.int .i64 nd.r] 109))).alloc (.cells Tryz.zeroCells61 61)
  rw [size_alloc] at z
  exact hid (S1.wI z (Or.inl (by omega)))
 have HB1:Hid (Below w.heap.size w w1):=hid (S1.aO _ _ (by omega) ((((Below.refl _ _).alloc (Nat.le_refl _) _).alloc (by simp) _).alloc (by simp;omega) _))
 have hs1:w1.heap.size=w.heap.size+3:=by rw [S1.size];simp
 clear S1
 go_wp2_with fail
 refine (LE _).mono ?_
 rintro e w2 ⟨rfl,hb2⟩
 have G5:=hid (G5.out.below hb2 (by omega))
 have G4:=hid (G4.out.below hb2 (by omega))
 have HB2:=hid (HB1.out.trans (hb2.mono (by omega)))
 clear hb2 HB1 n0 n1 n2 LE hs1
 go_wp2_with fail
 go_loopw [13] (fun i wq=>∃ j:Nat,j≤256∧i=.int .i64 j∧Hid (aN wq (w.heap.size+1+1) 0 (upTo (jm k (gF nd)) j))∧Hid (aN wq (w.heap.size+1) 0 (fun _=>false))∧Hid (Below w.heap.size w wq)) (fun i _=>256 - (intOf i).toNat)
 case atStart=>exact ⟨0,by omega,rfl,by rw [qm];exact G5,G4,HB2⟩
 case round=>
  obtain ⟨j,hj,rfl,H5,H4,HB⟩:=hrel
  rename World=>W0
  by_cases hlj:j<256
  ·have q0:W0.frozen? ⟨w.heap.size+1+1,j,none⟩=false:=by have:=H5.out.f j hlj;rwa [Nat.zero_add] at this
   have q1:W0.cell? ⟨w.heap.size+1+1,j,none⟩=some (.bool (upTo (jm k (gF nd)) j j)):=by have:=H5.out.c j hlj;rwa [Nat.zero_add] at this
   have D5:=hid (H5.out.set hlj (jm k (gF nd) j))
   have D4:=hid (H4.out.other ⟨w.heap.size+1+1,j,none⟩ (.bool (jm k (gF nd) j)) (Or.inl (by simp)))
   have DB:=hid (HB.out.setCell (p:=⟨w.heap.size+1+1,j,none⟩) (by show w.heap.size≤w.heap.size+1+1;omega) (.bool (jm k (gF nd) j)))
   rw [qo,Nat.zero_add] at D5
   have HA:=fun W=>aX j k W hlj hk
   have HC:=fun W=>aX j (gF nd) W hlj hE
   unfold jm at D4 D5 DB
   generalize upTo (jm k (gF nd)) j j=ov at *
   go_wp2_with fail
   refine (HA _).mono ?_
   rintro e w3 ⟨rfl,rfl⟩
   go_wp2_with fail
   refine (HC _).mono ?_
   rintro e w4 ⟨rfl,rfl⟩
   clear HA HC
   go_wp2_with fail
   go_roundw
   case rel=>exact ⟨j+1,by omega,by go_num,D5,D4,DB⟩
   case measure=>simp [intOf];omega
  ·obtain rfl:j=256:=by omega
   have G:=hid (H5.out.congr (fun j hj=>Ec (jm k (gF nd)) hj))
   go_wp2_with (first | (refine aC rfl (.tmp 5) rfl (w.heap.size+1+1) 0 _ rfl G.out ?_) | (refine aW rfl (.tmp 4) (.tmp 28) rfl (w.heap.size+1) 0 (jm k (gF nd)) rfl rfl H4.out.there ?_))
   intro w5 S5
   go_wp2_with fail
   refine xq Tryz.results64 ?_ ?_ S5.at_ ?_
   ·rfl
   ·rfl
   ·exact ⟨rfl,S5.aO _ _ (by omega) HB.out⟩
def geq (g h:Nat→Bool):Bool:=(List.range 256).all fun j=>g j==h j
theorem iN {g h:Nat→Bool}:geq g h=true↔∀ j,j<256→g j=h j:=by simp [geq]
theorem xn (d:Nat) (g h:Nat→Bool) (w:World):∀ is:List Nat,(∀ i∈is,i<256)→(Op.eqItems (d+1) 4 1 (gv g).toArray (gv h).toArray is).run Tryz.prog w=.ok (is.all fun j=>g j==h j) w
 | [],_=>by simp [Op.eqItems]
 | i::is,hi=>by
  have h0:=hi i (by simp)
  have ih:=xn d g h w is (fun j hj=>hi j (by simp [hj]))
  have p:∀ f:Nat→Bool,(part 4 (gv f).toArray (i*1)).run Tryz.prog w=.ok (.bool (f i)) w:=fun f=>by
   have:=wG f h0
   simp [part,Tryz.isAgg4,this]
  simp only [Op.eqItems,Sem.run_bind,p,Result.andThen_ok,run_equalIn_bool' w d 4 _ _ Tryz.underlying4]
  cases e:(g i==h i)
  ·simp [e]
  ·simp [e,ih]
theorem Tryz.Ci:(Tryz.prog.info? 4).map (·.size)=some 1:=by kernel_rfl
theorem Tryz.XM:∃ i,Tryz.prog.info? 4=some i∧i.size=1:=by
 have h:=Tryz.Ci
 cases hq:Tryz.prog.info? 4 with
 | none=>simp [hq] at h
 | some i=>simp [hq] at h;exact ⟨i,rfl,h⟩
theorem mQ (d:Nat) (g h:Nat→Bool) (w:World):(Op.equalIn (d+1+1) 61 (.agg (gv g).toArray) (.agg (gv h).toArray)).run Tryz.prog w=.ok (geq g h) w:=by
 obtain ⟨i,hi,hs⟩:=Tryz.XM
 rw [run_equalIn_array w (d+1) _ _ Tryz.iH hi]
 have:Tryz.prog.cellsOf 4=1:=by kernel_rfl
 rw [this]
 exact xn d g h w _ (fun j hj=>by simpa using hj)
def eu (E:Nat→Nat→Prop) (G:Nat→Prop) (x:Nat):Prop:=∃ y,reach E x y∧G y
theorem eu.mono {E:Nat→Nat→Prop} {G H:Nat→Prop} (h:∀ x,G x→H x) {x:Nat} (k:eu E G x):eu E H x:=k.imp fun y ⟨a,b⟩=>⟨a,h y b⟩
theorem eu.congr {E:Nat→Nat→Prop} {G H:Nat→Prop} (h:∀ x,G x↔H x) (x:Nat):eu E G x↔eu E H x:=⟨eu.mono fun x=>(h x).1,eu.mono fun x=>(h x).2⟩
def kZ (E:Nat→Nat→Prop) (cs:List (Nat→Bool)) (G:Nat→Prop):Nat→Prop:=cs.foldl (fun L c=>eu E (fun y=>L y∧c y=true)) (eu E G)
theorem Uo (E:Nat→Nat→Prop) (cs:List (Nat→Bool)) (c:Nat→Bool) (G:Nat→Prop):kZ E (cs++[c]) G=eu E (fun y=>kZ E cs G y∧c y=true):=by simp [kZ]
theorem Kg {E:Nat→Nat→Prop}:∀ (cs:List (Nat→Bool)) (A B:Nat→Prop),(∀ x,A x→B x)→∀ x,cs.foldl (fun L c=>eu E (fun y=>L y∧c y=true)) A x→cs.foldl (fun L c=>eu E (fun y=>L y∧c y=true)) B x
 | [],A,B,h=>h
 | c::cs,A,B,h=>Kg cs _ _ (fun x k=>k.mono fun y ⟨a,b⟩=>⟨h y a,b⟩)
theorem Xr {E:Nat→Nat→Prop} {cs:List (Nat→Bool)} {G H:Nat→Prop} (h:∀ x,G x→H x) (x:Nat):kZ E cs G x→kZ E cs H x:=
 Kg cs _ _ (fun x k=>k.mono h) x
def KL (cs:List (Nat→Bool)) (k i:Nat):Prop:=∃ c,cs[k]?=some c∧c i=true
def gu (E:Nat→Nat→Prop) (cs:List (Nat→Bool)) (x:Nat):Prop:=∃ q,q 0=x∧Path E q∧tQ (KL cs) cs.length q
theorem BR {E:Nat→Nat→Prop} {q:Nat→Nat} (hq:Path E q):∀ (cs:List (Nat→Bool)) (A:Nat→Prop),(∀ c∈cs,∀ t,∃ t',t≤t'∧c (q t')=true)→(∀ t,A (q t))→∀ t,cs.foldl (fun L c=>eu E (fun y=>L y∧c y=true)) A (q t)
 | [],A,_,h=>h
 | c::cs,A,hc,h=>by
  refine BR hq cs _ (fun c' hc'=>hc c' (List.mem_cons_of_mem _ hc')) (fun t=>?_)
  obtain ⟨t',h1,h2⟩:=hc c (List.mem_cons_self ..) (t+1)
  obtain ⟨d,rfl⟩:∃ d,t'=t+d+1:=⟨t' - t - 1,by omega⟩
  exact ⟨_,qU hq t d,h _,h2⟩
theorem nX {cs:List (Nat→Bool)} {q:Nat→Nat} (h:tQ (KL cs) cs.length q):∀ c∈cs,∀ t,∃ t',t≤t'∧c (q t')=true:=by
 intro c hc t
 obtain ⟨k,hk,e⟩:=List.getElem_of_mem hc
 obtain ⟨t',h1,c',h2,h3⟩:=h k hk t
 rw [List.getElem?_eq_getElem hk,e] at h2
 cases h2
 exact ⟨t',h1,h3⟩
theorem wK {E:Nat→Nat→Prop} {cs:List (Nat→Bool)} {q:Nat→Nat} (hq:Path E q) (hm:tQ (KL cs) cs.length q) (t:Nat):gu E cs (q t):=by
 refine ⟨fun i=>q (t+i),rfl,fun i=>?_,fun k hk i=>?_⟩
 ·have:=hq (t+i)
  rwa [show t+i+1=t+(i+1) by omega] at this
 ·obtain ⟨t',h1,h2⟩:=hm k hk (t+i)
  refine ⟨t' - t,by omega,?_⟩
  show KL cs k (q (t+(t' - t)))
  rwa [show t+(t' - t)=t' by omega]
theorem NG {E:Nat→Nat→Prop} {cs:List (Nat→Bool)} {G:Nat→Prop} (h:∀ x,gu E cs x→G x) (x:Nat) (hx:gu E cs x):kZ E cs G x:=by
 obtain ⟨q,rfl,hq,hm⟩:=hx
 have hG:∀ t,G (q t):=fun t=>h _ (wK hq hm t)
 exact BR hq cs _ (nX hm) (fun t=>⟨_,qU hq t 0,hG _⟩) 0
theorem Ke {E:Nat→Nat→Prop} {G:Nat→Prop}:∀ (cs done:List (Nat→Bool)) (A:Nat→Prop),(∀ x,A x→∃ y,G y∧reach E x y∧∀ c∈done,∃ i,reach E x i∧c i=true∧reach E i y) →
  ∀ x,cs.foldl (fun L c=>eu E (fun y=>L y∧c y=true)) A x→∃ y,G y∧reach E x y∧∀ c∈done++cs,∃ i,reach E x i∧c i=true∧reach E i y
 | [],done,A,h=>by simpa using h
 | c::cs,done,A,h=>by
  have:=Ke (G:=G) cs (done++[c]) (eu E (fun y=>A y∧c y=true)) (fun x ⟨z,h1,h2,h3⟩=>by
   obtain ⟨y,h4,h5,h6⟩:=h z h2
   refine ⟨y,h4,dA h1 h5,fun c' hc'=>?_⟩
   rcases List.mem_append.1 hc' with hc' | hc'
   ·obtain ⟨i,h7,h8,h9⟩:=h6 c' hc'
    exact ⟨i,dA h1 h7,h8,h9⟩
   ·simp at hc'
    subst hc'
    exact ⟨z,h1,h3,h5⟩)
  simpa using this
theorem Ko {E:Nat→Nat→Prop} {cs:List (Nat→Bool)} {G:Nat→Prop} {x:Nat} (h:kZ E cs G x):∃ y,G y∧reach E x y∧∀ c∈cs,∃ i,reach E x i∧c i=true∧reach E i y:=by
 have:=Ke (E:=E) (G:=G) cs [] (eu E G) (fun x ⟨y,h1,h2⟩=>⟨y,h2,h1,fun c hc=>by simp at hc⟩) x h
 simpa using this
theorem Og {E:Nat→Nat→Prop} {cs:List (Nat→Bool)} {G:Nat→Prop} {n:Nat} (hE:∀ a b,E a b→b<n) (h:∀ x,G x→kZ E cs G x) {x:Nat} (hn:x<n) (hx:G x):gu E cs x:=by
 have nx:∀ a:{ a // G a },∃ b:{ a // G a },reach E a.1 b.1∧∀ c∈cs,∃ i,reach E a.1 i∧c i=true∧reach E i b.1:=fun a=>by
  obtain ⟨y,h1,h2⟩:=Ko (h a.1 a.2)
  exact ⟨⟨y,h1⟩,h2⟩
 let f:{ a // G a }→{ a // G a }:=fun a=>Classical.choose (nx a)
 have hf:∀ a,reach E a.1 (f a).1∧∀ c∈cs,∃ i,reach E a.1 i∧c i=true∧reach E i (f a).1:=fun a=>Classical.choose_spec (nx a)
 let p:Nat→{ a // G a }:=fun t=>Nat.rec ⟨x,hx⟩ (fun _ a=>f a) t
 have hp:∀ t,p (t+1)=f (p t):=fun t=>rfl
 have rb:∀ {a b},reach E a b→b<n:=by
  intro a b ⟨L,hL⟩
  induction L generalizing a with
  | zero=>obtain ⟨c,he,rfl⟩:=hL;exact hE _ _ he
  | succ L ih=>obtain ⟨c,he,hc⟩:=hL;exact ih hc
 have bd:∀ t,(p t).1<n:=fun t=>by
  cases t with
  | zero=>exact hn
  | succ t=>rw [hp];exact rb (hf (p t)).1
 have sq:∀ d t,reach E (p t).1 (p (t+d+1)).1:=by
  intro d
  induction d with
  | zero=>intro t;rw [show t+0+1=t+1 by omega,hp];exact (hf (p t)).1
  | succ d ih=>
   intro t
   refine dA (ih t) ?_
   rw [show t+(d+1)+1=(t+d+1)+1 by omega,hp]
   exact (hf _).1
 obtain ⟨v,hv,-,hoft⟩:=Bw (q:=fun t=>(p t).1) (P:=fun _=>True) bd (fun t=>⟨t,Nat.le_refl _,trivial⟩)
 obtain ⟨t1,-,e1⟩:=hoft 0
 obtain ⟨t2,h2,e2⟩:=hoft (t1+2)
 obtain ⟨d,rfl⟩:∃ d,t2=t1+1+d+1:=⟨t2 - t1 - 2,by omega⟩
 have r1:=(hf (p t1)).1
 have r2:=sq d (t1+1)
 rw [e2,hp] at r2
 rw [e1] at r1
 have hvv:reach E v v:=dA r1 r2
 have hxv:reach E x v:=by
  cases t1 with
  | zero=>rw [←e1] at hvv;rw [←e1];exact hvv
  | succ t=>
   have:=sq t 0
   rw [show 0+t+1=t+1 by omega,e1] at this
   exact this
 refine (yl (K:=KL cs) (m:=cs.length) hE hn).2 ⟨v,hv,hxv,hvv,fun k hk=>?_⟩
 obtain ⟨i,h3,h4,h5⟩:=(hf (p t1)).2 cs[k] (List.getElem_mem hk)
 rw [e1] at h3
 exact ⟨i,h3,dA h5 r2,cs[k],List.getElem?_eq_getElem hk,h4⟩
/-! ### The search -/
def gG (f:Nat→Bool):Nat→Nat
 | 0=>0
 | n+1=>gG f n+(if f n=true then 1 else 0)
theorem yN (f:Nat→Bool):∀ n,gG f n≤n
 | 0=>Nat.le_refl _
 | n+1=>by have:=yN f n;rw [gG];split <;> omega
theorem Gm {f g:Nat→Bool}:∀ n,(∀ i,i<n→f i=g i)→gG f n=gG g n
 | 0,_=>rfl
 | n+1,h=>by rw [gG,gG,Gm n (fun i hi=>h i (by omega)),h n (by omega)]
theorem EI {f:Nat→Bool} {b:Nat} (hf:f b=false):∀ n,b<n→gG (upd f b true) n=gG f n+1
 | 0,h=>by omega
 | n+1,h=>by
  by_cases e:b=n
  ·subst e
   rw [gG,gG,Gm (f:=upd f b true) (g:=f) b (fun i hi=>by unfold upd;rw [if_neg (by omega)])]
   simp [upd,hf]
  ·rw [gG,gG,EI hf n (by omega)]
   have e2:upd f b true n=f n:=by unfold upd;rw [if_neg (fun h=>e h.symm)]
   rw [e2];omega
theorem Kt {f g:Nat→Bool}:∀ n,(∀ i,i<n→f i=true→g i=true)→gG f n≤gG g n
 | 0,_=>Nat.le_refl _
 | n+1,h=>by
  have h1:=Kt n (fun i hi=>h i (by omega))
  have h2:=h n (by omega)
  rw [gG,gG]
  by_cases e:f n=true
  ·rw [if_pos e,if_pos (h2 e)];omega
  ·rw [if_neg e];split <;> omega
theorem Rc {f g:Nat→Bool} {b:Nat} (hf:f b=false) (hg:g b=true):∀ n,b<n→(∀ i,i<n→f i=true→g i=true)→gG f n<gG g n
 | 0,h,_=>by omega
 | n+1,h,hm=>by
  by_cases e:b=n
  ·subst e
   have:=Kt b (fun i hi=>hm i (by omega))
   rw [gG,gG,if_neg (by simp [hf]),if_pos hg];omega
  ·have h1:=Rc hf hg n (by omega) (fun i hi=>hm i (by omega))
   have h2:=hm n (by omega)
   rw [gG,gG]
   by_cases e:f n=true
   ·rw [if_pos e,if_pos (h2 e)];omega
   ·rw [if_neg e];split <;> omega
structure GV (E:Nat→Nat→Prop) (N:Nat) (goal:Nat→Bool) (rl:List Nat) (found:Nat→Bool):Prop where
 Q6:∀ x,x<N→goal x=true→x∈rl
 sound:∀ x∈rl,x<N∧(goal x=true∨found x=true)
 ok:∀ x,found x=true→x<N∧eu E (fun y=>goal y=true) x
 in_:∀ x,found x=true→x∈rl
 len:rl.length=gG goal N+gG found N
theorem ZP {E:Nat→Nat→Prop} {N:Nat} {goal found:Nat→Bool} {rl:List Nat} (h:GV E N goal rl found) {a y:Nat} (ha:a∈rl) (he:E y a) (hy:y<N) (hf:found y=false):GV E N goal (rl++[y]) (upd found y true):=by
 have hu:∀ x,upd found y true x=true↔(found x=true∨x=y):=fun x=>by
  unfold upd
  by_cases e:x=y
  ·simp [e]
  ·simp [e]
 refine ⟨fun x hx hg=>List.mem_append_left _ (h.Q6 x hx hg),fun x hx=>?_,fun x hx=>?_,fun x hx=>?_,?_⟩
 ·rcases List.mem_append.1 hx with hx | hx
  ·obtain ⟨h1,h2⟩:=h.sound x hx
   exact ⟨h1,h2.imp id fun h3=>(hu x).2 (Or.inl h3)⟩
  ·simp at hx
   subst hx
   exact ⟨hy,Or.inr ((hu x).2 (Or.inr rfl))⟩
 ·rcases (hu x).1 hx with h1 | rfl
  ·exact h.ok x h1
  ·refine ⟨hy,?_⟩
   obtain ⟨h1,h2⟩:=h.sound a ha
   rcases h2 with h2 | h2
   ·exact ⟨a,jS he,h2⟩
   ·obtain ⟨z,h3,h4⟩:=(h.ok a h2).2
    exact ⟨z,Tg he h3,h4⟩
 ·rcases (hu x).1 hx with h1 | rfl
  ·exact List.mem_append_left _ (h.in_ x h1)
  ·exact List.mem_append_right _ (by simp)
 ·rw [EI hf N hy,List.length_append,h.len];simp;omega
theorem Wn {E:Nat→Nat→Prop} {N:Nat} {goal found:Nat→Bool} {rl:List Nat} (hE:∀ a b,E a b→b<N) (h:GV E N goal rl found) (hall:∀ a∈rl,∀ y,E y a→found y=true) (x:Nat):found x=true↔eu E (fun y=>goal y=true) x:=by
 refine ⟨fun k=>(h.ok x k).2,?_⟩
 rintro ⟨y,⟨L,hL⟩,hg⟩
 induction L generalizing x with
 | zero=>
  obtain ⟨c,he,rfl⟩:=hL
  exact hall _ (h.Q6 _ (hE _ _ he) hg) x he
 | succ L ih=>
  obtain ⟨c,he,hc⟩:=hL
  exact hall c (h.in_ c (ih c hc)) x he
def az (goal:Nat→Bool) (n:Nat):List Nat:=(List.range n).filter goal
theorem BP (goal:Nat→Bool) (n:Nat):az goal (n+1)=az goal n++(if goal n=true then [n] else []):=by
 unfold az
 rw [List.range_succ,List.filter_append]
 cases e:goal n <;> simp [e]
theorem pJ (goal:Nat→Bool):∀ n,(az goal n).length=gG goal n
 | 0=>rfl
 | n+1=>by rw [BP,gG,List.length_append,pJ goal n];split <;> simp
theorem TP (E:Nat→Nat→Prop) (N:Nat) (goal:Nat→Bool):GV E N goal (az goal N) (fun _=>false):=by
 have z:∀ n,gG (fun _=>false) n=0:=fun n=>by
  induction n with
  | zero=>rfl
  | succ n ih=>rw [gG,ih];simp
 refine ⟨fun x hx hg=>by simp [az,hx,hg],fun x hx=>?_,fun x hx=>by simp at hx,fun x hx=>by simp at hx,by rw [pJ,z];rfl⟩
 simp [az] at hx
 exact ⟨hx.1,Or.inl hx.2⟩
structure bC (w:World) (g N:Nat) (f:Nat→Bool):Prop where
 c:∀ i,i<N→w.cell? ⟨g,i,none⟩=some (.bool (f i))
 f:∀ i,i<N→w.frozen? ⟨g,i,none⟩=false
theorem bC.below {B:Nat} {w w':World} {g N:Nat} {f:Nat→Bool} (h:bC w g N f) (hb:Below B w w') (hlt:g<B):bC w' g N f:=
 ⟨fun j hj=>(hb.cell (p:=⟨g,j,none⟩) hlt).trans (h.c j hj),fun j hj=>(hb.frozen (p:=⟨g,j,none⟩) hlt).trans (h.f j hj)⟩
theorem bC.drew {w:World} {g N:Nat} {f:Nat→Bool} (h:bC w g N f):bC w.drew g N f:=⟨h.c,h.f⟩
theorem bC.congr {w:World} {g N:Nat} {f f':Nat→Bool} (h:bC w g N f) (e:∀ j,j<N→f j=f' j):bC w g N f':=⟨fun j hj=>by rw [h.c j hj,e j hj],h.f⟩
theorem bC.set {w:World} {g N:Nat} {f:Nat→Bool} (h:bC w g N f) (i:Nat) (v:Bool):bC (w.setCell ⟨g,i,none⟩ (.bool v)) g N (upd f i v):=by
 refine ⟨fun j hj=>?_,fun j hj=>by rw [World.frozen?_setCell];exact h.f j hj⟩
 by_cases e:j=i
 ·subst e
  rw [World.cell?_setCell_same _ _ _ (h.c j hj)]
  simp [upd]
 ·rw [World.cell?_setCell_other _ ⟨g,i,none⟩ ⟨g,j,none⟩ _ (fun q=>e (by have:=congrArg Addr.off q;simp at this;omega)),h.c j hj]
  simp [upd,e]
theorem bC.other {w:World} {g N:Nat} {f:Nat→Bool} (h:bC w g N f) (p:Addr) (v:Value) (hp:p.block≠g):bC (w.setCell p v) g N f:=by
 refine ⟨fun j hj=>?_,fun j hj=>by rw [World.frozen?_setCell];exact h.f j hj⟩
 rw [World.cell?_setCell_other _ p ⟨g,j,none⟩ _ (fun q=>hp (congrArg Addr.block q))]
 exact h.c j hj
theorem bC.wI {w:World} {g N:Nat} {f:Nat→Bool} (h:bC w g N f) {t:Nat} (ht:t*256+256≤N):aN w g (t*256) (fun j=>f (t*256+j)):=
 ⟨fun j hj=>h.c _ (by omega),fun j hj=>h.f _ (by omega)⟩
theorem bC.stored {w w1:World} {b o g N:Nat} {f g':Nat→Bool} (h:bC w g N f) (s:sZ w b o g' w1) (hne:g≠b):bC w1 g N f:=
 ⟨fun j hj=>by rw [s.cell ⟨g,j,none⟩ (Or.inl hne)];exact h.c j hj,fun j hj=>by rw [s.fz];exact h.f j hj⟩
theorem Tryz.BJ:(Tryz.prog.info? 61).map (fun i=>(i.zero,i.size,i.bytes))=some (some (.agg (gv fun _=>false).toArray),256,256):=by kernel_rfl
theorem Xd {w:World} {base g n:Nat} (h:w.ownsRow base 61 256 (.slice (some ⟨g,0,none⟩) n n) n (madeCells (gv fun _=>false).toArray (n*256)).toList):bC w g (n*256) (fun _=>false):=by
 refine ⟨fun i hi=>?_,fun i hi=>World.ownsRow.frozenAt h i⟩
 rw [World.ownsRow.cellAt h i (by omega)]
 have h1:(madeCells (gv fun _=>false).toArray (n*256)).toList[i]?=some ((gv fun _=>false).toArray[i % (gv fun _=>false).toArray.size]!):=by
  simp [madeCells,hi]
 rw [h1]
 have h2:i % 256<256:=Nat.mod_lt _ (by omega)
 simp [gv,h2]
theorem iq {ops:Array Oper} {rest:List Oper} {o:Oper} {a:Act} {Q:Exit→Act→World→Prop} (w:World) (hg:o.guard=none) (l:Operand) (hop:o.op=Op.makeSlice 59 l l) (n:Nat) (hl:a.eval l=.int .i64 n) (hn:n≤1099511627776)
  (hK:∀ w',bC w' w.heap.size (n*256) (fun _=>false)→w.heap.size<w'.heap.size→Below w.heap.size w w'→wpList Tryz.prog ops Q rest (a.put o.dst (.slice (some ⟨w.heap.size,0,none⟩) n n)) w') :
  wpList Tryz.prog ops Q (o::rest) a w:=by
 obtain ⟨i0,hi,hz0,hz1,hz2⟩:=info_parts Tryz.BJ
 refine wpList_make_full w hg l l 59 hop w.heap.size 61 i0 (.agg (gv fun _=>false).toArray) 256 Tryz.underlying59 hi hz0 hz1 .i64 .i64 n n n hl hl rfl rfl ?_ ?_ (Nat.le_refl _) ?_
 ·rw [hz2];omega
 ·unfold maxLen;omega
 ·intro w' own grow
  exact hK w' (Xd own) (own.lt _ rfl).2 ((Below.refl _ _).grown grow (Nat.le_refl _) (fun k h=>by cases h))
def dG (f wt:Nat→Bool):Nat→Bool:=fun x=>f x&&wt (x % 256)
theorem pU (f:Nat→Bool) {j:Nat} (hj:j<256) (W:World):(Instr.index 61 (.agg (gv f).toArray) (.int .i64 (j:Nat))).run Tryz.prog W=.ok (.bool (f j)) W:=
 gY W Tryz.iH (fun w=>yG Tryz.underlying4 w) Tryz.Ci hj (by simpa using wG f hj)
theorem EJ (g n cap:Nat) (f wt:Nat→Bool) (w:World) (hn:n≤1099511627776) (hf:bC w g (n*256) f) (hg:g<w.heap.size) :
  Calls Tryz.prog 137 #[.slice (some ⟨g,0,none⟩) n cap,.agg (gv wt).toArray] w fun e w'=>∃ g',e=.returned (.slice (some ⟨g',0,none⟩) n n)∧w.heap.size≤g'∧g'<w'.heap.size∧bC w' g' (n*256) (dG f wt)∧Below w.heap.size w w':=by
 have HF:=hid hf
 clear hf
 go_enter Tryz.func137,Tryz.ntmps137
 go_wp2_with (at_make;go_must (refine iq _ rfl (.tmp 11) rfl n rfl hn ?_))
 intro w1 F1 hlt1 hb1
 have G3:=hid ((sS w wt 61).below hb1 (by omega))
 have F5:=hid F1
 have HB1:=hid (((Below.refl w.heap.size w).alloc (Nat.le_refl _) (.cells (gv wt).toArray 61)).trans (hb1.mono (by omega)))
 clear F1 hb1
 go_wp2_with fail
 go_loopw [15] (fun i wq=>∃ t:Nat,t≤n∧i=.int .i64 t∧Hid (bC wq (w.heap.size+1) (n*256) (upTo (dG f wt) (t*256)))∧Hid (aN wq w.heap.size 0 wt)∧w.heap.size+1<wq.heap.size∧Hid (Below w.heap.size w wq)) (fun i _=>n - (intOf i).toNat)
 case atStart=>exact ⟨0,Nat.zero_le _,rfl,by rw [Nat.zero_mul,qm];exact F5,G3,hlt1,HB1⟩
 case round=>
  obtain ⟨t,ht,rfl,H5,H3,hz,HB⟩:=hrel
  rename World=>W0
  by_cases hlt:t<n
  ·have GG:=hid ((HF.out.below HB.out hg).wI (t:=t) (by omega))
   go_wp2_with (first | (refine aC rfl (.tmp 18) rfl g (t*256) _ rfl GG.out ?_) | (refine aW rfl (.tmp 7) (.tmp 19) rfl W0.heap.size 0 (fun j=>f (t*256+j)) rfl rfl (fw W0).there ?_))
   intro w2 S2
   have A7:=hid S2.at_
   have A3:=hid (S2.wI (H3.out.alloc (.cells Tryz.zeroCells61 61)) (Or.inl (by omega)))
   have A5:=hid ((H5.out.below ((Below.refl W0.heap.size W0).alloc (Nat.le_refl _) (.cells Tryz.zeroCells61 61)) (by omega)).stored S2 (by omega))
   have AB:=hid (S2.aO _ _ (by omega) (HB.out.alloc (by omega) (.cells Tryz.zeroCells61 61)))
   have hz2:w.heap.size+1<w2.heap.size:=by rw [S2.size,size_alloc];omega
   clear S2 GG
   go_wp2_with (refine aC rfl (.tmp 7) rfl W0.heap.size 0 _ rfl A7.out ?_)
   go_loopw [21] (fun i wq=>∃ j:Nat,j≤256∧i=.int .i64 j∧Hid (bC wq (w.heap.size+1) (n*256) (upTo (dG f wt) (t*256+j)))∧Hid (aN wq w.heap.size 0 wt)∧w.heap.size+1<wq.heap.size∧Hid (Below w.heap.size w wq)) (fun i _=>256 - (intOf i).toNat)
   case atStart=>exact ⟨0,by omega,rfl,A5,A3,hz2,AB⟩
   case round=>
    obtain ⟨j,hj,rfl,H5,H3,hz3,HB⟩:=hrel
    rename World=>W3
    by_cases hlj:j<256
    ·have q0:=H5.out.f (t*256+j) (by omega)
     have q1:=H5.out.c (t*256+j) (by omega)
     have q2:W3.cell? ⟨w.heap.size,j,none⟩=some (.bool (wt j)):=by have:=H3.out.c j hlj;rwa [Nat.zero_add] at this
     have ix:=fun W=>pU (fun j=>f (t*256+j)) hlj W
     have e0:dG f wt (t*256+j)=(f (t*256+j)&&wt j):=by unfold dG;rw [show (t*256+j) % 256=j by omega]
     have D5:=hid (H5.out.drew.set (t*256+j) (dG f wt (t*256+j)))
     have D3:=hid (H3.out.drew.other ⟨w.heap.size+1,t*256+j,none⟩ (.bool (dG f wt (t*256+j))) (Or.inl (by simp)))
     have DB:=hid (HB.out.drew.setCell (p:=⟨w.heap.size+1,t*256+j,none⟩) (by show w.heap.size≤w.heap.size+1;omega) (.bool (dG f wt (t*256+j))))
     rw [qo] at D5
     generalize upTo (dG f wt) (t*256+j) (t*256+j)=ov at *
     generalize dG f wt (t*256+j)=sv at *
     generalize f (t*256+j)=fv at *
     generalize wt j=wv at *
     subst e0
     cases fv with
     | false=>
      simp only [Bool.false_and] at D5 D3 DB
      go_wp2_with fail
      refine wp_region_held_drew (S:=fun _=>True) (by kernel_rfl) trivial (fun hHeld=>?_)
      refine wpAnyH_take (i:=0) (oi:={ dst:=some 25,op:=Op.move (.tmp 5),type:=_,pos:=_,after:=_,guard:=none }) (v:=(Value.slice (some ⟨w.heap.size+1,0,none⟩) n n)) rfl (by kernel_rfl) (by kernel_rfl) (by kernel_rfl) (fun _ _ _ h=>h) (Or.inl ⟨by rfl,by intro w' hSw;(try dsimp only at hSw);go_simp⟩) (by assumption) ?_
      simp only [Act.put,List.setIfInBounds_toArray,List.set_cons_zero,List.set_cons_succ]
      refine wpAnyH_take (i:=1) (oi:={ dst:=some 26,op:=Op.move (.tmp 6),type:=_,pos:=_,after:=_,guard:=none }) (v:=(Value.int .i64 (t:Nat))) rfl (by kernel_rfl) (by kernel_rfl) (by kernel_rfl) (fun _ _ _ h=>h) (Or.inl ⟨by rfl,by intro w' hSw;(try dsimp only at hSw);go_simp⟩) (by assumption) ?_
      simp only [Act.put,List.setIfInBounds_toArray,List.set_cons_zero,List.set_cons_succ]
      refine wpAnyH_take (i:=2) (oi:={ dst:=some 27,op:=Op.move (.tmp 8),type:=_,pos:=_,after:=_,guard:=none }) (v:=(Value.int .i64 (j:Nat))) rfl (by kernel_rfl) (by kernel_rfl) (by kernel_rfl) (fun _ _ _ h=>h) (Or.inl ⟨by rfl,by intro w' hSw;(try dsimp only at hSw);go_simp⟩) (by assumption) ?_
      simp only [Act.put,List.setIfInBounds_toArray,List.set_cons_zero,List.set_cons_succ]
      refine wpAnyH_take (i:=3) (oi:={ dst:=some 28,op:=Op.move (.tmp 9),type:=_,pos:=_,after:=_,guard:=none }) (v:=(Value.bool false)) rfl (by kernel_rfl) (by kernel_rfl) (by kernel_rfl) (fun _ _ _ h=>h) (Or.inl ⟨by rfl,by intro w' hSw;(try dsimp only at hSw);go_simp⟩) (by assumption) ?_
      simp only [Act.put,List.setIfInBounds_toArray,List.set_cons_zero,List.set_cons_succ]
      refine wpAnyH_take (i:=4) (oi:={ dst:=some 29,op:=Op.move (.tmp 28),type:=_,pos:=_,after:=_,guard:=none }) (v:=(Value.bool false)) rfl (by kernel_rfl) (by kernel_rfl) (by kernel_rfl) (fun _ _ _ h=>h) (Or.inl ⟨by rfl,by intro w' hSw;(try dsimp only at hSw);go_simp⟩) (by assumption) ?_
      simp only [Act.put,List.setIfInBounds_toArray,List.set_cons_zero,List.set_cons_succ]
      refine wpAnyH_take (i:=5) (oi:={ dst:=some 30,op:=Op.move (.tmp 8),type:=_,pos:=_,after:=_,guard:=some (4,true) }) (v:=undef) rfl (by kernel_rfl) (by kernel_rfl) (by kernel_rfl) (fun _ _ _ h=>h) (Or.inr ⟨by rfl,rfl⟩) (by assumption) ?_
      simp only [Act.put,List.setIfInBounds_toArray,List.set_cons_zero,List.set_cons_succ]
      refine wpAnyH_take (i:=6) (oi:={ dst:=some 31,op:=Op.indexAddr _ (.tmp 3) (.tmp 30),type:=_,pos:=_,after:=_,guard:=some (4,true) }) (v:=undef) rfl (by kernel_rfl) (by kernel_rfl) (by kernel_rfl) (fun _ _ _ h=>h) (Or.inr ⟨by rfl,rfl⟩) (by assumption) ?_
      simp only [Act.put,List.setIfInBounds_toArray,List.set_cons_zero,List.set_cons_succ]
      refine wpAnyH_take (i:=7) (oi:={ dst:=some 32,op:=Op.load _ (.tmp 31),type:=_,pos:=_,after:=_,guard:=some (4,true) }) (v:=undef) rfl (by kernel_rfl) (by kernel_rfl) (by kernel_rfl) (fun _ _ _ h=>h) (Or.inr ⟨by rfl,rfl⟩) (by assumption) ?_
      simp only [Act.put,List.setIfInBounds_toArray,List.set_cons_zero,List.set_cons_succ]
      refine wpAnyH_take (i:=8) (oi:={ dst:=some 33,op:=Op.pick (.tmp 29) (.tmp 32) (Operand.const (Value.bool false)),type:=_,pos:=_,after:=_,guard:=none }) (v:=(Value.bool false)) rfl (by kernel_rfl) (by kernel_rfl) (by kernel_rfl) (fun _ _ _ h=>h) (Or.inl ⟨by rfl,by intro w' hSw;(try dsimp only at hSw);go_simp⟩) (by assumption) ?_
      simp only [Act.put,List.setIfInBounds_toArray,List.set_cons_zero,List.set_cons_succ]
      refine wpAnyH_take (i:=9) (oi:={ dst:=some 34,op:=Op.indexAddr _ (.tmp 25) (.tmp 26),type:=_,pos:=_,after:=_,guard:=none }) (v:=(Value.pointer (some ⟨w.heap.size+1,t*256,none⟩))) rfl (by kernel_rfl) (by kernel_rfl) (by kernel_rfl) (fun _ _ _ h=>h) (Or.inl ⟨by rfl,by intro w' hSw;(try dsimp only at hSw);go_simp⟩) (by assumption) ?_
      simp only [Act.put,List.setIfInBounds_toArray,List.set_cons_zero,List.set_cons_succ]
      refine wpAnyH_take (i:=10) (oi:={ dst:=some 35,op:=Op.indexAddr _ (.tmp 34) (.tmp 27),type:=_,pos:=_,after:=_,guard:=none }) (v:=(Value.pointer (some ⟨w.heap.size+1,t*256+j,none⟩))) rfl (by kernel_rfl) (by kernel_rfl) (by kernel_rfl) (fun _ _ _ h=>h) (Or.inl ⟨by rfl,by intro w' hSw;(try dsimp only at hSw);go_simp⟩) (by assumption) ?_
      simp only [Act.put,List.setIfInBounds_toArray,List.set_cons_zero,List.set_cons_succ]
      refine wpAnyH_ready (rs:=[11]) (by kernel_rfl) (by simp) ?_
      refine AllReadyH.cons rfl (fun K hK=>?_) AllReadyH.nil
      go_simp
      refine hK.out _ _ trivial (fun hHeld=>?_)
      clear hK K
      refine wpAnyH_done (by kernel_rfl) ?_ _
      go_wp2_with fail
      go_roundw
      case rel=>exact ⟨j+1,by omega,by go_num,D5,D3,by simp;omega,DB⟩
      case measure=>simp [intOf];omega
     | true=>
      simp only [Bool.true_and] at D5 D3 DB
      go_wp2_with fail
      go_region_held3 (fun w'=>w'.cell? ⟨w.heap.size,j,none⟩=some (.bool wv)) (go_keep) (fail)
      go_wp2_with fail
      go_roundw
      case rel=>exact ⟨j+1,by omega,by go_num,D5,D3,by simp;omega,DB⟩
      case measure=>simp [intOf];omega
    ·obtain rfl:j=256:=by omega
     go_wp2_with fail
     go_roundw
     case rel=>exact ⟨t+1,by omega,by go_num,by rw [show (t+1)*256=t*256+256 by omega];exact H5,H3,hz3,HB⟩
     case measure=>simp [intOf];omega
  ·obtain rfl:t=n:=by omega
   go_wp2_with fail
   go_ret
   exact ⟨_,rfl,by omega,hz,H5.out.congr (fun j hj=>by simp [upTo,hj]),HB.out⟩
end Go.Proofs.YtjagijohfkffiabGreat
