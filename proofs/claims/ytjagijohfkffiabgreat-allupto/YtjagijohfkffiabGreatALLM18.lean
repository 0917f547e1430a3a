import Derived.Test.YtjagijohfkffiabGreatALLM17
set_option maxHeartbeats 16000000
set_option maxRecDepth 100000
namespace Go.Proofs.YtjagijohfkffiabGreat
open Go.RowKit
set_option linter.unusedVariables false
theorem BO.keeps {w w':World} {B g N:Nat} {f:Nat→Bool} (h:BO w B g N f) (hb:Below w.heap.size w w'):BO w' B g N f:=ae h hb
theorem BO.base {w:World} {B B2 g N:Nat} {f:Nat→Bool} (h:BO w B g N f) (hb:B2≤B):BO w B2 g N f:=by
 refine ⟨h.1,?_⟩
 rcases h.2 with h0 | ⟨x,cap,cur,e,hx,r⟩
 ·exact Or.inl h0
 ·exact Or.inr ⟨x,cap,cur,e,Nat.le_trans hb hx,r⟩
structure jC (a:Nat) (w w':World):Prop where
 size:w.heap.size≤w'.heap.size
 block:∀ x,a≤x→x<w.heap.size→w'.heap[x]?=w.heap[x]?
theorem jC.refl (a:Nat) (w:World):jC a w w:=⟨Nat.le_refl _,fun _ _ _=>rfl⟩
theorem jC.below {a:Nat} {w w' w2:World} (h:jC a w w') (hb:Below w'.heap.size w' w2):jC a w w2:=⟨Nat.le_trans h.size hb.size,fun x h1 h2=>(hb.block x (Nat.lt_of_lt_of_le h2 h.size)).trans (h.block x h1 h2)⟩
theorem jC.set {a:Nat} {w w':World} (h:jC a w w') {k:Nat} (hk:k<a) (o:Nat) (u:Value):jC a w (w'.setCell ⟨k,o,none⟩ u):=⟨by rw [World.size_setCell];exact h.size,fun x h1 h2=>(Below.heap_setCell _ _ _ _ (by simp;omega)).trans (h.block x h1 h2)⟩
def I9:Prop:=∀ (P N K:Nat) (to:Nat→List Nat) (kp:Nat→Nat→Bool) (w:World),mK w P N to K kp→0<N→(∀ a,a<N→∀ b∈to a,b<N)→(∀ a,a<N→(to a).length≤4398046511104)→(∀ a,a<N→∀ j,(to a).count j≤8)→N≤274877906944 →
  Calls Tryz.prog 123 #[.pointer (some ⟨P,0,none⟩)] w fun e w'=>∃ P2 tl,e=.returned (.pointer (some ⟨P2,0,none⟩))∧(∀ w2,jC w.heap.size w' w2→mK w2 P2 N tl 0 kp)∧(∀ j a,a∈tl j↔a<N∧j∈to a)∧(∀ j,(tl j).length≤8*N)∧Below w.heap.size w w'
theorem MB {N:Nat} {E:Nat→Nat→Prop} (hE:∀ x y,E x y→y<N):∀ L a b,pq E (L+1) a b→b<N
 | 0,a,b,h=>by
  obtain ⟨c,h1,h2⟩:=h
  obtain rfl:c=b:=h2
  exact hE _ _ h1
 | L+1,a,b,h=>by
  obtain ⟨c,h1,h2⟩:=h
  exact MB hE L c b h2
theorem Qc {N:Nat} {to:Nat→List Nat} (hto:∀ a,a<N→∀ b∈to a,b<N) {a b:Nat} (h:reach (Ed N to) a b):b<N:=by
 obtain ⟨L,h⟩:=h
 exact MB (fun x y e=>hto x e.1 y e.2) L a b h
theorem FC {N:Nat} {to tl:Nat→List Nat} (hto:∀ a,a<N→∀ b∈to a,b<N) (htl:∀ j a,a∈tl j↔a<N∧j∈to a) {a b:Nat}:reach (Ed N tl) a b↔reach (Ed N to) b a:=by
 have e:Ed N tl=fun x y=>Ed N to y x:=by
  funext x y
  apply propext
  unfold Ed
  rw [htl]
  exact ⟨fun h=>h.2,fun h=>⟨hto y h.1 x h.2,h⟩⟩
 rw [e]
 exact ww
def rM (f:Nat→Bool):Nat→Bool
 | 0=>false
 | x+1=>rM f x||f x
def p8 (f:Nat→Bool):Nat→Bool
 | 0=>true
 | x+1=>p8 f x&&f x
theorem Ck (f:Nat→Bool):∀ n,rM f n=true↔∃ i,i<n∧f i=true
 | 0=>by simp [rM]
 | n+1=>by
  rw [rM,Bool.or_eq_true,Ck f n]
  constructor
  ·rintro (⟨i,h1,h2⟩ | h)
   ·exact ⟨i,by omega,h2⟩
   ·exact ⟨n,by omega,h⟩
  ·rintro ⟨i,h1,h2⟩
   by_cases e:i=n
   ·exact Or.inr (e ▸ h2)
   ·exact Or.inl ⟨i,by omega,h2⟩
theorem KC (f:Nat→Bool):∀ n,p8 f n=true↔∀ i,i<n→f i=true
 | 0=>by simp [p8]
 | n+1=>by
  rw [p8,Bool.and_eq_true,KC f n]
  constructor
  ·rintro ⟨h1,h2⟩ i hi
   by_cases e:i=n
   ·exact e ▸ h2
   ·exact h1 i (by omega)
  ·intro h
   exact ⟨fun i hi=>h i (by omega),h n (by omega)⟩
def GN (N:Nat) (to:Nat→List Nat) (K:Nat) (kp:Nat→Nat→Bool) (c:Nat):Prop:=vB (Ed N to) (fun k i=>kp k i=true) K c
def Fg (a b:Nat→Bool) (kp:Nat→Nat→Bool) (k:Nat):Nat→Bool:=fun i=>a i&&b i&&kp k i
def Kh (a b:Nat→Bool) (kp:Nat→Nat→Bool) (N:Nat):Nat→Bool:=fun k=>rM (Fg a b kp k) N
theorem aan {N K c:Nat} {to:Nat→List Nat} {kp:Nat→Nat→Bool} {a b:Nat→Bool} (hto:∀ a,a<N→∀ b∈to a,b<N) (ha:∀ i,a i=true↔reach (Ed N to) c i) (hb:∀ i,b i=true↔reach (Ed N to) i c) (hc:a c=true):p8 (Kh a b kp N) K=true↔GN N to K kp c:=by
 rw [KC]
 unfold GN vB
 constructor
 ·intro h
  refine ⟨(ha c).1 hc,fun k hk=>?_⟩
  obtain ⟨i,hi,e⟩:=(Ck _ _).1 (h k hk)
  simp only [Fg,Bool.and_eq_true] at e
  exact ⟨i,(ha i).1 e.1.1,(hb i).1 e.1.2,e.2⟩
 ·rintro ⟨_,h⟩ k hk
  obtain ⟨i,h1,h2,h3⟩:=h k hk
  refine (Ck _ _).2 ⟨i,Qc hto h1,?_⟩
  simp only [Fg,Bool.and_eq_true]
  exact ⟨⟨(ha i).2 h1,(hb i).2 h2⟩,h3⟩
structure Gx (N:Nat) (to:Nat→List Nat) (K:Nat) (kp:Nat→Nat→Bool) (c:Nat) (done good:Nat→Bool):Prop where
 p1:∀ i,done i=true→(good i=true↔GN N to K kp i)
 p2:∀ i,i<c→done i=true∨¬ reach (Ed N to) i i
 p3:∀ i,done i=false→good i=false
theorem Zn (N:Nat) (to:Nat→List Nat) (K:Nat) (kp:Nat→Nat→Bool):Gx N to K kp 0 (fun _=>false) (fun _=>false):=⟨fun i h=>(by cases h),fun i h=>(by omega),fun i _=>rfl⟩
theorem acC {N K c:Nat} {to:Nat→List Nat} {kp:Nat→Nat→Bool} {done good:Nat→Bool} (h:Gx N to K kp c done good) (hs:done c=true∨¬ reach (Ed N to) c c):Gx N to K kp (c+1) done good:=
 ⟨h.p1,fun i hi=>by
  by_cases e:i=c
  ·exact e ▸ hs
  ·exact h.p2 i (by omega),h.p3⟩
theorem adX {N K c:Nat} {to:Nat→List Nat} {kp:Nat→Nat→Bool} {done good:Nat→Bool} (h:Gx N to K kp c done good) (hd:done c=false) (hs:¬ reach (Ed N to) c c):Gx N to K kp (c+1) (upd done c true) good:=by
 refine ⟨fun i hi=>?_,fun i hi=>?_,fun i hi=>?_⟩
 ·unfold upd at hi
  by_cases e:i=c
  ·subst e
   rw [h.p3 i hd]
   exact ⟨fun h=>(by cases h),fun h=>absurd h.1 hs⟩
  ·rw [if_neg e] at hi;exact h.p1 i hi
 ·by_cases e:i=c
  ·subst e;exact Or.inl (vR _ _ _)
  ·rcases h.p2 i (by omega) with h1 | h1
   ·exact Or.inl (zq h1 (fun _=>rfl))
   ·exact Or.inr h1
 ·unfold upd at hi
  by_cases e:i=c
  ·rw [if_pos e] at hi;cases hi
  ·rw [if_neg e] at hi;exact h.p3 i hi
def wO (a b d:Nat→Bool) (x:Nat):Nat→Bool:=fun i=>if i<x∧a i=true∧b i=true then true else d i
def xD (a b g:Nat→Bool) (fine:Bool) (x:Nat):Nat→Bool:=fun i=>if i<x∧a i=true∧b i=true then fine else g i
theorem adk (a b d:Nat→Bool):wO a b d 0=d:=by funext i;simp [wO]
theorem adb (a b g:Nat→Bool) (fine:Bool):xD a b g fine 0=g:=by funext i;simp [xD]
theorem adl {a b d:Nat→Bool} {x:Nat} (h:(a x&&b x)=true):upd (wO a b d x) x true=wO a b d (x+1):=by
 rw [Bool.and_eq_true] at h
 funext i
 unfold upd wO
 by_cases e:i=x
 ·subst e;rw [if_pos rfl,if_pos ⟨by omega,h⟩]
 ·rw [if_neg e]
  by_cases e2:i<x∧a i=true∧b i=true
  ·rw [if_pos e2,if_pos ⟨by omega,e2.2⟩]
  ·rw [if_neg e2,if_neg (fun q=>e2 ⟨by omega,q.2⟩)]
theorem adc {a b g:Nat→Bool} {fine:Bool} {x:Nat} (h:(a x&&b x)=true):upd (xD a b g fine x) x fine=xD a b g fine (x+1):=by
 rw [Bool.and_eq_true] at h
 funext i
 unfold upd xD
 by_cases e:i=x
 ·subst e;rw [if_pos rfl,if_pos ⟨by omega,h⟩]
 ·rw [if_neg e]
  by_cases e2:i<x∧a i=true∧b i=true
  ·rw [if_pos e2,if_pos ⟨by omega,e2.2⟩]
  ·rw [if_neg e2,if_neg (fun q=>e2 ⟨by omega,q.2⟩)]
theorem agM {a b d:Nat→Bool} {x:Nat} (h:(a x&&b x)=false):wO a b d x=wO a b d (x+1):=by
 funext i
 unfold wO
 by_cases e:i=x
 ·subst e
  rw [if_neg (fun q=>by omega),if_neg (fun q=>by rw [q.2.1,q.2.2] at h;cases h)]
 ·by_cases e2:i<x∧a i=true∧b i=true
  ·rw [if_pos e2,if_pos ⟨by omega,e2.2⟩]
  ·rw [if_neg e2,if_neg (fun q=>e2 ⟨by omega,q.2⟩)]
theorem agL {a b g:Nat→Bool} {fine:Bool} {x:Nat} (h:(a x&&b x)=false):xD a b g fine x=xD a b g fine (x+1):=by
 funext i
 unfold xD
 by_cases e:i=x
 ·subst e
  rw [if_neg (fun q=>by omega),if_neg (fun q=>by rw [q.2.1,q.2.2] at h;cases h)]
 ·by_cases e2:i<x∧a i=true∧b i=true
  ·rw [if_pos e2,if_pos ⟨by omega,e2.2⟩]
  ·rw [if_neg e2,if_neg (fun q=>e2 ⟨by omega,q.2⟩)]
theorem acD {N K c:Nat} {to:Nat→List Nat} {kp:Nat→Nat→Bool} {done good a b:Nat→Bool} (h:Gx N to K kp c done good) (hto:∀ a,a<N→∀ b∈to a,b<N) (ha:∀ i,a i=true↔reach (Ed N to) c i) (hb:∀ i,b i=true↔reach (Ed N to) i c) (hc:a c=true) (hcN:c<N) :
  Gx N to K kp (c+1) (wO a b (upd done c true) N) (xD a b good (p8 (Kh a b kp N) K) N):=by
 have hbc:b c=true:=(hb c).2 ((ha c).1 hc)
 have hF:=aan (K:=K) (kp:=kp) hto ha hb hc
 refine ⟨fun i hi=>?_,fun i hi=>?_,fun i hi=>?_⟩
 ·unfold wO at hi
  unfold xD
  by_cases e:i<N∧a i=true∧b i=true
  ·rw [if_pos e,hF]
   have h1:=(ha i).1 e.2.1
   have h2:=(hb i).1 e.2.2
   exact ⟨fun g=>Nv h1 h2 g,fun g=>Nv h2 h1 g⟩
  ·rw [if_neg e] at hi ⊢
   by_cases e2:i=c
   ·subst e2;exact absurd ⟨hcN,hc,hbc⟩ e
   ·unfold upd at hi;rw [if_neg e2] at hi;exact h.p1 i hi
 ·unfold wO
  by_cases e:i<N∧a i=true∧b i=true
  ·rw [if_pos e];exact Or.inl rfl
  ·rw [if_neg e]
   by_cases e2:i=c
   ·subst e2;exact Or.inl (vR _ _ _)
   ·rcases h.p2 i (by omega) with h1 | h1
    ·exact Or.inl (zq h1 (fun _=>rfl))
    ·exact Or.inr h1
 ·unfold wO at hi
  unfold xD
  by_cases e:i<N∧a i=true∧b i=true
  ·rw [if_pos e] at hi;cases hi
  ·rw [if_neg e] at hi ⊢
   by_cases e2:i=c
   ·subst e2;rw [vR] at hi;cases hi
   ·unfold upd at hi;rw [if_neg e2] at hi;exact h.p3 i hi
theorem adY {N K:Nat} {to:Nat→List Nat} {kp:Nat→Nat→Bool} {done good:Nat→Bool} (h:Gx N to K kp N done good) (i:Nat) (hi:i<N):good i=true↔GN N to K kp i:=by
 cases hd:done i with
 | true=>exact h.p1 i hd
 | false=>
  rcases h.p2 i hi with h1 | h1
  ·rw [hd] at h1;cases h1
  ·rw [h.p3 i hd]
   exact ⟨fun q=>(by cases q),fun q=>absurd q.1 h1⟩
theorem Vz (HT:I9) (P N K:Nat) (to:Nat→List Nat) (kp:Nat→Nat→Bool) (w:World) (hn:mK w P N to K kp) (hN0:0<N) (hto:∀ a,a<N→∀ b∈to a,b<N) (hlen:∀ a,a<N→(to a).length≤4398046511104) (hcnt:∀ a,a<N→∀ j,(to a).count j≤8) (hN:N≤274877906944) (hK:K≤65536) :
  Calls Tryz.prog 122 #[.pointer (some ⟨P,0,none⟩)] w fun e w'=>∃ g good,e=.returned (.slice (some ⟨g,0,none⟩) N N)∧w.heap.size≤g∧BO w' w.heap.size g N good∧(∀ i,i<N→(good i=true↔GN N to K kp i))∧Below w.heap.size w w':=by
 obtain ⟨v0,c0,ao,cap,rfl,hcap,hrow⟩:=hn.c0
 obtain ⟨v1,c1,aok,kcap,rfl,hkcap,hkrow⟩:=hn.c1
 have hP:=hn.lt
 have DW:=hid hn
 have HKR:=hid hkrow
 obtain ⟨i0,hi,hz0,hz1,hz2⟩:=info_parts Tryz.dw
 have xN:=hid hto
 have Ho:=hid hlen
 have RI:=hid hcnt
 have Rs:=hid HT
 clear hrow hkrow hn hto hlen hcnt HT
 go_enter Tryz.func122,Tryz.ntmps122
 go_wp2_with (at_make;go_must (refine wpList_make_full _ rfl (.tmp 21) (.tmp 21) 132 rfl w.heap.size 4 i0 (.bool false) 1 Tryz.underlying132 hi hz0 hz1 .i64 .i64 N N N rfl rfl rfl rfl ?m2 ?m3 (Nat.le_refl _) ?_))
 case m2=>rw [hz2];omega
 case m3=>unfold maxLen;omega
 intro w1 ay grow1
 have eo:(madeCells #[Value.bool false] N).toList=List.replicate N (.bool false):=toList_madeCells_one _ _
 rw [eo,←bJ (fun _=>false),show aj (fun _=>false) N 0=aj (fun _=>false) N N by simp [aj]] at ay
 have hb1:Below w.heap.size w w1:=(Below.refl _ _).grown grow1 (Nat.le_refl _) (fun k h=>by cases h)
 have OG:Hid (BO w1 w.heap.size w.heap.size N (fun _=>false)):=hid ay
 have hsz1:=hb1.size
 have hl0:=OG.out.blk.2
 have HB1:=hid hb1
 clear ay grow1 eo hb1
 go_wp2_with (at_make;go_must (refine wpList_make_full _ rfl (.tmp 23) (.tmp 23) 132 rfl w.heap.size 4 i0 (.bool false) 1 Tryz.underlying132 hi hz0 hz1 .i64 .i64 N N N rfl rfl rfl rfl ?m2 ?m3 hsz1 ?_))
 case m2=>rw [hz2];omega
 case m3=>unfold maxLen;omega
 intro w2 eG grow2
 have eo:(madeCells #[Value.bool false] N).toList=List.replicate N (.bool false):=toList_madeCells_one _ _
 rw [eo,←bJ (fun _=>false),show aj (fun _=>false) N 0=aj (fun _=>false) N N by simp [aj]] at eG
 have OD:Hid (BO w2 w.heap.size w1.heap.size N (fun _=>false)):=hid eG
 have XZ:=hid (OG.out.grown grow2)
 have hl1:=OD.out.blk.2
 have hb2:=HB1.out.grown grow2 hsz1 (fun k h=>by cases h)
 have hsz2:=hb2.size
 have HB2:=hid hb2
 clear eG grow2 eo OG HB1 hb2
 generalize hg1:w1.heap.size=g1 at *
 go_wp2_with fail
 refine (Rs.out P N K to kp w2 (DW.out.below HB2.out) hN0 xN.out Ho.out RI.out hN).mono ?_
 rintro e w3 ⟨P2,tl,rfl,ST,htl,hll,hb3⟩
 have HST:=hid ST
 have Cu:=hid htl
 have pR:=hid hll
 have OG3:=hid (XZ.out.keeps hb3)
 have OD3:=hid (OD.out.keeps hb3)
 have Iw:=hb3.size
 have HB3:=hid (HB2.out.trans (hb3.mono hsz2))
 clear XZ OD HB2 hb3 ST htl hll
 go_wp2_with fail
 refine (ZN P N K to kp w3 (DW.out.below HB3.out) xN.out Ho.out (by omega)).mono ?_
 rintro e w4 ⟨gl,lv,rfl,hgl,OL,hlv,hb4⟩
 have Yj:=hid OL
 have kK:=hid hlv
 have OG4:=hid (OG3.out.keeps hb4)
 have OD4:=hid (OD3.out.keeps hb4)
 have amF:=hb4.size
 have dm:=hid (HB3.out.trans (hb4.mono (by omega)))
 have Yc:=hid ((jC.refl w2.heap.size w3).below hb4)
 have ng1:gl≠w.heap.size:=by omega
 have ng2:gl≠g1:=by omega
 have ng3:g1≠w.heap.size:=by omega
 have hbl:=dm.out.size
 clear OG3 OD3 HB3 hb4 OL hlv
 go_wp2_with fail
 go_loopw [8] (fun i wq=>∃ (c:Nat) (done good:Nat→Bool),c≤N∧i=.int .i64 c∧Hid (Gx N to K kp c done good)∧Hid (BO wq w.heap.size w.heap.size N good)∧Hid (BO wq w.heap.size g1 N done)∧Hid (BO wq w3.heap.size gl N lv)∧Hid (jC w2.heap.size w3 wq)∧Below w.heap.size w wq) (fun i _=>N - (intOf i).toNat)
 case atStart=>exact ⟨0,_,_,Nat.zero_le _,rfl,hid (Zn _ _ _ _),OG4,OD4,Yj,Yc,dm.out⟩
 case round=>
  obtain ⟨c,done,good,hc,rfl,HR,HG,HD,HV,HS,hb⟩:=hrel
  rename World=>W0
  by_cases hlc:c<N
  ·have d1:=HD.out.get hlc
   have d2:=HV.out.get hlc
   have d3:=HD.out.fz c
   have HVC:Hid (lv c=false→¬ reach (Ed N to) c c):=hid (fun h r=>by have:=kK.out c r;rw [h] at this;cases this)
   have ni:=hid (fun h=>acC HR.out (c:=c) h)
   have Rx:=hid (fun h=>adX HR.out (c:=c) h)
   have D1:=hid (HD.out.set c true)
   have D2:=hid (HG.out.other HD.out ng3.symm c (.bool true))
   have D3:=hid (HV.out.other HD.out ng2 c (.bool true))
   have D4:=hid (HS.out.set (k:=g1) (by omega) c (.bool true))
   have iQ:=hid (hb.setCell (p:=⟨g1,c,none⟩) (by show w.heap.size≤g1;omega) (.bool true))
   generalize hdv:done c=dv at *
   generalize hvv:lv c=vv at *
   have HDV:=hid hdv
   clear hdv hvv
   cases dv with
   | true=>
    have HR2:=hid (ni.out (Or.inl rfl))
    clear ni Rx HVC
    go_wp2_with fail
    go_roundw
    case rel=>exact ⟨c+1,done,good,by omega,by go_num,HR2,HG,HD,HV,HS,hb⟩
    case measure=>simp [intOf];omega
   | false=>
    cases vv with
    | false=>
     have HR2:=hid (ni.out (Or.inr (HVC.out rfl)))
     clear ni Rx HVC
     go_wp2_with fail
     go_roundw
     case rel=>exact ⟨c+1,done,good,by omega,by go_num,HR2,HG,HD,HV,HS,hb⟩
     case measure=>simp [intOf];omega
    | true=>
     have uM:=hid (Rx.out rfl)
     clear ni Rx HVC HG HD HV HS hb
     have FR:=hid (EF P N K c to kp (W0.setCell ⟨g1,c,none⟩ (.bool true)) (DW.out.below iQ.out) xN.out Ho.out hlc (by omega))
     go_wp2_with fail
     refine FR.out.mono ?_
     rintro e w5 ⟨ga,a,rfl,hga,OA,haR,hb5⟩
     have HA:Hid (BO w5 (W0.setCell ⟨g1,c,none⟩ (.bool true)).heap.size ga N a):=hid OA
     have HAR:=hid haR
     have E1:=hid (D1.out.keeps hb5)
     have E2:=hid (D2.out.keeps hb5)
     have E3:=hid (D3.out.keeps hb5)
     have E4:=hid (D4.out.below hb5)
     have s1:=iQ.out.size
     have s3:=D4.out.size
     have s2:=hb5.size
     have fI:=hid (iQ.out.trans (hb5.mono s1))
     have a1:=HA.out.get hlc
     clear D1 D2 D3 D4 iQ FR OA haR hb5 d1 d2 d3
     rw [World.size_setCell] at s1 s2 s3 hga
     have HA2:Hid (BO w5 w.heap.size ga N a):=hid (HA.out.base (by rw [World.size_setCell];exact s1))
     clear HA
     cases hac:a c with
     | false=>
      rw [hac] at a1
      have HR2:=hid (uM.out (fun r=>by have:=(HAR.out c).2 r;rw [hac] at this;cases this))
      clear hac uM
      go_wp2_with fail
      go_roundw
      case rel=>exact ⟨c+1,_,good,by omega,by go_num,HR2,E2,E1,E3,E4,fI.out⟩
      case measure=>simp [intOf];omega
     | true=>
      rw [hac] at a1
      have HAC:=hid hac
      clear hac uM
      have FB:=hid (EF P2 N 0 c tl kp w5 (HST.out w5 E4.out) (fun x hx y hy=>((Cu.out x y).1 hy).1) (fun x hx=>by have:=pR.out x;omega) hlc (by omega))
      go_wp2_with fail
      refine FB.out.mono ?_
      rintro e w6 ⟨gb,b,rfl,hgb,OB,hbR,hb6⟩
      have HB0:Hid (BO w6 w.heap.size gb N b):=hid (BO.base (show BO w6 w5.heap.size gb N b from OB) fI.out.size)
      have PI:Hid (∀ i,b i=true↔reach (Ed N to) i c):=hid (fun i=>(hbR i).trans (FC xN.out Cu.out))
      have F1:=hid (E1.out.keeps hb6)
      have F2:=hid (E2.out.keeps hb6)
      have F3:=hid (E3.out.keeps hb6)
      have F4:=hid (E4.out.below hb6)
      have RO:=hid (HA2.out.keeps hb6)
      have zh:=hid (fI.out.trans (hb6.mono fI.out.size))
      have amP:w5.heap.size≤gb:=hgb
      have amQ:=HA2.out.blk.2
      have HRR:=hid (acD (K:=K) (kp:=kp) HR.out xN.out HAR.out PI.out HAC.out hlc)
      have c16:=(zh.out.cell (p:=⟨P,1,none⟩) hP).trans c1
      clear E1 E2 E3 E4 fI FB OB hbR hb6 HA2 a1
      go_wp2_with fail
      go_loopw [12,11] (fun i f wq=>∃ (k:Nat),k≤K∧i=.int .i64 k∧f=.bool (p8 (Kh a b kp N) k)∧w6=wq) (fun i _ _=>K - (intOf i).toNat)
      case atStart=>exact ⟨0,Nat.zero_le _,rfl,rfl,rfl⟩
      case round=>
       obtain ⟨k,hk,rfl,rfl,e⟩:=hrel
       subst e
       by_cases hlk:k<K
       ·obtain ⟨gk,e,hgk,hkc⟩:=HKR.out (by omega)
        subst e
        obtain ⟨bk,ckp,ck,hckp,hrb⟩:=hkc k hlk
        have ck6:=(zh.out.cell (p:=⟨gk,k,none⟩) hgk).trans ck
        have DR:=hid (hrb.below zh.out)
        have Yr:Hid (p8 (Kh a b kp N) (k+1)=(p8 (Kh a b kp N) k&&rM (Fg a b kp k) N)):=hid rfl
        clear hkc ck hrb
        generalize p8 (Kh a b kp N) k=fv at *
        go_wp2_with fail
        go_loopw [14,13] (fun i s wq=>∃ (x:Nat),x≤N∧i=.int .i64 x∧s=.bool (rM (Fg a b kp k) x)∧w6=wq) (fun i _ _=>N - (intOf i).toNat)
        case atStart=>exact ⟨0,Nat.zero_le _,rfl,rfl,rfl⟩
        case round=>
         obtain ⟨x,hx,rfl,rfl,e⟩:=hrel
         subst e
         by_cases hlx:x<N
         ·have t1:=RO.out.get hlx
          have t2:=HB0.out.get hlx
          have t3:=DR.out.cell x hlx
          have HAS:Hid (rM (Fg a b kp k) (x+1)=(rM (Fg a b kp k) x||(a x&&b x&&kp k x))):=hid rfl
          generalize rM (Fg a b kp k) x=sv at *
          generalize a x=av at *
          generalize b x=bv at *
          generalize kp k x=kv at *
          cases sv with
          | true=>
           go_wp2_with fail
           go_roundw
           case rel=>exact ⟨x+1,by omega,by go_num,by rw [HAS.out];rfl,trivial⟩
           case measure=>simp [intOf];omega
          | false=>
           cases av with
           | false=>
            go_wp2_with fail
            go_roundw
            case rel=>exact ⟨x+1,by omega,by go_num,by rw [HAS.out];rfl,trivial⟩
            case measure=>simp [intOf];omega
           | true=>
            cases bv with
            | false=>
             go_wp2_with fail
             go_roundw
             case rel=>exact ⟨x+1,by omega,by go_num,by rw [HAS.out];rfl,trivial⟩
             case measure=>simp [intOf];omega
            | true=>
             go_wp2_with fail
             go_roundw
             case rel=>exact ⟨x+1,by omega,by go_num,by rw [HAS.out];rfl,trivial⟩
             case measure=>simp [intOf];omega
         ·obtain rfl:x=N:=by omega
          generalize rM (Fg a b kp k) x=sv at *
          cases fv with
          | true=>
           go_wp2_with fail
           go_roundw
           case rel=>exact ⟨k+1,by omega,by go_num,by rw [Yr.out];rfl,trivial⟩
           case measure=>simp [intOf];omega
          | false=>
           go_wp2_with fail
           go_roundw
           case rel=>exact ⟨k+1,by omega,by go_num,by rw [Yr.out];rfl,trivial⟩
           case measure=>simp [intOf];omega
       ·obtain rfl:k=K:=by omega
        have F1z:Hid (BO w6 w.heap.size g1 N (wO a b (upd done c true) 0)):=hid (by rw [adk];exact F1.out)
        have F2z:Hid (BO w6 w.heap.size w.heap.size N (xD a b good (p8 (Kh a b kp N) k) 0)):=hid (by rw [adb];exact F2.out)
        clear F1 F2
        generalize p8 (Kh a b kp N) k=fv at *
        go_wp2_with fail
        go_loopw [15] (fun i wq=>∃ (x:Nat),x≤N∧i=.int .i64 x∧Hid (BO wq w.heap.size w.heap.size N (xD a b good fv x))∧Hid (BO wq w.heap.size g1 N (wO a b (upd done c true) x))∧Hid (BO wq w3.heap.size gl N lv)∧Hid (BO wq w.heap.size ga N a)∧Hid (BO wq w.heap.size gb N b)∧Hid (jC w2.heap.size w3 wq)∧Below w.heap.size w wq) (fun i _=>N - (intOf i).toNat)
        case atStart=>exact ⟨0,Nat.zero_le _,rfl,F2z,F1z,F3,RO,HB0,F4,zh.out⟩
        case round=>
         obtain ⟨x,hx,rfl,G1,G2,G3,G4,G5,G6,hb9⟩:=hrel
         by_cases hlx:x<N
         ·have t1:=G4.out.get hlx
          have t2:=G5.out.get hlx
          have HDS:=hid (fun h=>adl (a:=a) (b:=b) (d:=upd done c true) (x:=x) h)
          have HGS:=hid (fun h=>adc (a:=a) (b:=b) (g:=good) (fine:=fv) (x:=x) h)
          have Yu:=hid (fun h=>agM (a:=a) (b:=b) (d:=upd done c true) (x:=x) h)
          have HGN:=hid (fun h=>agL (a:=a) (b:=b) (g:=good) (fine:=fv) (x:=x) h)
          cases hab:(a x&&b x) with
          | false=>
           have H1:=hid (Yu.out hab)
           have H2:=hid (HGN.out hab)
           clear HDS HGS Yu HGN
           generalize a x=av at *
           generalize b x=bv at *
           cases av with
           | false=>
            clear hab
            go_wp2_with fail
            go_roundw
            case rel=>exact ⟨x+1,by omega,by go_num,by rw [←H2.out];exact G1,by rw [←H1.out];exact G2,G3,G4,G5,G6,hb9⟩
            case measure=>simp [intOf];omega
           | true=>
            obtain rfl:bv=false:=by simpa using hab
            clear hab
            go_wp2_with fail
            go_roundw
            case rel=>exact ⟨x+1,by omega,by go_num,by rw [←H2.out];exact G1,by rw [←H1.out];exact G2,G3,G4,G5,G6,hb9⟩
            case measure=>simp [intOf];omega
          | true=>
           have H1:=hid (HDS.out hab)
           have H2:=hid (HGS.out hab)
           clear HDS HGS Yu HGN
           generalize a x=av at *
           generalize b x=bv at *
           obtain ⟨rfl,rfl⟩:av=true∧bv=true:=by simpa using hab
           clear hab
           have m1:ga≠g1:=by omega
           have m2:ga≠w.heap.size:=by omega
           have m3:gb≠g1:=by omega
           have m4:gb≠w.heap.size:=by omega
           have s4:=G2.out.fz x
           have s5:=G2.out.get hlx
           have A1:=G1.out.other G2.out ng3.symm x (.bool true)
           have A2:=G2.out.set x true
           have A3:=G3.out.other G2.out ng2 x (.bool true)
           have A4:=G4.out.other G2.out m1 x (.bool true)
           have A5:=G5.out.other G2.out m3 x (.bool true)
           have A6:=G6.out.set (k:=g1) (by omega) x (.bool true)
           rw [H1.out] at A2
           have s6:=A1.fz x
           have s7:=A1.get hlx
           have C1:=A1.set x fv
           rw [H2.out] at C1
           have C2:=hid (A2.other A1 ng3 x (.bool fv))
           have C3:=hid (A3.other A1 ng1 x (.bool fv))
           have C4:=hid (A4.other A1 m2 x (.bool fv))
           have C5:=hid (A5.other A1 m4 x (.bool fv))
           have C6:=hid (A6.set (k:=w.heap.size) (by omega) x (.bool fv))
           have C0:=hid C1
           have PH:=hid ((hb9.setCell (p:=⟨g1,x,none⟩) (by show w.heap.size≤g1;omega) (.bool true)).setCell (p:=⟨w.heap.size,x,none⟩) (Nat.le_refl _) (.bool fv))
           clear A1 A2 A3 A4 A5 A6 C1 G1 G2 G3 G4 G5 G6
           generalize wO a b (upd done c true) x x=z1 at *
           generalize xD a b good fv x x=z2 at *
           go_wp2_with fail
           go_roundw
           case rel=>exact ⟨x+1,by omega,by go_num,C0,C2,C3,C4,C5,C6,PH.out⟩
           case measure=>simp [intOf];omega
         ·obtain rfl:x=N:=by omega
          go_wp2_with fail
          go_roundw
          case rel=>exact ⟨c+1,_,_,by omega,by go_num,HRR,G1,G2,G3,G6,hb9⟩
          case measure=>simp [intOf];omega
  ·obtain rfl:c=N:=by omega
   have Hr:=hid (adY HR.out)
   go_wp2_with fail
   go_ret
   exact ⟨w.heap.size,good,rfl,Nat.le_refl _,HG.out,Hr.out,hb⟩
structure PN (N:Nat) (to:Nat→List Nat) (good out:Nat→Bool) (i:Nat):Prop where
 p1:∀ x,out x=true→∃ c,c<i∧good c=true∧reach (Ed N to) x c
 p2:∀ x c,c<i→good c=true→reach (Ed N to) x c→out x=true
theorem aau (N:Nat) (to:Nat→List Nat) (good:Nat→Bool):PN N to good (fun _=>false) 0:=⟨fun x h=>(by cases h),fun x c h=>(by omega)⟩
theorem adj {N i:Nat} {to:Nat→List Nat} {good out:Nat→Bool} (h:PN N to good out i) (hs:good i=false∨out i=true):PN N to good out (i+1):=by
 refine ⟨fun x hx=>?_,fun x c hc hg hr=>?_⟩
 ·obtain ⟨c,h1,h2⟩:=h.p1 x hx
  exact ⟨c,by omega,h2⟩
 ·by_cases e:c=i
  ·subst e
   rcases hs with hs | hs
   ·rw [hs] at hg;cases hg
   ·obtain ⟨d,hd,hgd,hrd⟩:=h.p1 c hs
    exact h.p2 x d hd hgd (dA hr hrd)
  ·exact h.p2 x c (by omega) hg hr
def AC (out l:Nat→Bool) (x:Nat):Nat→Bool:=fun i=>if i<x then out i||l i else out i
theorem acM (out l:Nat→Bool):AC out l 0=out:=by funext i;simp [AC]
theorem acO (out l:Nat→Bool) (x:Nat):AC out l x x=out x:=by simp [AC]
theorem acN (out l:Nat→Bool) (x:Nat):upd (AC out l x) x (out x||l x)=AC out l (x+1):=by
 funext i
 unfold upd AC
 by_cases e:i=x
 ·subst e;rw [if_pos rfl,if_pos (by omega)]
 ·rw [if_neg e]
  by_cases e2:i<x
  ·rw [if_pos e2,if_pos (by omega)]
  ·rw [if_neg e2,if_neg (by omega)]
theorem K8 {N:Nat} {to:Nat→List Nat} {a b:Nat} (h:reach (Ed N to) a b):a<N:=by
 obtain ⟨L,c,h1,_⟩:=h
 exact h1.1
theorem aeW {N i:Nat} {to:Nat→List Nat} {good out l:Nat→Bool} (h:PN N to good out i) (hg:good i=true) (hl:∀ x,l x=true↔reach (Ed N to) x i):PN N to good (AC out l N) (i+1):=by
 refine ⟨fun x hx=>?_,fun x c hc hgc hr=>?_⟩
 ·have key:out x=true∨l x=true:=by
   unfold AC at hx
   by_cases e:x<N
   ·rw [if_pos e,Bool.or_eq_true] at hx;exact hx
   ·rw [if_neg e] at hx;exact Or.inl hx
  rcases key with k | k
  ·obtain ⟨c,h1,h2⟩:=h.p1 x k
   exact ⟨c,by omega,h2⟩
  ·exact ⟨i,by omega,hg,(hl x).1 k⟩
 ·unfold AC
  rw [if_pos (K8 hr),Bool.or_eq_true]
  by_cases e:c=i
  ·subst e;exact Or.inr ((hl x).2 hr)
  ·exact Or.inl (h.p2 x c (by omega) hgc hr)
theorem aeV {N K:Nat} {to:Nat→List Nat} {kp:Nat→Nat→Bool} {good out:Nat→Bool} (h:PN N to good out N) (hg:∀ i,i<N→(good i=true↔GN N to K kp i)) (x:Nat):out x=true↔∃ c,c<N∧reach (Ed N to) x c∧GN N to K kp c:=by
 constructor
 ·intro hx
  obtain ⟨c,h1,h2,h3⟩:=h.p1 x hx
  exact ⟨c,h1,h3,(hg c h1).1 h2⟩
 ·rintro ⟨c,h1,h2,h3⟩
  exact h.p2 x c h1 ((hg c h1).2 h3) h2
theorem yj (HT:I9) (P N K:Nat) (to:Nat→List Nat) (kp:Nat→Nat→Bool) (w:World) (hn:mK w P N to K kp) (hN0:0<N) (hto:∀ a,a<N→∀ b∈to a,b<N) (hlen:∀ a,a<N→(to a).length≤4398046511104) (hcnt:∀ a,a<N→∀ j,(to a).count j≤8) (hN:N≤274877906944) (hK:K≤65536) :
  Calls Tryz.prog 75 #[.pointer (some ⟨P,0,none⟩)] w fun e w'=>∃ g out,e=.returned (.slice (some ⟨g,0,none⟩) N N)∧w.heap.size≤g∧BO w' w.heap.size g N out∧(∀ i,out i=true↔∃ c,c<N∧reach (Ed N to) i c∧GN N to K kp c)∧Below w.heap.size w w':=by
 have RN:=hid (Vz HT P N K to kp w hn hN0 hto hlen hcnt hN hK)
 have DW:=hid hn
 obtain ⟨i0,hi,hz0,hz1,hz2⟩:=info_parts Tryz.dw
 have xN:=hid hto
 have Ho:=hid hlen
 have RI:=hid hcnt
 have Rs:=hid HT
 clear hn hto hlen hcnt HT
 go_enter Tryz.func75,Tryz.ntmps75
 go_wp2_with fail
 refine RN.out.mono ?_
 rintro e w1 ⟨gg,good,rfl,hgg,OG,hgood,hb1⟩
 have HOG:=hid OG
 have Hq:=hid hgood
 have HB1:=hid hb1
 have hsz1:=hb1.size
 have hlg:=OG.blk.2
 clear OG hgood hb1 RN
 go_wp2_with (at_make;go_must (refine wpList_make_full _ rfl (.tmp 12) (.tmp 12) 132 rfl w.heap.size 4 i0 (.bool false) 1 Tryz.underlying132 hi hz0 hz1 .i64 .i64 N N N rfl rfl rfl rfl ?m2 ?m3 hsz1 ?_))
 case m2=>rw [hz2];omega
 case m3=>unfold maxLen;omega
 intro w2 eG grow2
 have eo:(madeCells #[Value.bool false] N).toList=List.replicate N (.bool false):=toList_madeCells_one _ _
 rw [eo,←bJ (fun _=>false),show aj (fun _=>false) N 0=aj (fun _=>false) N N by simp [aj]] at eG
 have OO:Hid (BO w2 w.heap.size w1.heap.size N (fun _=>false)):=hid eG
 have XZ:=hid (HOG.out.grown grow2)
 have hl1:=OO.out.blk.2
 have hb2:=HB1.out.grown grow2 hsz1 (fun k h=>by cases h)
 have hsz2:=hb2.size
 have HB2:=hid hb2
 clear eG grow2 eo HOG HB1 hb2
 generalize hg1:w1.heap.size=g1 at *
 go_wp2_with fail
 refine (Rs.out P N K to kp w2 (DW.out.below HB2.out) hN0 xN.out Ho.out RI.out hN).mono ?_
 rintro e w3 ⟨P2,tl,rfl,ST,htl,hll,hb3⟩
 have HST:=hid ST
 have Cu:=hid htl
 have pR:=hid hll
 have OG3:=hid (XZ.out.keeps hb3)
 have OO3:=hid (OO.out.keeps hb3)
 have Iw:=hb3.size
 have HB3:=hid (HB2.out.trans (hb3.mono hsz2))
 have ng1:gg≠g1:=by omega
 have hbl:=HB3.out.size
 clear XZ OO HB2 hb3 ST htl hll
 go_wp2_with fail
 go_loopw [6] (fun i wq=>∃ (c:Nat) (out:Nat→Bool),c≤N∧i=.int .i64 c∧Hid (PN N to good out c)∧Hid (BO wq w.heap.size gg N good)∧Hid (BO wq w.heap.size g1 N out)∧Hid (jC w2.heap.size w3 wq)∧Below w.heap.size w wq) (fun i _=>N - (intOf i).toNat)
 case atStart=>exact ⟨0,_,Nat.zero_le _,rfl,hid (aau _ _ _),OG3,OO3,hid (jC.refl _ _),HB3.out⟩
 case round=>
  obtain ⟨c,out,hc,rfl,HE,HG,HO,HS,hb⟩:=hrel
  rename World=>W0
  by_cases hlc:c<N
  ·have d1:=HG.out.get hlc
   have d2:=HO.out.get hlc
   have ni:=hid (fun h=>adj HE.out (i:=c) h)
   have HAD:=hid (fun h l=>aeW HE.out (i:=c) h (l:=l))
   generalize good c=gv at *
   generalize out c=ov at *
   cases gv with
   | false=>
    have HE2:=hid (ni.out (Or.inl rfl))
    clear ni HAD
    go_wp2_with fail
    go_roundw
    case rel=>exact ⟨c+1,out,by omega,by go_num,HE2,HG,HO,HS,hb⟩
    case measure=>simp [intOf];omega
   | true=>
    cases ov with
    | true=>
     have HE2:=hid (ni.out (Or.inr rfl))
     clear ni HAD
     go_wp2_with fail
     go_roundw
     case rel=>exact ⟨c+1,out,by omega,by go_num,HE2,HG,HO,HS,hb⟩
     case measure=>simp [intOf];omega
    | false=>
     have HA2:=hid (HAD.out rfl)
     clear ni HAD
     have hsq:=hb.size
     have FB:=hid (EF P2 N 0 c tl kp W0 (HST.out W0 HS.out) (fun x hx y hy=>((Cu.out x y).1 hy).1) (fun x hx=>by have:=pR.out x;omega) hlc (by omega))
     go_wp2_with fail
     refine FB.out.mono ?_
     rintro e w6 ⟨gb,l,rfl,hgb,OB,hbR,hb6⟩
     have HL0:Hid (BO w6 w.heap.size gb N l):=hid (BO.base (show BO w6 W0.heap.size gb N l from OB) hsq)
     have PI:Hid (∀ x,l x=true↔reach (Ed N to) x c):=hid (fun x=>(hbR x).trans (FC xN.out Cu.out))
     have HE2:=hid (HA2.out l PI.out)
     have F1:=hid (HG.out.keeps hb6)
     have F2:Hid (BO w6 w.heap.size g1 N (AC out l 0)):=hid (by rw [acM];exact HO.out.keeps hb6)
     have F4:=hid (HS.out.below hb6)
     have hso:=HO.out.blk.2
     have zh:=hid (hb.trans (hb6.mono hsq))
     clear FB OB hbR hb6 HA2 HG HO HS d1 d2 hb
     go_wp2_with fail
     go_loopw [8] (fun i wq=>∃ (x:Nat),x≤N∧i=.int .i64 x∧Hid (BO wq w.heap.size gg N good)∧Hid (BO wq w.heap.size g1 N (AC out l x))∧Hid (BO wq w.heap.size gb N l)∧Hid (jC w2.heap.size w3 wq)∧Below w.heap.size w wq) (fun i _=>N - (intOf i).toNat)
     case atStart=>exact ⟨0,Nat.zero_le _,rfl,F1,F2,HL0,F4,zh.out⟩
     case round=>
      obtain ⟨x,hx,rfl,G1,G2,G3,G4,hb9⟩:=hrel
      by_cases hlx:x<N
      ·have s1:=G2.out.fz x
       have s2:=G2.out.get hlx
       have s3:=G3.out.get hlx
       have m1:gb≠g1:=by omega
       rw [acO] at s2
       have A2:=G2.out.set x (out x||l x)
       rw [acN] at A2
       have C2:=hid A2
       have C1:=hid (G1.out.other G2.out ng1 x (.bool (out x||l x)))
       have C3:=hid (G3.out.other G2.out m1 x (.bool (out x||l x)))
       have C4:=hid (G4.out.set (k:=g1) (by omega) x (.bool (out x||l x)))
       have PH:=hid (hb9.setCell (p:=⟨g1,x,none⟩) (by show w.heap.size≤g1;omega) (.bool (out x||l x)))
       clear A2 G1 G2 G3 G4
       generalize out x=ov at *
       generalize l x=lv at *
       cases ov with
       | true=>
        go_wp2_with fail
        go_roundw
        case rel=>exact ⟨x+1,by omega,by go_num,C1,C2,C3,C4,PH.out⟩
        case measure=>simp [intOf];omega
       | false=>
        rw [Bool.false_or] at C1 C2 C3 C4 PH
        go_wp2_with fail
        go_roundw
        case rel=>exact ⟨x+1,by omega,by go_num,C1,C2,C3,C4,PH.out⟩
        case measure=>simp [intOf];omega
      ·obtain rfl:x=N:=by omega
       go_wp2_with fail
       go_roundw
       case rel=>exact ⟨c+1,_,by omega,by go_num,HE2,G1,G2,G4,hb9⟩
       case measure=>simp [intOf];omega
  ·obtain rfl:c=N:=by omega
   have Hr:=hid (aeV HE.out Hq.out)
   have hg1':w.heap.size≤g1:=by omega
   go_wp2_with fail
   go_ret
   exact ⟨g1,out,rfl,hg1',HO.out,Hr.out,hb⟩
end Go.Proofs.YtjagijohfkffiabGreat
