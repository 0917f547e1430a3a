import Derived.Test.YtjagijohfkffiabGreatALLM24
set_option maxHeartbeats 16000000
set_option maxRecDepth 100000
namespace Go.Proofs.YtjagijohfkffiabGreat
open Go.RowKit
set_option linter.unusedVariables false
def mO (w:World) (P:Nat) (cs:List (Nat→Bool)):Prop:=∃ ao cap,w.cell? ⟨P,2048,none⟩=some (.slice ao cs.length cap)∧(0<cs.length→∃ gc,ao=some ⟨gc,0,none⟩∧gc<w.heap.size∧∀ k c,cs[k]?=some c→aN w gc (k*256) c)
theorem mO.below {w w':World} {P:Nat} {cs:List (Nat→Bool)} (h:mO w P cs) (hb:Below w.heap.size w w') (hP:P<w.heap.size):mO w' P cs:=by
 obtain ⟨ao,cap,h1,h2⟩:=h
 refine ⟨ao,cap,(hb.cell (p:=⟨P,2048,none⟩) hP).trans h1,fun h0=>?_⟩
 obtain ⟨gc,h3,h4,h5⟩:=h2 h0
 exact ⟨gc,h3,Nat.lt_of_lt_of_le h4 hb.size,fun k c hk=>(h5 k c hk).below hb h4⟩
def spread (c:Nat→Bool):Nat→Bool:=fun x=>c (x % 256)
def spreads (cs:List (Nat→Bool)):List (Nat→Bool):=cs.map spread
theorem Mh {cs:List (Nat→Bool)} {k:Nat} {c:Nat→Bool} (h:cs[k]?=some c):(spreads cs).take (k+1)=(spreads cs).take k++[spread c]:=by
 have hk:=(List.getElem?_eq_some_iff.1 h).1
 rw [List.take_succ_eq_append_getElem (by simpa [spreads] using hk)]
 have:cs[k]=c:=by rw [List.getElem?_eq_getElem hk] at h;exact Option.some.inj h
 simp [spreads,this]
theorem aav (P gi n icap g cap:Nat) (ns:List Nd) (into:Nat→List (Nat × Nat)) (cs:List (Nat→Bool)) (goal:Nat→Bool) (w:World) (h8:ns.length≤8) (hp:rP n into) (hbm:tC w P ns) (hP:P<w.heap.size) (hcm:mO w P cs) (hcl:cs.length≤8) (hw:mI w gi n into) (hgl:bC w g (n*256) goal) (hg:g<w.heap.size) :
  Calls Tryz.prog 131 #[.pointer (some ⟨P,0,none⟩),.agg #[.slice (some ⟨gi,0,none⟩) n icap],.slice (some ⟨g,0,none⟩) n cap] w fun e w'=>∃ g' found,e=.returned (.slice (some ⟨g',0,none⟩) n n)∧w.heap.size≤g'∧g'<w'.heap.size∧bC w' g' (n*256) found∧(∀ x,found x=true↔kZ (Ew n ns into) (spreads cs) (fun y=>goal y=true) x)∧Below w.heap.size w w':=by
 have hn:=hp.le
 have HP:=hid hp
 have HM:=hid hbm
 have HW:=hid hw
 have HG:=hid hgl
 have hgi:=hw.lt
 obtain ⟨ca,ccap,Cb,hcr⟩:=hcm
 have xQ:=hid hcr
 clear hp hbm hw hgl hcr
 generalize hm:cs.length=m at *
 have nu:=hid hm
 clear hm
 go_enter Tryz.func131,Tryz.ntmps131
 go_wp2_with fail
 have ba:=hid ((Below.refl w.heap.size w).alloc (Nat.le_refl _) (.cells #[.slice (some ⟨gi,0,none⟩) n icap] 159))
 refine (JR P gi n icap g cap ns into goal _ h8 HP.out (HM.out.below ba.out hP) (by simp;omega) (HW.out.below ba.out) (HG.out.below ba.out hg) (by simp;omega)).mono ?_
 rintro e w1 ⟨g1,f1,rfl,hg1,hg1s,F1,L1,hb1⟩
 simp only [World.size_alloc] at hg1 hb1
 have c4:w1.cell? ⟨w.heap.size,0,none⟩=some (.slice (some ⟨gi,0,none⟩) n icap):=(hb1.cell (p:=⟨w.heap.size,0,none⟩) (by show w.heap.size<w.heap.size+1;omega)).trans (by simp)
 have jO:=(hb1.cell (p:=⟨P,2048,none⟩) (by show P<w.heap.size+1;omega)).trans ((ba.out.cell (p:=⟨P,2048,none⟩) hP).trans Cb)
 have HB1:=hid (ba.out.trans (hb1.mono (by omega)))
 have F1:=hid F1
 have L1:=hid L1
 have hs1:w.heap.size<w1.heap.size:=by omega
 clear hb1 ba Cb
 have C4:=hid c4
 go_wp2_with fail
 clear jO c4
 go_loopw [7,20] (fun v i wq=>∃ (k g2:Nat) (f:Nat→Bool),k≤m∧i=.int .i64 k∧v=.slice (some ⟨g2,0,none⟩) n n∧w.heap.size≤g2∧g2<wq.heap.size∧Hid (bC wq g2 (n*256) f)∧Hid (∀ x,f x=true↔kZ (Ew n ns into) ((spreads cs).take k) (fun y=>goal y=true) x)∧Hid (wq.cell? ⟨w.heap.size,0,none⟩=some (.slice (some ⟨gi,0,none⟩) n icap))∧Hid (Below w.heap.size w wq)∧w.heap.size<wq.heap.size) (fun _ i _=>m - (intOf i).toNat)
 case atStart=>exact ⟨0,g1,f1,Nat.zero_le _,rfl,rfl,by omega,hg1s,F1,by simpa [kZ] using L1,C4,HB1,hs1⟩
 case round=>
  obtain ⟨k,g2,f,hk,rfl,rfl,hg2,hg2s,HF,HD,HC,HB,hsz⟩:=hrel
  rename World=>W0
  by_cases hlk:k<m
  ·obtain ⟨gc,e,hgc,hcell⟩:=xQ.out (by omega)
   subst e
   obtain ⟨c,hc⟩:∃ c,cs[k]?=some c:=⟨cs[k]'(by rw [nu.out];exact hlk),List.getElem?_eq_getElem (by rw [nu.out];exact hlk)⟩
   have GC:=hid ((hcell k c hc).below HB.out hgc)
   have DI:=hid (Mh hc)
   clear hcell hc
   go_wp2_with (first | (refine aC rfl (.tmp 22) rfl gc (k*256) c rfl GC.out ?_) | (refine aW rfl (.tmp 9) (.tmp 23) rfl W0.heap.size 0 c rfl rfl (fw W0).there ?_))
   intro w2 S2
   have aZ:Below W0.heap.size W0 w2:=S2.aO _ _ (Nat.le_refl _) ((Below.refl _ _).alloc (Nat.le_refl _) _)
   have A9:=hid S2.at_
   have CB:=hid (HF.out.below aZ hg2s)
   have PG:=hid ((aZ.cell (p:=⟨w.heap.size,0,none⟩) hsz).trans HC.out)
   have HB2:=hid (HB.out.trans (aZ.mono (by omega)))
   have hs2:=aZ.size
   clear S2 aZ GC
   go_wp2_with (refine aC rfl (.tmp 9) rfl W0.heap.size 0 c rfl A9.out ?_)
   refine (EJ g2 n n f c w2 (by omega) CB.out (by omega)).mono ?_
   rintro e w3 ⟨g3,rfl,hg3,hg3s,F3,hb3⟩
   have F3:=hid F3
   have HB3:=hid (HB2.out.trans (hb3.mono (by omega)))
   have Oo:=(hb3.cell (p:=⟨w.heap.size,0,none⟩) (by show w.heap.size<w2.heap.size;omega)).trans PG.out
   have C43:=hid Oo
   have hs3:=hb3.size
   clear hb3 CB PG
   go_wp2_with fail
   refine (JR P gi n icap g3 n ns into (dG f c) w3 h8 HP.out (HM.out.below HB3.out hP) (by omega) (HW.out.below HB3.out) F3.out hg3s).mono ?_
   rintro e w4 ⟨g4,f4,rfl,hg4,hg4s,F4,L4,hb4⟩
   have F4:=hid F4
   have dm:=hid (HB3.out.trans (hb4.mono (by omega)))
   have C44:=hid ((hb4.cell (p:=⟨w.heap.size,0,none⟩) (by show w.heap.size<w3.heap.size;omega)).trans Oo)
   have HL4:Hid (∀ x,f4 x=true↔kZ (Ew n ns into) ((spreads cs).take (k+1)) (fun y=>goal y=true) x):=hid (fun x=>by
    rw [L4 x,DI.out,Uo]
    refine eu.congr (fun y=>?_) x
    rw [←HD.out y]
    unfold dG spread
    simp)
   have hs4:=hb4.size
   clear hb4 L4 Oo F3
   go_wp2_with fail
   go_roundw
   case rel=>exact ⟨k+1,g4,f4,by omega,by go_num,rfl,by omega,hg4s,F4,HL4,C44,dm,by omega⟩
   case measure=>simp [intOf];omega
  ·obtain rfl:k=m:=by omega
   have HE:Hid ((spreads cs).take k=spreads cs):=hid (List.take_of_length_le (by simp [spreads,nu.out]))
   go_wp2_with fail
   go_ret
   exact ⟨g2,f,rfl,hg2,hg2s,HF.out,by rw [HE.out] at HD;exact HD.out,HB.out⟩
def Be (w:World) (g:Nat):Nat→Nat
 | 0=>0
 | n+1=>Be w g n+(match w.cell? ⟨g,n,none⟩ with | some (.bool true)=>1 | _=>0)
theorem tT {w:World} {g N:Nat} {f:Nat→Bool} (h:bC w g N f):∀ n,n≤N→Be w g n=gG f n
 | 0,_=>rfl
 | n+1,hn=>by
  rw [Be,gG,tT h n (by omega),h.c n (by omega)]
  cases f n <;> simp
def Rk (v:Value):Nat:=match v with
 | .slice (some a) _ _=>a.block
 | _=>0
structure C9 (E:Nat→Nat→Prop) (N:Nat) (cs:List (Nat→Bool)) (f:Nat→Bool):Prop where
 lt:∀ x,f x=true→x<N
 all:∀ x,gu E cs x→f x=true
 sub:∀ x,kZ E cs (fun y=>f y=true) x→f x=true
theorem Kq {E:Nat→Nat→Prop} {N:Nat} (hE:∀ a b,E a b→a<N):∀ (cs:List (Nat→Bool)) {G:Nat→Prop} {x:Nat},kZ E cs G x→x<N:=by
 intro cs G x h
 obtain ⟨y,_,⟨L,c,he,_⟩,_⟩:=Ko h
 exact hE _ _ he
theorem TS {E:Nat→Nat→Prop} {N:Nat} (hE:∀ a b,E a b→a<N) (cs:List (Nat→Bool)):C9 E N cs (fun x=>decide (x<N)):=
 ⟨fun x h=>by simpa using h,fun x ⟨q,h0,hq,_⟩=>by rw [←h0];simpa using hE _ _ (hq 0),fun x h=>by simpa using Kq hE cs h⟩
theorem Ws {E:Nat→Nat→Prop} {N:Nat} (hE:∀ a b,E a b→a<N) {cs:List (Nat→Bool)} {f f':Nat→Bool} (h:C9 E N cs f) (hd:∀ x,f' x=true↔kZ E cs (fun y=>f y=true) x):C9 E N cs f':=
 ⟨fun x hx=>Kq hE cs ((hd x).1 hx),fun x hx=>(hd x).2 (NG h.all x hx),fun x hx=>(hd x).2 (Xr (fun y hy=>h.sub y ((hd y).1 hy)) x hx)⟩
theorem Wu {E:Nat→Nat→Prop} {N:Nat} (hE:∀ a b,E a b→b<N) {cs:List (Nat→Bool)} {f f':Nat→Bool} (h:C9 E N cs f) (hd:∀ x,f' x=true↔kZ E cs (fun y=>f y=true) x) (he:∀ i,i<N→f' i=f i) (x:Nat):f x=true↔gu E cs x:=
 ⟨fun hx=>Og hE (fun y hy=>(hd y).1 (by rw [he y (h.lt y hy)];exact hy)) (h.lt x hx) hx,h.all x⟩
theorem Wt {E:Nat→Nat→Prop} {N:Nat} {cs:List (Nat→Bool)} {f f':Nat→Bool} (h:C9 E N cs f) (hd:∀ x,f' x=true↔kZ E cs (fun y=>f y=true) x) (hne:¬ ∀ i,i<N→f' i=f i):gG f' N<gG f N:=by
 obtain ⟨i,hi,hf⟩:∃ i,i<N∧f' i≠f i:=Classical.byContradiction fun hh=>hne fun i hi=>Classical.byContradiction fun hx=>hh ⟨i,hi,hx⟩
 have hs:∀ x,f' x=true→f x=true:=fun x hx=>h.sub x ((hd x).1 hx)
 have h1:f' i=false:=by
  cases e:f' i with
  | false=>rfl
  | true=>rw [e,hs i e] at hf;exact absurd rfl hf
 have h2:f i=true:=by
  cases e:f i with
  | true=>rfl
  | false=>rw [e,h1] at hf;exact absurd rfl hf
 exact Rc h1 h2 N hi (fun x _=>hs x)
theorem VO (j:Nat):upd (upTo (fun _=>true) j) j true=upTo (fun _=>true) (j+1):=qo (fun _=>true) j
theorem x9 (P gi n icap:Nat) (ns:List Nd) (into:Nat→List (Nat × Nat)) (cs:List (Nat→Bool)) (w:World) (h8:ns.length≤8) (hp:rP n into) (hbm:tC w P ns) (hP:P<w.heap.size) (hcm:mO w P cs) (hcl:cs.length≤8) (hw:mI w gi n into) :
  Calls Tryz.prog 90 #[.pointer (some ⟨P,0,none⟩),.agg #[.slice (some ⟨gi,0,none⟩) n icap]] w fun e w'=>∃ g' f,e=.returned (.slice (some ⟨g',0,none⟩) n n)∧w.heap.size≤g'∧g'<w'.heap.size∧bC w' g' (n*256) f∧(∀ x,f x=true↔gu (Ew n ns into) (spreads cs) x)∧Below w.heap.size w w':=by
 have hn:=hp.le
 have HP:=hid hp
 have HM:=hid hbm
 have HW:=hid hw
 have HCM:=hid hcm
 have hgi:=hw.lt
 have HEF:Hid (∀ a b,Ew n ns into a b→a<n*256):=hid (fun a b h=>IU h8 hp h)
 clear hp hbm hw hcm
 go_enter Tryz.func90,Tryz.ntmps90
 go_wp2_with (at_make;go_must (refine iq _ rfl (.tmp 11) rfl n rfl (by omega) ?_))
 intro w1 F1 hlt1 hb1
 have C1:Hid (w1.cell? ⟨w.heap.size,0,none⟩=some (.slice (some ⟨gi,0,none⟩) n icap)):=hid ((hb1.cell (p:=⟨w.heap.size,0,none⟩) (by show w.heap.size<w.heap.size+1;omega)).trans (by simp))
 have HB1:=hid (((Below.refl w.heap.size w).alloc (Nat.le_refl _) (.cells #[.slice (some ⟨gi,0,none⟩) n icap] 159)).trans (hb1.mono (by omega)))
 have F1:=hid F1
 clear hb1
 go_wp2_with fail
 go_loopw [15] (fun i wq=>∃ t:Nat,t≤n∧i=.int .i64 t∧Hid (bC wq (w.heap.size+1) (n*256) (upTo (fun _=>true) (t*256)))∧Hid (wq.cell? ⟨w.heap.size,0,none⟩=some (.slice (some ⟨gi,0,none⟩) n icap))∧w.heap.size+1<wq.heap.size∧Hid (Below w.heap.size w wq)) (fun i _=>n - (intOf i).toNat)
 case atStart=>exact ⟨0,Nat.zero_le _,rfl,by rw [Nat.zero_mul,qm];exact F1,C1,hlt1,HB1⟩
 case round=>
  obtain ⟨t,ht,rfl,H5,HC,hz,HB⟩:=hrel
  rename World=>W0
  by_cases hlt:t<n
  ·go_wp2_with fail
   go_loopw [18] (fun i wq=>∃ j:Nat,j≤256∧i=.int .i64 j∧Hid (bC wq (w.heap.size+1) (n*256) (upTo (fun _=>true) (t*256+j)))∧Hid (wq.cell? ⟨w.heap.size,0,none⟩=some (.slice (some ⟨gi,0,none⟩) n icap))∧w.heap.size+1<wq.heap.size∧Hid (Below w.heap.size w wq)) (fun i _=>256 - (intOf i).toNat)
   case atStart=>exact ⟨0,by omega,rfl,H5,HC,hz,HB⟩
   case round=>
    obtain ⟨j,hj,rfl,H5,HC,hz3,HB⟩:=hrel
    rename World=>W3
    by_cases hlj:j<256
    ·have q0:=H5.out.f (t*256+j) (by omega)
     have q1:=H5.out.c (t*256+j) (by omega)
     have D5:=hid (H5.out.set (t*256+j) true)
     rw [VO] at D5
     have DC:Hid ((W3.setCell ⟨w.heap.size+1,t*256+j,none⟩ (.bool true)).cell? ⟨w.heap.size,0,none⟩=some (.slice (some ⟨gi,0,none⟩) n icap)):=hid (by
      rw [World.cell?_setCell_other _ _ _ _ (fun e=>by have:=congrArg Addr.block e;simp at this)]
      exact HC.out)
     have DB:=hid (HB.out.setCell (p:=⟨w.heap.size+1,t*256+j,none⟩) (by show w.heap.size≤w.heap.size+1;omega) (.bool true))
     generalize upTo (fun _=>true) (t*256+j) (t*256+j)=ov at *
     go_wp2_with fail
     go_roundw
     case rel=>exact ⟨j+1,by omega,by go_num,D5,DC,by simp;omega,DB⟩
     case measure=>simp [intOf];omega
    ·obtain rfl:j=256:=by omega
     go_wp2_with fail
     go_roundw
     case rel=>exact ⟨t+1,by omega,by go_num,by rw [show (t+1)*256=t*256+256 by omega];exact H5,HC,hz3,HB⟩
     case measure=>simp [intOf];omega
  ·obtain rfl:t=n:=by omega
   have H5:=hid (H5.out.congr (f':=fun x=>decide (x<t*256)) (fun j hj=>by simp [upTo,hj]))
   go_wp2_with fail
   go_loopw [5] (fun v wq=>∃ (g2:Nat) (f:Nat→Bool),v=.slice (some ⟨g2,0,none⟩) t t∧w.heap.size≤g2∧g2<wq.heap.size∧Hid (bC wq g2 (t*256) f)∧Hid (C9 (Ew t ns into) (t*256) (spreads cs) f)∧Hid (wq.cell? ⟨w.heap.size,0,none⟩=some (.slice (some ⟨gi,0,none⟩) t icap))∧w.heap.size<wq.heap.size∧Hid (Below w.heap.size w wq)) (fun v wq=>Be wq (Rk v) (t*256))
   case atStart=>exact ⟨_,_,rfl,by omega,hz,H5,hid (TS HEF.out _),HC,by omega,HB⟩
   case round=>
    obtain ⟨g2,f,rfl,hg2,hg2s,HF,HI,HC,hsz,HB⟩:=hrel
    rename World=>W4
    have hc:=HC.out
    have yX:=hid (tT HF.out _ (Nat.le_refl _))
    go_wp2_with fail
    refine (aav P gi t icap g2 t ns into cs f W4 h8 HP.out (HM.out.below HB.out hP) (by omega) (HCM.out.below HB.out hP) hcl (HW.out.below HB.out) HF.out hg2s).mono ?_
    rintro e w5 ⟨g5,f5,rfl,hg5,hg5s,F5,L5,hb5⟩
    have Py:=hid (HF.out.below hb5 hg2s)
    have C5:=hid ((hb5.cell (p:=⟨w.heap.size,0,none⟩) hsz).trans HC.out)
    have B5:=hid (HB.out.trans (hb5.mono (by omega)))
    have F5:=hid F5
    have L5:=hid L5
    have hs5:=hb5.size
    clear hb5 hc
    go_wp2_with fail
    refine (Zf g5 g2 t t t f5 f w5 (by omega) F5.out Py.out hg5s (by omega)).mono ?_
    rintro e w6 ⟨b,rfl,hbq,hb6⟩
    have DZ:=hid hbq
    have hs6:=hb6.size
    cases b with
    | true=>
     have HE:=hid (fun x=>Wu (fun a b h=>abm a b h) HI.out L5.out (DZ.out.1 rfl) x)
     have F6:=hid (Py.out.below hb6 (by omega))
     have B6:=hid (B5.out.trans (hb6.mono (by omega)))
     clear hb6 hbq
     go_wp2_with fail
     go_ret
     exact ⟨g2,f,rfl,hg2,by omega,F6.out,HE.out,B6.out⟩
    | false=>
     have HL:=hid (Wt HI.out L5.out (fun k=>by simpa using DZ.out.2 k))
     have HN:=hid (Ws HEF.out HI.out L5.out)
     have F6:=hid (F5.out.below hb6 hg5s)
     have B6:=hid (B5.out.trans (hb6.mono (by omega)))
     have C6:=hid ((hb6.cell (p:=⟨w.heap.size,0,none⟩) (by show w.heap.size<w5.heap.size;omega)).trans C5.out)
     clear hb6 hbq
     go_wp2_with fail
     go_roundw
     case rel=>exact ⟨g5,f5,rfl,by omega,by omega,F6,HN,C6,by omega,B6⟩
     case measure=>
      have h1:=tT F6.out _ (Nat.le_refl _)
      have h2:=HL.out
      have h3:=yX.out
      simp only [Rk] at *
      simp
      omega
def mD (ws:List (Nat × Nat)):List Value:=ws.flatMap fun s=>[.int .i64 (s.1:Nat),.int .i64 (s.2:Nat)]
theorem Uh (ws:List (Nat × Nat)) (s:Nat × Nat):mD (ws++[s])=mD ws++[.int .i64 (s.1:Nat),.int .i64 (s.2:Nat)]:=by simp [mD]
theorem Ki {ws:List (Nat × Nat)} {i:Nat} {s:Nat × Nat} (h:ws[i]?=some s):(mD ws)[i*2]?=some (.int .i64 (s.1:Nat))∧(mD ws)[i*2+1]?=some (.int .i64 (s.2:Nat)):=by
 induction ws generalizing i with
 | nil=>simp at h
 | cons p ps ih=>
  cases i with
  | zero=>simp at h;subst h;simp [mD]
  | succ i=>
   have:=ih (by simpa using h)
   rw [show mD (p::ps)=[.int .i64 (p.1:Nat),.int .i64 (p.2:Nat)]++mD ps by simp [mD]]
   rw [List.getElem?_append_right (by simp;omega),List.getElem?_append_right (by simp;omega)]
   simpa [show (i+1)*2 - 2=i*2 by omega,show (i+1)*2+1 - 2=i*2+1 by omega] using this
def uy (f:Nat→List (Nat × Nat)) (b:Nat) (l:List (Nat × Nat)):Nat→List (Nat × Nat):=fun i=>if i=b then l else f i
theorem Tn (V:Nat→Value) (N b:Nat) (x:Value):((List.range N).map V).set b x=(List.range N).map (fun i=>if i=b then x else V i):=by
 apply List.ext_getElem
 ·simp
 ·intro i h1 h2
  simp at h1
  rw [List.getElem_set]
  simp only [List.getElem_map,List.getElem_range]
  by_cases e:b=i
  ·rw [if_pos e,if_pos e.symm]
  ·rw [if_neg e,if_neg (fun h=>e h.symm)]
structure lq (w:World) (T g2 n:Nat) (V:Nat→Value) (tl:Nat→List (Nat × Nat)):Prop where
 lt:g2<T
 cell:w.cell? ⟨T,0,none⟩=some (.slice (some ⟨g2,0,none⟩) n n)
 out:w.ownsRow g2 222 1 (.slice (some ⟨g2,0,none⟩) n n) n ((List.range n).map V)
 row:∀ j,j<n→w.ownsRow (T+1) 224 2 (V j) (tl j).length (mD (tl j))
 sep:∀ i j,i<n→j<n→i≠j→(V i).ownBlock=none∨(V i).ownBlock≠(V j).ownBlock
theorem lq.Rm {w:World} {T g2 n:Nat} {V:Nat→Value} {tl:Nat→List (Nat × Nat)} (h:lq w T g2 n V tl):T<w.heap.size:=World.block_lt_of_cell? w ⟨T,0,none⟩ h.cell
theorem lq.keeps {w w':World} {T g2 n:Nat} {V:Nat→Value} {tl:Nat→List (Nat × Nat)} (h:lq w T g2 n V tl) (hb:Below w.heap.size w w'):lq w' T g2 n V tl:=
 ⟨h.lt,(hb.cell (p:=⟨T,0,none⟩) h.Rm).trans h.cell,ae h.out hb,fun j hj=>ae (h.row j hj) hb,h.sep⟩
theorem zk {w w1:World} {T g2 n:Nat} {V:Nat→Value} {tl:Nat→List (Nat × Nat)} (h:lq w T g2 n V tl) {b gg cc:Nat} {s:Nat × Nat} (hb:b<n) (hgrow:w.grownBy w1 (V b).ownBlock)
  (hown:w1.ownsRow (T+1) 224 2 (.slice (some ⟨gg,0,none⟩) ((tl b).length+1) cc) ((tl b).length+1) (mD (tl b)++[.int .i64 (s.1:Nat),.int .i64 (s.2:Nat)])) (hat:(V b).ownBlock=some gg∨gg=w.heap.size) :
  lq (w1.setCell ⟨g2,b,none⟩ (.slice (some ⟨gg,0,none⟩) ((tl b).length+1) cc)) T g2 n (fun i=>if i=b then .slice (some ⟨gg,0,none⟩) ((tl b).length+1) cc else V i) (uy tl b (tl b++[s])):=by
 have hT:=h.Rm
 have hlt:=h.lt
 have key:∀ j,j<n→j≠b→(V j).ownBlock=none∨(V j).ownBlock≠some gg:=by
  intro j hj hne
  rcases hat with e | e
  ·rw [←e];exact h.sep j b hj hb hne
  ·cases ho:(V j).ownBlock with
   | none=>exact Or.inl rfl
   | some q=>
    have:=((h.row j hj).lt q ho).2
    exact Or.inr (fun e2=>by cases e2;omega)
 have ho1:=h.out.kept hgrow (aD h.out (h.row b hb) (by decide))
 have hset:=ho1.stored b (.slice (some ⟨gg,0,none⟩) ((tl b).length+1) cc)
 rw [Tn] at hset
 have hne:∀ (v:Value) (n:Nat) (xs:List Value),w1.ownsRow (T+1) 224 2 v n xs→(w1.setCell ⟨g2,b,none⟩ (.slice (some ⟨gg,0,none⟩) ((tl b).length+1) cc)).ownsRow (T+1) 224 2 v n xs:=by
  intro v n xs hv
  exact hv.kept hset.2 (aD hv ho1 (by decide))
 have hc:w1.cell? ⟨T,0,none⟩=some (.slice (some ⟨g2,0,none⟩) n n):=hgrow.cell h.cell (fun e=>by
  have:=((h.row b hb).lt T e.symm).1
  omega)
 refine ⟨h.lt,?_,hset.1,fun j hj=>?_,fun i j hi hj hij=>?_⟩
 ·rw [World.cell?_setCell_other _ _ _ _ (fun e=>by have:=congrArg Addr.block e;simp at this;omega)]
  exact hc
 ·unfold uy
  by_cases e:j=b
  ·subst e
   simp only [if_true]
   have:=hne _ _ _ hown
   rw [←Uh] at this
   rw [List.length_append,List.length_singleton]
   exact this
  ·simp only [if_neg e]
   exact hne _ _ _ ((h.row j hj).kept hgrow (h.sep j b hj hb e))
 ·by_cases e1:i=b
  ·have e2:j≠b:=fun e=>hij (e1.trans e.symm)
   simp only [if_pos e1,if_neg e2]
   right
   intro e
   rcases key j hj e2 with k | k
   ·rw [k] at e;simp [Value.ownBlock] at e
   ·exact k e.symm
  ·by_cases e2:j=b
   ·simp only [if_neg e1,if_pos e2]
    exact key i hi e1
   ·simp only [if_neg e1,if_neg e2]
    exact h.sep i j hi hj hij
theorem lq.ways {w:World} {T g2 n:Nat} {V:Nat→Value} {tl:Nat→List (Nat × Nat)} (h:lq w T g2 n V tl):mI w g2 n tl:=by
 refine ⟨(h.out.lt _ rfl).2,fun t ht=>?_⟩
 obtain ⟨ao,cap,e⟩:=ag (h.row t ht)
 refine ⟨ao,cap,?_,fun h0=>?_⟩
 ·rw [h.out.cellAt t (by omega)];simp [List.getElem?_map,List.getElem?_range ht,e]
 ·have hr:=h.row t ht
  rw [e] at hr
  obtain ⟨gr,e2,h1,h2,h3⟩:=dH hr h0
  subst e2
  refine ⟨gr,rfl,h2,fun j st hj=>?_⟩
  have hl:=(List.getElem?_eq_some_iff.1 hj).1
  exact ⟨(hr.cellAt (j*2) (by omega)).trans (Ki hj).1,(hr.cellAt (j*2+1) (by omega)).trans (Ki hj).2⟩
theorem Tryz.Ni:(Tryz.prog.info? 224).map (fun i=>(i.zero,i.size,i.bytes))=some (some (.agg #[.int .i64 0,.int .i64 0]),2,16):=by kernel_rfl
theorem LJ (T g2 n fr l to:Nat) (V:Nat→Value) (tl:Nat→List (Nat × Nat)) (w:World) (hm:lq w T g2 n V tl) (hn:n≤1099511627776) (hfr:fr<n) (hl:l<8) (hto:to<n) (hlen:(tl to).length≤1099511627776) :
  Calls Tryz.prog 130 #[.pointer (some ⟨T,0,none⟩),.int .i64 fr,.int .i64 l,.int .i64 to] w fun e w'=>e=.returned (.tuple #[])∧(∃ V',lq w' T g2 n V' (uy tl to (tl to++[(fr,l)])))∧Below g2 w w':=by
 obtain ⟨i0,hi,hz0,hz1,hz2⟩:=info_parts Tryz.Ni
 have cT:=hm.cell
 have hT:=hm.Rm
 have hgT:=hm.lt
 have own:=hm.row to hto
 have cV:w.cell? ⟨g2,to,none⟩=some (V to):=(hm.out.cellAt to (by omega)).trans (by simp [List.getElem?_map,List.getElem?_range hto])
 have HM:=hid hm
 have hg2:g2<w.heap.size:=by omega
 obtain ⟨ao,cp,eV⟩:=ag own
 have HV:=hid eV
 rw [eV] at cV own
 generalize hln:(tl to).length=ln at *
 have bg:=hid hln
 have OW:=hid own
 clear hm eV hln own
 go_enter Tryz.func130,Tryz.ntmps130
 go_wp2_with fail
 refine wp_region_held_drew (S:=fun w'=>w'.cell? ⟨T,0,none⟩=some (.slice (some ⟨g2,0,none⟩) n n)) (by kernel_rfl) cT (fun hHeld=>?_)
 refine wpAnyH_take (i:=0) (oi:={ dst:=some 36,op:=Op.move (.tmp 0),type:=_,pos:=_,after:=_,guard:=none }) (v:=(Value.pointer (some ⟨T,0,none⟩))) rfl (by kernel_rfl) (by kernel_rfl) (by kernel_rfl) (fun _ _ _ h=>h) (Or.inl ⟨by rfl,by intro w' hSw;(try dsimp only at hSw);go_simp⟩) (by assumption) ?_
 simp only [Act.put,List.setIfInBounds_toArray,List.set_cons_zero,List.set_cons_succ]
 refine wpAnyH_take (i:=1) (oi:={ dst:=some 37,op:=Op.nilCheck (.tmp 36),type:=_,pos:=_,after:=_,guard:=none }) (v:=(Value.pointer (some ⟨T,0,none⟩))) rfl (by kernel_rfl) (by kernel_rfl) (by kernel_rfl) (fun _ _ _ h=>h) (Or.inl ⟨by rfl,by intro w' hSw;(try dsimp only at hSw);go_simp⟩) (by assumption) ?_
 simp only [Act.put,List.setIfInBounds_toArray,List.set_cons_zero,List.set_cons_succ]
 refine wpAnyH_take (i:=2) (oi:={ dst:=some 38,op:=Op.fieldAddr _ (.tmp 37) 0,type:=_,pos:=_,after:=_,guard:=none }) (v:=(Value.pointer (some ⟨T,0,none⟩))) rfl (by kernel_rfl) (by kernel_rfl) (by kernel_rfl) (fun _ _ _ h=>h) (Or.inl ⟨by rfl,by intro w' hSw;(try dsimp only at hSw);go_simp⟩) (by assumption) ?_
 simp only [Act.put,List.setIfInBounds_toArray,List.set_cons_zero,List.set_cons_succ]
 refine wpAnyH_take (i:=3) (oi:={ dst:=some 39,op:=Op.load _ (.tmp 38),type:=_,pos:=_,after:=_,guard:=none }) (v:=(Value.slice (some ⟨g2,0,none⟩) n n)) rfl (by kernel_rfl) (by kernel_rfl) (by kernel_rfl) (fun _ _ _ h=>h) (Or.inl ⟨by rfl,by intro w' hSw;(try dsimp only at hSw);go_simp⟩) (by assumption) ?_
 simp only [Act.put,List.setIfInBounds_toArray,List.set_cons_zero,List.set_cons_succ]
 refine wpAnyH_take (i:=4) (oi:={ dst:=some 40,op:=Op.move (.tmp 3),type:=_,pos:=_,after:=_,guard:=none }) (v:=(Value.int .i64 (to:Nat))) rfl (by kernel_rfl) (by kernel_rfl) (by kernel_rfl) (fun _ _ _ h=>h) (Or.inl ⟨by rfl,by intro w' hSw;(try dsimp only at hSw);go_simp⟩) (by assumption) ?_
 simp only [Act.put,List.setIfInBounds_toArray,List.set_cons_zero,List.set_cons_succ]
 refine wpAnyH_take (i:=5) (oi:={ dst:=some 41,op:=Op.move (.tmp 0),type:=_,pos:=_,after:=_,guard:=none }) (v:=(Value.pointer (some ⟨T,0,none⟩))) rfl (by kernel_rfl) (by kernel_rfl) (by kernel_rfl) (fun _ _ _ h=>h) (Or.inl ⟨by rfl,by intro w' hSw;(try dsimp only at hSw);go_simp⟩) (by assumption) ?_
 simp only [Act.put,List.setIfInBounds_toArray,List.set_cons_zero,List.set_cons_succ]
 refine wpAnyH_take (i:=6) (oi:={ dst:=some 42,op:=Op.nilCheck (.tmp 41),type:=_,pos:=_,after:=_,guard:=none }) (v:=(Value.pointer (some ⟨T,0,none⟩))) rfl (by kernel_rfl) (by kernel_rfl) (by kernel_rfl) (fun _ _ _ h=>h) (Or.inl ⟨by rfl,by intro w' hSw;(try dsimp only at hSw);go_simp⟩) (by assumption) ?_
 simp only [Act.put,List.setIfInBounds_toArray,List.set_cons_zero,List.set_cons_succ]
 refine wpAnyH_take (i:=7) (oi:={ dst:=some 43,op:=Op.fieldAddr _ (.tmp 42) 0,type:=_,pos:=_,after:=_,guard:=none }) (v:=(Value.pointer (some ⟨T,0,none⟩))) rfl (by kernel_rfl) (by kernel_rfl) (by kernel_rfl) (fun _ _ _ h=>h) (Or.inl ⟨by rfl,by intro w' hSw;(try dsimp only at hSw);go_simp⟩) (by assumption) ?_
 simp only [Act.put,List.setIfInBounds_toArray,List.set_cons_zero,List.set_cons_succ]
 refine wpAnyH_take (i:=8) (oi:={ dst:=some 44,op:=Op.load _ (.tmp 43),type:=_,pos:=_,after:=_,guard:=none }) (v:=(Value.slice (some ⟨g2,0,none⟩) n n)) rfl (by kernel_rfl) (by kernel_rfl) (by kernel_rfl) (fun _ _ _ h=>h) (Or.inl ⟨by rfl,by intro w' hSw;(try dsimp only at hSw);go_simp⟩) (by assumption) ?_
 simp only [Act.put,List.setIfInBounds_toArray,List.set_cons_zero,List.set_cons_succ]
 refine wpAnyH_take (i:=9) (oi:={ dst:=some 45,op:=Op.move (.tmp 3),type:=_,pos:=_,after:=_,guard:=none }) (v:=(Value.int .i64 (to:Nat))) rfl (by kernel_rfl) (by kernel_rfl) (by kernel_rfl) (fun _ _ _ h=>h) (Or.inl ⟨by rfl,by intro w' hSw;(try dsimp only at hSw);go_simp⟩) (by assumption) ?_
 simp only [Act.put,List.setIfInBounds_toArray,List.set_cons_zero,List.set_cons_succ]
 refine wpAnyH_take (i:=10) (oi:={ dst:=some 46,op:=Op.indexAddr _ (.tmp 44) (.tmp 45),type:=_,pos:=_,after:=_,guard:=none }) (v:=(Value.pointer (some ⟨g2,to,none⟩))) rfl (by kernel_rfl) (by kernel_rfl) (by kernel_rfl) (fun _ _ _ h=>h) (Or.inl ⟨by rfl,by intro w' hSw;(try dsimp only at hSw);go_simp⟩) (by assumption) ?_
 simp only [Act.put,List.setIfInBounds_toArray,List.set_cons_zero,List.set_cons_succ]
 refine wpAnyH_take (i:=12) (oi:={ dst:=some 48,op:=Op.move (.tmp 1),type:=_,pos:=_,after:=_,guard:=none }) (v:=(Value.int .i64 (fr:Nat))) rfl (by kernel_rfl) (by kernel_rfl) (by kernel_rfl) (fun _ _ _ h=>h) (Or.inl ⟨by rfl,by intro w' hSw;(try dsimp only at hSw);go_simp⟩) (by assumption) ?_
 simp only [Act.put,List.setIfInBounds_toArray,List.set_cons_zero,List.set_cons_succ]
 refine wpAnyH_take (i:=13) (oi:={ dst:=some 49,op:=Op.move (.tmp 2),type:=_,pos:=_,after:=_,guard:=none }) (v:=(Value.int .i64 (l:Nat))) rfl (by kernel_rfl) (by kernel_rfl) (by kernel_rfl) (fun _ _ _ h=>h) (Or.inl ⟨by rfl,by intro w' hSw;(try dsimp only at hSw);go_simp⟩) (by assumption) ?_
 simp only [Act.put,List.setIfInBounds_toArray,List.set_cons_zero,List.set_cons_succ]
 refine wpAnyH_take (i:=14) (oi:={ dst:=some 50,op:=Op.build _ #[(0,.tmp 48),(1,.tmp 49)],type:=_,pos:=_,after:=_,guard:=none }) (v:=(Value.agg #[Value.int .i64 (fr:Nat),Value.int .i64 (l:Nat)])) rfl (by kernel_rfl) (by kernel_rfl) (by kernel_rfl) (fun _ _ _ h=>h) (Or.inl ⟨by rfl,by intro w' hSw;(try dsimp only at hSw);go_simp⟩) (by assumption) ?_
 simp only [Act.put,List.setIfInBounds_toArray,List.set_cons_zero,List.set_cons_succ]
 refine wpAnyH_ready (rs:=[11,15]) (by kernel_rfl) (by simp) ?_
 refine AllReadyH.cons rfl (fun K hK=>?_) (AllReadyH.cons rfl (fun K hK=>?_) AllReadyH.nil)
 ·go_simp
  refine hK.out _ _ (by assumption) (fun hHeld=>?_)
  clear hK K
  refine wpAnyH_ready (rs:=[15]) (by kernel_rfl) (by simp) ?_
  refine AllReadyH.cons rfl (fun K hK=>?_) AllReadyH.nil
  go_simp
  refine hK.out _ _ ?hs (fun hHeld=>?_)
  case hs=>first | go_keep | simp [*]
  clear hK K
  refine wpAnyH_ready (rs:=[16]) (by kernel_rfl) (by simp) ?_
  refine AllReadyH.cons rfl (fun K hK=>?_) AllReadyH.nil
  refine step_append_lies _ (by rfl) (.tmp 47) (.tmp 51) 222 (by rfl) (T+1) 224 i0 (.agg #[.int .i64 0,.int .i64 0]) 2 16 Tryz.underlying222 hi hz0 hz1 hz2 rfl (by decide) _ ln (mD (tl to)) (by rfl) ((OW.out.alloc _).drew) ⟨w.heap.size,0,none⟩ 1 1 [.int .i64 (fr:Nat),.int .i64 (l:Nat)] (by rfl) (by rfl) (World.news_of_block (cs:=#[.int .i64 (fr:Nat),.int .i64 (l:Nat)]) (t:=224) (fr:=(0,0)) (heap_alloc_new w _)) (by simp [Value.oneCell']) (by decide) (by unfold maxLen;omega) (by omega) (by simp;omega) (w.heap.size+1) (by simp) ?_
  intro gg cc w2 hown hgrow hat hlt2
  have iE:lq (w.alloc (.cells #[.int .i64 (fr:Nat),.int .i64 (l:Nat)] 224)).drew T g2 n V tl:=HM.out.keeps (below_drewN ((Below.refl w.heap.size w).alloc (Nat.le_refl _) (.cells #[.int .i64 (fr:Nat),.int .i64 (l:Nat)] 224)) 1)
  have hgrow':(w.alloc (.cells #[.int .i64 (fr:Nat),.int .i64 (l:Nat)] 224)).drew.grownBy w2 (V to).ownBlock:=by rw [HV.out];exact hgrow
  have O2:=iE.out.kept hgrow' (aD iE.out (iE.row to hto) (by decide))
  have d1:=O2.frozenAt to
  have d0:w2.cell? ⟨g2,to,none⟩=some (V to):=(O2.cellAt to (by omega)).trans (by simp [List.getElem?_map,List.getElem?_range hto])
  have aZ:Below (T+1) w w2:=(below_drewN ((Below.refl (T+1) w).alloc (by omega) (.cells #[.int .i64 (fr:Nat),.int .i64 (l:Nat)] 224)) 1).grown hgrow (by show T+1≤(w.alloc (.cells #[.int .i64 (fr:Nat),.int .i64 (l:Nat)] 224)).heap.size;rw [World.size_alloc];omega) (fun x h=>(OW.out.lt x h).1)
  have TM:=hid (zk iE hto (s:=(fr,l)) hgrow' (by rw [bg.out];exact hown) (by rw [HV.out];rcases hat with h | h;exact Or.inl h;exact Or.inr (by rw [h];exact (World.size_alloc ..).symm)))
  rw [bg.out] at TM
  have BB:=hid ((aZ.mono (by omega:g2≤T+1)).setCell (p:=⟨g2,to,none⟩) (Nat.le_refl _) (.slice (some ⟨gg,0,none⟩) (ln+1) cc))
  have e1:w2.cell? ⟨T,0,none⟩=some (.slice (some ⟨g2,0,none⟩) n n):=(aZ.cell (p:=⟨T,0,none⟩) (Nat.lt_succ_self _)).trans cT
  have iW:=hid (TM.out.cell)
  refine hK.out _ _ e1 (fun hHeld=>?_)
  clear hK K O2 iE aZ hown hgrow hgrow' hat
  simp only [Act.put,List.setIfInBounds_toArray]
  refine wpAnyH_take (i:=17) (oi:={ dst:=some 53,op:=Op.indexAddr _ (.tmp 39) (.tmp 40),type:=_,pos:=_,after:=_,guard:=none }) (v:=(Value.pointer (some ⟨g2,to,none⟩))) rfl (by kernel_rfl) (by kernel_rfl) (by kernel_rfl) (fun _ _ _ h=>h) (Or.inl ⟨by rfl,by intro w' hSw;(try dsimp only at hSw);go_simp⟩) (by assumption) ?_
  simp only [Act.put]
  refine wpAnyH_ready (rs:=[18]) (by kernel_rfl) (by simp) ?_
  refine AllReadyH.cons rfl (fun K hK=>?_) AllReadyH.nil
  go_simp
  refine hK.out _ _ iW.out (fun hHeld=>?_)
  clear hK K
  refine wpAnyH_done (by kernel_rfl) ?_ _
  clear hHeld e1 d0 d1
  go_wp2_with fail
  go_end0
  exact ⟨rfl,⟨_,TM.out⟩,BB.out⟩
 ·go_simp
  refine hK.out _ _ ?hs (fun hHeld=>?_)
  case hs=>first | go_keep | simp [*]
  clear hK K
  refine wpAnyH_ready (rs:=[11]) (by kernel_rfl) (by simp) ?_
  refine AllReadyH.cons rfl (fun K hK=>?_) AllReadyH.nil
  go_simp
  refine hK.out _ _ (by assumption) (fun hHeld=>?_)
  clear hK K
  refine wpAnyH_ready (rs:=[16]) (by kernel_rfl) (by simp) ?_
  refine AllReadyH.cons rfl (fun K hK=>?_) AllReadyH.nil
  refine step_append_lies _ (by rfl) (.tmp 47) (.tmp 51) 222 (by rfl) (T+1) 224 i0 (.agg #[.int .i64 0,.int .i64 0]) 2 16 Tryz.underlying222 hi hz0 hz1 hz2 rfl (by decide) _ ln (mD (tl to)) (by rfl) ((OW.out.alloc _).drew) ⟨w.heap.size,0,none⟩ 1 1 [.int .i64 (fr:Nat),.int .i64 (l:Nat)] (by rfl) (by rfl) (World.news_of_block (cs:=#[.int .i64 (fr:Nat),.int .i64 (l:Nat)]) (t:=224) (fr:=(0,0)) (heap_alloc_new w _)) (by simp [Value.oneCell']) (by decide) (by unfold maxLen;omega) (by omega) (by simp;omega) (w.heap.size+1) (by simp) ?_
  intro gg cc w2 hown hgrow hat hlt2
  have iE:lq (w.alloc (.cells #[.int .i64 (fr:Nat),.int .i64 (l:Nat)] 224)).drew T g2 n V tl:=HM.out.keeps (below_drewN ((Below.refl w.heap.size w).alloc (Nat.le_refl _) (.cells #[.int .i64 (fr:Nat),.int .i64 (l:Nat)] 224)) 1)
  have hgrow':(w.alloc (.cells #[.int .i64 (fr:Nat),.int .i64 (l:Nat)] 224)).drew.grownBy w2 (V to).ownBlock:=by rw [HV.out];exact hgrow
  have O2:=iE.out.kept hgrow' (aD iE.out (iE.row to hto) (by decide))
  have d1:=O2.frozenAt to
  have d0:w2.cell? ⟨g2,to,none⟩=some (V to):=(O2.cellAt to (by omega)).trans (by simp [List.getElem?_map,List.getElem?_range hto])
  have aZ:Below (T+1) w w2:=(below_drewN ((Below.refl (T+1) w).alloc (by omega) (.cells #[.int .i64 (fr:Nat),.int .i64 (l:Nat)] 224)) 1).grown hgrow (by show T+1≤(w.alloc (.cells #[.int .i64 (fr:Nat),.int .i64 (l:Nat)] 224)).heap.size;rw [World.size_alloc];omega) (fun x h=>(OW.out.lt x h).1)
  have TM:=hid (zk iE hto (s:=(fr,l)) hgrow' (by rw [bg.out];exact hown) (by rw [HV.out];rcases hat with h | h;exact Or.inl h;exact Or.inr (by rw [h];exact (World.size_alloc ..).symm)))
  rw [bg.out] at TM
  have BB:=hid ((aZ.mono (by omega:g2≤T+1)).setCell (p:=⟨g2,to,none⟩) (Nat.le_refl _) (.slice (some ⟨gg,0,none⟩) (ln+1) cc))
  have e1:w2.cell? ⟨T,0,none⟩=some (.slice (some ⟨g2,0,none⟩) n n):=(aZ.cell (p:=⟨T,0,none⟩) (Nat.lt_succ_self _)).trans cT
  have iW:=hid (TM.out.cell)
  refine hK.out _ _ e1 (fun hHeld=>?_)
  clear hK K O2 iE aZ hown hgrow hgrow' hat
  simp only [Act.put,List.setIfInBounds_toArray]
  refine wpAnyH_take (i:=17) (oi:={ dst:=some 53,op:=Op.indexAddr _ (.tmp 39) (.tmp 40),type:=_,pos:=_,after:=_,guard:=none }) (v:=(Value.pointer (some ⟨g2,to,none⟩))) rfl (by kernel_rfl) (by kernel_rfl) (by kernel_rfl) (fun _ _ _ h=>h) (Or.inl ⟨by rfl,by intro w' hSw;(try dsimp only at hSw);go_simp⟩) (by assumption) ?_
  simp only [Act.put]
  refine wpAnyH_ready (rs:=[18]) (by kernel_rfl) (by simp) ?_
  refine AllReadyH.cons rfl (fun K hK=>?_) AllReadyH.nil
  go_simp
  refine hK.out _ _ iW.out (fun hHeld=>?_)
  clear hK K
  refine wpAnyH_done (by kernel_rfl) ?_ _
  clear hHeld e1 d0 d1
  go_wp2_with fail
  go_end0
  exact ⟨rfl,⟨_,TM.out⟩,BB.out⟩
theorem Tryz.BH:(Tryz.prog.info? 222).map (fun i=>(i.zero,i.size,i.bytes))=some (some (.slice none 0 0),1,24):=by kernel_rfl
theorem Tryz.YF:(Tryz.prog.info? 159).map (·.size)=some 1:=by kernel_rfl
theorem Ej {fn:Func} {c b:Nat} {v:Value} {a:Act} {w:World} {R:Ending→World→Prop} (h:fn.results=#[.cell c 159]) (hd:a.defers=[]) (hp:a.tmps.getD c undef=.pointer (some ⟨b,0,none⟩))
  (hg:w.cell? ⟨b,0,none⟩=some v) (hR:R (.returned (.agg #[v])) w):bodyPost Tryz.prog fn R .ret a w:=by
 refine bodyPost_ret (v:=.agg #[v]) ?_ hd hR
 rw [mi h,hp]
 simp only [asAddr,Sem.run_pure,Result.andThen_ok]
 refine run_loadVar_mid w b 0 _ [v] _ (fun j u hj=>?_) Tryz.underlying159 rfl Tryz.YF
 cases j with
 | zero=>simp at hj;subst hj;simpa using hg
 | succ j=>simp at hj
def d9 (k:Nat):Nat→List (Nat × Nat):=fun t=>if t=0 then (List.range k).map fun l=>(0,l) else []
theorem OE:d9 0=fun _=>[]:=by funext t;simp [d9]
theorem OJ (k:Nat):uy (d9 k) 0 (d9 k 0++[(0,k)])=d9 (k+1):=by
 funext t
 unfold uy d9
 by_cases e:t=0
 ·simp [e,List.range_succ]
 ·simp [e]
theorem OH:rP 1 (d9 8):=⟨by omega,fun t ht st hs=>by
 obtain rfl:t=0:=by omega
 simp [d9] at hs
 obtain ⟨l,hl,rfl⟩:=hs
 exact ⟨by omega,hl⟩,fun t ht=>by
 obtain rfl:t=0:=by omega
 simp [d9]⟩
theorem Uv (w:World):Calls Tryz.prog 118 #[] w fun e w'=>∃ g,e=.returned (.agg #[.slice (some ⟨g,0,none⟩) 1 1])∧mI w' g 1 (d9 8)∧Below w.heap.size w w':=by
 obtain ⟨i0,hi,hz0,hz1,hz2⟩:=info_parts Tryz.BH
 go_enter Tryz.func118,Tryz.ntmps118
 go_wp2_with (at_make;go_must (refine wpList_make_full _ rfl (.const (.int .i64 1)) (.const (.int .i64 1)) 157 rfl (w.heap.size+1) 222 i0 (.slice none 0 0) 1 Tryz.underlying157 hi hz0 hz1 .i64 .i64 1 1 1 rfl rfl rfl rfl ?m2 ?m3 (by simp) ?_))
 case m2=>rw [hz2];omega
 case m3=>unfold maxLen;omega
 intro w1 ay grow1
 have eo:(madeCells #[Value.slice none 0 0] (1*1)).toList=(List.range 1).map (fun _=>Value.slice none 0 0):=by rw [toList_madeCells_one];rfl
 have o1:w1.ownsRow (w.heap.size+1) 222 1 (.slice (some ⟨w.heap.size+1,0,none⟩) 1 1) 1 ((List.range 1).map (fun _=>Value.slice none 0 0)):=by rw [←eo];exact ay
 have hlt:w.heap.size+1<w1.heap.size:=(o1.lt _ rfl).2
 have b0:=((Below.refl (w.heap.size+1) (w.alloc (.cells #[.slice none 0 0] 159))).grown grow1 (by simp) (fun k h=>by cases h))
 have R0:w1.cell? ⟨w.heap.size,0,none⟩=some (.slice none 0 0):=(b0.cell (p:=⟨w.heap.size,0,none⟩) (by show w.heap.size<w.heap.size+1;omega)).trans (by simp)
 have R1:w1.frozen? ⟨w.heap.size,0,none⟩=false:=(b0.frozen (p:=⟨w.heap.size,0,none⟩) (by show w.heap.size<w.heap.size+1;omega)).trans (by simp)
 have HB1:Hid (Below w.heap.size w w1):=hid (((Below.refl w.heap.size w).alloc (Nat.le_refl _) (.cells #[.slice none 0 0] 159)).trans (b0.mono (by omega)))
 have M1:Hid (lq (w1.alloc (.cells #[.slice (some ⟨w.heap.size+1,0,none⟩) 1 1] 159)) w1.heap.size (w.heap.size+1) 1 (fun _=>.slice none 0 0) (d9 0)):=hid ⟨hlt,by simp,o1.alloc _,fun j hj=>by rw [OE];exact World.ownsRow_nil _ _ _ _,fun i j hi hj h=>by omega⟩
 have HR:Hid ((w1.alloc (.cells #[.slice (some ⟨w.heap.size+1,0,none⟩) 1 1] 159)).cell? ⟨w.heap.size,0,none⟩=some (.slice none 0 0)∧(w1.alloc (.cells #[.slice (some ⟨w.heap.size+1,0,none⟩) 1 1] 159)).frozen? ⟨w.heap.size,0,none⟩=false):=hid ⟨by rw [World.cell?_alloc_lt _ _ _ (by show w.heap.size<w1.heap.size;omega)];exact R0,by rw [World.frozen?_alloc_past _ _ _ (by show w.heap.size<w1.heap.size;omega)];exact R1⟩
 have HB2:=hid (HB1.out.alloc (by omega) (.cells #[.slice (some ⟨w.heap.size+1,0,none⟩) 1 1] 159))
 clear ay grow1 eo o1 b0 R0 R1 HB1
 go_wp2_with fail
 generalize w1.heap.size=T at *
 go_loopw [2] (fun i wq=>∃ (k:Nat) (V:Nat→Value),k≤8∧i=.int .i64 k∧Hid (lq wq T (w.heap.size+1) 1 V (d9 k))∧Hid (wq.cell? ⟨w.heap.size,0,none⟩=some (.slice none 0 0)∧wq.frozen? ⟨w.heap.size,0,none⟩=false)∧Hid (Below w.heap.size w wq)) (fun i _=>8 - (intOf i).toNat)
 case atStart=>exact ⟨0,_,by omega,rfl,M1,HR,HB2⟩
 case round=>
  obtain ⟨k,V,hk,rfl,HM,HR,HB⟩:=hrel
  rename World=>W0
  by_cases hlk:k<8
  ·go_wp2_with fail
   refine (LJ T (w.heap.size+1) 1 0 k 0 V (d9 k) W0 HM.out (by omega) (by omega) hlk (by omega) (by simp [d9];omega)).mono ?_
   rintro e w2 ⟨rfl,⟨V',hm⟩,hb⟩
   rw [OJ] at hm
   have DY:=hid hm
   have HR2:=hid (And.intro ((hb.cell (p:=⟨w.heap.size,0,none⟩) (by show w.heap.size<w.heap.size+1;omega)).trans HR.out.1) ((hb.frozen (p:=⟨w.heap.size,0,none⟩) (by show w.heap.size<w.heap.size+1;omega)).trans HR.out.2))
   have HB3:=hid (HB.out.trans (hb.mono (by omega)))
   clear hm hb
   go_wp2_with fail
   go_roundw
   case rel=>exact ⟨k+1,V',by omega,by go_num,DY,HR2,HB3⟩
   case measure=>simp [intOf];omega
  ·obtain rfl:k=8:=by omega
   have c1:=HM.out.cell
   have r0:=HR.out.1
   have r1:=HR.out.2
   have hw:=HM.out.ways
   have HW:Hid (mI (W0.setCell ⟨w.heap.size,0,none⟩ (.slice (some ⟨w.heap.size+1,0,none⟩) 1 1)) (w.heap.size+1) 1 (d9 8)):=hid (by
    obtain ⟨ao,cap,h1,h2⟩:=hw.row 0 (by omega)
    refine ⟨by simpa using hw.lt,fun t ht=>?_⟩
    obtain rfl:t=0:=by omega
    refine ⟨ao,cap,?_,fun h0=>?_⟩
    ·rw [World.cell?_setCell_other _ _ _ _ (fun e=>by have:=congrArg Addr.block e;simp at this)];exact h1
    ·obtain ⟨gr,h3,h4,h5⟩:=h2 h0
     have hne:gr≠w.heap.size:=fun e=>by
      have h6:=(h5 0 (0,0) (by simp [d9])).1
      rw [e,Nat.zero_mul,r0] at h6
      cases h6
     refine ⟨gr,h3,by simpa using h4,fun j st hj=>?_⟩
     obtain ⟨h6,h7⟩:=h5 j st hj
     exact ⟨by rw [World.cell?_setCell_other _ _ _ _ (fun e=>hne (by have:=congrArg Addr.block e;simpa using this.symm))];exact h6,by rw [World.cell?_setCell_other _ _ _ _ (fun e=>hne (by have:=congrArg Addr.block e;simpa using this.symm))];exact h7⟩)
   have dm:=hid (HB.out.setCell (p:=⟨w.heap.size,0,none⟩) (Nat.le_refl _) (.slice (some ⟨w.heap.size+1,0,none⟩) 1 1))
   have CE:Hid ((W0.setCell ⟨w.heap.size,0,none⟩ (.slice (some ⟨w.heap.size+1,0,none⟩) 1 1)).cell? ⟨w.heap.size,0,none⟩=some (.slice (some ⟨w.heap.size+1,0,none⟩) 1 1)):=hid (World.cell?_setCell_same _ _ _ r0)
   clear hw
   go_wp2_with fail
   refine Ej Tryz.results118 ?_ ?_ CE.out ?_
   ·rfl
   ·rfl
   ·exact ⟨_,rfl,HW.out,dm.out⟩
end Go.Proofs.YtjagijohfkffiabGreat
