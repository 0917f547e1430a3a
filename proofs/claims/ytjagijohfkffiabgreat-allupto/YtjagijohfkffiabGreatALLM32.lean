import Derived.Test.YtjagijohfkffiabGreatALLM19
import Derived.Test.YtjagijohfkffiabGreatALLM28
import Derived.Test.YtjagijohfkffiabGreatALLM31
import Derived.BigQuiet
set_option maxHeartbeats 16000000
set_option maxRecDepth 100000
namespace Go.Proofs.YtjagijohfkffiabGreat
set_option linter.unusedVariables false
theorem Qf {n:Nat} {nx:Nat→Nat→Nat} (h:iL n nx) {i a:Nat} (hi:i<n) (ha:a<8):nx i a<n:=by
 have h1:=qf nx (show 8*i+a+1≤8*n by omega)
 simp only [met] at h1
 rw [h.2,show (8*i+a) / 8=i by omega,show (8*i+a) % 8=a by omega] at h1
 omega
theorem Bt {n:Nat} {nx:Nat→Nat→Nat} (h:iL n nx):0<n:=by
 have:=acU nx (8*n)
 rw [h.2] at this
 exact this
theorem Vt {n:Nat} {nx:Nat→Nat→Nat} (hc:∀ i a,i<n→a<8→nx i a<n):∀ (w:List Nat) (i:Nat),i<n→mM w→jQ nx i w<n
 | [],i,hi,_=>hi
 | a::w,i,hi,hw=>Vt hc w (nx i a) (hc i a hi (hw a (List.mem_cons_self ..))) (fun x hx=>hw x (List.mem_cons_of_mem _ hx))
structure Ap (ns:List Nd) (n:Nat) (out:Nat→Nat) (nx:Nat→Nat→Nat):Prop where
 num:iL n nx
 apart:Apart n out nx
 tells:∀ w,mM w→iC ns w (out (jQ nx 0 w))
theorem M3 {ns:List Nd} {n n':Nat} {out out':Nat→Nat} {nx nx':Nat→Nat→Nat} (h:Ap ns n out nx) (k:Ap ns n' out' nx'):n=n'∧(∀ i,i<n→out i=out' i)∧∀ i a,i<n→a<8→nx i a=nx' i a:=
 Ms h.num k.num h.apart k.apart fun w hw=>jW (h.tells w hw) (k.tells w hw)
def Big (ns:List Nd):Prop:=∀ n out nx,Ap ns n out nx→8<n
theorem aaJ {ns:List Nd} {n:Nat} {out:Nat→Nat} {nx:Nat→Nat→Nat} (h:Ap ns n out nx) (hn:8<n):Big ns:=fun n' out' nx' k=>by
 have:=(M3 h k).1
 omega
section
variable {ns:List Nd} {aa:Nat→Bool} {us:List (List Nat)} {xs:List Nat}
theorem vI (hE:eX ns aa (aB ns aa) us xs) (hx:xs.length=8*us.length):∀ i a,i<us.length→a<8→aL xs i a<us.length:=fun i a hi ha=>by
 obtain ⟨_,u1,_,h1,_⟩:=hE.ok (8*i+a) (by omega)
 exact (List.getElem?_eq_some_iff.1 h1).1
theorem wR (hg:Good ns) (hl:gW ns (aI ns ns.length) aa) (hE:eX ns aa (aB ns aa) us xs) (hx:xs.length=8*us.length) {w:List Nat} (hw:mM w):iC ns w (bQ ns aa (aB ns aa) us (jQ (aL xs) 0 w)):=by
 let x:Nat→Nat:=fun i=>w.getD i 0
 have hL:dM x:=fun t=>by
  show w.getD t 0<8
  rw [List.getD]
  cases e:w[t]? with
  | none=>simp
  | some y=>exact hw y (List.mem_of_getElem? e)
 let sp:Nat→Nat:=fun t=>Nat.rec 0 (fun t s=>aL xs s (x t)) t
 have e:pre x w.length=w:=by
  unfold pre
  apply List.ext_getElem
  ·simp
  ·intro i h1 h2
   simp [x,List.getD,List.getElem?_eq_getElem h2]
 have hsp:∀ t,sp t=jQ (aL xs) 0 (pre x t):=fun t=>by
  induction t with
  | zero=>rfl
  | succ t ih=>
   rw [zK,zC,←ih]
   rfl
 have:=lJ hg hl hE hx hL (sp:=sp) rfl (fun t=>rfl) w.length
 rw [hsp,e] at this
 exact this
theorem TU (hg:Good ns) (hl:gW ns (aI ns ns.length) aa) (hE:eX ns aa (aB ns aa) us xs) (hx:xs.length=8*us.length) {kd out':Nat→Nat} {nx':Nat→Nat→Nat} (hf:Fo kd us.length)
  (hh:KI us.length (bQ ns aa (aB ns aa) us) (aL xs) kd out' nx') (hk:∀ i j,i<us.length→j<us.length→ik (bQ ns aa (aB ns aa) us) (aL xs) (bQ ns aa (aB ns aa) us) (aL xs) i j→kd i=kd j):Ap ns (aR kd us.length) out' nx':=by
 have hpos:0<us.length:=(List.getElem?_eq_some_iff.1 hE.first).1
 have hc:=vI hE hx
 have k0:kd 0=0:=by
  have:=hf 0 hpos
  simp only [aR] at this
  omega
 refine ⟨La hpos (AU hE hx) hh hc hf,WL hh hc hf hk,fun w hw=>?_⟩
 have h1:=EB hh hc hpos w hw
 rw [k0] at h1
 rw [←h1]
 exact wR hg hl hE hx hw
theorem Xn (hE:eX ns aa (aB ns aa) us xs) (hx:xs.length=8*us.length):∀ i,i<us.length→∃ w,mM w∧jQ (aL xs) 0 w=i:=by
 have hn:=AU hE hx
 have key:∀ p,p≤8*us.length→∀ i,i<met (aL xs) p→∃ w,mM w∧jQ (aL xs) 0 w=i:=by
  intro p
  induction p with
  | zero=>
   intro _ i hi
   simp only [met] at hi
   exact ⟨[],fun x hx=>by simp at hx,by show 0=i;omega⟩
  | succ p ih=>
   intro hp i hi
   by_cases c:i<met (aL xs) p
   ·exact ih (by omega) i c
   ·simp only [met] at hi
    obtain ⟨h1,h2⟩:=hn.1 p (by omega)
    obtain ⟨w,h3,h4⟩:=ih (by omega) _ h1
    refine ⟨w++[p % 8],fun x hx=>?_,?_⟩
    ·rcases List.mem_append.1 hx with hx | hx
     ·exact h3 x hx
     ·simp at hx;omega
    ·rw [zC,h4]
     show aL xs (p / 8) (p % 8)=i
     omega
 intro i hi
 exact key (8*us.length) (Nat.le_refl _) i (by rw [hn.2];exact hi)
theorem Wv (hg:Good ns) (hl:gW ns (aI ns ns.length) aa) (hE:eX ns aa (aB ns aa) us xs) (hx:xs.length=8*us.length) {kd:Nat→Nat} (hf:Fo kd us.length)
  (hk:∀ i j,i<us.length→j<us.length→ik (bQ ns aa (aB ns aa) us) (aL xs) (bQ ns aa (aB ns aa) us) (aL xs) i j→kd i=kd j) (h8:8<aR kd us.length):Big ns:=by
 intro n out nx hm
 have hc:=vI hE hx
 have hpos:0<us.length:=(List.getElem?_eq_some_iff.1 hE.first).1
 have hn:=Bt hm.num
 have L0:ik (bQ ns aa (aB ns aa) us) (aL xs) out nx 0 0:=fun w hw=>jW (wR hg hl hE hx hw) (hm.tells w hw)
 have ex:∀ c,∃ s r,c<aR kd us.length→s<n∧r<us.length∧kd r=c∧ik (bQ ns aa (aB ns aa) us) (aL xs) out nx r s:=fun c=>by
  by_cases hc0:c<aR kd us.length
  ·obtain ⟨r,h1,h2,_⟩:=Fy hf hc0
   obtain ⟨w,h3,h4⟩:=Xn hE hx r h1
   refine ⟨jQ nx 0 w,r,fun _=>⟨Vt (fun i a hi ha=>Qf hm.num hi ha) w 0 hn h3,h1,h2,fun v hv=>?_⟩⟩
   have:=L0 (w++v) (fun x hx=>by
    rcases List.mem_append.1 hx with hx | hx
    ·exact h3 x hx
    ·exact hv x hx)
   rw [zC,zC,h4] at this
   exact this
  ·exact ⟨0,0,fun h=>absurd h hc0⟩
 let s:Nat→Nat:=fun c=>Classical.choose (ex c)
 have hs:∀ c,∃ r,c<aR kd us.length→s c<n∧r<us.length∧kd r=c∧ik (bQ ns aa (aB ns aa) us) (aL xs) out nx r (s c):=fun c=>Classical.choose_spec (ex c)
 have inj:∀ c d,c<aR kd us.length→d<aR kd us.length→s c=s d→c=d:=fun c d h1 h2 e=>by
  obtain ⟨r,hr⟩:=hs c
  obtain ⟨q,hq⟩:=hs d
  obtain ⟨_,a1,a2,a3⟩:=hr h1
  obtain ⟨_,b1,b2,b3⟩:=hq h2
  rw [e] at a3
  rw [←a2,←b2]
  exact hk r q a1 b1 (oM a3 (qC b3))
 have hnd:((List.range (aR kd us.length)).map s).Nodup:=by
  rw [List.nodup_iff_pairwise_ne,List.pairwise_map]
  refine List.Pairwise.imp_of_mem ?_ (List.nodup_iff_pairwise_ne.1 List.nodup_range)
  intro a b ha hb hne e
  exact hne (inj a b (by simpa using ha) (by simpa using hb) e)
 have:=zN _ _ hnd (fun y hy=>by
  obtain ⟨c,h1,rfl⟩:=List.mem_map.1 hy
  obtain ⟨r,hr⟩:=hs c
  exact (hr (by simpa using h1)).1)
 simp only [List.length_map,List.length_range] at this
 omega
end
/-! ### The reference's way: through what is met -/
def qM (ms:List Nat) (i:Nat):Nat:=ms.getD i 0
section
variable (out:Nat→Nat) (nx:Nat→Nat→Nat)
structure AV (K:Nat) (ms xs:List Nat):Prop where
 first:ms[0]?=some 0
 lt:∀ m∈ms,m<K
 BZ:ms.Pairwise fun a b=>¬ ik out nx out nx a b
 ok:∀ p,p<xs.length→∃ m0 m1,ms[p / 8]?=some m0∧ms[xs.getD p 0]?=some m1∧ik out nx out nx (nx m0 (p % 8)) m1
 num:ms.length=met (aL xs) xs.length
 Ep:∀ p,p<xs.length→p / 8<met (aL xs) p∧xs.getD p 0≤met (aL xs) p
end
section
variable {out:Nat→Nat} {nx:Nat→Nat→Nat} {K:Nat} {ms xs:List Nat}
theorem uh (i:Nat):ik out nx out nx i i:=fun w _=>rfl
theorem UM (hK:0<K):AV out nx K [0] []:=⟨rfl,fun m hm=>by simp at hm;omega,by simp,fun p hp=>by simp at hp,rfl,fun p hp=>by simp at hp⟩
theorem abW (h:AV out nx K ms xs) {m0 m1 j:Nat} (h0:ms[xs.length / 8]?=some m0) (h1:ms[j]?=some m1) (hq:ik out nx out nx (nx m0 (xs.length % 8)) m1):AV out nx K ms (xs++[j]):=by
 have hj:=(List.getElem?_eq_some_iff.1 h1).1
 have hi:=(List.getElem?_eq_some_iff.1 h0).1
 have hn:=h.num
 refine ⟨h.first,h.lt,h.BZ,fun p hp=>?_,?_,fun p hp=>?_⟩
 ·rw [List.length_append,List.length_singleton] at hp
  by_cases e:p=xs.length
  ·subst e;rw [di];exact ⟨m0,m1,h0,h1,hq⟩
  ·rw [dU (by omega)];exact h.ok p (by omega)
 ·rw [List.length_append,List.length_singleton,met,mo _ (Nat.le_refl _),ug,di,←h.num]
  omega
 ·rw [List.length_append,List.length_singleton] at hp
  rw [mo p (by omega)]
  by_cases e:p=xs.length
  ·subst e;rw [di,←h.num];exact ⟨hi,by omega⟩
  ·rw [dU (by omega)];exact h.Ep p (by omega)
theorem abX (h:AV out nx K ms xs) {m0:Nat} (h0:ms[xs.length / 8]?=some m0) (hlt:nx m0 (xs.length % 8)<K) (hall:∀ m∈ms,¬ ik out nx out nx (nx m0 (xs.length % 8)) m):AV out nx K (ms++[nx m0 (xs.length % 8)]) (xs++[ms.length]):=by
 have hi:=(List.getElem?_eq_some_iff.1 h0).1
 have hn:=h.num
 have old:∀ {i m:Nat},ms[i]?=some m→(ms++[nx m0 (xs.length % 8)])[i]?=some m:=fun {i u} hu=>by
  rw [List.getElem?_append_left (List.getElem?_eq_some_iff.1 hu).1];exact hu
 refine ⟨old h.first,fun m hm=>?_,?_,fun p hp=>?_,?_,fun p hp=>?_⟩
 ·rcases List.mem_append.1 hm with hm | hm
  ·exact h.lt m hm
  ·simp at hm;omega
 ·rw [List.pairwise_append]
  refine ⟨h.BZ,by simp,fun a ha b hb=>?_⟩
  simp at hb
  subst hb
  exact fun hk=>hall a ha (qC hk)
 ·rw [List.length_append,List.length_singleton] at hp
  by_cases e:p=xs.length
  ·subst e
   rw [di]
   exact ⟨m0,nx m0 (xs.length % 8),old h0,by simp,uh _⟩
  ·rw [dU (by omega)]
   obtain ⟨a,b,h1,h2,h3⟩:=h.ok p (by omega)
   exact ⟨a,b,old h1,old h2,h3⟩
 ·rw [List.length_append,List.length_singleton,List.length_append,List.length_singleton,met,mo _ (Nat.le_refl _),ug,di,←h.num]
  omega
 ·rw [List.length_append,List.length_singleton] at hp
  rw [mo p (by omega)]
  by_cases e:p=xs.length
  ·subst e;rw [di,←h.num];exact ⟨hi,by omega⟩
  ·rw [dU (by omega)];exact h.Ep p (by omega)
theorem Hz (h:AV out nx K ms xs):ms.length≤K:=zN _ _ (by
 rw [List.nodup_iff_pairwise_ne]
 exact h.BZ.imp fun hab e=>hab (by subst e;exact uh _)) h.lt
theorem LH (h:AV out nx K ms xs) (he:xs.length=8*ms.length):iL ms.length (aL xs):=by
 refine ⟨fun p hp=>?_,?_⟩
 ·rw [ug];exact h.Ep p (by omega)
 ·rw [←he,←h.num]
theorem zm (h:AV out nx K ms xs) (he:xs.length=8*ms.length):∀ (w:List Nat) (m i:Nat),i<ms.length→mM w→ik out nx out nx m (qM ms i)→out (jQ nx m w)=out (qM ms (jQ (aL xs) i w))
 | [],m,i,hi,_,hk=>hk [] (fun x hx=>by simp at hx)
 | a::w,m,i,hi,hw,hk=>by
  have ha:=hw a (List.mem_cons_self ..)
  obtain ⟨m0,m1,h1,h2,h3⟩:=h.ok (8*i+a) (by omega)
  rw [show (8*i+a) / 8=i by omega] at h1
  rw [show (8*i+a) % 8=a by omega] at h3
  have e0:qM ms i=m0:=by simp [qM,List.getD,h1]
  have e1:qM ms (aL xs i a)=m1:=by show ms.getD (xs.getD (8*i+a) 0) 0=m1;simp only [List.getD] at h2 ⊢;rw [h2];rfl
  rw [e0] at hk
  simp only [jQ]
  exact zm h he w (nx m a) (aL xs i a) (List.getElem?_eq_some_iff.1 h2).1 (fun x hx=>hw x (List.mem_cons_of_mem _ hx)) (by rw [e1];exact oM (xz hk ha) h3)
theorem UN (h:AV out nx K ms xs) (he:xs.length=8*ms.length):Apart ms.length (fun i=>out (qM ms i)) (aL xs):=by
 intro i j hi hj hk
 have Uc:ik out nx out nx (qM ms i) (qM ms j):=fun w hw=>by
  rw [zm h he w _ i hi hw (uh _),zm h he w _ j hj hw (uh _)]
  exact hk w hw
 have hd:=List.pairwise_iff_getElem.1 h.BZ
 have ei:qM ms i=ms[i]:=by simp [qM,List.getD,List.getElem?_eq_getElem hi]
 have ej:qM ms j=ms[j]:=by simp [qM,List.getD,List.getElem?_eq_getElem hj]
 rw [ei,ej] at Uc
 rcases Nat.lt_trichotomy i j with c | c | c
 ·exact absurd Uc (hd i j hi hj c)
 ·exact c
 ·exact absurd (qC Uc) (hd j i hj hi c)
theorem YE {ns:List Nd} {aa:Nat→Bool} {us:List (List Nat)} {ys:List Nat} (hg:Good ns) (hl:gW ns (aI ns ns.length) aa) (hE:eX ns aa (aB ns aa) us ys) (hy:ys.length=8*us.length)
  (h:AV (bQ ns aa (aB ns aa) us) (aL ys) us.length ms xs) (he:xs.length=8*ms.length):Ap ns ms.length (fun i=>bQ ns aa (aB ns aa) us (qM ms i)) (aL xs):=by
 refine ⟨LH h he,UN h he,fun w hw=>?_⟩
 have h0:qM ms 0=0:=by simp [qM,List.getD,h.first]
 have:=zm h he w 0 0 (List.getElem?_eq_some_iff.1 h.first).1 hw (by rw [h0];exact uh _)
 show iC ns w (bQ ns aa (aB ns aa) us (qM ms (jQ (aL xs) 0 w)))
 rw [←this]
 exact wR hg hl hE hy hw
end
open Go.RowKit
def zB (f h:Nat→Bool) (N:Nat):Bool:=(List.range N).all fun i=>f i==h i
theorem xk {f h:Nat→Bool} {N:Nat}:zB f h N=true↔∀ i,i<N→f i=h i:=by simp [zB,List.all_eq_true]
theorem Zg {f h:Nat→Bool} {N i:Nat} (hi:i<N) (hne:f i≠h i):zB f h N=false:=by
 cases e:zB f h N with
 | false=>rfl
 | true=>exact absurd (xk.1 e i hi) hne
theorem Jv (g1 g2 N:Nat) (f h:Nat→Bool) (w:World) (h1:Rb w g1 N f) (h2:Rb w g2 N h) (hN:N≤1099511627776) :
  Calls Tryz.prog 125 #[.slice (some ⟨g1,0,Option.none⟩) N N,.slice (some ⟨g2,0,Option.none⟩) N N] w fun e w'=>e=.returned (.bool (zB f h N))∧∃ m,w'=w.drewN m:=by
 have H1:=hid h1
 have H2:=hid h2
 clear h1 h2
 go_enter Tryz.func125,Tryz.ntmps125
 go_wp2_with fail
 go_loopw [5] (fun i wq=>∃ k:Nat,k≤N∧i=.int .i64 k∧Hid (∀ i,i<k→f i=h i)∧Hid (∃ m,wq=w.drewN m)) (fun i _=>N - (intOf i).toNat)
 case atStart=>exact ⟨0,Nat.zero_le _,rfl,hid (fun i hi=>by omega),hid ⟨0,rfl⟩⟩
 case round=>
  obtain ⟨k,hk,rfl,HA,HM⟩:=hrel
  rename World=>W0
  have HB:Hid (Below w.heap.size w W0):=hid (by
   obtain ⟨m,rfl⟩:=HM.out
   exact below_drewN (Below.refl _ _) m)
  have HQ:Hid (∀ n,∃ m,W0.drewN n=w.drewN m):=hid (fun n=>by
   obtain ⟨m,rfl⟩:=HM.out
   exact ⟨m+n,by rw [World.drewN_drewN]⟩)
  by_cases hlk:k<N
  ·have c1:=(HB.out.cell (p:=⟨g1,k,Option.none⟩) H1.out.1).trans (H1.out.2 k hlk)
   have c2:=(HB.out.cell (p:=⟨g2,k,Option.none⟩) H2.out.1).trans (H2.out.2 k hlk)
   by_cases he:f k=h k
   ·have HE:=hid he
    rw [he] at c1
    clear he
    have kk:(h k!=h k)=false:=by simp
    go_wp2_with fail
    go_quiet (fail)
    go_wp2_with fail
    go_roundw
    case rel=>
     refine ⟨k+1,by omega,by go_num,hid (fun i hi=>?_),hid (HQ.out _)⟩
     by_cases e:i=k
     ·subst e;exact HE.out
     ·exact HA.out i (by omega)
    case measure=>simp [intOf];omega
   ·have HE:=hid (Zg hlk he)
    cases ha:f k <;> cases hb:h k
    ·exact absurd (ha.trans hb.symm) he
    ·rw [ha] at c1
     rw [hb] at c2
     clear he ha hb
     go_wp2_with fail
     go_quiet (fail)
     go_wp2_with fail
     go_ret
     exact ⟨by rw [HE.out];rfl,HQ.out _⟩
    ·rw [ha] at c1
     rw [hb] at c2
     clear he ha hb
     go_wp2_with fail
     go_quiet (fail)
     go_wp2_with fail
     go_ret
     exact ⟨by rw [HE.out];rfl,HQ.out _⟩
    ·exact absurd (ha.trans hb.symm) he
  ·obtain rfl:k=N:=by omega
   have HS:=hid (xk.2 HA.out)
   go_wp2_with fail
   go_ret
   exact ⟨by rw [HS.out];rfl,HM.out⟩
end Go.Proofs.YtjagijohfkffiabGreat
