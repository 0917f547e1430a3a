import Derived.Test.YtjagijohfkffiabGreatALLM27
import Derived.RowKit
import Derived.Deep.AppendLies
set_option maxHeartbeats 16000000
set_option maxRecDepth 100000
namespace Go.Proofs.YtjagijohfkffiabGreat
def jQ (nx:Nat→Nat→Nat):Nat→List Nat→Nat
 | i,[]=>i
 | i,a::u=>jQ nx (nx i a) u
theorem zC (nx:Nat→Nat→Nat) (i:Nat) (u v:List Nat):jQ nx i (u++v)=jQ nx (jQ nx i u) v:=by
 induction u generalizing i with
 | nil=>rfl
 | cons a u ih=>exact ih _
def mM (u:List Nat):Prop:=∀ x∈u,x<8
def met (nx:Nat→Nat→Nat):Nat→Nat
 | 0=>1
 | p+1=>max (met nx p) (nx (p / 8) (p % 8)+1)
def iL (n:Nat) (nx:Nat→Nat→Nat):Prop:=(∀ p,p<8*n→p / 8<met nx p∧nx (p / 8) (p % 8)≤met nx p)∧met nx (8*n)=n
def ik (out:Nat→Nat) (nx:Nat→Nat→Nat) (out':Nat→Nat) (nx':Nat→Nat→Nat) (i j:Nat):Prop:=∀ w,mM w→out (jQ nx i w)=out' (jQ nx' j w)
theorem xz {out out':Nat→Nat} {nx nx':Nat→Nat→Nat} {i j a:Nat} (h:ik out nx out' nx' i j) (ha:a<8):ik out nx out' nx' (nx i a) (nx' j a):=fun w hw=>h (a::w) (fun x hx=>by
 rcases List.mem_cons.1 hx with rfl | hx
 ·exact ha
 ·exact hw x hx)
theorem qC {out out':Nat→Nat} {nx nx':Nat→Nat→Nat} {i j:Nat} (h:ik out nx out' nx' i j):ik out' nx' out nx j i:=fun w hw=>(h w hw).symm
theorem oM {o1 o2 o3:Nat→Nat} {n1 n2 n3:Nat→Nat→Nat} {i j k:Nat} (h:ik o1 n1 o2 n2 i j) (h':ik o2 n2 o3 n3 j k):ik o1 n1 o3 n3 i k:=fun w hw=>(h w hw).trans (h' w hw)
def Apart (n:Nat) (out:Nat→Nat) (nx:Nat→Nat→Nat):Prop:=∀ i j,i<n→j<n→ik out nx out nx i j→i=j
theorem qf (nx:Nat→Nat→Nat) {p q:Nat} (h:p≤q):met nx p≤met nx q:=by
 obtain ⟨d,rfl⟩:∃ d,q=p+d:=⟨q - p,by omega⟩
 clear h
 induction d with
 | zero=>exact Nat.le_refl _
 | succ d ih=>rw [←Nat.add_assoc];simp only [met];omega
theorem acU (nx:Nat→Nat→Nat) (p:Nat):0<met nx p:=by
 have:=qf nx (Nat.zero_le p)
 simp only [met] at this
 omega
theorem Sv {n n':Nat} {out out':Nat→Nat} {nx nx':Nat→Nat→Nat} (h:iL n nx) (h':iL n' nx') (ha:Apart n out nx) (ha':Apart n' out' nx') (h0:ik out nx out' nx' 0 0) :
  ∀ p,p≤8*n→p≤8*n'→met nx p=met nx' p∧(∀ k,k<met nx p→ik out nx out' nx' k k)∧∀ q,q<p→nx (q / 8) (q % 8)=nx' (q / 8) (q % 8):=by
 intro p
 induction p with
 | zero=>
  intro _ _
  refine ⟨rfl,fun k hk=>?_,fun q hq=>by omega⟩
  simp only [met] at hk
  have:k=0:=by omega
  subst this
  exact h0
 | succ p ih=>
  intro hp hp'
  obtain ⟨e1,e2,e3⟩:=ih (by omega) (by omega)
  obtain ⟨a1,a2⟩:=h.1 p (by omega)
  obtain ⟨b1,b2⟩:=h'.1 p (by omega)
  have m1:=qf nx (show p≤8*n by omega)
  have m2:=qf nx' (show p≤8*n' by omega)
  have m3:=qf nx (show p+1≤8*n by omega)
  have m4:=qf nx' (show p+1≤8*n' by omega)
  rw [h.2] at m1 m3
  rw [h'.2] at m2 m4
  have hl:=xz (e2 (p / 8) a1) (Nat.mod_lt p (by omega:0<8))
  simp only [met] at m3 m4
  generalize ht:nx (p / 8) (p % 8)=t at *
  generalize ht':nx' (p / 8) (p % 8)=t' at *
  have key:t=t':=by
   by_cases c1:t<met nx p
   ·exact ha' t t' (by omega) (by omega) (oM (qC (e2 t c1)) hl)
   ·by_cases c2:t'<met nx' p
    ·have l2:=e2 t' (by omega)
     exact ha t t' (by omega) (by omega) (oM hl (qC l2))
    ·omega
  refine ⟨?_,?_,?_⟩
  ·simp only [met,ht,ht']
   rw [e1,key]
  ·intro k hk
   simp only [met,ht] at hk
   by_cases c:k<met nx p
   ·exact e2 k c
   ·have:k=t:=by omega
    subst this
    rw [←key] at hl
    exact hl
  ·intro q hq
   by_cases c:q=p
   ·subst c;rw [ht,ht',key]
   ·exact e3 q (by omega)
theorem Ms {n n':Nat} {out out':Nat→Nat} {nx nx':Nat→Nat→Nat} (h:iL n nx) (h':iL n' nx') (ha:Apart n out nx) (ha':Apart n' out' nx') (h0:ik out nx out' nx' 0 0) :
  n=n'∧(∀ i,i<n→out i=out' i)∧∀ i a,i<n→a<8→nx i a=nx' i a:=by
 have key:=Sv h h' ha ha' h0
 have hn:n=n':=by
  rcases Nat.lt_trichotomy n n' with c | c | c
  ·obtain ⟨e1,_,_⟩:=key (8*n) (Nat.le_refl _) (by omega)
   have:=(h'.1 (8*n) (by omega)).1
   rw [h.2] at e1
   rw [←e1] at this
   omega
  ·exact c
  ·obtain ⟨e1,_,_⟩:=key (8*n') (by omega) (Nat.le_refl _)
   have:=(h.1 (8*n') (by omega)).1
   rw [h'.2] at e1
   rw [e1] at this
   omega
 subst hn
 obtain ⟨e1,e2,e3⟩:=key (8*n) (Nat.le_refl _) (Nat.le_refl _)
 rw [h.2] at e2
 refine ⟨rfl,fun i hi=>e2 i hi [] (fun x hx=>by simp at hx),fun i a hi ha=>?_⟩
 have:=e3 (8*i+a) (by omega)
 rw [show (8*i+a) / 8=i by omega,show (8*i+a) % 8=a by omega] at this
 exact this
set_option linter.unusedVariables false
def aR (kd:Nat→Nat):Nat→Nat
 | 0=>0
 | m+1=>max (aR kd m) (kd m+1)
def Fo (kd:Nat→Nat) (K:Nat):Prop:=∀ i,i<K→kd i≤aR kd i
theorem cnt_mono (kd:Nat→Nat) {m m':Nat} (h:m≤m'):aR kd m≤aR kd m':=by
 obtain ⟨d,rfl⟩:∃ d,m'=m+d:=⟨m' - m,by omega⟩
 clear h
 induction d with
 | zero=>exact Nat.le_refl _
 | succ d ih=>rw [←Nat.add_assoc];simp only [aR];omega
theorem cnt_lt (kd:Nat→Nat) {j m:Nat} (h:j<m):kd j<aR kd m:=by
 have:=cnt_mono kd (show j+1≤m by omega)
 simp only [aR] at this
 omega
theorem ul {kd:Nat→Nat} {K:Nat} (h:Fo kd K):∀ m,m≤K→∀ c,c<aR kd m→∃ j,j<m∧kd j=c
 | 0,_,c,hc=>by simp [aR] at hc
 | m+1,hm,c,hc=>by
  by_cases e:c<aR kd m
  ·obtain ⟨j,h1,h2⟩:=ul h m (by omega) c e
   exact ⟨j,by omega,h2⟩
  ·have:=h m (by omega)
   simp only [aR] at hc
   exact ⟨m,by omega,by omega⟩
theorem Xz {kd:Nat→Nat} {K:Nat} (h:Fo kd K):∀ m,m≤K→aR kd m≤m
 | 0,_=>Nat.le_refl _
 | m+1,hm=>by
  have h1:=Xz h m (by omega)
  have h2:=h m (by omega)
  simp only [aR];omega
theorem Xk {kd kd':Nat→Nat} {K:Nat} (h:Fo kd K) (h':Fo kd' K) (hr:∀ i j,i<K→j<K→kd' i=kd' j→kd i=kd j) {m:Nat} (hm:m<K):aR kd (m+1)+aR kd' m≤aR kd' (m+1)+aR kd m:=by
 have a:=h m hm
 have b:=h' m hm
 simp only [aR]
 by_cases e:kd m<aR kd m
 ·omega
 ·by_cases e':kd' m<aR kd' m
  ·obtain ⟨j,h1,h2⟩:=ul h' m (by omega) _ e'
   have:=hr j m (by omega) hm h2
   have:=cnt_lt kd h1
   omega
  ·omega
theorem CR {kd kd':Nat→Nat} {K:Nat} (h:Fo kd K) (h':Fo kd' K) (hr:∀ i j,i<K→j<K→kd' i=kd' j→kd i=kd j) (m:Nat):∀ d,m+d≤K→aR kd (m+d)+aR kd' m≤aR kd' (m+d)+aR kd m
 | 0,_=>by simp;omega
 | d+1,hd=>by
  have h1:=CR h h' hr m d (by omega)
  have h2:=Xk h h' hr (m:=m+d) (by omega)
  rw [show m+d+1=m+(d+1) by omega] at h2
  omega
theorem aao {kd kd':Nat→Nat} {K:Nat} (h:Fo kd K) (h':Fo kd' K) (hr:∀ i j,i<K→j<K→kd' i=kd' j→kd i=kd j):aR kd K≤aR kd' K:=by
 have:=CR h h' hr 0 K (by omega)
 simp only [aR,Nat.zero_add] at this
 omega
theorem Xl {kd kd':Nat→Nat} {K:Nat} (h:Fo kd K) (h':Fo kd' K) (hr:∀ i j,i<K→j<K→kd' i=kd' j→kd i=kd j) (he:aR kd' K=aR kd K):∀ i,i<K→kd' i=kd i:=by
 have eq:∀ m,m≤K→aR kd' m=aR kd m:=fun m hm=>by
  have h1:=CR h h' hr 0 m (by omega)
  have h2:=CR h h' hr m (K - m) (by omega)
  rw [show m+(K - m)=K by omega] at h2
  simp only [aR,Nat.zero_add] at h1
  omega
 intro i
 induction i using Nat.strongRecOn with
 | _ i ih=>
  intro hi
  have e0:=eq i (by omega)
  have e1:=eq (i+1) (by omega)
  have a:=h i hi
  have b:=h' i hi
  simp only [aR] at e1
  by_cases c:kd' i<aR kd' i
  ·obtain ⟨j,h1,h2⟩:=ul h' i (by omega) _ c
   have h3:=hr j i (by omega) hi h2
   have h4:=ih j h1 (by omega)
   omega
  ·omega
section
variable {K:Nat} {out out':Nat→Nat} {nx nx':Nat→Nat→Nat} {kd:Nat→Nat}
structure KI (K:Nat) (out:Nat→Nat) (nx:Nat→Nat→Nat) (kd:Nat→Nat) (out':Nat→Nat) (nx':Nat→Nat→Nat):Prop where
 out:∀ i,i<K→out' (kd i)=out i
 nx:∀ i a,i<K→a<8→nx' (kd i) a=kd (nx i a)
theorem QY (h:KI K out nx kd out' nx') (hc:∀ i a,i<K→a<8→nx i a<K):∀ (w:List Nat) (i:Nat),i<K→mM w→jQ nx i w<K∧jQ nx' (kd i) w=kd (jQ nx i w)
 | [],i,hi,_=>⟨hi,rfl⟩
 | a::w,i,hi,hw=>by
  have ha:=hw a (List.mem_cons_self ..)
  have:=QY h hc w (nx i a) (hc i a hi ha) (fun x hx=>hw x (List.mem_cons_of_mem _ hx))
  simp only [jQ]
  rw [h.nx i a hi ha]
  exact this
theorem EB (h:KI K out nx kd out' nx') (hc:∀ i a,i<K→a<8→nx i a<K) {i:Nat} (hi:i<K):ik out nx out' nx' i (kd i):=fun w hw=>by
 obtain ⟨h1,h2⟩:=QY h hc w i hi hw
 rw [h2,h.out _ h1]
theorem WL (h:KI K out nx kd out' nx') (hc:∀ i a,i<K→a<8→nx i a<K) (hf:Fo kd K) (hl:∀ i j,i<K→j<K→ik out nx out nx i j→kd i=kd j):Apart (aR kd K) out' nx':=by
 intro c d hc' hd' hcd
 obtain ⟨i,hi,rfl⟩:=ul hf K (Nat.le_refl _) c hc'
 obtain ⟨j,hj,rfl⟩:=ul hf K (Nat.le_refl _) d hd'
 exact hl i j hi hj (oM (EB h hc hi) (oM hcd (qC (EB h hc hj))))
theorem acV (hn:iL K nx) (h:KI K out nx kd out' nx') (hc:∀ i a,i<K→a<8→nx i a<K) {r i a:Nat} (hr:r<i) (hi:i<K) (ha:a<8) (hk:kd r=kd i):aR kd (met nx (8*i+a+1))=aR kd (met nx (8*i+a)):=by
 have h1:nx r a<met nx (8*i+a):=by
  have:=qf nx (show 8*r+a+1≤8*i+a by omega)
  simp only [met] at this
  rw [show (8*r+a) / 8=r by omega,show (8*r+a) % 8=a by omega] at this
  omega
 have h2:kd (nx i a)=kd (nx r a):=by rw [←h.nx i a hi ha,←h.nx r a (by omega) ha,hk]
 have h3:=cnt_lt kd h1
 obtain ⟨h4,h5⟩:=hn.1 (8*i+a) (by omega)
 have e1:(8*i+a) / 8=i:=by omega
 have e2:(8*i+a) % 8=a:=by omega
 rw [e1,e2] at h5
 simp only [met,e1,e2]
 by_cases c:nx i a<met nx (8*i+a)
 ·rw [Nat.max_eq_left (by omega)]
 ·have e3:nx i a=met nx (8*i+a):=by omega
  rw [Nat.max_eq_right (by omega),e3]
  have h6:kd (met nx (8*i+a))=kd (nx r a):=by rw [←e3];exact h2
  simp only [aR]
  omega
theorem Eo (hn:iL K nx) (h:KI K out nx kd out' nx') (hc:∀ i a,i<K→a<8→nx i a<K) {i:Nat}:∀ d,i+d≤K→(∀ j,i≤j→j<i+d→∃ r,r<j∧kd r=kd j)→aR kd (met nx (8*(i+d)))=aR kd (met nx (8*i))
 | 0,_,_=>rfl
 | d+1,hd,hj=>by
  rw [←Eo hn h hc d (by omega) (fun j h1 h2=>hj j h1 (by omega))]
  obtain ⟨r,h1,h2⟩:=hj (i+d) (by omega) (by omega)
  have key:∀ a,a≤8→aR kd (met nx (8*(i+d)+a))=aR kd (met nx (8*(i+d))):=by
   intro a
   induction a with
   | zero=>intro _;rfl
   | succ a ih=>
    intro ha
    rw [←ih (by omega),←acV hn h hc h1 (by omega) (show a<8 by omega) h2]
    rfl
  have:=key 8 (Nat.le_refl _)
  rwa [show 8*(i+d)+8=8*(i+(d+1)) by omega] at this
theorem Fy (hf:Fo kd K) {c:Nat} (hc:c<aR kd K):∃ r,r<K∧kd r=c∧aR kd r=c:=by
 have:∀ m,m≤K→c<aR kd m→∃ r,r<m∧kd r=c∧aR kd r=c:=by
  intro m
  induction m with
  | zero=>intro _ h;simp [aR] at h
  | succ m ih=>
   intro hm h
   by_cases e:c<aR kd m
   ·obtain ⟨r,h1,h2⟩:=ih (by omega) e
    exact ⟨r,by omega,h2⟩
   ·have:=hf m (by omega)
    simp only [aR] at h
    exact ⟨m,by omega,by omega,by omega⟩
 exact this K (Nat.le_refl _) hc
theorem ME (hn:iL K nx) (h:KI K out nx kd out' nx') (hc:∀ i a,i<K→a<8→nx i a<K) (hf:Fo kd K):∀ c,c<aR kd K→∀ r,r<K→kd r=c→aR kd r=c→∀ a,a≤8→met nx' (8*c+a)=aR kd (met nx (8*r+a)):=by
 intro c
 induction c with
 | zero=>
  intro hc0 r hr h1 h2 a
  have r0:r=0:=by
   rcases Nat.eq_zero_or_pos r with h | h
   ·exact h
   ·have:=cnt_lt kd h
    omega
  subst r0
  induction a with
  | zero=>
   intro _
   show 1=aR kd (met nx 0)
   simp only [met,aR]
   omega
  | succ a ih=>
   intro ha
   have ih:=ih (by omega)
   have e1:(8*0+a) / 8=0:=by omega
   have e2:(8*0+a) % 8=a:=by omega
   have hh:=h.nx 0 a hr (by omega)
   rw [h1] at hh
   obtain ⟨h4,h5⟩:=hn.1 (8*0+a) (by omega)
   rw [e1,e2] at h5
   show max (met nx' (8*0+a)) (nx' ((8*0+a) / 8) ((8*0+a) % 8)+1)=aR kd (max (met nx (8*0+a)) (nx ((8*0+a) / 8) ((8*0+a) % 8)+1))
   rw [e1,e2,ih,hh]
   by_cases cc:nx 0 a<met nx (8*0+a)
   ·have:=cnt_lt kd cc
    rw [Nat.max_eq_left (by omega),Nat.max_eq_left (by omega)]
   ·have e3:nx 0 a=met nx (8*0+a):=by omega
    rw [Nat.max_eq_right (show met nx (8*0+a)≤nx 0 a+1 by omega),e3]
    rfl
 | succ c ihc=>
  intro hc1 r hr h1 h2 a
  induction a with
  | zero=>
   intro _
   obtain ⟨r',hr',k1,k2⟩:=Fy hf (show c<aR kd K by omega)
   have hlt:r'<r:=by
    rcases Nat.lt_or_ge r' r with h | h
    ·exact h
    ·have h3:=cnt_mono kd h
     omega
   have e:=ihc (by omega) r' hr' k1 k2 8 (Nat.le_refl _)
   rw [show 8*(c+1)+0=8*c+8 by omega,e,show 8*r'+8=8*(r'+1) by omega]
   have:=Eo hn h hc (i:=r'+1) (r - (r'+1)) (by omega) (fun j h3 h4=>by
    have h5:=cnt_mono kd (show j+1≤r by omega)
    have h6:=cnt_lt kd (show j<j+1 by omega)
    exact ul hf j (by omega) _ (by
     have:=cnt_lt kd (show r'<j by omega)
     omega))
   rw [show r'+1+(r - (r'+1))=r by omega] at this
   rw [←this]
   rfl
  | succ a ih=>
   intro ha
   have ih:=ih (by omega)
   have e1:(8*r+a) / 8=r:=by omega
   have e2:(8*r+a) % 8=a:=by omega
   have e3:(8*(c+1)+a) / 8=c+1:=by omega
   have e4:(8*(c+1)+a) % 8=a:=by omega
   have hh:=h.nx r a hr (by omega)
   rw [h1] at hh
   obtain ⟨h4,h5⟩:=hn.1 (8*r+a) (by omega)
   rw [e1,e2] at h5
   show max (met nx' (8*(c+1)+a)) (nx' ((8*(c+1)+a) / 8) ((8*(c+1)+a) % 8)+1)=aR kd (max (met nx (8*r+a)) (nx ((8*r+a) / 8) ((8*r+a) % 8)+1))
   rw [e1,e2,e3,e4,ih,hh]
   by_cases cc:nx r a<met nx (8*r+a)
   ·have:=cnt_lt kd cc
    rw [Nat.max_eq_left (by omega),Nat.max_eq_left (by omega)]
   ·have e5:nx r a=met nx (8*r+a):=by omega
    rw [Nat.max_eq_right (show met nx (8*r+a)≤nx r a+1 by omega),e5]
    rfl
theorem La (hK:0<K) (hn:iL K nx) (h:KI K out nx kd out' nx') (hc:∀ i a,i<K→a<8→nx i a<K) (hf:Fo kd K):iL (aR kd K) nx':=by
 refine ⟨fun p hp=>?_,?_⟩
 ·obtain ⟨r,hr,h1,h2⟩:=Fy hf (show p / 8<aR kd K by omega)
  have e:=ME hn h hc hf (p / 8) (by omega) r hr h1 h2 (p % 8) (by omega)
  rw [show 8*(p / 8)+p % 8=p by omega] at e
  have e1:(8*r+p % 8) / 8=r:=by omega
  have e2:(8*r+p % 8) % 8=p % 8:=by omega
  obtain ⟨h4,h5⟩:=hn.1 (8*r+p % 8) (by omega)
  rw [e1] at h4
  rw [e1,e2] at h5
  have h6:=cnt_lt kd h4
  have h7:=h.nx r (p % 8) hr (by omega)
  rw [h1] at h7 h6
  rw [e,h7]
  refine ⟨h6,?_⟩
  by_cases cc:nx r (p % 8)<met nx (8*r+p % 8)
  ·exact Nat.le_of_lt (cnt_lt kd cc)
  ·have e5:nx r (p % 8)=met nx (8*r+p % 8):=by omega
   rw [←e5]
   exact hf _ (hc r _ hr (by omega))
 ·have hpos:0<aR kd K:=Nat.lt_of_le_of_lt (Nat.zero_le _) (cnt_lt kd hK)
  obtain ⟨c,ec⟩:∃ c,aR kd K=c+1:=⟨aR kd K - 1,by omega⟩
  obtain ⟨r,hr,h1,h2⟩:=Fy hf (show c<aR kd K by omega)
  have e:=ME hn h hc hf c (by omega) r hr h1 h2 8 (Nat.le_refl _)
  have:=Eo hn h hc (i:=r+1) (K - (r+1)) (by omega) (fun j h3 h4=>by
   have h6:=cnt_lt kd (show j<K by omega)
   exact ul hf j (by omega) _ (by
    have:=cnt_lt kd (show r<j by omega)
    omega))
  rw [show r+1+(K - (r+1))=K by omega,hn.2] at this
  rw [ec,show 8*(c+1)=8*c+8 by omega,e,show 8*r+8=8*(r+1) by omega,←this,ec]
end
/-! ### Rounds -/
def XY (K:Nat) (out:Nat→Nat) (nx:Nat→Nat→Nat) (kd kd':Nat→Nat):Prop:=∀ i j,i<K→j<K→(kd' i=kd' j↔out i=out j∧∀ a,a<8→kd (nx i a)=kd (nx j a))
theorem Zo {K:Nat} {out:Nat→Nat} {nx:Nat→Nat→Nat} {kd kd' kd'':Nat→Nat} (hc:∀ i a,i<K→a<8→nx i a<K) (h:XY K out nx kd kd') (h':XY K out nx kd' kd'') (hf:∀ i j,i<K→j<K→kd' i=kd' j→kd i=kd j):∀ i j,i<K→j<K→kd'' i=kd'' j→kd' i=kd' j:=fun i j hi hj e=>by
 obtain ⟨h1,h2⟩:=(h' i j hi hj).1 e
 exact (h i j hi hj).2 ⟨h1,fun a ha=>hf _ _ (hc i a hi ha) (hc j a hj ha) (h2 a ha)⟩
theorem Mx {K:Nat} {out:Nat→Nat} {nx:Nat→Nat→Nat} {kd kd':Nat→Nat} (hc:∀ i a,i<K→a<8→nx i a<K) (h:XY K out nx kd kd') (hl:∀ i j,i<K→j<K→ik out nx out nx i j→kd i=kd j):∀ i j,i<K→j<K→ik out nx out nx i j→kd' i=kd' j:=fun i j hi hj hk=>
 (h i j hi hj).2 ⟨hk [] (fun x hx=>by simp at hx),fun a ha=>hl _ _ (hc i a hi ha) (hc j a hj ha) (xz hk ha)⟩
open Go.RowKit
structure sF (w:World) (B T:Nat) (v:Value) (gs:List (Nat→Bool)):Prop where
 c:w.cell? ⟨T,0,none⟩=some v
 f:w.frozen? ⟨T,0,none⟩=false
 own:w.ownsRow B 61 256 v gs.length (mE gs)
 ne:v.ownBlock≠some T
theorem sF.lt {w:World} {B T:Nat} {v:Value} {gs:List (Nat→Bool)} (h:sF w B T v gs):T<w.heap.size:=World.block_lt_of_cell? w ⟨T,0,none⟩ h.c
theorem sF.below {w w':World} {B T:Nat} {v:Value} {gs:List (Nat→Bool)} (h:sF w B T v gs) (hb:Below w.heap.size w w'):sF w' B T v gs:=
 ⟨(hb.cell (p:=⟨T,0,none⟩) h.lt).trans h.c,(hb.frozen (p:=⟨T,0,none⟩) h.lt).trans h.f,ae h.own hb,h.ne⟩
structure rU (w w':World) (T:Nat) (row:Option Nat):Prop where
 os:w'.os=w.os
 tape:w'.tape=w.tape
 output:w'.output=w.output
 size:w.heap.size≤w'.heap.size
 block:∀ k,k<w.heap.size→k≠T→some k≠row→w'.heap[k]?=w.heap[k]?
theorem rU.of_below {w w':World} {T:Nat} {row:Option Nat} (h:Below w.heap.size w w'):rU w w' T row:=⟨h.os,h.tape,h.output,h.size,fun k hk _ _=>h.block k hk⟩
theorem rU.cell {w w':World} {T:Nat} {row:Option Nat} (h:rU w w' T row) {p:Addr} (hp:p.block<w.heap.size) (h1:p.block≠T) (h2:some p.block≠row):w'.cell? p=w.cell? p:=World.cell?_of_block (h.block _ hp h1 h2)
theorem rU.frozen {w w':World} {T:Nat} {row:Option Nat} (h:rU w w' T row) {p:Addr} (hp:p.block<w.heap.size) (h1:p.block≠T) (h2:some p.block≠row):w'.frozen? p=w.frozen? p:=World.frozen?_of_block (h.block _ hp h1 h2)
theorem yC {ops:Array Oper} {o:Oper} {a:Act} {w:World} {K:Act→World→Prop} {Q:Exit→Act→World→Prop} {E:Prop} (hgd:o.guard=none) (x:Operand) (ho:o.op=.buildSlice 59 1 #[(0,x)])
  (g:Nat→Bool) (hx:a.eval x=.agg (gv g).toArray) (h:K (a.put o.dst (.slice (some ⟨w.heap.size,0,none⟩) 1 1)) (w.alloc (.cells (gv g).toArray 61))) :
  if Region.wanted o (yielded ops a.tmps)=true then Oper.wp Tryz.prog o a w K Q else E:=by
 have hw:Region.wanted o (yielded ops a.tmps)=true:=by simp [Region.wanted,hgd]
 rw [if_pos hw]
 unfold Oper.wp execOp
 have:=tV g w
 simp only [ho,hx,List.map_toArray,List.map_cons,List.map_nil,Sem.run_bind,this,Result.andThen_ok,Sem.run_pure]
 exact h
def X0 (w w':World) (B T:Nat) (v:Value) (gs:List (Nat→Bool)) (g:Nat→Bool) (j:Nat) (v':Value) (gs':List (Nat→Bool)):Prop:=
 sF w' B T v' gs'∧rU w w' T v.ownBlock∧((gs'=gs∧v'=v∧∃ g0,gs[j]?=some g0∧geq g0 g=true)∨(j=gs.length∧gs'=gs++[g]∧(v'.ownBlock=v.ownBlock∨∃ q,v'.ownBlock=some q∧w.heap.size≤q)∧∀ g0∈gs,geq g0 g=false))
theorem Tz (B T:Nat) (v:Value) (gs:List (Nat→Bool)) (g:Nat→Bool) (w:World) (hm:sF w B T v gs) (hB:B≤w.heap.size) (hlen:gs.length≤8589934592) :
  Calls Tryz.prog 70 #[.pointer (some ⟨T,0,none⟩),.agg (gv g).toArray] w fun e w'=>∃ j v' gs',e=.returned (.int .i64 (j:Nat))∧X0 w w' B T v gs g j v' gs':=by
 have hT:=hm.lt
 have HM:=hid hm
 have HOW:=hid hm.own
 obtain ⟨ao,cp,rfl⟩:=ag hm.own
 have Pz:=hid (Ce hm.own)
 have c0:=hm.c
 have EQ:=fun g h W=>mQ 9998 g h W
 have BX:=hid (sS w g 61)
 have HB0:=hid ((Below.refl w.heap.size w).alloc (Nat.le_refl _) (.cells (gv g).toArray 61))
 have hnp:∀ k,(Value.slice ao gs.length cp).ownBlock=some k→k<w.heap.size:=fun k h=>(hm.own.lt k h).2
 have HNP:=hid hnp
 clear hm hnp
 obtain ⟨i0,hi,hz0,hz1,hz2⟩:=info_parts Tryz.BJ
 have HZC:Hid ((Value.agg (gv fun _=>false).toArray).cells.size=256):=hid (by show (gv fun _=>false).toArray.size=256;rw [List.size_toArray,jN])
 generalize hnE:gs.length=n at *
 have fu:=hid hnE
 clear hnE
 go_enter Tryz.func70,Tryz.ntmps70
 go_wp2_with fail
 clear c0
 go_loopw [12] (fun i wq=>∃ k:Nat,k≤n∧i=.int .i64 k∧Hid (∀ i g0,i<k→gs[i]?=some g0→geq g0 g=false)∧Hid (aN wq w.heap.size 0 g)∧w.heap.size<wq.heap.size∧Hid (Below w.heap.size w wq)) (fun i _=>n - (intOf i).toNat)
 case atStart=>exact ⟨0,Nat.zero_le _,rfl,hid (fun i g0 h=>by omega),BX,by simp,HB0⟩
 case round=>
  obtain ⟨k,hk,rfl,HA,HG,hsz,HB⟩:=hrel
  rename World=>W0
  by_cases hlk:k<n
  ·obtain ⟨ao2,cap2,e2,hgc⟩:=Pz.out
   cases e2
   obtain ⟨gc,e3,hgcl,hgrp⟩:=hgc (by rw [fu.out];omega)
   subst e3
   obtain ⟨g0,hg0⟩:∃ g0,gs[k]?=some g0:=⟨gs[k]'(by rw [fu.out];exact hlk),List.getElem?_eq_getElem (by rw [fu.out];exact hlk)⟩
   have GK:=hid ((hgrp k g0 hg0).below HB.out hgcl)
   have HG0:=hid hg0
   clear hgrp hg0
   rw [fu.out] at *
   go_wp2_with (first | (refine aC rfl (.tmp 15) rfl gc (k*256) g0 rfl GK.out ?_) | (refine aW rfl (.tmp 6) (.tmp 16) rfl W0.heap.size 0 g0 rfl rfl (fw W0).there ?_))
   intro w2 S2
   have A6:=hid S2.at_
   have A3:=hid (S2.wI (HG.out.alloc (.cells Tryz.zeroCells61 61)) (Or.inl (by omega)))
   have AB:=hid (S2.aO _ _ (by omega) (HB.out.alloc (by omega) (.cells Tryz.zeroCells61 61)))
   have hs2:w2.heap.size=W0.heap.size+1:=by rw [S2.size];simp
   clear S2 GK
   have EQ0:=fun W=>mQ 9998 g0 g W
   clear EQ
   cases eq:geq g0 g with
   | true=>
    rw [eq] at EQ0
    go_wp2_with (first | (refine aC rfl (.tmp 6) rfl W0.heap.size 0 g0 rfl A6.out ?_) | (refine aC rfl (.tmp 3) rfl w.heap.size 0 g rfl A3.out ?_))
    go_ret
    exact ⟨k,_,gs,rfl,HM.out.below AB.out,rU.of_below AB.out,Or.inl ⟨rfl,rfl,g0,HG0.out,eq⟩⟩
   | false=>
    have HA2:Hid (∀ i g1,i<k+1→gs[i]?=some g1→geq g1 g=false):=hid (fun i g1 h1 h2=>by
     by_cases e:i=k
     ·subst e;rw [HG0.out] at h2;cases h2;exact eq
     ·exact HA.out i g1 (by omega) h2)
    rw [eq] at EQ0
    clear eq
    go_wp2_with (first | (refine aC rfl (.tmp 6) rfl W0.heap.size 0 g0 rfl A6.out ?_) | (refine aC rfl (.tmp 3) rfl w.heap.size 0 g rfl A3.out ?_))
    go_roundw
    case rel=>exact ⟨k+1,by omega,by go_num,HA2,A3,by omega,AB⟩
    case measure=>simp [intOf];omega
  ·obtain rfl:k=n:=by omega
   have Hl:=hid (HM.out.below HB.out)
   have OW:=hid (ae HOW.out HB.out)
   have cT:=Hl.out.c
   have fT:=Hl.out.f
   have rC:T<W0.heap.size:=by omega
   go_wp2_with fail
   refine wp_region_held_drew (S:=fun W=>aN W w.heap.size 0 g) (by kernel_rfl) HG.out.drew (fun hHeld=>?_)
   refine wpAnyH_take (i:=0) (oi:={ dst:=some 22,op:=Op.move (.tmp 0),type:=_,pos:=_,after:=_,guard:=none }) (v:=(Value.pointer (some ⟨T,0,none⟩))) rfl (by kernel_rfl) (by kernel_rfl) (by kernel_rfl) (fun _ _ _ h=>h) (Or.inl ⟨by rfl,by intro w' hSw;(try dsimp only at hSw);go_simp⟩) (by assumption) ?_
   simp only [Act.put,List.setIfInBounds_toArray,List.set_cons_zero,List.set_cons_succ]
   refine wpAnyH_take (i:=1) (oi:={ dst:=some 23,op:=Op.move (.tmp 0),type:=_,pos:=_,after:=_,guard:=none }) (v:=(Value.pointer (some ⟨T,0,none⟩))) rfl (by kernel_rfl) (by kernel_rfl) (by kernel_rfl) (fun _ _ _ h=>h) (Or.inl ⟨by rfl,by intro w' hSw;(try dsimp only at hSw);go_simp⟩) (by assumption) ?_
   simp only [Act.put,List.setIfInBounds_toArray,List.set_cons_zero,List.set_cons_succ]
   refine wpAnyH_take (i:=2) (oi:={ dst:=some 24,op:=Op.nilCheck (.tmp 23),type:=_,pos:=_,after:=_,guard:=none }) (v:=(Value.pointer (some ⟨T,0,none⟩))) rfl (by kernel_rfl) (by kernel_rfl) (by kernel_rfl) (fun _ _ _ h=>h) (Or.inl ⟨by rfl,by intro w' hSw;(try dsimp only at hSw);go_simp⟩) (by assumption) ?_
   simp only [Act.put,List.setIfInBounds_toArray,List.set_cons_zero,List.set_cons_succ]
   refine wpAnyH_take (i:=3) (oi:={ dst:=some 25,op:=Op.fieldAddr _ (.tmp 24) 0,type:=_,pos:=_,after:=_,guard:=none }) (v:=(Value.pointer (some ⟨T,0,none⟩))) rfl (by kernel_rfl) (by kernel_rfl) (by kernel_rfl) (fun _ _ _ h=>h) (Or.inl ⟨by rfl,by intro w' hSw;(try dsimp only at hSw);go_simp⟩) (by assumption) ?_
   simp only [Act.put,List.setIfInBounds_toArray,List.set_cons_zero,List.set_cons_succ]
   refine wpAnyH_take (i:=5) (oi:={ dst:=some 27,op:=Op.load 61 (.tmp 3),type:=_,pos:=_,after:=_,guard:=none }) (v:=(Value.agg (gv g).toArray)) rfl (by kernel_rfl) (by kernel_rfl) (by kernel_rfl) (fun _ _ _ h=>h) (yieldsIf_load_mid (by rfl) 61 (.tmp 3) rfl w.heap.size 0 rfl (gv g) _ (fun W h=>h.r9) Tryz.iH rfl (Tryz.nC g)) (by assumption) ?_
   simp only [Act.put,List.setIfInBounds_toArray,List.set_cons_zero,List.set_cons_succ]
   refine wpAnyH_ready (rs:=[4,6]) (by kernel_rfl) (by simp) ?_
   refine AllReadyH.cons rfl (fun K hK=>?_) (AllReadyH.cons rfl (fun K hK=>?_) AllReadyH.nil)
   ·go_simp
    refine hK.out _ _ (by assumption) (fun hHeld=>?_)
    clear hK K
    refine wpAnyH_ready (rs:=[6]) (by kernel_rfl) (by simp) ?_
    refine AllReadyH.cons rfl (fun K hK=>?_) AllReadyH.nil
    refine yC (by rfl) (.tmp 27) (by rfl) g (by rfl) ?_
    refine hK.out _ _ ((by exact hHeld:aN _ w.heap.size 0 g).alloc _) (fun hHeld=>?_)
    clear hK K
    refine wpAnyH_ready (rs:=[7]) (by kernel_rfl) (by simp) ?_
    refine AllReadyH.cons rfl (fun K hK=>?_) AllReadyH.nil
    refine step_append_lies _ (by rfl) (.tmp 26) (.tmp 28) 59 (by rfl) B 61 i0 (.agg (gv fun _=>false).toArray) 256 256 Tryz.underlying59 hi hz0 hz1 hz2 HZC.out (by decide) _ k (mE gs) (by rfl) ((OW.out.alloc _).drew) ⟨W0.heap.size,0,none⟩ 1 1 (gv g) (by rfl) (by rw [jN]) (EE W0 g _) (BM g) (by decide) (by unfold maxLen;omega) (by omega) (by simp;omega) (W0.heap.size+1) (by simp) ?_
    intro gg cc w2 hown hgrow hat hlt2
    have hrow:∀ q,some q=(Value.slice ao k cp).ownBlock→q<w.heap.size:=fun q h=>HNP.out q h.symm
    have h0:(W0.alloc (.cells (gv g).toArray 61)).cell? ⟨T,0,none⟩=some (.slice ao k cp):=by rw [World.cell?_alloc_lt _ _ _ rC];exact cT
    have c2:w2.cell? ⟨T,0,none⟩=some (.slice ao k cp):=hgrow.cell h0 (fun e=>HM.out.ne e.symm)
    have f2:w2.frozen? ⟨T,0,none⟩=false:=by
     have hb:=hgrow.block T (by show T<(W0.alloc (.cells (gv g).toArray 61)).heap.size;rw [World.size_alloc];omega) (fun e=>HM.out.ne e.symm)
     rw [World.frozen?_of_block (a:=⟨T,0,none⟩) hb]
     show (W0.alloc (.cells (gv g).toArray 61)).frozen? ⟨T,0,none⟩=false
     rw [World.frozen?_alloc_past _ _ _ rC]
     exact fT
    have g2:aN w2 w.heap.size 0 g:=by
     have hb:=hgrow.block w.heap.size (by show w.heap.size<(W0.alloc (.cells (gv g).toArray 61)).heap.size;rw [World.size_alloc];omega) (fun e=>Nat.lt_irrefl _ (hrow _ e))
     have h3:=(HG.out.alloc (.cells (gv g).toArray 61)).drew
     exact ⟨fun j hj=>(World.cell?_of_block (a:=⟨w.heap.size,0+j,none⟩) hb).trans (h3.c j hj),fun j hj=>(World.frozen?_of_block (a:=⟨w.heap.size,0+j,none⟩) hb).trans (h3.f j hj)⟩
    have nG:gg≠T:=by
     rcases hat with h | h
     ·exact fun e=>HM.out.ne (by rw [←e];exact h)
     ·omega
    have EX:Hid (sF (w2.setCell ⟨T,0,none⟩ (.slice (some ⟨gg,0,none⟩) (k+1) cc)) B T (.slice (some ⟨gg,0,none⟩) (k+1) cc) (gs++[g])):=hid ⟨World.cell?_setCell_same _ _ _ c2,by rw [World.frozen?_setCell];exact f2,by
     rw [List.length_append,fu.out,Ac]
     refine hown.kept (row:=some T) ⟨rfl,rfl,rfl,by rw [World.size_setCell];exact Nat.le_refl _,fun q hq hne=>Below.heap_setCell _ _ _ _ (fun e=>hne (by rw [e]))⟩ (Or.inr (by simpa [Value.ownBlock] using nG)),by simpa [Value.ownBlock] using nG⟩
    have Ey:W0.heap.size+1≤w2.heap.size:=by
     have h4:(W0.drew.alloc (.cells (gv g).toArray 61)).heap.size≤w2.heap.size:=hgrow.size
     rw [World.size_alloc] at h4
     exact h4
    have NF:Hid (rU w (w2.setCell ⟨T,0,none⟩ (.slice (some ⟨gg,0,none⟩) (k+1) cc)) T (Value.slice ao k cp).ownBlock):=hid ⟨hgrow.os.trans HB.out.os,hgrow.tape.trans HB.out.tape,hgrow.output.trans HB.out.output,by rw [World.size_setCell];omega,fun q hq h1 h2=>by
     rw [Below.heap_setCell _ _ _ _ h1,hgrow.block q (by show q<(W0.alloc (.cells (gv g).toArray 61)).heap.size;rw [World.size_alloc];omega) h2]
     show (W0.alloc (.cells (gv g).toArray 61)).heap[q]?=_
     rw [Below.heap_alloc _ _ _ (by omega)]
     exact HB.out.block q hq⟩
    have OB:Hid ((Value.slice (some ⟨gg,0,none⟩) (k+1) cc).ownBlock=(Value.slice ao k cp).ownBlock∨∃ q,(Value.slice (some ⟨gg,0,none⟩) (k+1) cc).ownBlock=some q∧w.heap.size≤q):=hid (by
     rcases hat with h | h
     ·exact Or.inl (by rw [h];rfl)
     ·exact Or.inr ⟨gg,rfl,by omega⟩)
    refine hK.out _ _ g2 (fun hHeld=>?_)
    have iW:=hid (g2.other ⟨T,0,none⟩ (.slice (some ⟨gg,0,none⟩) (k+1) cc) (Or.inl (by show T≠w.heap.size;omega)))
    clear hK K hown hgrow hat g2 hrow
    simp only [Act.put,List.setIfInBounds_toArray]
    refine wpAnyH_take (i:=8) (oi:={ dst:=some 30,op:=Op.nilCheck (.tmp 22),type:=_,pos:=_,after:=_,guard:=none }) (v:=(Value.pointer (some ⟨T,0,none⟩))) rfl (by kernel_rfl) (by kernel_rfl) (by kernel_rfl) (fun _ _ _ h=>h) (Or.inl ⟨by rfl,by intro w' hSw;(try dsimp only at hSw);go_simp⟩) (by assumption) ?_
    simp only [Act.put]
    refine wpAnyH_take (i:=9) (oi:={ dst:=some 31,op:=Op.fieldAddr _ (.tmp 30) 0,type:=_,pos:=_,after:=_,guard:=none }) (v:=(Value.pointer (some ⟨T,0,none⟩))) rfl (by kernel_rfl) (by kernel_rfl) (by kernel_rfl) (fun _ _ _ h=>h) (Or.inl ⟨by rfl,by intro w' hSw;(try dsimp only at hSw);go_simp⟩) (by assumption) ?_
    simp only [Act.put]
    refine wpAnyH_ready (rs:=[10]) (by kernel_rfl) (by simp) ?_
    refine AllReadyH.cons rfl (fun K hK=>?_) AllReadyH.nil
    go_simp
    refine hK.out _ _ iW.out (fun hHeld=>?_)
    clear hK K
    refine wpAnyH_done (by kernel_rfl) ?_ _
    have e1:=EX.out.c
    clear hHeld c2 f2 cT fT
    go_wp2_with fail
    go_ret
    exact ⟨k,_,_,rfl,EX.out,NF.out,Or.inr ⟨fu.out.symm,rfl,OB.out,fun g0 hg0=>by
     obtain ⟨i,hi,e⟩:=List.getElem_of_mem hg0
     exact HA.out i g0 (by rw [←fu.out];exact hi) (by rw [List.getElem?_eq_getElem hi,e])⟩⟩
   ·refine yC (by rfl) (.tmp 27) (by rfl) g (by rfl) ?_
    refine hK.out _ _ ((by exact hHeld:aN _ w.heap.size 0 g).alloc _) (fun hHeld=>?_)
    clear hK K
    refine wpAnyH_ready (rs:=[4]) (by kernel_rfl) (by simp) ?_
    refine AllReadyH.cons rfl (fun K hK=>?_) AllReadyH.nil
    go_simp
    refine hK.out _ _ (by assumption) (fun hHeld=>?_)
    clear hK K
    refine wpAnyH_ready (rs:=[7]) (by kernel_rfl) (by simp) ?_
    refine AllReadyH.cons rfl (fun K hK=>?_) AllReadyH.nil
    refine step_append_lies _ (by rfl) (.tmp 26) (.tmp 28) 59 (by rfl) B 61 i0 (.agg (gv fun _=>false).toArray) 256 256 Tryz.underlying59 hi hz0 hz1 hz2 HZC.out (by decide) _ k (mE gs) (by rfl) ((OW.out.alloc _).drew) ⟨W0.heap.size,0,none⟩ 1 1 (gv g) (by rfl) (by rw [jN]) (EE W0 g _) (BM g) (by decide) (by unfold maxLen;omega) (by omega) (by simp;omega) (W0.heap.size+1) (by simp) ?_
    intro gg cc w2 hown hgrow hat hlt2
    have hrow:∀ q,some q=(Value.slice ao k cp).ownBlock→q<w.heap.size:=fun q h=>HNP.out q h.symm
    have h0:(W0.alloc (.cells (gv g).toArray 61)).cell? ⟨T,0,none⟩=some (.slice ao k cp):=by rw [World.cell?_alloc_lt _ _ _ rC];exact cT
    have c2:w2.cell? ⟨T,0,none⟩=some (.slice ao k cp):=hgrow.cell h0 (fun e=>HM.out.ne e.symm)
    have f2:w2.frozen? ⟨T,0,none⟩=false:=by
     have hb:=hgrow.block T (by show T<(W0.alloc (.cells (gv g).toArray 61)).heap.size;rw [World.size_alloc];omega) (fun e=>HM.out.ne e.symm)
     rw [World.frozen?_of_block (a:=⟨T,0,none⟩) hb]
     show (W0.alloc (.cells (gv g).toArray 61)).frozen? ⟨T,0,none⟩=false
     rw [World.frozen?_alloc_past _ _ _ rC]
     exact fT
    have g2:aN w2 w.heap.size 0 g:=by
     have hb:=hgrow.block w.heap.size (by show w.heap.size<(W0.alloc (.cells (gv g).toArray 61)).heap.size;rw [World.size_alloc];omega) (fun e=>Nat.lt_irrefl _ (hrow _ e))
     have h3:=(HG.out.alloc (.cells (gv g).toArray 61)).drew
     exact ⟨fun j hj=>(World.cell?_of_block (a:=⟨w.heap.size,0+j,none⟩) hb).trans (h3.c j hj),fun j hj=>(World.frozen?_of_block (a:=⟨w.heap.size,0+j,none⟩) hb).trans (h3.f j hj)⟩
    have nG:gg≠T:=by
     rcases hat with h | h
     ·exact fun e=>HM.out.ne (by rw [←e];exact h)
     ·omega
    have EX:Hid (sF (w2.setCell ⟨T,0,none⟩ (.slice (some ⟨gg,0,none⟩) (k+1) cc)) B T (.slice (some ⟨gg,0,none⟩) (k+1) cc) (gs++[g])):=hid ⟨World.cell?_setCell_same _ _ _ c2,by rw [World.frozen?_setCell];exact f2,by
     rw [List.length_append,fu.out,Ac]
     refine hown.kept (row:=some T) ⟨rfl,rfl,rfl,by rw [World.size_setCell];exact Nat.le_refl _,fun q hq hne=>Below.heap_setCell _ _ _ _ (fun e=>hne (by rw [e]))⟩ (Or.inr (by simpa [Value.ownBlock] using nG)),by simpa [Value.ownBlock] using nG⟩
    have Ey:W0.heap.size+1≤w2.heap.size:=by
     have h4:(W0.drew.alloc (.cells (gv g).toArray 61)).heap.size≤w2.heap.size:=hgrow.size
     rw [World.size_alloc] at h4
     exact h4
    have NF:Hid (rU w (w2.setCell ⟨T,0,none⟩ (.slice (some ⟨gg,0,none⟩) (k+1) cc)) T (Value.slice ao k cp).ownBlock):=hid ⟨hgrow.os.trans HB.out.os,hgrow.tape.trans HB.out.tape,hgrow.output.trans HB.out.output,by rw [World.size_setCell];omega,fun q hq h1 h2=>by
     rw [Below.heap_setCell _ _ _ _ h1,hgrow.block q (by show q<(W0.alloc (.cells (gv g).toArray 61)).heap.size;rw [World.size_alloc];omega) h2]
     show (W0.alloc (.cells (gv g).toArray 61)).heap[q]?=_
     rw [Below.heap_alloc _ _ _ (by omega)]
     exact HB.out.block q hq⟩
    have OB:Hid ((Value.slice (some ⟨gg,0,none⟩) (k+1) cc).ownBlock=(Value.slice ao k cp).ownBlock∨∃ q,(Value.slice (some ⟨gg,0,none⟩) (k+1) cc).ownBlock=some q∧w.heap.size≤q):=hid (by
     rcases hat with h | h
     ·exact Or.inl (by rw [h];rfl)
     ·exact Or.inr ⟨gg,rfl,by omega⟩)
    refine hK.out _ _ g2 (fun hHeld=>?_)
    have iW:=hid (g2.other ⟨T,0,none⟩ (.slice (some ⟨gg,0,none⟩) (k+1) cc) (Or.inl (by show T≠w.heap.size;omega)))
    clear hK K hown hgrow hat g2 hrow
    simp only [Act.put,List.setIfInBounds_toArray]
    refine wpAnyH_take (i:=8) (oi:={ dst:=some 30,op:=Op.nilCheck (.tmp 22),type:=_,pos:=_,after:=_,guard:=none }) (v:=(Value.pointer (some ⟨T,0,none⟩))) rfl (by kernel_rfl) (by kernel_rfl) (by kernel_rfl) (fun _ _ _ h=>h) (Or.inl ⟨by rfl,by intro w' hSw;(try dsimp only at hSw);go_simp⟩) (by assumption) ?_
    simp only [Act.put]
    refine wpAnyH_take (i:=9) (oi:={ dst:=some 31,op:=Op.fieldAddr _ (.tmp 30) 0,type:=_,pos:=_,after:=_,guard:=none }) (v:=(Value.pointer (some ⟨T,0,none⟩))) rfl (by kernel_rfl) (by kernel_rfl) (by kernel_rfl) (fun _ _ _ h=>h) (Or.inl ⟨by rfl,by intro w' hSw;(try dsimp only at hSw);go_simp⟩) (by assumption) ?_
    simp only [Act.put]
    refine wpAnyH_ready (rs:=[10]) (by kernel_rfl) (by simp) ?_
    refine AllReadyH.cons rfl (fun K hK=>?_) AllReadyH.nil
    go_simp
    refine hK.out _ _ iW.out (fun hHeld=>?_)
    clear hK K
    refine wpAnyH_done (by kernel_rfl) ?_ _
    have e1:=EX.out.c
    clear hHeld c2 f2 cT fT
    go_wp2_with fail
    go_ret
    exact ⟨k,_,_,rfl,EX.out,NF.out,Or.inr ⟨fu.out.symm,rfl,OB.out,fun g0 hg0=>by
     obtain ⟨i,hi,e⟩:=List.getElem_of_mem hg0
     exact HA.out i g0 (by rw [←fu.out];exact hi) (by rw [List.getElem?_eq_getElem hi,e])⟩⟩
end Go.Proofs.YtjagijohfkffiabGreat
