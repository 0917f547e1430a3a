import Derived.Test.YtjagijohfkffiabGreatFREM13
set_option maxHeartbeats 16000000
set_option maxRecDepth 100000
set_option linter.unusedSimpArgs false
namespace Go.Proofs.YtjagijohfkffiabGreat
set_option linter.unusedVariables false
def bI(kd:Nat->Nat):Nat->Nat
 | 0=>0
 | m+1=>max (bI kd m) (kd m+1)
def Fo(kd:Nat->Nat)(K:Nat):Prop:=∀ i,i<K->kd i<=bI kd i
theorem cnt_mono(kd:Nat->Nat){m m':Nat}(h:m<=m'):bI kd m<=bI kd m':=by
 obtain⟨d,rfl⟩:∃ d,m'=m+d:=⟨m' - m,by omega⟩;clear h
 induction d with
 | zero=>exact aAU _
 | succ d ih=>rw[<-Nat.add_assoc];simp only[bI];omega
theorem cnt_lt(kd:Nat->Nat){j m:Nat}(h:j<m):kd j<bI kd m:=by
 have:=cnt_mono kd (show j+1<=m by omega);simp only[bI]at this;omega
theorem vP{kd:Nat->Nat}{K:Nat}(h:Fo kd K):∀ m,m<=K->∀ c,c<bI kd m->∃ j,j<m/\kd j=c
 | 0,_,c,hc=>by simp[bI]at hc
 | m+1,hm,c,hc=>by
  by_cases e:c<bI kd m
  ·obtain⟨j,h1,h2⟩:=vP h m (by omega) c e;exact⟨j,by omega,h2⟩
  ·have:=h m (by omega);simp only[bI]at hc;exact⟨m,by omega,by omega⟩
theorem abJ{kd:Nat->Nat}{K:Nat}(h:Fo kd K):∀ m,m<=K->bI kd m<=m
 | 0,_=>aAU _
 | m+1,hm=>by
  have h1:=abJ h m (by omega);have h2:=h m (by omega);simp only[bI];omega
theorem abr{kd gU:Nat->Nat}{K:Nat}(h:Fo kd K)(h':Fo gU K)(hr:∀ i j,i<K->j<K->gU i=gU j->kd i=kd j){m:Nat}(hm:m<K):bI kd (m+1)+bI gU m<=bI gU (m+1)+bI kd m:=by
 have a:=h m hm;have b:=h' m hm;simp only[bI];by_cases e:kd m<bI kd m
 ·omega
 ·by_cases e':gU m<bI gU m
  ·obtain⟨j,h1,h2⟩:=vP h' m (by omega) _ e';have:=hr j m (by omega) hm h2;have:=cnt_lt kd h1;omega
  ·omega
theorem GV{kd gU:Nat->Nat}{K:Nat}(h:Fo kd K)(h':Fo gU K)(hr:∀ i j,i<K->j<K->gU i=gU j->kd i=kd j)(m:Nat):∀ d,m+d<=K->bI kd (m+d)+bI gU m<=bI gU (m+d)+bI kd m
 | 0,_=>by simp;omega
 | d+1,hd=>by
  have h1:=GV h h' hr m d (by omega);have h2:=abr h h' hr (m:=m+d) (by omega);rw[show m+d+1=m+(d+1) by omega]at h2;omega
theorem aeG{kd gU:Nat->Nat}{K:Nat}(h:Fo kd K)(h':Fo gU K)(hr:∀ i j,i<K->j<K->gU i=gU j->kd i=kd j):bI kd K<=bI gU K:=by
 have:=GV h h' hr 0 K (by omega);simp only[bI,aBo]at this;omega
theorem abt{kd gU:Nat->Nat}{K:Nat}(h:Fo kd K)(h':Fo gU K)(hr:∀ i j,i<K->j<K->gU i=gU j->kd i=kd j)(he:bI gU K=bI kd K):∀ i,i<K->gU i=kd i:=by
 have eq:∀ m,m<=K->bI gU m=bI kd m:=λm hm=>by
  have h1:=GV h h' hr 0 m (by omega);have h2:=GV h h' hr m (K - m) (by omega);rw[show m+(K - m)=K by omega]at h2;simp only[bI,aBo]at h1;omega
 intro i
 induction i using Nat.strongRecOn with
 | _ i ih=>
  intro hi;have e0:=eq i (by omega);have e1:=eq (i+1) (by omega);have a:=h i hi;have b:=h' i hi;simp only[bI]at e1;by_cases c:gU i<bI gU i
  ·obtain⟨j,h1,h2⟩:=vP h' i (by omega) _ c;have h3:=hr j i (by omega) hi h2;have h4:=ih j h1 (by omega);omega
  ·omega
section
variable {K:Nat} {out out':Nat->Nat} {nx nx':Nat->Nat->Nat} {kd:Nat->Nat}
structure Pv (K:Nat) (out:Nat->Nat) (nx:Nat->Nat->Nat) (kd:Nat->Nat) (out':Nat->Nat) (nx':Nat->Nat->Nat):Prop where
 out:∀ i,i<K->out' (kd i)=out i
 nx:∀ i a,i<K->a<8->nx' (kd i) a=kd (nx i a)
theorem V6(h:Pv K out nx kd out' nx')(hc:∀ i a,i<K->a<8->nx i a<K):∀ (w:List Nat) (i:Nat),i<K->mZ w->kH nx i w<K/\kH nx' (kd i) w=kd (kH nx i w)
 | [],i,hi,_=>⟨hi,rfl⟩
 | a::w,i,hi,hw=>by
  have ha:=hw a (List.mem_cons_self ..);have:=V6 h hc w (nx i a) (hc i a hi ha) (λx hx=>hw x (List.mem_cons_of_mem _ hx));simp only[kH];rw[h.nx i a hi ha];exact this
theorem Jh(h:Pv K out nx kd out' nx')(hc:∀ i a,i<K->a<8->nx i a<K){i:Nat}(hi:i<K):iU out nx out' nx' i (kd i):=λw hw=>by
 obtain⟨h1,h2⟩:=V6 h hc w i hi hw;rw[h2,h.out _ h1]
theorem aaP(h:Pv K out nx kd out' nx')(hc:∀ i a,i<K->a<8->nx i a<K)(hf:Fo kd K)(hl:∀ i j,i<K->j<K->iU out nx out nx i j->kd i=kd j):Apart (bI kd K) out' nx':=by
 intro c d oW hd' hcd;obtain⟨i,hi,rfl⟩:=vP hf K (aAU _) c oW;obtain⟨j,hj,rfl⟩:=vP hf K (aAU _) d hd';exact hl i j hi hj (pJ (Jh h hc hi) (pJ hcd (ru (Jh h hc hj))))
theorem ah5(hn:ji K nx)(h:Pv K out nx kd out' nx')(hc:∀ i a,i<K->a<8->nx i a<K){r i a:Nat}(hr:r<i)(hi:i<K)(ha:a<8)(hk:kd r=kd i):bI kd (met nx (8*i+a+1))=bI kd (met nx (8*i+a)):=by
 have h1:nx r a<met nx (8*i+a):=by
  have:=qI nx (show 8*r+a+1<=8*i+a by omega);simp only[met]at this;rw[show (8*r+a) / 8=r by omega,show (8*r+a) % 8=a by omega]at this;omega
 have h2:kd (nx i a)=kd (nx r a):=by rw[<-h.nx i a hi ha,<-h.nx r a (by omega) ha,hk]
 have h3:=cnt_lt kd h1;obtain⟨h4,h5⟩:=hn.1 (8*i+a) (by omega);have e1:(8*i+a) / 8=i:=by omega
 have e2:(8*i+a) % 8=a:=by omega
 rw[e1,e2]at h5;simp only[met,e1,e2];by_cases c:nx i a<met nx (8*i+a)
 ·rw[Nat.max_eq_left (by omega)]
 ·have e3:nx i a=met nx (8*i+a):=by omega
  rw[Nat.max_eq_right (by omega),e3];have h6:kd (met nx (8*i+a))=kd (nx r a):=by rw[<-e3];exact h2
  simp only[bI];omega
theorem I6(hn:ji K nx)(h:Pv K out nx kd out' nx')(hc:∀ i a,i<K->a<8->nx i a<K){i:Nat}:∀ d,i+d<=K->(∀ j,i<=j->j<i+d->∃ r,r<j/\kd r=kd j)->bI kd (met nx (8*(i+d)))=bI kd (met nx (8*i))
 | 0,_,_=>rfl
 | d+1,hd,hj=>by
  rw[<-I6 hn h hc d (by omega) (λj h1 h2=>hj j h1 (by omega))];obtain⟨r,h1,h2⟩:=hj (i+d) (by omega) (by omega);have key:∀ a,a<=8->bI kd (met nx (8*(i+d)+a))=bI kd (met nx (8*(i+d))):=by
   intro a
   induction a with
   | zero=>intro _;rfl
   | succ a ih=>
    intro ha;rw[<-ih (by omega),<-ah5 hn h hc h1 (by omega) (show a<8 by omega) h2];rfl
  have:=key 8 (aAU _);rwa [show 8*(i+d)+8=8*(i+(d+1)) by omega]at this
theorem JQ(hf:Fo kd K){c:Nat}(hc:c<bI kd K):∃ r,r<K/\kd r=c/\bI kd r=c:=by
 have:∀ m,m<=K->c<bI kd m->∃ r,r<m/\kd r=c/\bI kd r=c:=by
  intro m
  induction m with
  | zero=>intro _ h;simp[bI]at h
  | succ m ih=>
   intro hm h;by_cases e:c<bI kd m
   ·obtain⟨r,h1,h2⟩:=ih (by omega) e;exact⟨r,by omega,h2⟩
   ·have:=hf m (by omega);simp only[bI]at h;exact⟨m,by omega,by omega,by omega⟩
 exact this K (aAU _) hc
theorem QU(hn:ji K nx)(h:Pv K out nx kd out' nx')(hc:∀ i a,i<K->a<8->nx i a<K)(hf:Fo kd K):∀ c,c<bI kd K->∀ r,r<K->kd r=c->bI kd r=c->∀ a,a<=8->met nx' (8*c+a)=bI kd (met nx (8*r+a)):=by
 intro c
 induction c with
 | zero=>
  intro hc0 r hr h1 h2 a;have r0:r=0:=by
   rcases Nat.eq_zero_or_pos r with h | h
   ·exact h
   ·have:=cnt_lt kd h;omega
  subst r0
  induction a with
  | zero=>
   intro _;show 1=bI kd (met nx 0);simp only[met,bI];omega
  | succ a ih=>
   intro ha;have ih:=ih (by omega);have e1:(8*0+a) / 8=0:=by omega
   have e2:(8*0+a) % 8=a:=by omega
   have hh:=h.nx 0 a hr (by omega);rw[h1]at hh;obtain⟨h4,h5⟩:=hn.1 (8*0+a) (by omega);rw[e1,e2]at h5;show max (met nx' (8*0+a)) (nx' ((8*0+a) / 8) ((8*0+a) % 8)+1)=bI kd (max (met nx (8*0+a)) (nx ((8*0+a) / 8) ((8*0+a) % 8)+1));rw[e1,e2,ih,hh];by_cases cc:nx 0 a<met nx (8*0+a)
   ·have:=cnt_lt kd cc;rw[Nat.max_eq_left (by omega),Nat.max_eq_left (by omega)]
   ·have e3:nx 0 a=met nx (8*0+a):=by omega
    rw[Nat.max_eq_right (show met nx (8*0+a)<=nx 0 a+1 by omega),e3];rfl
 | succ c ihc=>
  intro hc1 r hr h1 h2 a
  induction a with
  | zero=>
   intro _;obtain⟨r',hr',k1,k2⟩:=JQ hf (show c<bI kd K by omega);have hlt:r'<r:=by
    rcases Nat.lt_or_ge r' r with h | h
    ·exact h
    ·have h3:=cnt_mono kd h;omega
   have e:=ihc (by omega) r' hr' k1 k2 8 (aAU _);rw[show 8*(c+1)+0=8*c+8 by omega,e,show 8*r'+8=8*(r'+1) by omega];have:=I6 hn h hc (i:=r'+1) (r - (r'+1)) (by omega) (λj h3 h4=>by
    have h5:=cnt_mono kd (show j+1<=r by omega);have h6:=cnt_lt kd (show j<j+1 by omega);exact vP hf j (by omega) _ (by
     have:=cnt_lt kd (show r'<j by omega);omega))
   rw[show r'+1+(r - (r'+1))=r by omega]at this;rw[<-this];rfl
  | succ a ih=>
   intro ha;have ih:=ih (by omega);have e1:(8*r+a) / 8=r:=by omega
   have e2:(8*r+a) % 8=a:=by omega
   have e3:(8*(c+1)+a) / 8=c+1:=by omega
   have e4:(8*(c+1)+a) % 8=a:=by omega
   have hh:=h.nx r a hr (by omega);rw[h1]at hh;obtain⟨h4,h5⟩:=hn.1 (8*r+a) (by omega);rw[e1,e2]at h5;show max (met nx' (8*(c+1)+a)) (nx' ((8*(c+1)+a) / 8) ((8*(c+1)+a) % 8)+1)=bI kd (max (met nx (8*r+a)) (nx ((8*r+a) / 8) ((8*r+a) % 8)+1));rw[e1,e2,e3,e4,ih,hh];by_cases cc:nx r a<met nx (8*r+a)
   ·have:=cnt_lt kd cc;rw[Nat.max_eq_left (by omega),Nat.max_eq_left (by omega)]
   ·have e5:nx r a=met nx (8*r+a):=by omega
    rw[Nat.max_eq_right (show met nx (8*r+a)<=nx r a+1 by omega),e5];rfl
theorem PT(hK:0<K)(hn:ji K nx)(h:Pv K out nx kd out' nx')(hc:∀ i a,i<K->a<8->nx i a<K)(hf:Fo kd K):ji (bI kd K) nx':=by
 refine⟨λp hp=>?_,?_⟩
 ·obtain⟨r,hr,h1,h2⟩:=JQ hf (show p / 8<bI kd K by omega);have e:=QU hn h hc hf (p / 8) (by omega) r hr h1 h2 (p % 8) (by omega);rw[show 8*(p / 8)+p % 8=p by omega]at e;have e1:(8*r+p % 8) / 8=r:=by omega
  have e2:(8*r+p % 8) % 8=p % 8:=by omega
  obtain⟨h4,h5⟩:=hn.1 (8*r+p % 8) (by omega);rw[e1]at h4;rw[e1,e2]at h5;have h6:=cnt_lt kd h4;have h7:=h.nx r (p % 8) hr (by omega);rw[h1]at h7 h6;rw[e,h7];refine⟨h6,?_⟩;by_cases cc:nx r (p % 8)<met nx (8*r+p % 8)
  ·exact Nat.le_of_lt (cnt_lt kd cc)
  ·have e5:nx r (p % 8)=met nx (8*r+p % 8):=by omega
   rw[<-e5];exact hf _ (hc r _ hr (by omega))
 ·have hpos:0<bI kd K:=Nat.lt_of_le_of_lt (aA8 _) (cnt_lt kd hK);obtain⟨c,ec⟩:∃ c,bI kd K=c+1:=⟨bI kd K - 1,by omega⟩;obtain⟨r,hr,h1,h2⟩:=JQ hf (show c<bI kd K by omega);have e:=QU hn h hc hf c (by omega) r hr h1 h2 8 (aAU _);have:=I6 hn h hc (i:=r+1) (K - (r+1)) (by omega) (λj h3 h4=>by
   have h6:=cnt_lt kd (show j<K by omega);exact vP hf j (by omega) _ (by
    have:=cnt_lt kd (show r<j by omega);omega))
  rw[show r+1+(K - (r+1))=K by omega,hn.2]at this;rw[ec,show 8*(c+1)=8*c+8 by omega,e,show 8*r+8=8*(r+1) by omega,<-this,ec]
end
/-! ### Rounds -/
def Rfn(K:Nat)(out:Nat->Nat)(nx:Nat->Nat->Nat)(kd gU:Nat->Nat):Prop:=∀ i j,i<K->j<K->(gU i=gU j↔out i=out j/\∀ a,a<8->kd (nx i a)=kd (nx j a))
theorem ads{K:Nat}{out:Nat->Nat}{nx:Nat->Nat->Nat}{kd gU adX:Nat->Nat}(hc:∀ i a,i<K->a<8->nx i a<K)(h:Rfn K out nx kd gU)(h':Rfn K out nx gU adX)(hf:∀ i j,i<K->j<K->gU i=gU j->kd i=kd j):∀ i j,i<K->j<K->adX i=adX j->gU i=gU j:=λi j hi hj e=>by
 obtain⟨h1,h2⟩:=(h' i j hi hj).1 e;exact(h i j hi hj).2 ⟨h1,λa ha=>hf _ _ (hc i a hi ha) (hc j a hj ha) (h2 a ha)⟩
theorem QQ{K:Nat}{out:Nat->Nat}{nx:Nat->Nat->Nat}{kd gU:Nat->Nat}(hc:∀ i a,i<K->a<8->nx i a<K)(h:Rfn K out nx kd gU)(hl:∀ i j,i<K->j<K->iU out nx out nx i j->kd i=kd j):∀ i j,i<K->j<K->iU out nx out nx i j->gU i=gU j:=λi j hi hj hk=>
 (h i j hi hj).2 ⟨hk [] (λx hx=>by simp at hx),λa ha=>hl _ _ (hc i a hi ha) (hc j a hj ha) (zl hk ha)⟩
open Go.RowKit
def gv(g:Nat->Bool):List Value:=(List.range 256).map λj=>.bool (g j)
theorem kD(g:Nat->Bool):(gv g).length=256:=by simp[gv]
theorem yz(g:Nat->Bool){j:Nat}(h:j<256):(gv g)[j]?=some (.bool (g j)):=by simp[gv,h]
theorem FC(g:Nat->Bool):∀ v∈gv g,v.oneCell'=true:=by
 intro v hv;simp only[gv,aBM]at hv;obtain⟨j,_,rfl⟩:=hv;rfl
theorem Sq{g h:Nat->Bool}(e:∀ j,j<256->g j=h j):gv g=gv h:=by
 unfold gv;refine aBP λj hj=>?_;rw[e j (by simpa using hj)]
theorem akW{g h:Nat->Bool}(e:gv g=gv h):∀ j,j<256->g j=h j:=λj hj=>by
 have:=yz g hj;rw[e,yz h hj]at this;simpa using this.symm
structure bC (w:World) (b o:Nat) (g:Nat->Bool):Prop where
 c:∀ j,j<256->w.cell? ⟨b,o+j,none⟩=some (.bool (g j))
 f:∀ j,j<256->w.frozen? ⟨b,o+j,none⟩=false
theorem bC.tJ{w:World}{b o:Nat}{g:Nat->Bool}(h:bC w b o g):w.rangeAt b o (gv g):=λj v hv=>by
 have hj:j<256:=by have:=(aA1.1 hv).1;rwa [kD]at this
 rw[yz g hj]at hv;rw[h.c j hj,hv]
theorem bC.there{w:World}{b o:Nat}{g:Nat->Bool}(h:bC w b o g):w.there b o 256:=λj hj=>⟨by rw[h.c j hj];rfl,h.f j hj⟩
theorem bC.lt{w:World}{b o:Nat}{g:Nat->Bool}(h:bC w b o g):b<w.heap.size:=World.block_lt_of_cell? w ⟨b,o+0,none⟩ (h.c 0 (by omega))
theorem bC.below{B:Nat}{w w':World}{b o:Nat}{g:Nat->Bool}(h:bC w b o g)(hb:Below B w w')(hlt:b<B):bC w' b o g:=
 ⟨λj hj=>(hb.cell (p:=⟨b,o+j,none⟩) hlt).trans (h.c j hj),λj hj=>(hb.frozen (p:=⟨b,o+j,none⟩) hlt).trans (h.f j hj)⟩
theorem bC.alloc{w:World}{b o:Nat}{g:Nat->Bool}(h:bC w b o g)(ob:Obj):bC (w.alloc ob) b o g:=by
 have hl:=h.lt;refine⟨λj hj=>?_,λj hj=>?_⟩
 ·rw[aBt _ _ _ hl];exact h.c j hj
 ·rw[aBK _ _ _ hl];exact h.f j hj
theorem bC.drew{w:World}{b o:Nat}{g:Nat->Bool}(h:bC w b o g):bC w.drew b o g:=⟨h.c,h.f⟩
theorem bC.congr{w:World}{b o:Nat}{g g':Nat->Bool}(h:bC w b o g)(e:∀ j,j<256->g j=g' j):bC w b o g':=
 ⟨λj hj=>by rw[h.c j hj,e j hj],h.f⟩
theorem bC.set{w:World}{b o:Nat}{g:Nat->Bool}(h:bC w b o g){i:Nat}(hi:i<256)(v:Bool):bC (w.setCell ⟨b,o+i,none⟩ (.bool v)) b o (upd g i v):=by
 refine⟨λj hj=>?_,λj hj=>by rw[aBe];exact h.f j hj⟩;by_cases e:j=i
 ·subst e;rw[aBr _ _ _ (h.c j hj)];simp[upd]
 ·rw[aA0 _ ⟨b,o+i,none⟩ ⟨b,o+j,none⟩ _ (λq=>e (by have:=congrArg Addr.off q;simp at this;omega)),h.c j hj];simp[upd,e]
theorem bC.other{w:World}{b o:Nat}{g:Nat->Bool}(h:bC w b o g)(p:Addr)(v:Value)(hp:p.block≠b\/p.off<o\/o+256<=p.off):bC (w.setCell p v) b o g:=by
 refine⟨λj hj=>?_,λj hj=>by rw[aBe];exact h.f j hj⟩;rw[aA0 _ _ _ _ (λe=>by subst e;simp at hp;omega)];exact h.c j hj
theorem Kt{w:World}{b o:Nat}(h:w.there b o 256)(g:Nat->Bool):bC (w.setCells b o (gv g)) b o g:=by
 have h1:=World.rangeAt_setCells_same w b o (gv g) (by rw[kD];exact h);refine⟨λj hj=>h1 j _ (yz g hj),λj hj=>by rw[World.frozen?_setCells];exact(h j hj).2⟩
theorem uF(w:World)(g:Nat->Bool)(t:TypeId):bC (w.alloc (.cells (gv g).toArray t)) w.heap.size 0 g:=by
 refine⟨λj hj=>?_,λj hj=>?_⟩
 ·have:=aBJ (w.alloc (.cells (gv g).toArray t)) w.heap.size (0+j) (gv g).toArray t (0,0) (heap_alloc_last w _);rw[this];simp[gv,hj]
 ·simp
theorem Tryz.sM:Tryz.zeroCells61=(gv λ_=>false).toArray:=by kernel_rfl
theorem Tryz.aa8:(Tryz.prog.info? 61).map (·.size)=some 256:=by kernel_rfl
theorem Tryz.je:Tryz.prog.underlying 61=some (.array 256 4):=Tryz.underlying61
theorem Tryz.nM(g:Nat->Bool):(Tryz.prog.info? 61).map (·.size)=some (gv g).length:=by rw[kD];exact Tryz.aa8
theorem Tryz.Wu(g:Nat->Bool):(Tryz.prog.info? 61).map (·.size)=some (gv g).toArray.size:=by simp only[List.size_toArray];exact Tryz.nM g
theorem bC.aiW{w:World}{b o:Nat}{g:Nat->Bool}(h:bC w b o g)(g':Nat->Bool):w.there b o (gv g').toArray.size:=by simp only[List.size_toArray,kD];exact h.there
theorem gN(w:World):bC (w.alloc (.cells Tryz.zeroCells61 61)) w.heap.size 0 (λ_=>false):=by rw[Tryz.sM];exact uF w _ _
theorem below_setCells{B:Nat}{a:World}{b:Nat}(hb:B<=b):∀ (vs:List Value) (o:Nat) (w:World),Below B a w->Below B a (w.setCells b o vs)
 | [],_,_,h=>h
 | v::r,o,w,h=>by
  rw[World.setCells];exact below_setCells hb r (o+1) _ (h.setCell (p:=⟨b,o,none⟩) hb v)
theorem size_setCells(b:Nat):∀ (vs:List Value) (o:Nat) (w:World),(w.setCells b o vs).heap.size=w.heap.size
 | [],_,_=>rfl
 | v::r,o,w=>by
  rw[World.setCells,size_setCells b r (o+1) _];simp[World.setCell]
theorem mM{fn:Func}{p:Tmp}{ty:TypeId}(h:fn.results=#[.cell p ty])(tmps:Array Value)(P:Program)(w:World) :
  (results fn tmps).run P w=((asAddr (tmps.getD p undef)).run P w).andThen λa w₁=>(loadVar ty a).run P w₁:=by
 simp only[results,h];simp[Sem.run_bind,Result.andThen]
theorem ze{fn:Func}{c b o:Nat}{g:Nat->Bool}{a:Act}{w:World}{R:Ending->World->Prop}(h:fn.results=#[.cell c 61])(hd:a.defers=[])(hp:a.tmps.getD c undef=.pointer (some ⟨b,o,none⟩))
  (hg:bC w b o g) (hR:R (.returned (.agg (gv g).toArray)) w):bodyPost Tryz.prog fn R .ret a w:=by
 refine bodyPost_ret (v:=.agg (gv g).toArray) ?_ hd hR;rw[mM h,hp];simp only[asAddr,Sem.run_pure,Result.andThen_ok];exact run_loadVar_mid w b o _ (gv g) _ hg.tJ Tryz.je rfl (Tryz.nM g)
structure uK (w:World) (b o:Nat) (g:Nat->Bool) (w1:World):Prop where
 at_:bC w1 b o g
 size:w1.heap.size=w.heap.size
 bG:∀ B a,B<=b->Below B a w->Below B a w1
 cell:∀ p:Addr,(p.block≠b\/p.off<o\/o+256<=p.off)->w1.cell? p=w.cell? p
 fz:∀ p,w1.frozen? p=w.frozen? p
theorem ahk{w:World}{b o:Nat}(h:w.there b o 256)(g:Nat->Bool):uK w b o g (w.setCells b o (gv g)):=by
 refine⟨Kt h g,size_setCells _ _ _ _,λB a hB hb=>below_setCells hB _ _ _ hb,λp hp=>?_,λp=>World.frozen?_setCells _ _ _ _ _⟩;rw[World.cell?_setCells_out b (gv g) o w p (λhb _=>by rw[kD];omega)]
theorem uK.zG{w w1:World}{b o:Nat}{g:Nat->Bool}(h:uK w b o g w1){b' o':Nat}{g':Nat->Bool}(k:bC w b' o' g')(hp:b'≠b\/o'+256<=o\/o+256<=o'):bC w1 b' o' g':=
 ⟨λj hj=>by rw[h.cell ⟨b',o'+j,none⟩ (by simp;omega)];exact k.c j hj,λj hj=>by rw[h.fz];exact k.f j hj⟩
theorem bW{ops:Array Oper}{rest:List Oper}{op:Oper}{a:Act}{w:World}{Q:Exit->Act->World->Prop}(lX:op.guard=none)(x y:Operand)(ho:op.op=.store 61 x y)
  (b o:Nat) (g:Nat->Bool) (hx:a.eval x=.pointer (some ⟨b,o,none⟩)) (hy:a.eval y=.agg (gv g).toArray) (ht:w.there b o 256)
  (h:∀ w1,uK w b o g w1->wpList Tryz.prog ops Q rest (a.put op.dst undef) w1):wpList Tryz.prog ops Q (op::rest) a w:=by
 refine wpList_store_mid lX 61 x y ho b o (gv g).toArray hx hy (by simp only[List.size_toArray,kD];exact ht) (Tryz.Wu g) (all_oneCell_toArray (FC g)) ?_;exact h _ (ahk ht g)
theorem aQ{ops:Array Oper}{rest:List Oper}{op:Oper}{a:Act}{w:World}{Q:Exit->Act->World->Prop}(lX:op.guard=none)(x:Operand)(ho:op.op=.load 61 x)
  (b o:Nat) (g:Nat->Bool) (hx:a.eval x=.pointer (some ⟨b,o,none⟩)) (hg:bC w b o g)
  (h:wpList Tryz.prog ops Q rest (a.put op.dst (.agg (gv g).toArray)) w):wpList Tryz.prog ops Q (op::rest) a w:=
 wpList_load_mid lX 61 x ho b o hx (gv g) _ hg.tJ Tryz.je rfl (Tryz.nM g) h
theorem abV(P:Nat)(g:Nat->Bool)(w:World)(h:bC w P 2305 g):Calls Tryz.prog 67 #[.pointer (some ⟨P,0,none⟩)] w λe w'=>e=.returned (.agg (gv g).toArray)/\Below w.heap.size w w':=by
 have H0:=hid (gN w);have H1:=hid (h.alloc (.cells Tryz.zeroCells61 61));clear h;go_enter Tryz.func67,Tryz.ntmps67;go_wp2_with (first | (refine wpList_load_mid rfl 61 (.tmp 5) rfl P 2305 rfl (gv g) _ H1.out.tJ Tryz.je rfl (Tryz.nM g) ?_) | (refine wpList_store_mid rfl 61 (.tmp 2) (.tmp 6) rfl w.heap.size 0 (gv g).toArray rfl rfl (H0.out.aiW g) (Tryz.Wu g) (all_oneCell_toArray (FC g)) ?_))
 exact ze Tryz.results67 rfl rfl (Kt H0.out.there g) ⟨rfl,below_setCells (aAU _) _ _ _ ((aAW _ _).alloc (aAU _) _)⟩
structure Ip (w:World) (gn:Nat) (ns:List Nd):Prop where
 lt:gn<w.heap.size
 c0:∀ i,i<ns.length->w.cell? ⟨gn,i*3,none⟩=some (.int .u8 (aA ns i).op)
 c1:∀ i,i<ns.length->w.cell? ⟨gn,i*3+1,none⟩=some (.int .i64 (aA ns i).l)
 c2:∀ i,i<ns.length->w.cell? ⟨gn,i*3+2,none⟩=some (.int .i64 (aA ns i).r)
theorem Ip.below{B:Nat}{w w':World}{gn:Nat}{ns:List Nd}(h:Ip w gn ns)(hb:Below B w w')(hB:gn<B):Ip w' gn ns:=
 ⟨aBi h.lt hb.size,λi hi=>(hb.cell (p:=⟨gn,i*3,none⟩) hB).trans (h.c0 i hi),λi hi=>(hb.cell (p:=⟨gn,i*3+1,none⟩) hB).trans (h.c1 i hi),λi hi=>(hb.cell (p:=⟨gn,i*3+2,none⟩) hB).trans (h.c2 i hi)⟩
def lI(op:Nat):Bool:=op==70||op==85||lJ op
def iR(n:Nd):Nat:=if n.op=85\/n.op=82 then n.r else n.l
theorem Zg(n:Nd)(w:World):Calls Tryz.prog 63 #[DD n] w λe w'=>e=.returned (.bool (lI n.op))/\Below w.heap.size w w':=by
 obtain⟨op,l,r⟩:=n;have LW:=λW=>aat ⟨op,l,r⟩ W;unfold DD at *;dsimp only at *;by_cases h1:op=70
 ·subst h1;clear LW;go_enter Tryz.func63,Tryz.ntmps63;go_wp2_with fail;go_ret;exact⟨rfl,(aAW _ _).alloc (aAU _) _⟩
 by_cases h2:op=85
 ·subst h2;clear LW;go_enter Tryz.func63,Tryz.ntmps63;go_wp2_with fail;go_ret;exact⟨rfl,(aAW _ _).alloc (aAU _) _⟩
 have k1:((op:Int)==70)=false:=aA6.2 (by omega);have k2:((op:Int)==85)=false:=aA6.2 (by omega);have E:Hid (lI op=lJ op):=hid (by simp[lI,h1,h2]);go_enter Tryz.func63,Tryz.ntmps63;go_wp2_with fail;refine(LW _).mono ?_;rintro e w' ⟨rfl,hb⟩;go_wp2_with fail;go_ret;exact⟨by rw[E.out];rfl,((aAW _ _).alloc (aAU _) _).trans (hb.mono (by simp))⟩
theorem air(n:Nd)(w:World):Calls Tryz.prog 117 #[DD n] w λe w'=>e=.returned (.int .i64 (iR n:Nat))/\Below w.heap.size w w':=by
 obtain⟨op,l,r⟩:=n;unfold DD;dsimp only at *;by_cases h1:op=85
 ·subst h1;go_enter Tryz.func117,Tryz.ntmps117;go_wp2_with fail;go_ret;exact⟨by simp[iR],(aAW _ _).alloc (aAU _) _⟩
 by_cases h2:op=82
 ·subst h2;go_enter Tryz.func117,Tryz.ntmps117;go_wp2_with fail;go_ret;exact⟨by simp[iR],(aAW _ _).alloc (aAU _) _⟩
 have k1:((op:Int)==85)=false:=aA6.2 (by omega);have k2:((op:Int)==82)=false:=aA6.2 (by omega);have E:Hid (iR ⟨op,l,r⟩=l):=hid (by simp[iR,h1,h2]);go_enter Tryz.func117,Tryz.ntmps117;go_wp2_with fail;go_ret;exact⟨by rw[E.out];rfl,(aAW _ _).alloc (aAU _) _⟩
def jh(ns:List Nd)(x N:Nat):Nat->Nat
 | 0=>0
 | k+1=>xL (jh ns x N k) k (bi (aA ns k).op x ((jh ns x N k).testBit (aA ns k).l) ((jh ns x N k).testBit (aA ns k).r) (N.testBit k) (N.testBit (aA ns k).l))
def gY(ns:List Nd)(x N:Nat):Nat:=jh ns x N ns.length
theorem uI(ns:List Nd)(x N:Nat):∀ k,k<=8->jh ns x N k<256
 | 0,_=>by simp[jh]
 | k+1,h=>JG (uI ns x N k (by omega)) (by omega)
theorem vU{ns:List Nd}(h:ns.length<=8)(x N:Nat):gY ns x N<256:=uI ns x N _ h
theorem mr{ns:List Nd}{k:Nat}(h:k<ns.length):ns[k]?=some (aA ns k):=by simp[aA,List.getD,aAV h]
theorem YT(gn m Mg x N:Nat)(ns:List Nd)(w:World)(hm:Ip w gn ns)(hg:Good ns)(V8:ns.length=m)(hx:x<8)(hN:N<256) :
  Calls Tryz.prog 62 #[.slice (some ⟨gn,0,none⟩) m Mg,.int .i64 x,.int .i64 N] w λe w'=>e=.returned (.int .u8 (gY ns x N:Nat))/\Below w.heap.size w w':=by
 have dw:=hg.le;have HG:=hid hg;have HM:=hid hm;have E9:=hm.lt;have HE:Hid (jh ns x N m=gY ns x N):=hid (by rw[<-V8];rfl);have HL:=hid V8;have hm8:m<=8:=by omega
 clear hm hg dw V8;go_enter Tryz.func62,Tryz.ntmps62;go_wp2_with fail
 go_loopw [7,13] (λh i wq=>∃ k:Nat,k<=m/\i=.int .i64 k/\h=.int .i64 (jh ns x N k:Nat)/\Below w.heap.size w wq) (λ_ i _=>m - (intOf i).toNat)
 case atStart=>exact⟨0,aA8 _,rfl,rfl,aAW _ _⟩
 case round=>
  obtain⟨k,hk,rfl,rfl,hb⟩:=hrel;by_cases hlk:k<m
  ·have V9:k<8:=by omega
   have hS:=uI ns x N k (by omega);obtain⟨h1,h2⟩:=gZ.small HG.out.wf HG.out.le (mr (ns:=ns) (k:=k) (by rw[HL.out];exact hlk));have n0:=(hb.cell (p:=⟨gn,k*3,none⟩) E9).trans (HM.out.c0 k (by rw[HL.out];exact hlk));have n1:=(hb.cell (p:=⟨gn,k*3+1,none⟩) E9).trans (HM.out.c1 k (by rw[HL.out];exact hlk));have n2:=(hb.cell (p:=⟨gn,k*3+2,none⟩) E9).trans (HM.out.c2 k (by rw[HL.out];exact hlk));have LW:=λW=>ah9 (aA ns k) k x (jh ns x N k) N W h1 h2 V9 hx hS hN;have HS:Hid (jh ns x N (k+1)=xL (jh ns x N k) k (bi (aA ns k).op x ((jh ns x N k).testBit (aA ns k).l) ((jh ns x N k).testBit (aA ns k).r) (N.testBit k) (N.testBit (aA ns k).l))):=hid rfl;unfold DD at LW;generalize aA ns k=nd at *;generalize jh ns x N k=S at *;go_wp2_with fail;refine(LW _).mono ?_;rintro e w2 ⟨rfl,ak⟩;clear LW n0 n1 n2;generalize bi nd.op x (S.testBit nd.l) (S.testBit nd.r) (N.testBit k) (N.testBit nd.l)=v at *;go_wp2_with fail;refine(acI S k v _ hS V9).mono ?_;rintro e w3 ⟨rfl,rfl⟩;go_wp2_with fail;go_roundw
   case rel=>exact⟨k+1,by omega,by go_num,by rw[HS.out],(hb.alloc hb.size _).trans (ak.mono (by have:=hb.size;simp;omega))⟩
   case measure=>simp[intOf];omega
  ·obtain rfl:k=m:=by omega
   have hS:=uI ns x N k (by omega);have e1:IntKind.u8.wrap ((jh ns x N k:Nat):Int)=((jh ns x N k:Nat):Int):=by
    rw[IntKind.wrap_u8];omega
   go_wp2_with fail;go_ret;exact⟨by rw[<-HE.out];rfl,hb⟩
theorem size_alloc(w:World)(o:Obj):(w.alloc o).heap.size=w.heap.size+1:=by simp
def upTo(f:Nat->Bool)(n:Nat):Nat->Bool:=λj=>if j<n then f j else false
theorem qV(f:Nat->Bool)(n:Nat):upd (upTo f n) n (f n)=upTo f (n+1):=by
 funext j;unfold upd upTo;by_cases e:j=n
 ·subst e;simp
 ·by_cases h:j<n
  ·simp[e,h];intro;omega
  ·simp[e,h];intro;omega
theorem qU(f:Nat->Bool):upTo f 0=λ_=>false:=by funext j;simp[upTo]
theorem IJ(f:Nat->Bool){j:Nat}(h:j<256):upTo f 256 j=f j:=by simp[upTo,h]
def kN(k e:Nat):Nat->Bool:=λv=>v.testBit k==v.testBit e
theorem U6(nd:Nd)(k:Nat)(w:World)(hk:k<8)(hl:nd.l<8)(hr:nd.r<8) :
  Calls Tryz.prog 64 #[DD nd,.int .i64 k] w λe w'=>e=.returned (.agg (gv (kN k (iR nd))).toArray)/\Below w.heap.size w w':=by
 have hE:iR nd<8:=by unfold iR;split <;> omega
 have LE:=λW=>air nd W;have HZ:=hid Tryz.sM;unfold DD at *;go_enter Tryz.func64,Tryz.ntmps64;go_wp2_with (refine bW rfl (.tmp 5) (.tmp 10) rfl (w.heap.size+1+1) 0 (λ_=>false) rfl (congrArg Value.agg HZ.out) ?t1 ?_)
 case t1=>
  have:=(gN ((w.alloc (.cells #[.int .u8 nd.op,.int .i64 nd.l,.int .i64 nd.r] 109)).alloc (.cells Tryz.zeroCells61 61))).there;simpa using this
 intro w1 S1;have b3:Below (w.heap.size+1) (w.alloc (.cells #[.int .u8 nd.op,.int .i64 nd.l,.int .i64 nd.r] 109)) w1:=S1.bG _ _ (by omega) (((aAW _ _).alloc (by simp) _).alloc (by simp) _);have n0:w1.cell? ⟨w.heap.size,0,none⟩=some (.int .u8 nd.op):=(b3.cell (p:=⟨w.heap.size,0,none⟩) (by show w.heap.size<_;omega)).trans (by simp);have n1:w1.cell? ⟨w.heap.size,1,none⟩=some (.int .i64 nd.l):=(b3.cell (p:=⟨w.heap.size,1,none⟩) (by show w.heap.size<_;omega)).trans (by simp);have n2:w1.cell? ⟨w.heap.size,2,none⟩=some (.int .i64 nd.r):=(b3.cell (p:=⟨w.heap.size,2,none⟩) (by show w.heap.size<_;omega)).trans (by simp);clear b3;have G5:=hid S1.at_;have G4:Hid (bC w1 (w.heap.size+1) 0 (λ_=>false)):=by
  have z:=(gN (w.alloc (.cells #[.int .u8 nd.op,.int .i64 nd.l,.int .i64 nd.r] 109))).alloc (.cells Tryz.zeroCells61 61);rw[size_alloc]at z;exact hid (S1.zG z (aA2 (by omega)))
 have aK:Hid (Below w.heap.size w w1):=hid (S1.bG _ _ (by omega) ((((aAW _ _).alloc (aAU _) _).alloc (by simp) _).alloc (by simp;omega) _));have hs1:w1.heap.size=w.heap.size+3:=by rw[S1.size];simp
 clear S1;go_wp2_with fail;refine(LE _).mono ?_;rintro e w2 ⟨rfl,ak⟩;have G5:=hid (G5.out.below ak (by omega));have G4:=hid (G4.out.below ak (by omega));have aW:=hid (aK.out.trans (ak.mono (by omega)));clear ak aK n0 n1 n2 LE hs1;go_wp2_with fail
 go_loopw [13] (λi wq=>∃ j:Nat,j<=256/\i=.int .i64 j/\Hid (bC wq (w.heap.size+1+1) 0 (upTo (kN k (iR nd)) j))/\Hid (bC wq (w.heap.size+1) 0 (λ_=>false))/\Hid (Below w.heap.size w wq)) (λi _=>256 - (intOf i).toNat)
 case atStart=>exact⟨0,by omega,rfl,by rw[qU];exact G5,G4,aW⟩
 case round=>
  obtain⟨j,hj,rfl,H5,H4,HB⟩:=hrel;rename World=>W0;by_cases eQ:j<256
  ·have q0:W0.frozen? ⟨w.heap.size+1+1,j,none⟩=false:=by have:=H5.out.f j eQ;rwa [aBo]at this
   have q1:W0.cell? ⟨w.heap.size+1+1,j,none⟩=some (.bool (upTo (kN k (iR nd)) j j)):=by have:=H5.out.c j eQ;rwa [aBo]at this
   have D5:=hid (H5.out.set eQ (kN k (iR nd) j));have D4:=hid (H4.out.other ⟨w.heap.size+1+1,j,none⟩ (.bool (kN k (iR nd) j)) (aA2 (by simp)));have DB:=hid (HB.out.setCell (p:=⟨w.heap.size+1+1,j,none⟩) (by show w.heap.size<=w.heap.size+1+1;omega) (.bool (kN k (iR nd) j)));rw[qV,aBo]at D5;have HA:=λW=>bN j k W eQ hk;have HC:=λW=>bN j (iR nd) W eQ hE;unfold kN at D4 D5 DB;generalize upTo (kN k (iR nd)) j j=ov at *;go_wp2_with fail;refine(HA _).mono ?_;rintro e w3 ⟨rfl,rfl⟩;go_wp2_with fail;refine(HC _).mono ?_;rintro e w4 ⟨rfl,rfl⟩;clear HA HC;go_wp2_with fail;go_roundw
   case rel=>exact⟨j+1,by omega,by go_num,D5,D4,DB⟩
   case measure=>simp[intOf];omega
  ·obtain rfl:j=256:=by omega
   have G:=hid (H5.out.congr (λj hj=>IJ (kN k (iR nd)) hj));go_wp2_with (first | (refine aQ rfl (.tmp 5) rfl (w.heap.size+1+1) 0 _ rfl G.out ?_) | (refine bW rfl (.tmp 4) (.tmp 28) rfl (w.heap.size+1) 0 (kN k (iR nd)) rfl rfl H4.out.there ?_))
   intro w5 S5;go_wp2_with fail;refine ze Tryz.results64 ?_ ?_ S5.at_ ?_
   ·rfl
   ·rfl
   ·exact⟨rfl,S5.bG _ _ (by omega) HB.out⟩
def geq(g h:Nat->Bool):Bool:=(List.range 256).all λj=>g j==h j
theorem jl{g h:Nat->Bool}:geq g h=true↔∀ j,j<256->g j=h j:=by simp[geq]
theorem yZ(d:Nat)(g h:Nat->Bool)(w:World):∀ is:List Nat,(∀ i∈is,i<256)->(Op.eqItems (d+1) 4 1 (gv g).toArray (gv h).toArray is).run Tryz.prog w=.ok (is.all λj=>g j==h j) w
 | [],_=>by simp[Op.eqItems]
 | i::is,hi=>by
  have h0:=hi i (by simp);have ih:=yZ d g h w is (λj hj=>hi j (by simp[hj]));have p:∀ f:Nat->Bool,(part 4 (gv f).toArray (i*1)).run Tryz.prog w=.ok (.bool (f i)) w:=λf=>by
   have:=yz f h0;simp[part,Tryz.isAgg4,this]
  simp only[Op.eqItems,Sem.run_bind,p,Result.andThen_ok,run_equalIn_bool' w d 4 _ _ Tryz.underlying4];cases e:(g i==h i)
  ·simp[e]
  ·simp[e,ih]
theorem Tryz.Gb:(Tryz.prog.info? 4).map (·.size)=some 1:=by kernel_rfl
theorem Tryz.abR:∃ i,Tryz.prog.info? 4=some i/\i.size=1:=by
 have h:=Tryz.Gb;cases hq:Tryz.prog.info? 4 with
 | none=>simp[hq]at h
 | some i=>simp[hq]at h;exact⟨i,rfl,h⟩
theorem ni(d:Nat)(g h:Nat->Bool)(w:World):(Op.equalIn (d+1+1) 61 (.agg (gv g).toArray) (.agg (gv h).toArray)).run Tryz.prog w=.ok (geq g h) w:=by
 obtain⟨i,hi,hs⟩:=Tryz.abR;rw[run_equalIn_array w (d+1) _ _ Tryz.je hi];have:Tryz.prog.cellsOf 4=1:=by kernel_rfl
 rw[this];exact yZ d g h w _ (λj hj=>by simpa using hj)
