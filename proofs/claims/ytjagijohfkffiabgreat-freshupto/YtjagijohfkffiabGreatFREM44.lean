import Derived.Test.YtjagijohfkffiabGreatFREM40
set_option maxHeartbeats 16000000
set_option maxRecDepth 100000
set_option linter.unusedSimpArgs false
namespace Go.Proofs.YtjagijohfkffiabGreat
open Go.RowKit
set_option linter.unusedVariables false
def Dx(x:Nat):Value:=.agg #[.int .i64 (x / 256:Nat),.int .u8 (x % 256:Nat)]
structure xx (w:World) (ao:Option Addr) (cap:Nat) (ls:List (Nat × Nat)):Prop where
 le:ls.length<=cap
 max:cap<=9223372036854775807
 row:0<ls.length->∃ g,ao=some ⟨g,0,none⟩/\g<w.heap.size/\∀ (i:Nat) p,ls[i]?=some p->w.cell? ⟨g,i*3,none⟩=some (.int .i64 (p.1 / 256:Nat))/\w.cell? ⟨g,i*3+1,none⟩=some (.int .u8 (p.1 % 256:Nat))/\w.cell? ⟨g,i*3+2,none⟩=some (.int .i64 (p.2:Nat))
theorem xx.below{w w':World}{ao:Option Addr}{cap:Nat}{ls:List (Nat × Nat)}(h:xx w ao cap ls)(hb:Below w.heap.size w w'):xx w' ao cap ls:=by
 refine⟨h.le,h.max,λh0=>?_⟩;obtain⟨g,e,hg,hc⟩:=h.row h0;refine⟨g,e,aBi hg hb.size,λi p hp=>?_⟩;obtain⟨h1,h2,h3⟩:=hc i p hp;exact⟨(hb.cell (p:=⟨g,i*3,none⟩) hg).trans h1,(hb.cell (p:=⟨g,i*3+1,none⟩) hg).trans h2,(hb.cell (p:=⟨g,i*3+2,none⟩) hg).trans h3⟩
theorem CF{w:World}{B:Nat}{v:Value}{ls:List (Nat × Nat)}(h:w.ownsRow B 221 3 v ls.length (jg ls)):∃ ao cap,v=.slice ao ls.length cap/\xx w ao cap ls:=by
 rcases h.2 with⟨rfl,h0⟩ | ⟨g,cap,cur,rfl,hb,hh,hc,hm,_⟩
 ·exact⟨none,0,by rw[h0],by omega,by omega,λh=>by omega⟩
 ·refine⟨_,cap,rfl,hc,by unfold maxLen at hm;omega,λ_=>⟨g,rfl,(aBm.1 hh).1,λi p hp=>?_⟩⟩;have hi:=(aA1.1 hp).1;obtain⟨k1,k2,k3⟩:=C9 hp;exact⟨(h.cellAt (i*3) (by omega)).trans k1,(h.cellAt (i*3+1) (by omega)).trans k2,(h.cellAt (i*3+2) (by omega)).trans k3⟩
structure Ub (w:World) (ao:Option Addr) (cap:Nat) (xs:List Nat):Prop where
 le:xs.length<=cap
 max:cap<=9223372036854775807
 row:0<xs.length->∃ g,ao=some ⟨g,0,none⟩/\g<w.heap.size/\∀ (i x:Nat),xs[i]?=some x->w.cell? ⟨g,i*2,none⟩=some (.int .i64 (x / 256:Nat))/\w.cell? ⟨g,i*2+1,none⟩=some (.int .u8 (x % 256:Nat))
theorem Ub.below{w w':World}{ao:Option Addr}{cap:Nat}{xs:List Nat}(h:Ub w ao cap xs)(hb:Below w.heap.size w w'):Ub w' ao cap xs:=by
 refine⟨h.le,h.max,λh0=>?_⟩;obtain⟨g,e,hg,hc⟩:=h.row h0;refine⟨g,e,aBi hg hb.size,λi x hx=>?_⟩;obtain⟨h1,h2⟩:=hc i x hx;exact⟨(hb.cell (p:=⟨g,i*2,none⟩) hg).trans h1,(hb.cell (p:=⟨g,i*2+1,none⟩) hg).trans h2⟩
theorem QK{w:World}{B:Nat}{v:Value}{xs:List Nat}(h:w.ownsRow B 166 2 v xs.length (dn xs)):∃ ao cap,v=.slice ao xs.length cap/\Ub w ao cap xs:=by
 rcases h.2 with⟨rfl,h0⟩ | ⟨g,cap,cur,rfl,hb,hh,hc,hm,_⟩
 ·exact⟨none,0,by rw[h0],by omega,by omega,λh=>by omega⟩
 ·refine⟨_,cap,rfl,hc,by unfold maxLen at hm;omega,λ_=>⟨g,rfl,(aBm.1 hh).1,λi x hx=>?_⟩⟩;have hi:=(aA1.1 hx).1;obtain⟨k1,k2⟩:=xe hx;exact⟨(h.cellAt (i*2) (by omega)).trans k1,(h.cellAt (i*2+1) (by omega)).trans k2⟩
theorem aaH(x g n cap:Nat)(f:Nat->Bool)(w:World)(hn:n<=17179869184)(hf:bU w g (n*256) f)(hg:g<w.heap.size)(hx:x<n*256) :
  Calls Tryz.prog 135 #[Dx x,.slice (some ⟨g,0,none⟩) n cap] w λe w'=>e=.returned (.bool (f x))/\Below w.heap.size w w':=by
 unfold Dx;have hx1:x / 256<n:=by omega
 have hx2:x % 256<256:=Nat.mod_lt _ (by omega);have ba:=(aAW w.heap.size w).alloc (aAU _) (.cells #[.int .i64 (x / 256:Nat),.int .u8 (x % 256:Nat)] 166);have cf:(w.alloc (.cells #[.int .i64 (x / 256:Nat),.int .u8 (x % 256:Nat)] 166)).cell? ⟨g,x / 256*256+x % 256,none⟩=some (.bool (f x)):=by
  have:=(hf.below ba hg).c x hx;rw[show x / 256*256+x % 256=x by omega];exact this
 have T0:=dD w (.int .i64 (x / 256:Nat)) (.int .u8 (x % 256:Nat)) 166;have c0:=T0.c0;have c1:=T0.c1;have HB:=hid ba;clear ba hf T0;generalize f x=fv at *;generalize x / 256=sp at *;generalize x % 256=vw at *;have i1:(0:Int)<=(sp:Int):=by omega
 have i2:(sp:Int)<(n:Int):=by omega
 have i3:(0:Int)<=(vw:Int):=by omega
 have i4:(vw:Int)<256:=by omega
 go_enter Tryz.func135,Tryz.ntmps135;go_wp2_with fail
 go_quiet (fail)
 go_wp2_with fail;go_ret;exact⟨rfl,aBd HB.out nq⟩
theorem Ah(S x:Nat)(vf:Value)(ao:Option Addr)(cap gl:Nat)(ls:List (Nat × Nat))(w:World)(hS:Three w S vf (.slice ao ls.length cap) (.int .i64 (gl:Nat)))(hl:xx w ao cap ls)(dw:ls.length<=1099511627776)(kz:gl<=1099511627776)(hx:∃ i t:Nat,gl<=i/\ls[i]?=some (x,t)) :
  Calls Tryz.prog 134 #[.pointer (some ⟨S,0,none⟩),Dx x] w λe w'=>∃ i t:Nat,e=.returned (.int .i64 (i:Nat))/\gl<=i/\ls[i]?=some (x,t)/\Below w.heap.size w w':=by
 unfold Dx;obtain⟨i0,t0,zD,tN⟩:=hx;have ar4:=(aA1.1 tN).1;obtain⟨g,rfl,hg,hc⟩:=hl.row (by omega);have HC:=hid hc;have HS:=hid hS;have Si:=hS.lt;have Lv:=hid tN;have HXA:Hid (x / 256=x / 256/\x % 256=x % 256):=hid ⟨rfl,rfl⟩;generalize VY:x / 256=xa at *;generalize Ht:x % 256=xb at *;have WP:=hid (And.intro VY Ht);have axQ:xb<256:=by omega
 clear VY Ht HXA;have ba:=hid ((aAW w.heap.size w).alloc (aAU _) (.cells #[.int .i64 (xa:Nat),.int .u8 (xb:Nat)] 166));have T0:=hid (dD w (.int .i64 (xa:Nat)) (.int .u8 (xb:Nat)) 166);have S0:=hS.below ba.out Si;have s1:=S0.c1;have s2:=S0.c2;have hcap:=hl.le;have hmax:=hl.max;clear hc hS hl tN S0;go_enter Tryz.func134,Tryz.ntmps134;go_wp2_with fail;generalize hW:(w.alloc (.cells #[.int .i64 (xa:Nat),.int .u8 (xb:Nat)] 166))=W at *;have DT:W.heap.size=w.heap.size+1:=by rw[<-hW];simp
 clear hW s1 s2
 go_loopw [12] (λk wq=>∃ i:Nat,i<=i0/\k=.int .i64 i/\Hid (Two wq w.heap.size (.int .i64 (xa:Nat)) (.int .u8 (xb:Nat)))/\Hid (Below w.heap.size w wq)/\w.heap.size<wq.heap.size) (λk _=>ls.length - (intOf k).toNat)
 case atStart=>exact⟨0,aA8 _,rfl,T0,ba,by omega⟩
 case round=>
  obtain⟨i,hi,rfl,HT,HB,hsz⟩:=hrel;rename World=>W0;clear T0 ba;obtain⟨⟨y,t⟩,hp⟩:∃ p,ls[i]?=some p:=⟨ls[i]'(by omega),aAV (by omega)⟩;obtain⟨k0,k1,k2⟩:=HC.out i _ hp;dsimp only at k0 k1 k2;have HXY:Hid (y / 256=xa->y % 256=xb->y=x):=hid (λh1 h2=>by have:=WP.out.1;have:=WP.out.2;omega);have HYX:Hid (y=x->y / 256=xa/\y % 256=xb):=hid (λh=>by rw[h];exact WP.out);generalize y / 256=ya at *;have Bd:y % 256<256:=Nat.mod_lt _ (by omega);generalize y % 256=yb at *;have l0:=(HB.out.cell (p:=⟨g,i*3,none⟩) hg).trans k0;have l1:=(HB.out.cell (p:=⟨g,i*3+1,none⟩) hg).trans k1;have l2:=(HB.out.cell (p:=⟨g,i*3+2,none⟩) hg).trans k2;have bb:=(aAW W0.heap.size W0).alloc (aAU _) (.cells #[.int .i64 (ya:Nat),.int .u8 (yb:Nat),.int .i64 (t:Nat)] 221);have SB:=(HS.out.below HB.out Si);have kS:=hid (HT.out.below bb hsz);have Cb:=hid (HB.out.trans (bb.mono (by omega)));have SBB:=SB.below bb (by omega);have s1:=SBB.c1;have s2:=SBB.c2;have t0':=kS.out.c0;have t1':=kS.out.c1;have HP:=hid hp;have i1:(i:Int)<(ls.length:Int):=by omega
  have i2:(0:Int)<=(i:Int):=by omega
  have gm:Hid (¬ (ya=xa/\yb=xb)->i≠i0):=hid (λhn e=>by
   subst e;have h9:=Lv.out;rw[HP.out]at h9;cases h9;exact hn (HYX.out rfl))
  clear k0 k1 k2 hp bb SB SBB;by_cases ar5:gl<=i
  ·have j1:(gl:Int)<=(i:Int):=by omega
   by_cases e1:ya=xa
   ·by_cases e2:yb=xb
    ·have hyx:=HXY.out e1 e2;subst hyx;subst e1;subst e2;have b1:((ya:Int)==(ya:Int))=true:=by simp
     have b2:((yb:Int)==(yb:Int))=true:=by simp
     clear HXY HYX gm;go_wp2_with fail;go_ret;exact⟨i,t,rfl,ar5,HP.out,Cb.out⟩
    ·have h9:=gm.out (λh=>e2 h.2);subst e1;have b1:((ya:Int)==(ya:Int))=true:=by simp
     have b2:((yb:Int)==(xb:Int))=false:=aA6.2 (by omega);clear HXY HYX gm;go_wp2_with fail;go_roundw
     case rel=>exact⟨i+1,by omega,by go_num,kS,Cb,by simp;omega⟩
     case measure=>simp[intOf] <;> omega
   ·have h9:=gm.out (λh=>e1 h.1);have b1:((ya:Int)==(xa:Int))=false:=aA6.2 (by omega);clear HXY HYX gm;go_wp2_with fail;go_roundw
    case rel=>exact⟨i+1,by omega,by go_num,kS,Cb,by simp;omega⟩
    case measure=>simp[intOf] <;> omega
  ·have j1:decide ((gl:Int)<=(i:Int))=false:=by simp;omega
   have j1n:decide (gl<=i)=false:=by simp;omega
   clear HXY HYX gm;go_wp2_with fail;go_roundw
   case rel=>exact⟨i+1,by omega,by go_num,kS,Cb,by simp;omega⟩
   case measure=>simp[intOf] <;> omega
theorem Vh(S g2 n YI:Nat)(f:Nat->Bool)(vf vg:Value)(ao:Option Addr)(cap:Nat)(ls:List (Nat × Nat))(w:World)(hS:Three w S vf (.slice ao ls.length cap) vg)(hl:xx w ao cap ls)(dw:ls.length<=1099511627776)(hn:n<=17179869184)(hf:bU w g2 (n*256) f)(oV:g2<w.heap.size)(hN:∀ p∈ls,p.1<n*256)(hx:∃ (i:Nat) (p:Nat × Nat),ls[i]?=some p/\f p.1=true) :
  Calls Tryz.prog 96 #[.pointer (some ⟨S,0,none⟩),.slice (some ⟨g2,0,none⟩) n YI] w λe w'=>∃ (i:Nat) (p:Nat × Nat),e=.returned (.int .i64 (i:Nat))/\ls[i]?=some p/\f p.1=true/\Below w.heap.size w w':=by
 obtain⟨i0,p0,tN,R8⟩:=hx;have ar4:=(aA1.1 tN).1;obtain⟨g,rfl,hg,hc⟩:=hl.row (by omega);have HC:=hid hc;have Si:=hS.lt;have Lv:=hid tN;have HFX:=hid R8;have HN:=hid hN;have HF:=hid hf;have s1:=hS.c1;have hcap:=hl.le;have hmax:=hl.max;clear hc hS hl tN R8 hN hf;go_enter Tryz.func96,Tryz.ntmps96;go_wp2_with fail
 go_loopw [12] (λk wq=>∃ i:Nat,i<=i0/\k=.int .i64 i/\Hid (Below w.heap.size w wq)) (λk _=>ls.length - (intOf k).toNat)
 case atStart=>exact⟨0,aA8 _,rfl,hid (aAW _ _)⟩
 case round=>
  obtain⟨i,hi,rfl,HB⟩:=hrel;rename World=>W0;obtain⟨⟨y,t⟩,hp⟩:∃ p,ls[i]?=some p:=⟨ls[i]'(by omega),aAV (by omega)⟩;obtain⟨k0,k1,k2⟩:=HC.out i _ hp;dsimp only at k0 k1 k2;have IN:=λW h1 h2=>aaH y g2 n YI f W hn h1 h2 (HN.out _ (aBB hp));unfold Dx at IN;generalize y / 256=ya at *;generalize y % 256=yb at *;have l0:=(HB.out.cell (p:=⟨g,i*3,none⟩) hg).trans k0;have l1:=(HB.out.cell (p:=⟨g,i*3+1,none⟩) hg).trans k1;have l2:=(HB.out.cell (p:=⟨g,i*3+2,none⟩) hg).trans k2;have bb:=(aAW W0.heap.size W0).alloc (aAU _) (.cells #[.int .i64 (ya:Nat),.int .u8 (yb:Nat),.int .i64 (t:Nat)] 221);have Oc:=HB.out.size;have Cb:=hid (HB.out.trans (bb.mono Oc));have IN:=IN _ (HF.out.below Cb.out oV) (by simp;omega);have HIN:=hid IN;have HP:=hid hp;have i1:(i:Int)<(ls.length:Int):=by omega
  have i2:(0:Int)<=(i:Int):=by omega
  have hne:f y=false->i≠i0:=λhfy e=>by
   subst e;have h9:=Lv.out;rw[HP.out]at h9;cases h9;rw[HFX.out]at hfy;cases hfy
  have gm:=hid hne;have HFY:=hid (show f y=f y from rfl);clear k0 k1 k2 hp bb IN hne;go_wp2_with fail;refine HIN.out.mono ?_;rintro e w3 ⟨rfl,aI⟩;simp only[aAZ]at aI;have cu:=hid (Cb.out.trans (aI.mono (by omega)));cases hfy:f y with
  | true=>
   have HFT:=hid hfy;clear hfy aI;go_wp2_with fail;go_ret;exact⟨i,(y,t),rfl,HP.out,HFT.out,cu.out⟩
  | false=>
   have h9:=gm.out hfy;clear hfy aI;go_wp2_with fail;go_roundw
   case rel=>exact⟨i+1,by omega,by go_num,cu⟩
   case measure=>simp[intOf] <;> omega
def rf(c:Nat->Bool)(xs:List Nat):Bool:=xs.any λx=>c (x % 256)
theorem aae(ao:Option Addr)(cap:Nat)(xs:List Nat)(c:Nat->Bool)(w:World)(hl:Ub w ao cap xs)(dw:xs.length<=1099511627776) :
  Calls Tryz.prog 136 #[.slice ao xs.length cap,.agg (gv c).toArray] w λe w'=>e=.returned (.bool (rf c xs))/\Below w.heap.size w w':=by
 have HL:=hid hl;have hcap:=hl.le;have hmax:=hl.max;clear hl;have G0:=hid (uF w c 61);have ba:=hid ((aAW w.heap.size w).alloc (aAU _) (.cells (gv c).toArray 61));go_enter Tryz.func136,Tryz.ntmps136;go_wp2_with fail;generalize hW:(w.alloc (.cells (gv c).toArray 61))=W at *;have DT:W.heap.size=w.heap.size+1:=by rw[<-hW];simp
 clear hW
 go_loopw [9] (λk wq=>∃ i:Nat,i<=xs.length/\k=.int .i64 i/\Hid (∀ j x,j<i->xs[j]?=some x->c (x % 256)=false)/\Hid (bC wq w.heap.size 0 c)/\Hid (Below w.heap.size w wq)/\w.heap.size<wq.heap.size) (λk _=>xs.length - (intOf k).toNat)
 case atStart=>exact⟨0,aA8 _,rfl,hid (λj x hj=>by omega),G0,ba,by omega⟩
 case round=>
  obtain⟨i,hi,rfl,HN,HG,HB,hsz⟩:=hrel;rename World=>W0;clear G0 ba;by_cases zy:i<xs.length
  ·obtain⟨x,hx⟩:∃ x,xs[i]?=some x:=⟨xs[i],aAV zy⟩;obtain⟨g,e,hg,hc⟩:=HL.out.row (by omega);subst e;obtain⟨k0,k1⟩:=hc i x hx;have vx:x % 256<256:=Nat.mod_lt _ (by omega);have HME:Hid (c (x % 256)=true->rf c xs=true):=hid (λhcx=>by
    unfold rf;rw[List.any_eq_true];exact⟨x,aBB hx,hcx⟩)
   have HMN:Hid (c (x % 256)=false->∀ j y,j<i+1->xs[j]?=some y->c (y % 256)=false):=hid (λhcx j y hj hy=>by
    by_cases e:j=i
    ·subst e;rw[hx]at hy;cases hy;exact hcx
    ·exact HN.out j y (by omega) hy)
   generalize x / 256=xa at *;generalize x % 256=xb at *;have l0:=(HB.out.cell (p:=⟨g,i*2,none⟩) hg).trans k0;have l1:=(HB.out.cell (p:=⟨g,i*2+1,none⟩) hg).trans k1;have bb:=(aAW W0.heap.size W0).alloc (aAU _) (.cells #[.int .i64 (xa:Nat),.int .u8 (xb:Nat)] 166);have Aa:=hid (HG.out.below bb hsz);have Cb:=hid (HB.out.trans (bb.mono (by omega)));have cx:(W0.alloc (.cells #[.int .i64 (xa:Nat),.int .u8 (xb:Nat)] 166)).cell? ⟨w.heap.size,xb,none⟩=some (.bool (c xb)):=by
    have:=Aa.out.c xb vx;rwa [aBo]at this
   have i1:(i:Int)<(xs.length:Int):=by omega
   have i2:(0:Int)<=(i:Int):=by omega
   have i3:(xb:Int)<256:=by omega
   have i4:(0:Int)<=(xb:Int):=by omega
   clear k0 k1 hc hx bb;cases hcx:c xb with
   | true=>
    have HE:=hid (HME.out hcx);rw[hcx]at cx;clear hcx;go_wp2_with fail;go_ret;exact⟨by rw[HE.out];rfl,Cb.out⟩
   | false=>
    have zZ:=hid (HMN.out hcx);rw[hcx]at cx;clear hcx;go_wp2_with fail;go_roundw
    case rel=>exact⟨i+1,by omega,by go_num,zZ,Aa,Cb,by simp;omega⟩
    case measure=>simp[intOf] <;> omega
  ·obtain rfl:i=xs.length:=by omega
   have HE:Hid (rf c xs=false):=hid (by
    unfold rf;rw[List.any_eq_false];intro x hx;obtain⟨j,hj,e⟩:=aBC hx;rw[HN.out j x hj (by rw[aAV hj,e])];simp)
   go_wp2_with fail;go_ret;exact⟨by rw[HE.out];rfl,HB.out⟩
theorem Nj(ao:Option Addr)(cap:Nat)(xs:List Nat)(w:World)(hl:Ub w ao cap xs)(dw:xs.length<=1099511627776) :
  Calls Tryz.prog 98 #[.slice ao xs.length cap] w λe w'=>∃ v,e=.returned v/\w'.ownsRow w.heap.size 3 1 v xs.length (bX (xs.map (· / 256)))/\Below w.heap.size w w':=by
 have HL:=hid hl;have hcap:=hl.le;have hmax:=hl.max;obtain⟨i1,iC,fe,eZ,eY⟩:=info_parts Tryz.uB;clear hl;go_enter Tryz.func98,Tryz.ntmps98;go_wp2_with fail
 go_loopw [3,8] (λv k wq=>∃ i:Nat,i<=xs.length/\k=.int .i64 i/\Hid (wq.ownsRow w.heap.size 3 1 v i (bX ((xs.take i).map (· / 256))))/\Hid (Below w.heap.size w wq)) (λ_ k _=>xs.length - (intOf k).toNat)
 case atStart=>exact⟨0,aA8 _,rfl,hid (aBh _ _ _ _),hid (aAW _ _)⟩
 case round=>
  obtain⟨i,hi,rfl,HO,HB⟩:=hrel;rename World=>W0;obtain⟨aoT,Tm,rfl⟩:=ai HO.out;by_cases zy:i<xs.length
  ·obtain⟨x,hx⟩:∃ x,xs[i]?=some x:=⟨xs[i],aAV zy⟩;obtain⟨g,e,hg,hc⟩:=HL.out.row (by omega);subst e;obtain⟨k0,k1⟩:=hc i x hx;have Oc:=HB.out.size;have HTK:Hid (bX ((xs.take (i+1)).map (· / 256))=bX ((xs.take i).map (· / 256))++[.int .i64 (x / 256:Nat)]):=hid (by
    rw[List.take_add_one,hx];simp[bX])
   have kS:=hid (λq h=>(HO.out.lt q h).1);generalize x / 256=xa at *;generalize x % 256=xb at *;have l0:=(HB.out.cell (p:=⟨g,i*2,none⟩) hg).trans k0;have l1:=(HB.out.cell (p:=⟨g,i*2+1,none⟩) hg).trans k1;clear k0 k1 hc hx;go_wp2_with (at_builtin;go_must (refine aBw _ rfl (.tmp 12) (.tmp 15) 22 rfl w.heap.size 3 i1 (.int .i64 0) 1 8 Tryz.underlying22 iC fe eZ eY rfl (by decide) _ i _ rfl ((HO.out.alloc _).alloc _) ⟨W0.heap.size+1,0,none⟩ 1 1 [.int .i64 (xa:Nat)] rfl rfl (by simpa using vQ (W0.alloc (.cells #[.int .i64 (xa:Nat),.int .u8 (xb:Nat)] 166)) [.int .i64 (xa:Nat)] 3) (by intro y hy;simp at hy;rcases hy with rfl;rfl) (by decide) (by unfold maxLen;omega) (by omega) (by simp;omega) (W0.heap.size+2) (by simp) ?_));intro gg cc w7 hown hgrow hat uD;have D1:Hid (w7.ownsRow w.heap.size 3 1 (.slice (some ⟨gg,0,none⟩) (i+1) cc) (i+1) (bX ((xs.take (i+1)).map (· / 256)))):=hid (by rw[HTK.out,List.map_take];exact hown);have D2:=hid ((((HB.out.alloc HB.out.size (.cells #[.int .i64 (xa:Nat),.int .u8 (xb:Nat)] 166)).alloc (by simp;omega) (.cells #[.int .i64 (xa:Nat)] 3))).grown hgrow (by simp;omega) (λq h=>kS.out q h));clear hown hgrow hat;go_wp2_with fail;go_roundw
   case rel=>exact⟨i+1,by omega,by go_num,D1,D2⟩
   case measure=>simp[intOf] <;> omega
  ·obtain rfl:i=xs.length:=by omega
   have HT:Hid (W0.ownsRow w.heap.size 3 1 (.slice aoT xs.length Tm) xs.length (bX (xs.map (· / 256)))):=hid (by have:=HO.out;rwa [List.take_length]at this);go_wp2_with fail;go_ret;exact⟨_,rfl,HT.out,HB.out⟩
