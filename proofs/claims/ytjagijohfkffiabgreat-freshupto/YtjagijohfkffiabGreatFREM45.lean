import Derived.Test.YtjagijohfkffiabGreatFREM44
set_option maxHeartbeats 16000000
set_option maxRecDepth 100000
set_option linter.unusedSimpArgs false
namespace Go.Proofs.YtjagijohfkffiabGreat
open Go.RowKit
set_option linter.unusedVariables false
def xK(E:Nat->Nat->Prop)(N gl:Nat)(goal:Nat->Bool)(i x:Nat)(w:World)(e:Ending)(w':World):Prop:=
 ∃ (ps:List Nat) (en:Nat) (v:Value),e=.returned (.agg #[v,.int .i64 (en / 256:Nat),.int .u8 (en % 256:Nat)])/\w'.ownsRow w.heap.size 166 2 v ps.length (dn ps)/\Goes E ps en/\(gl<=i->ps≠[])/\(i<gl->ps=[])/\ps.headD en=x/\goal en=true/\en<N/\(∀ p∈ps,p<N)/\ps.length<=N/\Below w.heap.size w w'
theorem Tryz.acR:(Tryz.prog.info? 175).map (·.size)=some 3:=by kernel_rfl
structure Dj (E:Nat->Nat->Prop) (N gl:Nat) (ls:List (Nat × Nat)) (i x:Nat) (ps:List Nat) (j y t:Nat):Prop where
 at_:ls[j]?=some (y,t)
 go:Goes E ps y
 head:ps.headD y=x
 none:ps=[]->j=i
 some_:ps≠[]->gl<=i
 lt:∀ p∈ps,p<N
 len:ps.length+(j+1 - gl)<=i+1 - gl
theorem Xr{E:Nat->Nat->Prop}{N:Nat}{goal found:Nat->Bool}{ls:List (Nat × Nat)}(hI:pR E N goal ls found){i x j y t:Nat}{ps:List Nat}(h:Dj E N (aG goal N).length ls i x ps j y t)(hj:(aG goal N).length<=j):∃ y' t',t<j/\Dj E N (aG goal N).length ls i x (ps++[y]) t y' t':=by
 obtain⟨h1,h2,b,t',h3,h4⟩:=hI.link j y t hj h.at_;refine⟨b,t',h1,h3,abb h.go h4,?_,λe=>by simp at e,λ_=>?_,λp hp=>?_,?_⟩
 ·rw[rA];exact h.head
 ·by_cases e:ps=[]
  ·rw[<-h.none e];exact hj
  ·exact h.some_ e
 ·rcases aBy.1 hp with hp | hp
  ·exact h.lt p hp
  ·simp at hp;subst hp;exact(hI.lead.ok p h2).1
 ·have:=h.len;rw[aA5];simp;omega
theorem Zf{E:Nat->Nat->Prop}{N:Nat}{goal found:Nat->Bool}{ls:List (Nat × Nat)}(hI:pR E N goal ls found){i x j y t:Nat}{ps:List Nat}(h:Dj E N (aG goal N).length ls i x ps j y t)(hj:j<(aG goal N).length)(hi:i<ls.length):goal y=true/\y<N/\((aG goal N).length<=i->ps≠[])/\(i<(aG goal N).length->ps=[])/\ps.length<=N:=by
 have hp:=hI.pre j _ (aAV hj);rw[h.at_]at hp;cases hp;have hm:(aG goal N)[j]∈aG goal N:=List.getElem_mem hj;have Od:(aG goal N)[j]<N/\goal (aG goal N)[j]=true:=by
  have h9:(aG goal N)[j]∈(List.range N).filter goal:=hm;rw[List.mem_filter,aBI]at h9;exact h9
 refine⟨Od.2,Od.1,λhg e=>?_,λhg=>aBp λe=>?_,?_⟩
 ·have:=h.none e;omega
 ·have:=h.some_ e;omega
 ·have h1:=mJ hI;have h2:=h.len;omega
theorem adF(x g n cap:Nat)(f:Nat->Bool)(w:World)(hn:n<=17179869184)(hf:bU w g (n*256) f)(hg:g<w.heap.size)(hx:x<n*256)(R8:f x=true) :
  Calls Tryz.prog 94 #[.slice (some ⟨g,0,none⟩) n cap,Dx x] w λe w'=>∃ g',e=.returned (.slice (some ⟨g',0,none⟩) n n)/\w.heap.size<=g'/\g'<w'.heap.size/\bU w' g' (n*256) (λy=>decide (y=x))/\Below w.heap.size w w':=by
 have HF:=hid hf;have IN:=hid (λW h1 h2=>aaH x g n cap f W hn h1 h2 hx);rw[R8]at IN;unfold Dx at IN ⊢;have HX:Hid (x / 256*256+x % 256=x):=hid (by omega);have VY:x / 256<n:=by omega
 have Ht:x % 256<256:=Nat.mod_lt _ (by omega);clear hf;generalize x / 256=xa at *;generalize x % 256=xb at *;have ba:=hid ((aAW w.heap.size w).alloc (aAU _) (.cells #[.int .i64 (xa:Nat),.int .u8 (xb:Nat)] 166));have T0:=hid (dD w (.int .i64 (xa:Nat)) (.int .u8 (xb:Nat)) 166);go_enter Tryz.func94,Tryz.ntmps94;go_wp2_with (at_make;go_must (refine iV _ rfl (.tmp 7) rfl n rfl (by omega) ?_));intro w1 F1 iw aM;have T1:=hid (T0.out.below aM (by omega));have aK:=hid (ba.out.trans (aM.mono (by omega)));have PM:=hid F1;have c0:=T1.out.c0;have c1:=T1.out.c1;clear F1 aM T0 ba;go_wp2_with fail;refine(IN.out _ (HF.out.below aK.out hg) (by omega)).mono ?_;rintro e w2 ⟨rfl,ak⟩;have T2:=hid (T1.out.below ak (by omega));have Gv:=hid (PM.out.below ak iw);have aW:=hid (aK.out.trans (ak.mono (by omega)));have lm:=ak.size;clear c0 c1 ak T1 PM aK IN;have c0:=T2.out.c0;have c1:=T2.out.c1;have zo:xa*256+xb<n*256:=by omega
 have q0:=Gv.out.c (xa*256+xb) zo;have q1:=Gv.out.f (xa*256+xb) zo;have D1:=hid (Gv.out.set (xa*256+xb) true);have DB:=hid (aW.out.setCell (p:=⟨w.heap.size+1,xa*256+xb,none⟩) (by show w.heap.size<=w.heap.size+1;omega) (.bool true));have i1:(0:Int)<=(xa:Int):=by omega
 have i2:(xa:Int)<(n:Int):=by omega
 have i3:(0:Int)<=(xb:Int):=by omega
 have i4:(xb:Int)<256:=by omega
 have s0:=(T2.out.other (k:=w.heap.size+1) (o:=xa*256+xb) (by omega) (.bool true)).c0;have s1:=(T2.out.other (k:=w.heap.size+1) (o:=xa*256+xb) (by omega) (.bool true)).c1;go_wp2_with fail
 go_region_held3 (λw'=>w'.cell? ⟨w.heap.size,0,none⟩=some (.int .i64 (xa:Nat))/\w'.cell? ⟨w.heap.size,1,none⟩=some (.int .u8 (xb:Nat)))
  (first
   | go_keep
   | exact⟨s0,s1⟩)
  (fail)
 go_wp2_with fail;go_ret;refine⟨w.heap.size+1,rfl,by omega,by simp;omega,?_,aBd DB.out 1⟩;refine bU.congr (f:=upd (λ_=>false) (xa*256+xb) true) ⟨D1.out.c,D1.out.f⟩ (λy hy=>?_);rw[HX.out];unfold upd;by_cases e:y=x <;> simp[e]
theorem Ch(S i x t:Nat)(E:Nat->Nat->Prop)(N:Nat)(goal found:Nat->Bool)(vf:Value)(ao:Option Addr)(cap:Nat)(ls:List (Nat × Nat))(w:World)(hI:pR E N goal ls found)(hS:Three w S vf (.slice ao ls.length cap) (.int .i64 ((aG goal N).length:Nat)))(hl:xx w ao cap ls)(hN:N<=1099511627776)(dw:ls.length<=2199023255552)(hi:ls[i]?=some (x,t)) :
  Calls Tryz.prog 97 #[.pointer (some ⟨S,0,none⟩),.int .i64 (i:Nat)] w (xK E N (aG goal N).length goal i x w):=by
 have hil:=(aA1.1 hi).1;obtain⟨g,rfl,hg,hc⟩:=hl.row (by omega);have HC:=hid hc;have HS:=hid hS;have Si:=hS.lt;have HII:=hid hI;have hcap:=hl.le;have hmax:=hl.max;have W0I:Hid (Dj E N (aG goal N).length ls i x [] i x t):=hid ⟨hi,trivial,rfl,λ_=>rfl,λh=>absurd rfl h,λp hp=>by simp at hp,by simp⟩;have kz:(aG goal N).length<=ls.length:=hI.gl;have HLG:=hid (mJ hI);obtain⟨i0,tN,aR,aP,aN⟩:=info_parts Tryz.EM;have atf:=hid (λps j y t (h:Dj E N (aG goal N).length ls i x ps j y t) hj=>Zf hI h hj hil);have He:=hid (λps j y t (h:Dj E N (aG goal N).length ls i x ps j y t) hj=>Xr hI h hj);generalize (aG goal N).length=gl at *;have ba:=(aAW w.heap.size w).alloc (aAU _) (.cells #[.slice none 0 0,.int .i64 0,.int .u8 0] 175);have bb:=(aAW (w.heap.size+1) (w.alloc (.cells #[.slice none 0 0,.int .i64 0,.int .u8 0] 175))).alloc (by simp) (.cells #[.slice none 0 0,.int .i64 0,.int .u8 0] 175);have R0:=hid ((dH w (.slice none 0 0) (.int .i64 0) (.int .u8 0) 175).below bb (by omega));have T0:=dH (w.alloc (.cells #[.slice none 0 0,.int .i64 0,.int .u8 0] 175)) (.slice none 0 0) (.int .i64 0) (.int .u8 0) 175;rw[show (w.alloc (.cells #[.slice none 0 0,.int .i64 0,.int .u8 0] 175)).heap.size=w.heap.size+1 by simp]at T0;have HT0:=hid T0;have iQ:=hid (ba.trans (bb.mono (by omega)));clear hc hS hl hi hI ba bb T0;go_enter Tryz.func97,Tryz.ntmps97;go_wp2_with fail;generalize hW:((w.alloc (.cells #[.slice none 0 0,.int .i64 0,.int .u8 0] 175)).alloc (.cells #[.slice none 0 0,.int .i64 0,.int .u8 0] 175))=W at *;have DT:W.heap.size=w.heap.size+2:=by rw[<-hW];simp
 clear hW
 go_loopw [6] (λk wq=>∃ (j y t:Nat) (ps:List Nat) (v:Value),k=.int .i64 j/\Hid (Dj E N gl ls i x ps j y t)/\Hid (Three wq (w.heap.size+1) v (.int .i64 0) (.int .u8 0))/\Hid (wq.ownsRow (w.heap.size+2) 166 2 v ps.length (dn ps))/\Hid (Three wq w.heap.size (.slice none 0 0) (.int .i64 0) (.int .u8 0))/\Hid (Below w.heap.size w wq)/\w.heap.size+2<=wq.heap.size) (λk _=>(intOf k).toNat)
 case atStart=>exact⟨i,x,t,[],_,rfl,W0I,HT0,hid (aBh _ _ _ _),R0,iQ,by omega⟩
 case round=>
  obtain⟨j,y,t',ps,v,rfl,HW,HT,HO,HR,HB,hsz⟩:=hrel;rename World=>W0;clear W0I HT0 R0 iQ;have hjl:=(aA1.1 HW.out.at_).1;obtain⟨k0,k1,k2⟩:=HC.out j _ HW.out.at_;dsimp only at k0 k1 k2;have SB:=HS.out.below HB.out Si;have s1:=SB.c1;have s2:=SB.c2;have UA:Hid (dn (ps++[y])=dn ps++[.int .i64 (y / 256:Nat),.int .u8 (y % 256:Nat)]):=hid (Ia ps y);have UC:Hid (∀ vv,(Value.agg #[vv,.int .i64 (y / 256:Nat),.int .u8 (y % 256:Nat)])=.agg #[vv,.int .i64 (y / 256:Nat),.int .u8 (y % 256:Nat)]):=hid (λ_=>rfl);have HY:Hid (∃ ya yb,y / 256=ya/\y % 256=yb):=hid ⟨_,_,rfl,rfl⟩;generalize Rv:y / 256=ya at *;generalize Bd:y % 256=yb at *;have HYA:=hid (And.intro Rv Bd);clear Rv Bd HY UC;have l0:=(HB.out.cell (p:=⟨g,j*3,none⟩) hg).trans k0;have l1:=(HB.out.cell (p:=⟨g,j*3+1,none⟩) hg).trans k1;have l2:=(HB.out.cell (p:=⟨g,j*3+2,none⟩) hg).trans k2;obtain⟨av,cv,rfl⟩:=ai HO.out;have i1:(j:Int)<(ls.length:Int):=by omega
  have i2:(0:Int)<=(j:Int):=by omega
  clear k0 k1 k2 SB;by_cases Fb:gl<=j
  ·have j1:(gl:Int)<=(j:Int):=by omega
   obtain⟨y2,t2,htj,hW2⟩:=He.out _ _ _ _ HW.out Fb;have BL:=hid hW2;have V3:ps.length<=N:=by
    have h1:=HW.out.len;have h3:=HLG.out;have h4:=hjl;omega
   have p1:=HT.out.c0;have own:=HO.out;have ySl:S<W0.heap.size:=by omega
   have ygl:g<W0.heap.size:=by omega
   have yTl:w.heap.size+1<W0.heap.size:=by omega
   clear hW2 HO;go_wp2_with fail;refine wp_region_held_drew (S:=λw'=>w'.cell? ⟨S,1,none⟩=some (.slice (some ⟨g,0,none⟩) ls.length cap)/\w'.cell? ⟨g,j*3,none⟩=some (.int .i64 (ya:Nat))/\w'.cell? ⟨g,j*3+1,none⟩=some (.int .u8 (yb:Nat))) (by kernel_rfl) ⟨s1,l0,l1⟩ (λau=>?_);refine aA4 (i:=0) (oi:={ dst:=some 24,op:=Op.fieldAddr _ (.tmp 5) 0,type:=_,pos:=_,after:=_,guard:=none }) (v:=(Value.pointer (some ⟨w.heap.size+1,0,none⟩))) rfl (by kernel_rfl) (by kernel_rfl) (by kernel_rfl) (λ_ _ _ h=>h) (aA2 ⟨by rfl,by intro w' af;(try dsimp only at af);go_simp⟩) (by assumption) ?_
   simp only[Act.put,aAT,aAX,aAY];refine aA4 (i:=2) (oi:={ dst:=some 26,op:=Op.move (.tmp 0),type:=_,pos:=_,after:=_,guard:=none }) (v:=(Value.pointer (some ⟨S,0,none⟩))) rfl (by kernel_rfl) (by kernel_rfl) (by kernel_rfl) (λ_ _ _ h=>h) (aA2 ⟨by rfl,by intro w' af;(try dsimp only at af);go_simp⟩) (by assumption) ?_
   simp only[Act.put,aAT,aAX,aAY];refine aA4 (i:=3) (oi:={ dst:=some 27,op:=Op.nilCheck (.tmp 26),type:=_,pos:=_,after:=_,guard:=none }) (v:=(Value.pointer (some ⟨S,0,none⟩))) rfl (by kernel_rfl) (by kernel_rfl) (by kernel_rfl) (λ_ _ _ h=>h) (aA2 ⟨by rfl,by intro w' af;(try dsimp only at af);go_simp⟩) (by assumption) ?_
   simp only[Act.put,aAT,aAX,aAY];refine aA4 (i:=4) (oi:={ dst:=some 28,op:=Op.fieldAddr _ (.tmp 27) 1,type:=_,pos:=_,after:=_,guard:=none }) (v:=(Value.pointer (some ⟨S,1,none⟩))) rfl (by kernel_rfl) (by kernel_rfl) (by kernel_rfl) (λ_ _ _ h=>h) (aA2 ⟨by rfl,by intro w' af;(try dsimp only at af);go_simp⟩) (by assumption) ?_
   simp only[Act.put,aAT,aAX,aAY];refine aA4 (i:=5) (oi:={ dst:=some 29,op:=Op.load _ (.tmp 28),type:=_,pos:=_,after:=_,guard:=none }) (v:=(Value.slice (some ⟨g,0,none⟩) ls.length cap)) rfl (by kernel_rfl) (by kernel_rfl) (by kernel_rfl) (λ_ _ _ h=>h) (aA2 ⟨by rfl,by intro w' af;(try dsimp only at af);go_simp⟩) (by assumption) ?_
   simp only[Act.put,aAT,aAX,aAY];refine aA4 (i:=6) (oi:={ dst:=some 30,op:=Op.move (.tmp 6),type:=_,pos:=_,after:=_,guard:=none }) (v:=(Value.int .i64 (j:Nat))) rfl (by kernel_rfl) (by kernel_rfl) (by kernel_rfl) (λ_ _ _ h=>h) (aA2 ⟨by rfl,by intro w' af;(try dsimp only at af);go_simp⟩) (by assumption) ?_
   simp only[Act.put,aAT,aAX,aAY];refine aA4 (i:=7) (oi:={ dst:=some 31,op:=Op.indexAddr _ (.tmp 29) (.tmp 30),type:=_,pos:=_,after:=_,guard:=none }) (v:=(Value.pointer (some ⟨g,j*3,none⟩))) rfl (by kernel_rfl) (by kernel_rfl) (by kernel_rfl) (λ_ _ _ h=>h) (aA2 ⟨by rfl,by intro w' af;(try dsimp only at af);go_simp⟩) (by assumption) ?_
   simp only[Act.put,aAT,aAX,aAY];refine aA4 (i:=8) (oi:={ dst:=some 32,op:=Op.fieldAddr _ (.tmp 31) 0,type:=_,pos:=_,after:=_,guard:=none }) (v:=(Value.pointer (some ⟨g,j*3,none⟩))) rfl (by kernel_rfl) (by kernel_rfl) (by kernel_rfl) (λ_ _ _ h=>h) (aA2 ⟨by rfl,by intro w' af;(try dsimp only at af);go_simp⟩) (by assumption) ?_
   simp only[Act.put,aAT,aAX,aAY];refine aA4 (i:=9) (oi:={ dst:=some 33,op:=Op.load _ (.tmp 32),type:=_,pos:=_,after:=_,guard:=none }) (v:=(Value.agg #[.int .i64 (ya:Nat),.int .u8 (yb:Nat)])) rfl (by kernel_rfl) (by kernel_rfl) (by kernel_rfl) (λ_ _ _ h=>h) (aA2 ⟨by rfl,by intro w' af;(try dsimp only at af);go_simp⟩) (by assumption) ?_
   simp only[Act.put,aAT,aAX,aAY];refine aBc (rs:=[1,10]) (by kernel_rfl) (by simp) ?_;refine aA7 rfl (λK hK=>?_) (aA7 rfl (λK hK=>?_) aBb)
   ·go_simp
    refine hK.out _ _ (by assumption) (λau=>?_);clear hK K;refine aBc (rs:=[10]) (by kernel_rfl) (by simp) ?_;refine aA7 rfl (λK hK=>?_) aBb
    go_simp
    refine hK.out _ _ ?hs (λau=>?_)
    case hs=>first | go_keep | simp[*] | (refine⟨?_,?_,?_⟩ <;> simp[*])
    clear hK K;refine aBc (rs:=[11]) (by kernel_rfl) (by simp) ?_;refine aA7 rfl (λK hK=>?_) aBb;refine aBN _ (by rfl) (.tmp 25) (.tmp 34) 163 (by rfl) (w.heap.size+2) 166 i0 (.agg #[.int .i64 0,.int .u8 0]) 2 16 Tryz.underlying163 tN aR aP aN rfl (by decide) _ ps.length (dn ps) (by rfl) ((own.alloc _).drew) ⟨W0.heap.size,0,none⟩ 1 1 [.int .i64 (ya:Nat),.int .u8 (yb:Nat)] (by rfl) (by rfl) (World.news_of_block (cs:=#[.int .i64 (ya:Nat),.int .u8 (yb:Nat)]) (t:=166) (fr:=(0,0)) (heap_alloc_new W0 _)) (by simp[Value.oneCell']) (by decide) (by unfold maxLen;omega) (by omega) (by simp;omega) (W0.heap.size+1) (by simp) ?_;intro gg cc w5 hown hgrow hat gu;have bR:Below (w.heap.size+2) W0 w5:=(aBd ((aAW (w.heap.size+2) W0).alloc (by omega) (.cells #[.int .i64 (ya:Nat),.int .u8 (yb:Nat)] 166)) 1).grown hgrow (by show w.heap.size+2<=(W0.alloc (.cells #[.int .i64 (ya:Nat),.int .u8 (yb:Nat)] 166)).heap.size;rw[aAZ];omega) (λx h=>(own.lt x h).1);have t1:=HT.out.below bR (by omega);have r1:=HR.out.below bR (by omega);have T5:=hid (t1.set0 (.slice (some ⟨gg,0,none⟩) (ps.length+1) cc));have R5:=hid (r1.other (k:=w.heap.size+1) (o:=0) (by omega) (.slice (some ⟨gg,0,none⟩) (ps.length+1) cc));have O5:Hid ((w5.setCell ⟨w.heap.size+1,0,none⟩ (.slice (some ⟨gg,0,none⟩) (ps.length+1) cc)).ownsRow (w.heap.size+2) 166 2 (.slice (some ⟨gg,0,none⟩) (ps.length+1) cc) (ps++[y]).length (dn (ps++[y]))):=hid (by rw[UA.out,aA5];exact ax hown (k:=w.heap.size+1) (by omega) 0 (.slice (some ⟨gg,0,none⟩) (ps.length+1) cc));have BB:=hid ((HB.out.trans (bR.mono (by omega))).setCell (p:=⟨w.heap.size+1,0,none⟩) (by show w.heap.size<=w.heap.size+1;omega) (.slice (some ⟨gg,0,none⟩) (ps.length+1) cc));have e1:=(bR.cell (p:=⟨S,1,none⟩) (by show S<w.heap.size+2;omega)).trans s1;have e2:=(bR.cell (p:=⟨g,j*3,none⟩) (by show g<w.heap.size+2;omega)).trans l0;have e3:=(bR.cell (p:=⟨g,j*3+1,none⟩) (by show g<w.heap.size+2;omega)).trans l1;have e4:=(bR.cell (p:=⟨g,j*3+2,none⟩) (by show g<w.heap.size+2;omega)).trans l2;have KS:∀ (b o:Nat) {v:Value},b≠w.heap.size+1->w5.cell? ⟨b,o,none⟩=some v->(w5.setCell ⟨w.heap.size+1,0,none⟩ (.slice (some ⟨gg,0,none⟩) (ps.length+1) cc)).cell? ⟨b,o,none⟩=some v:=λb o v hb hv=>by
     rw[aA0 _ _ _ _ (λe=>hb (by have:=congrArg Addr.block e;simpa using this.symm))];exact hv
    have f1:=KS S 1 (by omega) e1;have f2:=KS g (j*3) (by omega) e2;have f3:=KS g (j*3+1) (by omega) e3;have f4:=KS g (j*3+2) (by omega) e4;have d0:=t1.c0;have d1:=t1.fz 0 (by omega);have ae8:Hid (w.heap.size+2<=(w5.setCell ⟨w.heap.size+1,0,none⟩ (.slice (some ⟨gg,0,none⟩) (ps.length+1) cc)).heap.size):=hid (by have h9:=bR.size;simp;omega);refine hK.out _ _ ⟨e1,e2,e3⟩ (λau=>?_);clear hK K bR hown hgrow hat t1 r1 own KS;simp only[Act.put,aAT];refine aA4 (i:=12) (oi:={ dst:=some 36,op:=Op.fieldAddr _ (.tmp 5) 0,type:=_,pos:=_,after:=_,guard:=none }) (v:=(Value.pointer (some ⟨w.heap.size+1,0,none⟩))) rfl (by kernel_rfl) (by kernel_rfl) (by kernel_rfl) (λ_ _ _ h=>h) (aA2 ⟨by rfl,by intro w' af;(try dsimp only at af);go_simp⟩) (by assumption) ?_
    simp only[Act.put];refine aBc (rs:=[13]) (by kernel_rfl) (by simp) ?_;refine aA7 rfl (λK hK=>?_) aBb
    go_simp
    refine hK.out _ _ ⟨f1,f2,f3⟩ (λau=>?_);clear hK K;refine aBS (by kernel_rfl) ?_ _;clear au e1 e2 e3 e4 d0 d1 s1 s2 l0 l1 l2 p1;generalize (w5.setCell ⟨w.heap.size+1,0,none⟩ (.slice (some ⟨gg,0,none⟩) (ps.length+1) cc))=W5 at *;go_wp2_with fail;go_roundw
    case rel=>exact⟨t',y2,t2,ps++[y],_,rfl,BL,T5,O5,R5,BB,by have h9:=ae8.out;omega⟩
    case measure=>simp[intOf] <;> omega
   ·go_simp
    refine hK.out _ _ ?hs (λau=>?_)
    case hs=>first | go_keep | simp[*] | (refine⟨?_,?_,?_⟩ <;> simp[*])
    clear hK K;refine aBc (rs:=[1]) (by kernel_rfl) (by simp) ?_;refine aA7 rfl (λK hK=>?_) aBb
    go_simp
    refine hK.out _ _ (by assumption) (λau=>?_);clear hK K;refine aBc (rs:=[11]) (by kernel_rfl) (by simp) ?_;refine aA7 rfl (λK hK=>?_) aBb;refine aBN _ (by rfl) (.tmp 25) (.tmp 34) 163 (by rfl) (w.heap.size+2) 166 i0 (.agg #[.int .i64 0,.int .u8 0]) 2 16 Tryz.underlying163 tN aR aP aN rfl (by decide) _ ps.length (dn ps) (by rfl) ((own.alloc _).drew) ⟨W0.heap.size,0,none⟩ 1 1 [.int .i64 (ya:Nat),.int .u8 (yb:Nat)] (by rfl) (by rfl) (World.news_of_block (cs:=#[.int .i64 (ya:Nat),.int .u8 (yb:Nat)]) (t:=166) (fr:=(0,0)) (heap_alloc_new W0 _)) (by simp[Value.oneCell']) (by decide) (by unfold maxLen;omega) (by omega) (by simp;omega) (W0.heap.size+1) (by simp) ?_;intro gg cc w5 hown hgrow hat gu;have bR:Below (w.heap.size+2) W0 w5:=(aBd ((aAW (w.heap.size+2) W0).alloc (by omega) (.cells #[.int .i64 (ya:Nat),.int .u8 (yb:Nat)] 166)) 1).grown hgrow (by show w.heap.size+2<=(W0.alloc (.cells #[.int .i64 (ya:Nat),.int .u8 (yb:Nat)] 166)).heap.size;rw[aAZ];omega) (λx h=>(own.lt x h).1);have t1:=HT.out.below bR (by omega);have r1:=HR.out.below bR (by omega);have T5:=hid (t1.set0 (.slice (some ⟨gg,0,none⟩) (ps.length+1) cc));have R5:=hid (r1.other (k:=w.heap.size+1) (o:=0) (by omega) (.slice (some ⟨gg,0,none⟩) (ps.length+1) cc));have O5:Hid ((w5.setCell ⟨w.heap.size+1,0,none⟩ (.slice (some ⟨gg,0,none⟩) (ps.length+1) cc)).ownsRow (w.heap.size+2) 166 2 (.slice (some ⟨gg,0,none⟩) (ps.length+1) cc) (ps++[y]).length (dn (ps++[y]))):=hid (by rw[UA.out,aA5];exact ax hown (k:=w.heap.size+1) (by omega) 0 (.slice (some ⟨gg,0,none⟩) (ps.length+1) cc));have BB:=hid ((HB.out.trans (bR.mono (by omega))).setCell (p:=⟨w.heap.size+1,0,none⟩) (by show w.heap.size<=w.heap.size+1;omega) (.slice (some ⟨gg,0,none⟩) (ps.length+1) cc));have e1:=(bR.cell (p:=⟨S,1,none⟩) (by show S<w.heap.size+2;omega)).trans s1;have e2:=(bR.cell (p:=⟨g,j*3,none⟩) (by show g<w.heap.size+2;omega)).trans l0;have e3:=(bR.cell (p:=⟨g,j*3+1,none⟩) (by show g<w.heap.size+2;omega)).trans l1;have e4:=(bR.cell (p:=⟨g,j*3+2,none⟩) (by show g<w.heap.size+2;omega)).trans l2;have KS:∀ (b o:Nat) {v:Value},b≠w.heap.size+1->w5.cell? ⟨b,o,none⟩=some v->(w5.setCell ⟨w.heap.size+1,0,none⟩ (.slice (some ⟨gg,0,none⟩) (ps.length+1) cc)).cell? ⟨b,o,none⟩=some v:=λb o v hb hv=>by
     rw[aA0 _ _ _ _ (λe=>hb (by have:=congrArg Addr.block e;simpa using this.symm))];exact hv
    have f1:=KS S 1 (by omega) e1;have f2:=KS g (j*3) (by omega) e2;have f3:=KS g (j*3+1) (by omega) e3;have f4:=KS g (j*3+2) (by omega) e4;have d0:=t1.c0;have d1:=t1.fz 0 (by omega);have ae8:Hid (w.heap.size+2<=(w5.setCell ⟨w.heap.size+1,0,none⟩ (.slice (some ⟨gg,0,none⟩) (ps.length+1) cc)).heap.size):=hid (by have h9:=bR.size;simp;omega);refine hK.out _ _ ⟨e1,e2,e3⟩ (λau=>?_);clear hK K bR hown hgrow hat t1 r1 own KS;simp only[Act.put,aAT];refine aA4 (i:=12) (oi:={ dst:=some 36,op:=Op.fieldAddr _ (.tmp 5) 0,type:=_,pos:=_,after:=_,guard:=none }) (v:=(Value.pointer (some ⟨w.heap.size+1,0,none⟩))) rfl (by kernel_rfl) (by kernel_rfl) (by kernel_rfl) (λ_ _ _ h=>h) (aA2 ⟨by rfl,by intro w' af;(try dsimp only at af);go_simp⟩) (by assumption) ?_
    simp only[Act.put];refine aBc (rs:=[13]) (by kernel_rfl) (by simp) ?_;refine aA7 rfl (λK hK=>?_) aBb
    go_simp
    refine hK.out _ _ ⟨f1,f2,f3⟩ (λau=>?_);clear hK K;refine aBS (by kernel_rfl) ?_ _;clear au e1 e2 e3 e4 d0 d1 s1 s2 l0 l1 l2 p1;generalize (w5.setCell ⟨w.heap.size+1,0,none⟩ (.slice (some ⟨gg,0,none⟩) (ps.length+1) cc))=W5 at *;go_wp2_with fail;go_roundw
    case rel=>exact⟨t',y2,t2,ps++[y],_,rfl,BL,T5,O5,R5,BB,by have h9:=ae8.out;omega⟩
    case measure=>simp[intOf] <;> omega
  ·have j1:decide ((gl:Int)<=(j:Int))=false:=by simp;omega
   have j1n:decide (gl<=j)=false:=by simp;omega
   obtain⟨q1,q2,q3,q4,q5⟩:=atf.out _ _ _ _ HW.out (by omega);have t0:=HT.out.c0;have t1:=HT.out.c1;have t2:=HT.out.c2;have tf1:=HT.out.fz 1 (by omega);have tf2:=HT.out.fz 2 (by omega);have r0:=HR.out.c0;have r1:=HR.out.c1;have r2:=HR.out.c2;have rf0:=HR.out.fz 0 (by omega);have rf1:=HR.out.fz 1 (by omega);have rf2:=HR.out.fz 2 (by omega);have uf:=(HT.out.set1 (.int .i64 (ya:Nat))).set2 (.int .u8 (yb:Nat));have jR:=(HR.out.other (k:=w.heap.size+1) (o:=1) (by omega) (.int .i64 (ya:Nat))).other (k:=w.heap.size+1) (o:=2) (by omega) (.int .u8 (yb:Nat));have OF:=hid (ax (ax HO.out (k:=w.heap.size+1) (by omega) 1 (.int .i64 (ya:Nat))) (k:=w.heap.size+1) (by omega) 2 (.int .u8 (yb:Nat)));have BF:=hid ((HB.out.setCell (p:=⟨w.heap.size+1,1,none⟩) (by show w.heap.size<=w.heap.size+1;omega) (.int .i64 (ya:Nat))).setCell (p:=⟨w.heap.size+1,2,none⟩) (by show w.heap.size<=w.heap.size+1;omega) (.int .u8 (yb:Nat)));have u0:=uf.c0;have u1:=uf.c1;have u2:=uf.c2;have v0:=jR.c0;have v1:=jR.c1;have v2:=jR.c2;have vf0:=jR.fz 0 (by omega);have vf1:=jR.fz 1 (by omega);have vf2:=jR.fz 2 (by omega);clear r0 r1 r2 rf0 rf1 rf2;have HWF:=hid (show ((W0.setCell ⟨w.heap.size+1,1,none⟩ (.int .i64 (ya:Nat))).setCell ⟨w.heap.size+1,2,none⟩ (.int .u8 (yb:Nat)))=((W0.setCell ⟨w.heap.size+1,1,none⟩ (.int .i64 (ya:Nat))).setCell ⟨w.heap.size+1,2,none⟩ (.int .u8 (yb:Nat))) from rfl);go_wp2_with fail;refine zf (cs:=[.slice av ps.length cv,.int .i64 (ya:Nat),.int .u8 (yb:Nat)]) (b:=w.heap.size) Tryz.results97 ?_ ?_ ?_ Tryz.underlying175 rfl Tryz.acR ?_
   ·rfl
   ·rfl
   ·exact Ng v0 v1 v2 _ _ _
   ·unfold xK;refine⟨ps,y,_,by rw[HYA.out.1,HYA.out.2],?_,HW.out.go,q3,q4,HW.out.head,q1,q2,HW.out.lt,q5,?_⟩
    ·exact bJ (ax (ax (ax OF.out (k:=w.heap.size) (by omega) 0 _) (k:=w.heap.size) (by omega) 1 _) (k:=w.heap.size) (by omega) 2 _) (by omega)
    ·exact((BF.out.setCell (p:=⟨w.heap.size,0,none⟩) (aAU _) _).setCell (p:=⟨w.heap.size,1,none⟩) (aAU _) _).setCell (p:=⟨w.heap.size,2,none⟩) (aAU _) _
