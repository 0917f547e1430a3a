import Derived.Test.YtjagijohfkffiabGreatFREM49
set_option maxHeartbeats 16000000
set_option maxRecDepth 100000
set_option linter.unusedSimpArgs false
namespace Go.Proofs.YtjagijohfkffiabGreat
open Go.RowKit
set_option linter.unusedVariables false
def QF(ag:List (List Int))(gs:Nat->Nat)(i:Nat):Value:=.slice (some ⟨gs i,0,none⟩) (ag.getD i []).length ((ag.getD i []).length+2)
def mE(p:Nat):Value:=.slice (some ⟨p,0,none⟩) 1 1
def wJ(ag:List (List Int))(gs:Nat->Nat)(j:Nat):List Value:=(List.range j).map (QF ag gs)
theorem jB(ag:List (List Int))(gs:Nat->Nat)(j:Nat):(wJ ag gs j).length=j:=by simp[wJ]
theorem VB{ag:List (List Int)}{gs:Nat->Nat}{i j:Nat}(h:i<j):(wJ ag gs j)[i]?=some (QF ag gs i):=by simp[wJ,aBk,aBx h]
theorem QG{ag:List (List Int)}{gs:Nat->Nat}{j g:Nat}:wJ ag (λi=>if i=j then g else gs i) (j+1)=wJ ag gs j++[.slice (some ⟨g,0,none⟩) (ag.getD j []).length ((ag.getD j []).length+2)]:=by
 unfold wJ;rw[aBL,aBE];congr 1
 ·refine aBP λi hi=>?_;rw[aBI]at hi;unfold QF;dsimp only;rw[aBT (by omega)]
 ·simp[QF]
structure lg (w:World) (B G l:Nat) (ag:List (List Int)) (gs:Nat->Nat) (p1 p2:Nat) (vO:Value):Prop where
 hlen:ag.length=l
 blk:w.heap[G]?=some (.cells (wJ ag gs l++[mE p1,mE p2]).toArray 22 (0,0))
 rows:∀ i,i<l->B<=gs i/\iD w (gs i) (ag.getD i []).length (ag.getD i [])
 q1:w.heap[p1]?=some (.cells #[.int .i64 77] 3 (0,0))
 q2:w.heap[p2]?=some (.cells #[.int .i64 77] 3 (0,0))
 own:w.ownsRow B 22 1 vO l (wJ ag gs l)
theorem sG{w:World}{q:Nat}{o:Obj}(h:w.heap[q]?=some o):q<w.heap.size:=(aBm.1 h).1
theorem lg.below{w w':World}{B G l:Nat}{ag:List (List Int)}{gs:Nat->Nat}{p1 p2:Nat}{vO:Value}(h:lg w B G l ag gs p1 p2 vO)(hb:Below w.heap.size w w'):lg w' B G l ag gs p1 p2 vO:=
 ⟨h.hlen,(hb.block G (sG h.blk)).trans h.blk,λi hi=>⟨(h.rows i hi).1,(h.rows i hi).2.below hb⟩,(hb.block p1 (sG h.q1)).trans h.q1,(hb.block p2 (sG h.q2)).trans h.q2,ae h.own hb⟩
theorem lg.cell{w:World}{B G l:Nat}{ag:List (List Int)}{gs:Nat->Nat}{p1 p2:Nat}{vO:Value}(h:lg w B G l ag gs p1 p2 vO){i:Nat}(hi:i<l):w.cell? ⟨G,i,none⟩=some (QF ag gs i):=by
 rw[iO h.blk,List.getElem?_toArray,aA9 (by rw[jB];exact hi),VB hi]
theorem lg.c1{w:World}{B G l:Nat}{ag:List (List Int)}{gs:Nat->Nat}{p1 p2:Nat}{vO:Value}(h:lg w B G l ag gs p1 p2 vO):w.cell? ⟨G,l,none⟩=some (mE p1):=by
 rw[iO h.blk,List.getElem?_toArray,aBa (by rw[jB];exact aAU _),jB];simp
theorem lg.c2{w:World}{B G l:Nat}{ag:List (List Int)}{gs:Nat->Nat}{p1 p2:Nat}{vO:Value}(h:lg w B G l ag gs p1 p2 vO):w.cell? ⟨G,l+1,none⟩=some (mE p2):=by
 rw[iO h.blk,List.getElem?_toArray,aBa (by rw[jB];omega),jB];simp
theorem lg.lists{w:World}{B G l:Nat}{ag:List (List Int)}{gs:Nat->Nat}{p1 p2:Nat}{vO:Value}(h:lg w B G l ag gs p1 p2 vO)(hm:l<=2097152)(hr:∀ i,i<l->(ag.getD i []).length<=2097152):Lists w (some ⟨G,0,none⟩) l (l+2) ag:=
 ⟨h.hlen,by omega,by omega,λe=>by simp at e,λ_=>⟨G,0,rfl,sG h.blk,λi hi=>⟨some ⟨gs i,0,none⟩,(ag.getD i []).length,(ag.getD i []).length+2,by rw[aBo];exact h.cell hi,(h.rows i hi).2.ints (hr i hi)⟩⟩⟩
theorem xZ{w:World}{B n g l:Nat}{v:Value}{xs:List Value}{zs:List Int}(ho:w.ownsRow B 22 1 v n xs)(hs:iD w g l zs):some g≠v.ownBlock:=λe=>by
 rcases ho.2 with⟨hv,_⟩ | ⟨g',cap,cur,hv,_,hh,_⟩
 ·rw[hv]at e;simp[Value.ownBlock]at e
 ·rw[hv]at e;simp[Value.ownBlock]at e;subst e;rw[hs.blk]at hh;simp at hh
theorem ZY{B:Nat}{e:TypeId}{k:Nat}{v:Value}{n:Nat}{xs:List Value}{w w':World}(h:w.ownsRow B e k v n xs)(hk:∀ q,B<=q->q<w.heap.size->w'.heap[q]?=w.heap[q]?):w'.ownsRow B e k v n xs:=by
 refine⟨h.1,?_⟩;rcases h.2 with hn | ⟨g,cap,cur,rfl,hb,Hy,rest⟩
 ·exact .inl hn
 ·exact .inr ⟨g,cap,cur,rfl,hb,(hk g hb (sG Hy)).trans Hy,rest⟩
def Ps(l:Nat)(ag:List (List Int))(w:World)(e:Ending)(w':World):Prop:=∃ (gs:Nat->Nat) (p1 p2:Nat) (vO:Value),e=.returned (.tuple #[.slice (some ⟨w.heap.size,0,none⟩) l (l+2),vO])/\lg w' w.heap.size w.heap.size l ag gs p1 p2 vO/\Below w.heap.size w w'
theorem set_mid{A R:List Value}{x v:Value}{j:Nat}(h:A.length=j):(A++x::R).set j v=A++v::R:=by
 subst h;rw[List.set_append_right _ _ (aAU _)];simp
theorem aap(a:Option Addr)(l c:Nat)(ag:List (List Int))(w:World)(h:Lists w a l c ag)(RP:l<=1048576)(hr:∀ i,i<l->(ag.getD i []).length<=1048576) :
  Calls Tryz.prog 6 #[.slice a l c] w (Ps l ag w):=by
 have L:=h.hlen;have hc:=h.hcap;have hm:=h.hmax;have HI:=hid h;obtain⟨i0,hi,aR,aP,aN⟩:=info_parts Tryz.Je;have wl:Hid ((l:Int)+2=((l+2:Nat):Int)):=hid (by omega);have HR:=hid hr;have HL:=hid L;clear h hr L;go_enter Tryz.func6,Tryz.ntmps6;go_wp2_with (at_make;go_must (refine aBA _ rfl (.tmp 12) (.tmp 12) 23 rfl w.heap.size 22 i0 (.slice none 0 0) 1 Tryz.underlying23 hi aR aP .i64 .i64 _ _ (l+2) rfl rfl ?m0 ?m1 ?m2 ?m3 (aAU _) ?_))
 case m0=>first | exact wl.out | simp | omega
 case m1=>first | exact wl.out | simp | omega
 case m2=>rw[aN];omega
 case m3=>unfold maxLen;omega
 intro w1 aF aZ;have b1:Below w.heap.size w w1:=(aAW _ _).grown aZ (aAU _) (λk h=>by cases h);have aM:=NC aF;rw[aBq]at aM;have aK:=hid b1;have HS1:=hid aM;have iw:=sG aM;clear aF aZ b1 aM;go_wp2_with fail
 go_loopw [6,7] (λv i wq=>∃ (j:Nat) (vL:Value) (gs:Nat->Nat),j<=l/\vL=v/\i=.int .i64 j/\Hid (wq.heap[w.heap.size]?=some (.cells (wJ ag gs j++List.replicate (l+2 - j) (Value.slice none 0 0)).toArray 22 (0,0))) /\
   Hid (∀ i,i<j->w.heap.size+1<=gs i/\iD wq (gs i) (ag.getD i []).length (ag.getD i []))/\Hid (wq.ownsRow (w.heap.size+1) 22 1 vL j (wJ ag gs j))/\Hid (Below w.heap.size w wq)) (λ_ i _=>l - (intOf i).toNat)
 case atStart=>exact⟨0,_,λ_=>0,aA8 _,rfl,rfl,hid (by simpa [wJ] using HS1.out),hid (λi h=>by omega),hid (aBh _ _ _ _),aK⟩
 case round=>
  clear aK HS1 iw;obtain⟨j,vL,gs,hj,rfl,rfl,HG,Ir,HO,HB⟩:=hrel;rename World=>W0;have hlt:=sG HG.out;by_cases eQ:j<l
  ·obtain⟨b,o,e,hb,hcl⟩:=(HI.out.below HB.out).hcell (by omega);subst e;obtain⟨ra,rl,rc,cr,DL⟩:=hcl j eQ;have vG:=DL.hlen;have hrm:=HR.out j eQ;have NU:=hid (yh ra rl rc (ag.getD j []) W0 DL (by omega));have rM:=hid vG;have i1:(0:Int)<=(j:Int):=by omega
   have i2:(j:Int)<(l:Int):=by omega
   have i3:(j:Int)<(l:Int)+2:=by omega
   have ajW:rl<=1048576:=by omega
   clear hcl DL vG hrm;go_wp2_with fail;refine NU.out.mono ?_;rintro e w2 ⟨rfl,Wn,b2⟩;have lm:=b2.size;have Sm:=(b2.block w.heap.size hlt).trans HG.out;have Rz:List.replicate (l+2 - j) (Value.slice none 0 0)=Value.slice none 0 0::List.replicate (l+2 - (j+1)) (Value.slice none 0 0):=by
    rw[show l+2 - j=(l+2 - (j+1))+1 by omega];rfl
   rw[Rz]at Sm;have cG:w2.cell? ⟨w.heap.size,j,none⟩=some (Value.slice none 0 0):=by
    rw[iO Sm,List.getElem?_toArray,aBa (by rw[jB];exact aAU _),jB];simp
   have fG:w2.frozen? ⟨w.heap.size,j,none⟩=false:=o7 Sm;have hG3:=kw (o:=j) Sm (Value.slice (some ⟨W0.heap.size,0,none⟩) rl (rl+2));rw[aAT,set_mid (jB ag gs j)]at hG3;have HG3:=hid hG3;have HS2:=hid Wn;have kz:=Wn.lt;have dR:=ax (ae HO.out b2) (k:=w.heap.size) (by omega) j (Value.slice (some ⟨W0.heap.size,0,none⟩) rl (rl+2));have alZ:=hid (λi (hi:i<j)=>(⟨(Ir.out i hi).1,((Ir.out i hi).2.below b2).same (aBv _ _ _ _ (by show gs i≠w.heap.size;have:=(Ir.out i hi).1;omega))⟩:w.heap.size+1<=gs i/\iD (w2.setCell ⟨w.heap.size,j,none⟩ (Value.slice (some ⟨W0.heap.size,0,none⟩) rl (rl+2))) (gs i) (ag.getD i []).length (ag.getD i [])));have wR:=hid (Wn.same (aBv w2 ⟨w.heap.size,j,none⟩ (Value.slice (some ⟨W0.heap.size,0,none⟩) rl (rl+2)) W0.heap.size (by show W0.heap.size≠w.heap.size;omega)));have cu:=hid ((HB.out.trans (b2.mono HB.out.size)).setCell (p:=⟨w.heap.size,j,none⟩) (aAU _) (Value.slice (some ⟨W0.heap.size,0,none⟩) rl (rl+2)));clear Sm hG3 Wn b2 NU HG Ir HO HB Rz cr;go_wp2_with (at_builtin;go_must (refine wpList_append_own _ rfl (.tmp 28) (.tmp 30) 23 rfl (w.heap.size+1) 22 i0 (.slice none 0 0) 1 24 Tryz.underlying23 hi aR aP aN rfl (by decide) _ _ _ rfl (dR.alloc _) ⟨w2.heap.size,0,none⟩ 1 1 [.slice (some ⟨W0.heap.size,0,none⟩) rl (rl+2)] rfl rfl ?d1 ?d2 ?d3 ?d4 ?d5 ?_))
   case d1=>exact λm u h=>by have:=eu (w2.setCell ⟨w.heap.size,j,none⟩ (Value.slice (some ⟨W0.heap.size,0,none⟩) rl (rl+2))) [.slice (some ⟨W0.heap.size,0,none⟩) rl (rl+2)] 22 m u h;rw[aBj]at this;exact this
   case d2=>intro u hu;simp at hu;subst hu;rfl
   case d3=>unfold maxLen;omega
   case d4=>omega
   case d5=>simp;omega
   intro v' w3 ku sK _;have anh:=dR.alloc (.cells #[.slice (some ⟨W0.heap.size,0,none⟩) rl (rl+2)] 22);have kp:∀ q,q<(w2.setCell ⟨w.heap.size,j,none⟩ (Value.slice (some ⟨W0.heap.size,0,none⟩) rl (rl+2))).heap.size->some q≠vL.ownBlock->w3.heap[q]?=(w2.setCell ⟨w.heap.size,j,none⟩ (Value.slice (some ⟨W0.heap.size,0,none⟩) rl (rl+2))).heap[q]?:=λq h1 h2=>
    (sK.block q (by rw[aAZ];omega) h2).trans (aBl _ _ _ h1)
   have HG4:Hid (w3.heap[w.heap.size]?=some (.cells (wJ ag (λi=>if i=j then W0.heap.size else gs i) (j+1)++List.replicate (l+2 - (j+1)) (Value.slice none 0 0)).toArray 22 (0,0))):=hid (by
    rw[kp w.heap.size (sG HG3.out) (λe=>by have:=(dR.lt _ e.symm).1;omega),HG3.out,QG,rM.out];simp)
   have asJ:Hid (∀ i,i<j+1->w.heap.size+1<=(if i=j then W0.heap.size else gs i)/\iD w3 (if i=j then W0.heap.size else gs i) (ag.getD i []).length (ag.getD i [])):=hid (λi hi=>by
    by_cases e:i=j
    ·subst e;rw[aBU rfl,rM.out];exact⟨by omega,wR.out.same (kp _ wR.out.lt (xZ dR wR.out))⟩
    ·rw[aBT e];have:=alZ.out i (by omega);exact⟨this.1,this.2.same (kp _ this.2.lt (xZ dR this.2))⟩)
   have Iw:Hid (w3.ownsRow (w.heap.size+1) 22 1 v' (j+1) (wJ ag (λi=>if i=j then W0.heap.size else gs i) (j+1))):=hid (by
    rw[QG,rM.out];exact ku)
   have iN:=hid ((cu.out.alloc (by rw[aBj];omega) _).grown sK (by rw[aAZ,aBj];omega) (λk h=>by have:=(dR.lt k h).1;omega));clear dR anh ku sK kp HG3 alZ HS2 wR cu;go_wp2_with fail;go_roundw
   case rel=>exact⟨j+1,_,_,by omega,rfl,by go_num,HG4,asJ,Iw,iN⟩
   case measure=>simp[intOf];omega
  ·obtain rfl:l=j:=by omega
   have Sn:=HG.out;rw[show l+2 - l=2 by omega,show List.replicate 2 (Value.slice none 0 0)=[Value.slice none 0 0,Value.slice none 0 0] from rfl]at Sn;have c0:W0.cell? ⟨w.heap.size,l,none⟩=some (Value.slice none 0 0):=by
    rw[iO Sn,List.getElem?_toArray,aBa (by rw[jB];exact aAU _),jB];simp
   have c1:W0.cell? ⟨w.heap.size,l+1,none⟩=some (Value.slice none 0 0):=by
    rw[iO Sn,List.getElem?_toArray,aBa (by rw[jB];omega),jB];simp
   have f0:W0.frozen? ⟨w.heap.size,l,none⟩=false:=o7 Sn;have f1:W0.frozen? ⟨w.heap.size,l+1,none⟩=false:=o7 Sn;have hGb:=kw (o:=l) Sn (mE W0.heap.size);rw[aAT,set_mid (jB ag gs l)]at hGb;have hGd:=kw (o:=l+1) hGb (mE (W0.heap.size+1));have ak4:(wJ ag gs l++mE W0.heap.size::[Value.slice none 0 0]).set (l+1) (mE (W0.heap.size+1))=wJ ag gs l++[mE W0.heap.size,mE (W0.heap.size+1)]:=by
    rw[List.set_append_right _ _ (by rw[jB];omega),jB];simp
   rw[aAT,ak4]at hGd;have aN:((W0.setCell ⟨w.heap.size,l,none⟩ (mE W0.heap.size)).setCell ⟨w.heap.size,l+1,none⟩ (mE (W0.heap.size+1))).heap.size=W0.heap.size:=by simp
   have Ki:(((W0.setCell ⟨w.heap.size,l,none⟩ (mE W0.heap.size)).setCell ⟨w.heap.size,l+1,none⟩ (mE (W0.heap.size+1))).alloc (.cells #[.int .i64 77] 3)).heap.size=W0.heap.size+1:=by simp
   have kq:∀ q,q<W0.heap.size->q≠w.heap.size->((((W0.setCell ⟨w.heap.size,l,none⟩ (mE W0.heap.size)).setCell ⟨w.heap.size,l+1,none⟩ (mE (W0.heap.size+1))).alloc (.cells #[.int .i64 77] 3)).alloc (.cells #[.int .i64 77] 3)).heap[q]?=W0.heap[q]?:=λq h1 h2=>by
    rw[aBl _ _ _ (by omega),aBl _ _ _ (by omega),aBv _ _ _ _ h2,aBv _ _ _ _ h2]
   have ug:Hid (lg ((((W0.setCell ⟨w.heap.size,l,none⟩ (mE W0.heap.size)).setCell ⟨w.heap.size,l+1,none⟩ (mE (W0.heap.size+1))).alloc (.cells #[.int .i64 77] 3)).alloc (.cells #[.int .i64 77] 3)) w.heap.size w.heap.size l ag gs W0.heap.size (W0.heap.size+1) vL):=hid (by
    refine⟨HL.out,?_,λi hi=>?_,?_,?_,?_⟩
    ·rw[aBl _ _ _ (by omega),aBl _ _ _ (by omega)];exact hGd
    ·have:=Ir.out i hi;exact⟨by omega,this.2.same (kq _ this.2.lt (by omega))⟩
    ·rw[aBl _ _ _ (by omega)];have last2:=heap_alloc_last ((W0.setCell ⟨w.heap.size,l,none⟩ (mE W0.heap.size)).setCell ⟨w.heap.size,l+1,none⟩ (mE (W0.heap.size+1))) (.cells #[.int .i64 77] 3);rw[aN]at last2;exact last2
    ·have last3:=heap_alloc_last (((W0.setCell ⟨w.heap.size,l,none⟩ (mE W0.heap.size)).setCell ⟨w.heap.size,l+1,none⟩ (mE (W0.heap.size+1))).alloc (.cells #[.int .i64 77] 3)) (.cells #[.int .i64 77] 3);rw[Ki]at last3;exact last3
    ·exact bJ (ZY HO.out λq h1 h2=>kq q h2 (by omega)) (Nat.le_succ _))
   have HBZ:=hid ((((HB.out.setCell (p:=⟨w.heap.size,l,none⟩) (aAU _) (mE W0.heap.size)).setCell (p:=⟨w.heap.size,l+1,none⟩) (aAU _) (mE (W0.heap.size+1))).alloc (by omega) (.cells #[.int .i64 77] 3)).alloc (by omega) (.cells #[.int .i64 77] 3));unfold mE at ug HBZ;have d0:(0:Int)<=(l:Int):=by omega
   have d1:(l:Int)<(l:Int)+2:=by omega
   have d2:(l:Int)+1<(l:Int)+2:=by omega
   have d3:(0:Int)<=(l:Int)+1:=by omega
   have d4:(l:Int)<=(l:Int)+2:=by omega
   have Gx:Hid (∀ W',lg W' w.heap.size w.heap.size l ag gs W0.heap.size (W0.heap.size+1) vL->Below w.heap.size w W'->Ps l ag w (.returned (.tuple #[.slice (some ⟨w.heap.size,0,none⟩) l (l+2),vL])) W'):=hid (λW' h1 h2=>⟨gs,_,_,vL,rfl,h1,h2⟩);clear Sn hGb hGd kq ak4 HG Ir HO HB aN Ki;go_wp2_with fail
   go_ret2
   exact Gx.out _ ug.out HBZ.out
theorem adg{cs:Array Value}{u v:Value}(h:cs[0]?=some u):(cs.setIfInBounds 0 v).setIfInBounds 0 u=cs:=by
 cases cs with
 | mk l=>
  cases l with
  | nil=>simp at h
  | cons a t=>
   simp at h;subst h;simp
theorem YD{zs:List Int}(h:0<zs.length):((zs.map (Value.int .i64)++[Value.int .i64 77,Value.int .i64 77]).toArray)[0]?=some (.int .i64 (zs.getD 0 0)):=by
 cases zs with
 | nil=>simp at h
 | cons a t=>simp
theorem XC{w wq W:World}{g:Nat}{cs:Array Value}{t:TypeId}{u v:Value}(hb:Below w.heap.size w wq)(hblk:w.heap[g]?=some (.cells cs t (0,0)))(h0:cs[0]?=some u)
  (ho:W.os=wq.os) (ht:W.tape=wq.tape) (hp:W.output=wq.output) (hh:W.heap=((wq.setCell ⟨g,0,none⟩ v).setCell ⟨g,0,none⟩ u).heap):Below w.heap.size w W:=by
 refine⟨ho.trans hb.os,ht.trans hb.tape,hp.trans hb.output,by rw[hh];simpa using hb.size,λq hq=>?_⟩;rw[hh];by_cases e:q=g
 ·subst e;have h1:=(hb.block q hq).trans hblk;rw[kw (kw h1 v) u,adg h0,hblk]
 ·rw[aBv _ _ _ _ e,aBv _ _ _ _ e];exact hb.block q hq
theorem Mj(B G l c:Nat)(a:Option Addr)(ag:List (List Int))(gs:Nat->Nat)(p1 p2:Nat)(vO:Value)(w0 w:World)(hA:Lists w0 a l c ag)(hb0:Below w0.heap.size w0 w)(hB:w0.heap.size<=B)(hS:lg w B G l ag gs p1 p2 vO)(RP:l<=1048576)(hr:∀ i,i<l->(ag.getD i []).length<=1048576) :
  Calls Tryz.prog 9 #[.slice (some ⟨G,0,none⟩) l (l+2),vO,.slice a l c] w λe w'=>e=.returned (.bool true)/\Below w.heap.size w w':=by
 have hc:=hA.hcap;have hm:=hA.hmax;have hI:=hA.below hb0;have SL:=hid (Dy (some ⟨G,0,none⟩) a l (l+2) c ag w (hS.lists (by omega) (λi hi=>by have:=hr i hi;omega)) hI);have HS:=hid hS;have HA:=hid hA;have iQ:=hid hb0;have HR:=hid hr;obtain⟨tX,wC,eO⟩:=ai hS.own;subst eO;have hcO:l<=wC/\wC<=9223372036854775807:=by
  rcases hS.own.2 with⟨e,h0⟩ | ⟨g,cap,cur,e,_,_,h1,h2,_⟩
  ·cases e;omega
  ·cases e;unfold maxLen at h2;omega
 clear hA hb0 hr hS hI;go_enter Tryz.func9,Tryz.ntmps9;go_wp2_with fail;refine SL.out.mono ?_;rintro e w1 ⟨rfl,nq,rfl⟩;have aK:=hid (aBd (aAW w.heap.size w) nq);generalize w.drewN nq=w1 at *;clear SL;go_wp2_with fail
 go_loopw [9] (λi wq=>∃ j:Nat,j<=l/\i=.int .i64 j/\Hid (Below w.heap.size w wq)) (λi _=>l - (intOf i).toNat)
 case atStart=>exact⟨0,aA8 _,rfl,aK⟩
 case round=>
  clear aK;obtain⟨j,hj,rfl,HB⟩:=hrel;rename World=>W0;by_cases eQ:j<l
  ·have af:=HS.out.below HB.out;obtain⟨gO,eO,hBO,Kq,ayd⟩:=dX af.own (by omega);subst eO;have cO:W0.cell? ⟨gO,j,none⟩=some (QF ag gs j):=by
    rw[af.own.cellAt j (by omega)];exact VB eQ
   have cG:=af.cell eQ;obtain⟨hBg,Oo⟩:=af.rows j eQ;obtain⟨b,o,e,hb,hcl⟩:=HA.out.hcell (by omega);subst e;obtain⟨ra,rl,rc,cr0,Mo⟩:=hcl j eQ;have TL:=iQ.out.trans (HB.out.mono iQ.out.size);have cr:=(TL.cell (p:=⟨b,o+j,none⟩) hb).trans cr0;have DL:=Mo.below TL;have vG:=Mo.hlen;have hrm:=HR.out j eQ;have hrc:=Mo.hcap;have hrx:=Mo.hmax;have hOg:gO≠gs j:=λe=>by
    have h9:=xZ af.own Oo;rw[<-e]at h9;exact h9 rfl
   have hGg:G≠gs j:=λe=>by
    have h9:=af.blk;rw[e,Oo.blk]at h9;simp at h9
   have amW:=hid (HS.out.rows j eQ).2;have HFZ:=hid (Oo.fz 0);have HC0:=hid (λ(h:0<(ag.getD j []).length)=>Oo.c 0 h);unfold QF at cO cG;rw[vG]at cO cG Oo hrm HC0 amW;have NS:=hid (qH (gs j) ra rl rc (ag.getD j []) W0.drew (Oo.same rfl) DL.drew (by omega));have HRI:=hid Mo;have Uz:=hid Kq;have Fb:=Oo.lt;have hbW:b<W0.heap.size:=by have:=TL.size;omega
   have hGW:=sG af.blk;clear hcl af Oo DL Mo cr0;generalize Hy:gs j=g at *;have i1:(0:Int)<=(j:Int):=by omega
   have i2:(j:Int)<(l:Int):=by omega
   go_wp2_with fail
   go_region_with (go_at_call 8;go_must (refine NS.out.mono ?_;rintro e w2 ⟨rfl,b2⟩))
   all_goals
    have ak:=sP b2;have aW:=hid (HB.out.trans (ak.mono HB.out.size));have cO2:=(ak.cell (p:=⟨gO,j,none⟩) Kq).trans cO;have cG2:=(ak.cell (p:=⟨G,j,none⟩) hGW).trans cG;have cr2:=(ak.cell (p:=⟨b,o+j,none⟩) hbW).trans cr;have Gv:=hid ((ak.frozen (p:=⟨g,0,none⟩) Fb).trans HFZ.out);have UE:=hid (λ(h:0<rl)=>(ak.cell (p:=⟨g,0,none⟩) Fb).trans (HC0.out h));have atm:=hid (TL.trans (ak.mono TL.size));clear b2 ak cO cG cr NS HB HFZ HC0;by_cases hz:rl=0
    ·have z0:decide ((0:Int)<(rl:Int))=false:=by simp;omega
     have z0n:decide (0<rl)=false:=by simp;omega
     go_wp2_with fail;go_roundw
     case rel=>exact⟨j+1,by omega,by go_num,aW⟩
     case measure=>simp[intOf];omega
    ·have z0:(0:Int)<(rl:Int):=by omega
     have z0n:0<rl:=by omega
     obtain⟨b',o',e',hb',oW⟩:=HRI.out.hcell (by omega);subst e';have ca:=(atm.out.cell (p:=⟨b',o'+0,none⟩) hb').trans (oW 0 z0n);rw[Nat.add_zero]at ca;have c0:=UE.out z0n;have f0:=Gv.out;have hne:b'≠g:=by omega
     have Ol:b≠g:=by omega
     have HU:Hid ((((ag.getD j []).map (Value.int .i64)++[Value.int .i64 77,Value.int .i64 77]).toArray)[0]?=some (.int .i64 ((ag.getD j []).getD 0 0))):=hid (YD (by rw[vG];exact z0n));have cO3:∀ x,(w2.setCell ⟨g,0,none⟩ x).cell? ⟨gO,j,none⟩=some (Value.slice (some ⟨g,0,none⟩) rl (rl+2)):=λx=>by rw[aA0 _ _ _ _ (λe=>hOg (congrArg Addr.block e).symm)];exact cO2
     have cG3:∀ x,(w2.setCell ⟨g,0,none⟩ x).cell? ⟨G,j,none⟩=some (Value.slice (some ⟨g,0,none⟩) rl (rl+2)):=λx=>by rw[aA0 _ _ _ _ (λe=>hGg (congrArg Addr.block e).symm)];exact cG2
     have cr3:∀ x,(w2.setCell ⟨g,0,none⟩ x).cell? ⟨b,o+j,none⟩=some (Value.slice (some ⟨b',o',none⟩) rl rc):=λx=>by rw[aA0 _ _ _ _ (λe=>Ol (congrArg Addr.block e).symm)];exact cr2
     have ca3:∀ x,(w2.setCell ⟨g,0,none⟩ x).cell? ⟨b',o',none⟩=some (.int .i64 ((ag.getD j []).getD 0 0)):=λx=>by rw[aA0 _ _ _ _ (λe=>hne (congrArg Addr.block e).symm)];exact ca
     generalize (ag.getD j []).getD 0 0=z at *;have Gx:=hid (λW=>@XC w w2 W g _ _ (.int .i64 z) (.int .i64 (78+j)) aW.out amW.out.blk HU.out);clear oW;go_wp2_with fail
     go_region
     all_goals
      go_wp2_with fail;go_roundw
      case rel=>exact⟨j+1,by omega,by go_num,Gx.out _ rfl rfl rfl rfl⟩
      case measure=>simp[intOf];omega
  ·obtain rfl:l=j:=by omega
   have af:=HS.out.below HB.out;have c1:=af.c1;have c2:=af.c2;have d1:W0.cell? ⟨p1,0,none⟩=some (.int .i64 77):=by rw[iO af.q1];rfl
   have d2:W0.cell? ⟨p2,0,none⟩=some (.int .i64 77):=by rw[iO af.q2];rfl
   unfold mE at c1 c2;have e0:(0:Int)<=(l:Int):=by omega
   have e1:(l:Int)<(l:Int)+2:=by omega
   have e2:(l:Int)+1<(l:Int)+2:=by omega
   have e3:(0:Int)<=(l:Int)+1:=by omega
   have e4:(0:Int)<=(l:Int)+2:=by omega
   clear af;go_wp2_with fail;go_ret;exact⟨rfl,HB.out⟩
section
variable (s1 s2:ByteArray) (a5 a6 a7:Option Addr) (l5 c5 l6 c6 l7 c7:Nat) (zs:List Int) (M3:List (List Int)) (ss:List Int) (w:World)
theorem abf(EW:s1.size<=maxLen)(Od:s2.size<=1048576)(h5:Ints w a5 l5 c5 zs)(h6:Lists w a6 l6 c6 M3)(h7:Ints w a7 l7 c7 ss)(n5:l5<=1048576)(n6:l6<=1048576)(n7:l7<=1048576)(r6:∀ i,i<l6->(M3.getD i []).length<=1048576) :
  Calls Tryz.prog 3 #[.string s1,.string s2,.agg #[.slice a5 l5 c5,.slice a6 l6 c6,.slice a7 l7 c7]] w λe w'=>e=.returned (.bool true)/\Below w.heap.size w w':=by
 have H5:=hid h5;have H6:=hid h6;have H7:=hid h7;have R6:=hid r6;have BR:=hid EW;have uh:=hid Od;have ba:=(aAW w.heap.size w).alloc (aAU _) (.cells #[.slice a5 l5 c5,.slice a6 l6 c6,.slice a7 l7 c7] 25);have BW:=hid ba;have TG:=hid (dH w (.slice a5 l5 c5) (.slice a6 l6 c6) (.slice a7 l7 c7) 25);clear h5 h6 h7 r6 EW Od ba;have t0:=TG.out.c0;have t1:=TG.out.c1;have t2:=TG.out.c2;go_enter Tryz.func3,Tryz.ntmps3;go_wp2_with fail;generalize (w.alloc (.cells #[.slice a5 l5 c5,.slice a6 l6 c6,.slice a7 l7 c7] 25))=W at *;refine(yh a5 l5 c5 zs W (H5.out.below BW.out) n5).mono ?_;rintro e w1 ⟨rfl,sp,b⟩;have BW:=hid (BW.out.trans (b.mono BW.out.size));have TG:=hid (TG.out.below b TG.out.lt);have SL:=hid sp;clear sp b t0 t1 t2;generalize W.heap.size=GL at *;have t0:=TG.out.c0;have t1:=TG.out.c1;have t2:=TG.out.c2;go_wp2_with fail;have hGT:=BW.out.size;refine(aap a6 l6 c6 M3 w1 (H6.out.below BW.out) n6 R6.out).mono ?_;rintro e w2 ⟨gs,p1,p2,vW,rfl,sp,b⟩;have BW:=hid (BW.out.trans (b.mono BW.out.size));have TG:=hid (TG.out.below b TG.out.lt);have SL:=hid (SL.out.below b);have ST:=hid sp;clear sp b t0 t1 t2;generalize w1.heap.size=GT at *;have t0:=TG.out.c0;have t1:=TG.out.c1;have t2:=TG.out.c2;go_wp2_with fail;refine(yh a7 l7 c7 ss w2 (H7.out.below BW.out) n7).mono ?_;rintro e w3 ⟨rfl,sp,b⟩;have BW:=hid (BW.out.trans (b.mono BW.out.size));have TG:=hid (TG.out.below b TG.out.lt);have SL:=hid (SL.out.below b);have ST:=hid (ST.out.below b);have SS:=hid sp;clear sp b t0 t1 t2;generalize w2.heap.size=GS at *;have b:=(aAW w3.heap.size w3).alloc (aAU _) (.cells #[.slice (some ⟨GL,0,none⟩) l5 (l5+2),.slice (some ⟨GT,0,none⟩) l6 (l6+2),.slice (some ⟨GS,0,none⟩) l7 (l7+2)] 25);have TH:=hid (dH w3 (.slice (some ⟨GL,0,none⟩) l5 (l5+2)) (.slice (some ⟨GT,0,none⟩) l6 (l6+2)) (.slice (some ⟨GS,0,none⟩) l7 (l7+2)) 25);have BW:=hid (BW.out.trans (b.mono BW.out.size));have TG:=hid (TG.out.below b TG.out.lt);have SL:=hid (SL.out.below b);have ST:=hid (ST.out.below b);have SS:=hid (SS.out.below b);have zu:(w3.alloc (.cells #[.slice (some ⟨GL,0,none⟩) l5 (l5+2),.slice (some ⟨GT,0,none⟩) l6 (l6+2),.slice (some ⟨GS,0,none⟩) l7 (l7+2)] 25)).heap.size=w3.heap.size+1:=by simp
 clear b;generalize hW4:(w3.alloc (.cells #[.slice (some ⟨GL,0,none⟩) l5 (l5+2),.slice (some ⟨GT,0,none⟩) l6 (l6+2),.slice (some ⟨GS,0,none⟩) l7 (l7+2)] 25))=W4 at *;have HW4:=hid hW4;clear hW4;have b:=(aAW W4.heap.size W4).alloc (aAU _) (.cells #[.slice none 0 0,.slice none 0 0] 32);have BM:=hid b;have eH:=aeZ (W4.alloc (.cells #[.slice none 0 0,.slice none 0 0] 32)) W4.heap.size (heap_alloc_last W4 _);have R1:=hid (Kb W4.heap.size 0 0 (.slice none 0 0) (.slice none 0 0) [] [] s1 s2 (some ⟨GL,0,none⟩) (some ⟨GT,0,none⟩) (some ⟨GS,0,none⟩) l5 (l5+2) l6 (l6+2) l7 (l7+2) zs M3 ss _ eH (λk h=>by simp[Value.ownBlock]at h) (λk h=>by simp[Value.ownBlock]at h) BR.out uh.out ((SL.out.below b).ints (by omega)) ((ST.out.below b).lists (by omega) (λi hi=>by have:=R6.out i hi;omega)) ((SS.out.below b).ints (by omega)) (by omega) (by omega));have TH5:=TH.out.below b TH.out.lt;have x0:=TH5.c0;have x1:=TH5.c1;have x2:=TH5.c2;clear b eH TH5;rw[<-HW4.out]at x0 x1 x2 R1;go_wp2_with fail;rw[HW4.out]at *;rw[<-zu];clear zu HW4;refine R1.out.mono ?_;rintro e w6 ⟨rfl,fC,nQ,q',r',lV,K7,bk,hq',hr',Fv,DU,b⟩;have Xp:=hid (BM.out.trans b);have R2:=hid (Kb W4.heap.size q' r' fC nQ lV K7 s1 s2 (some ⟨GL,0,none⟩) (some ⟨GT,0,none⟩) (some ⟨GS,0,none⟩) l5 (l5+2) l6 (l6+2) l7 (l7+2) zs M3 ss w6 bk Fv DU BR.out uh.out ((SL.out.below Xp.out).ints (by omega)) ((ST.out.below Xp.out).lists (by omega) (λi hi=>by have:=R6.out i hi;omega)) ((SS.out.below Xp.out).ints (by omega)) (by omega) (by omega));have TH6:=TH.out.below Xp.out TH.out.lt;clear x0 x1 x2 R1 b bk Fv DU;have x0:=TH6.c0;have x1:=TH6.c1;have x2:=TH6.c2;clear TH6;go_wp2_with fail;refine R2.out.mono ?_;rintro e w7 ⟨rfl,vL2,vO2,q2,r2,ES2,Ue,-,-,-,-,-,b⟩;have Xo:=hid (Xp.out.trans b);have BW:=hid (BW.out.trans (Xo.out.mono BW.out.size));have TG:=hid (TG.out.below Xo.out TG.out.lt);have SL:=hid (SL.out.below Xo.out);have ST:=hid (ST.out.below Xo.out);have SS:=hid (SS.out.below Xo.out);clear x0 x1 x2 R2 b BM Xp Xo TH;have t0:=TG.out.c0;have t1:=TG.out.c1;have t2:=TG.out.c2;go_wp2_with fail;refine(qH GL a5 l5 c5 zs w7 SL.out (H5.out.below BW.out) n5).mono ?_;rintro e w8 ⟨rfl,b⟩;have BW:=hid (BW.out.trans (b.mono BW.out.size));have TG:=hid (TG.out.below b TG.out.lt);have ST:=hid (ST.out.below b);have SS:=hid (SS.out.below b);clear t0 t1 t2 b;have t0:=TG.out.c0;have t1:=TG.out.c1;have t2:=TG.out.c2;go_wp2_with fail;refine(Mj GT GT l6 c6 a6 M3 gs p1 p2 vW w w8 H6.out BW.out hGT ST.out n6 R6.out).mono ?_;rintro e w9 ⟨rfl,b⟩;have BW:=hid (BW.out.trans (b.mono BW.out.size));have TG:=hid (TG.out.below b TG.out.lt);have SS:=hid (SS.out.below b);clear t0 t1 t2 b;have t0:=TG.out.c0;have t1:=TG.out.c1;have t2:=TG.out.c2;go_wp2_with fail;refine(qH GS a7 l7 c7 ss w9 SS.out (H7.out.below BW.out) n7).mono ?_;rintro e xN ⟨rfl,b⟩;have BW:=hid (BW.out.trans (b.mono BW.out.size));clear b;go_wp2_with fail;go_ret;exact⟨rfl,BW.out⟩
end
