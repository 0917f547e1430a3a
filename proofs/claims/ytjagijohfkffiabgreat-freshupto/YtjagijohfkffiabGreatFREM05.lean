import Derived.Test.YtjagijohfkffiabGreatFREM04
set_option maxHeartbeats 16000000
set_option maxRecDepth 100000
set_option linter.unusedSimpArgs false
namespace Go.Proofs.YtjagijohfkffiabGreat
open Go.RowKit
set_option linter.unusedVariables false
def kV(b:Nat):Value:=.pointer (some ⟨b,0,none⟩)
def kK(bs:List Nat)(n:Nd):Option Addr:=if bF n.op then none else some ⟨bs.getD n.l 0,0,none⟩
def kI(bs:List Nat)(n:Nd):Option Addr:=if bQ n.op then some ⟨bs.getD n.r 0,0,none⟩ else none
def bO(bs:List Nat)(i:Nat)(n:Nd):Obj:=.cells #[.int .u8 n.op,.pointer (kK bs n),.pointer (kI bs n),.int .i64 i] 204 (0,0)
theorem World.cell?_alloc_here(w:World)(c:Array Value)(t:TypeId)(n i:Nat)(h:n=w.heap.size):(w.alloc (.cells c t)).cell? ⟨n,i,none⟩=c[i]?:=by
 subst h;simp
structure Fm (w:World) (F:Nat) (ns:List Nd) (bs:List Nat):Prop where
 c0:∃ ao cap,w.cell? ⟨F,0,none⟩=some (.slice ao ns.length cap)/\w.ownsRow (F+1) 127 1 (.slice ao ns.length cap) ns.length (bs.map kV)
 f0:w.frozen? ⟨F,0,none⟩=false
 len:bs.length=ns.length
 wf:Wf ns
 parts:∀ (i:Nat) (n:Nd),ns[i]?=some n->∃ b,bs[i]?=some b/\F<b/\w.heap[b]?=some (bO bs i n)
def Kp(F:Nat)(w w':World):Prop:=∀ (q:Nat) (c:Array Value) (T:TypeId),w.heap[q]?=some (.cells c T (0,0))->T≠127->q≠F->w'.heap[q]?=some (.cells c T (0,0))
theorem dB{w:World}{q:Nat}{o:Obj}(h:w.heap[q]?=some o):q<w.heap.size:=(aBm.1 h).1
theorem Kp.trans{F:Nat}{a b c:World}(h:Kp F a b)(k:Kp F b c):Kp F a c:=λq x T h1 h2 h3=>k q x T (h q x T h1 h2 h3) h2 h3
theorem Kp.alloc(F:Nat)(w:World)(o:Obj):Kp F w (w.alloc o):=λq c T h _ _=>by rw[aBl w o q (dB h)];exact h
theorem Kp.set{F:Nat}{a w:World}(h:Kp F a w){P:Nat}(hP:a.heap.size<=P\/P=F)(j:Nat)(v:Value):Kp F a (w.setCell ⟨P,j,none⟩ v):=λq c T h1 h2 h3=>by
 have:=dB h1;rw[aBv _ _ _ _ (by show q≠P;omega)];exact h q c T h1 h2 h3
theorem Kp.grown{F:Nat}{w w':World}{v:Value}{n:Nat}{xs:List Value}(own:w.ownsRow (F+1) 127 1 v n xs)(hg:w.grownBy w' v.ownBlock):Kp F w w':=λq c T h1 h2 h3=>by
 rw[hg.block q (dB h1) (λe=>?_)]
 ·exact h1
 ·rcases own.2 with⟨hv,_⟩ | ⟨g,cap,cur,hv,_,hh,_⟩
  ·rw[hv]at e;simp[Value.ownBlock]at e
  ·rw[hv]at e;simp[Value.ownBlock]at e;subst e;rw[h1]at hh;simp at hh;exact h2 hh.2
theorem uy{w:World}{B e:Nat}{size:Nat}{v:Value}{n:Nat}{xs:List Value}(own:w.ownsRow B e size v n xs){P:Nat}{o:Obj}(hP:w.heap[P]?=some o)(ho:∀ c,o≠.cells c e (0,0))(j:Nat)(u:Value) :
  (w.setCell ⟨P,j,none⟩ u).ownsRow B e size v n xs:=by
 obtain⟨h1,h2⟩:=own;refine⟨h1,?_⟩;rcases h2 with h2 | ⟨g,cap,cur,hv,hb,hh,r⟩
 ·exact aA2 h2
 ·refine aA3 ⟨g,cap,cur,hv,hb,?_,r⟩;rw[aBv _ _ _ _ ?_]
  ·exact hh
  ·intro e';have e2:g=P:=e';subst e2;rw[hh]at hP;exact ho _ (Option.some.inj hP).symm
section
variable {w:World} {F:Nat} {ns:List Nd} {bs:List Nat}
theorem Fm.r9(h:Fm w F ns bs):F<w.heap.size:=by
 obtain⟨_,_,c,_⟩:=h.c0;exact World.block_lt_of_cell? w ⟨F,0,none⟩ c
theorem Fm.own(h:Fm w F ns bs){v:Value}(hc:w.cell? ⟨F,0,none⟩=some v):(∃ ao cap,v=.slice ao ns.length cap)/\w.ownsRow (F+1) 127 1 v ns.length (bs.map kV):=by
 obtain⟨ao,cap,c,own⟩:=h.c0;rw[c]at hc;cases hc;exact⟨⟨_,_,rfl⟩,own⟩
theorem Fm.lt(h:Fm w F ns bs):∀ b∈bs,b<w.heap.size/\F<b:=by
 intro b hb;obtain⟨i,hi,rfl⟩:=aBC hb;obtain⟨b',e,hF,hh⟩:=h.parts i (ns[i]'(by rw[<-h.len];exact hi)) (by simp);rw[aAV hi]at e;cases e;exact⟨dB hh,hF⟩
theorem Fm.alloc(h:Fm w F ns bs)(o:Obj):Fm (w.alloc o) F ns bs:=by
 obtain⟨ao,cap,c,own⟩:=h.c0;refine⟨⟨ao,cap,?_,own.alloc o⟩,?_,h.len,h.wf,?_⟩
 ·rw[World.cell?_alloc_past _ _ _ h.r9];exact c
 ·rw[aBK _ _ _ h.r9];exact h.f0
 ·intro i n hn;obtain⟨b,e,hF,hh⟩:=h.parts i n hn;exact⟨b,e,hF,by rw[aBl _ _ _ (dB hh)];exact hh⟩
theorem Fm.drew(h:Fm w F ns bs):Fm w.drew F ns bs:=⟨h.c0,h.f0,h.len,h.wf,h.parts⟩
theorem Fm.set(h:Fm w F ns bs){P:Nat}(hP:P ∉ bs)(hF:P≠F){o:Obj}(ho:w.heap[P]?=some o)(hne:∀ c,o≠.cells c 127 (0,0))(j:Nat)(v:Value):Fm (w.setCell ⟨P,j,none⟩ v) F ns bs:=by
 obtain⟨ao,cap,c,own⟩:=h.c0;refine⟨⟨ao,cap,?_,uy own ho hne j v⟩,?_,h.len,h.wf,?_⟩
 ·rw[aA0 _ _ _ _ (λe=>hF (congrArg Addr.block e))];exact c
 ·rw[aBe];exact h.f0
 ·intro i n hn;obtain⟨b,e,hF,hh⟩:=h.parts i n hn;refine⟨b,e,hF,?_⟩;rw[aBv _ _ _ _ ?_]
  ·exact hh
  ·intro e';have e2:b=P:=e';subst e2;exact hP (aBB e)
theorem zH{bs:List Nat}{i P:Nat}(h:i<bs.length):(bs++[P]).getD i 0=bs.getD i 0:=by
 simp[List.getD,aA9 h]
theorem QY{ns:List Nd}{bs:List Nat}(hw:Wf ns)(hl:bs.length=ns.length){i:Nat}{n:Nd}(hn:ns[i]?=some n)(P:Nat):bO (bs++[P]) i n=bO bs i n:=by
 have hi:=(aA1.1 hn).1;obtain⟨h1,h2⟩:=hw i n hn;have e1:kK (bs++[P]) n=kK bs n:=by
  unfold kK;cases hb:bF n.op with
  | true=>rfl
  | false=>rw[zH (by have:=h1 hb;omega)]
 have e2:kI (bs++[P]) n=kI bs n:=by
  unfold kI;cases hb:bQ n.op with
  | false=>rfl
  | true=>rw[zH (by have:=h2 hb;omega)]
 unfold bO;rw[e1,e2]
theorem Fm.push(h:Fm w F ns bs){w':World}(hk:Kp F w w')(hb:Below (F+1) w w'){P:Nat}(Fu:F<P)(n:Nd)(h1:bF n.op=false->n.l<ns.length)(h2:bQ n.op=true->n.r<ns.length)
  (hP:w.heap[P]?=some (bO bs ns.length n)) (ao:Option Addr) (cap:Nat)
  (own:w'.ownsRow (F+1) 127 1 (.slice ao (ns.length+1) cap) (ns.length+1) (bs.map kV++[kV P])) :
  Fm (w'.setCell ⟨F,0,none⟩ (.slice ao (ns.length+1) cap)) F (ns++[n]) (bs++[P]):=by
 obtain⟨_,_,c,_⟩:=h.c0;have hw:=h.wf.snoc n h1 h2;refine⟨⟨ao,cap,?_,?_⟩,?_,by simp[h.len],hw,?_⟩
 ·rw[aA5,aBn];exact aBr _ _ _ ((hb.cell (p:=⟨F,0,none⟩) (aBs _)).trans c)
 ·rw[aA5,aBn,aBE];exact ownsRow_setCell_below own (by simp) _
 ·rw[aBe,hb.frozen (p:=⟨F,0,none⟩) (aBs _)];exact h.f0
 ·intro i m hm;by_cases hi:i<ns.length
  ·rw[aA9 hi]at hm;obtain⟨b,e,hF,hh⟩:=h.parts i m hm;refine⟨b,by rw[aA9 (by rw[h.len];exact hi)];exact e,hF,?_⟩;rw[aBv _ _ _ _ (by show b≠F;omega),QY h.wf h.len hm];exact hk b _ _ hh (by decide) (by omega)
  ·have zA:i=ns.length:=by
    have:=(aA1.1 hm).1;simp at this;omega
   subst zA;simp at hm;subst hm;refine⟨P,by rw[<-h.len];simp,Fu,?_⟩;rw[aBv _ _ _ _ (by show P≠F;omega),show bO (bs++[P]) ns.length n=bO bs ns.length n from ?_]
   ·exact hk P _ _ hP (by decide) (by omega)
   ·have e1:kK (bs++[P]) n=kK bs n:=by
     unfold kK;cases hb:bF n.op with
     | true=>rfl
     | false=>rw[zH (by have:=h1 hb;rw[h.len];omega)]
    have e2:kI (bs++[P]) n=kI bs n:=by
     unfold kI;cases hb:bQ n.op with
     | false=>rfl
     | true=>rw[zH (by have:=h2 hb;rw[h.len];omega)]
    unfold bO;rw[e1,e2]
end
def bX(xs:List Nat):List Value:=xs.map λx=>Value.int .i64 (x:Nat)
theorem flat_get(ns:List Nd)(i:Nat)(hi:i<ns.length):(flat ns)[i*3]?=some (.int .u8 (aA ns i).op)/\(flat ns)[i*3+1]?=some (.int .i64 (aA ns i).l)/\(flat ns)[i*3+2]?=some (.int .i64 (aA ns i).r):=by
 induction ns generalizing i with
 | nil=>simp at hi
 | cons p ps ih=>
  cases i with
  | zero=>simp[flat,aA]
  | succ i=>
   have:=ih i (by simpa using hi);rw[show aA (p::ps) (i+1)=aA ps i by simp[aA],show flat (p::ps)=[.int .u8 p.op,.int .i64 p.l,.int .i64 p.r]++flat ps by simp[flat]];rw[aBa (by simp;omega),aBa (by simp;omega),aBa (by simp;omega)];simpa [show (i+1)*3 - 3=i*3 by omega,show (i+1)*3+1 - 3=i*3+1 by omega,show (i+1)*3+2 - 3=i*3+2 by omega] using this
theorem Ba{w:World}{B e size n cap:Nat}{ao:Option Addr}{xs:List Value}(h:w.ownsRow B e size (.slice ao n cap) n xs)(hn:0<n):∃ g,ao=some ⟨g,0,none⟩/\B<=g/\g<w.heap.size/\n<=cap:=by
 rcases h.2 with⟨e,h0⟩ | ⟨g,cap',cur,e,hb,hh,hc,_⟩
 ·omega
 ·cases e;exact⟨g,rfl,hb,dB hh,hc⟩
def jU(x op:Nat):Bool:=if op=112 then x.testBit 0 else if op=113 then x.testBit 1 else x.testBit 2
theorem adk:∀ x:Fin 8,((x.val:Int) % 2==1)=x.val.testBit 0/\((x.val:Int) / 2 % 2==1)=x.val.testBit 1/\((x.val:Int) / 4 % 2==1)=x.val.testBit 2:=by decide
theorem Cr(x op:Nat)(w:World)(hx:x<8)(ho:op=112\/op=113\/op=114):Calls Tryz.prog 127 #[.int .i64 x,.int .u8 op] w λe w'=>e=.returned (.bool (jU x op))/\w'=w:=by
 have F:=hid (adk ⟨x,hx⟩);rcases ho with rfl | rfl | rfl
 ·go_enter Tryz.func127,Tryz.ntmps127;go_wp2;go_ret;exact⟨qE F.out.1,rfl⟩
 ·go_enter Tryz.func127,Tryz.ntmps127;go_wp2;go_ret;exact⟨qE F.out.2.1,rfl⟩
 ·go_enter Tryz.func127,Tryz.ntmps127;go_wp2;go_ret;exact⟨qE F.out.2.2,rfl⟩
structure Rb (w:World) (g n:Nat) (f:Nat->Bool):Prop where
 lt:g<w.heap.size
 cell:∀ i,i<n->w.cell? ⟨g,i,none⟩=some (.bool (f i))
theorem Rb.below{w w':World}{g n:Nat}{f:Nat->Bool}(h:Rb w g n f)(hb:Below w.heap.size w w'):Rb w' g n f:=
 ⟨aBi h.lt hb.size,λi hi=>by rw[hb.cell (p:=⟨g,i,none⟩) h.lt];exact h.cell i hi⟩
def al(op:Nat)(L R:Nat->Bool)(nx:Nat->Nat):Nat->Nat->Bool
 | 0,_=>op==71||op==82
 | s+1,k=>
  if op=70 then (if L k then true else al op L R nx s (nx k))
  else if op=71 then (if L k then al op L R nx s (nx k) else false)
  else if op=85 then (if R k then true else if L k then al op L R nx s (nx k) else false)
  else (if R k then (if L k then true else al op L R nx s (nx k)) else false)
theorem aiE(gl n i back:Nat)(ro:Value)(L R:Nat->Bool)(w:World)(hl:Rb w gl n L)(hi:i<n)(hb:back<n)(hn:n<=20000) :
  Calls Tryz.prog 145 #[.int .u8 70,.slice (some ⟨gl,0,none⟩) n n,ro,.int .i64 i,.int .i64 back] w λe w'=>e=.returned (.bool (al 70 L R (aU n back) (n+1) i))/\w'=w:=by
 obtain⟨V,hV⟩:∃ V,V=al 70 L R (aU n back) (n+1) i:=⟨_,rfl⟩;rw[<-hV];have HV:=hid hV;clear hV;go_enter Tryz.func145,Tryz.ntmps145;go_wp2_with fail
 go_loop [11,12] (λk st=>∃ kn sn:Nat,kn<n/\sn<=n+1/\k=.int .i64 kn/\st=.int .i64 sn/\Hid (V=al 70 L R (aU n back) (n+1 - sn) kn)) (λ_ st=>n+1 - (intOf st).toNat)
 case atStart=>exact⟨i,0,hi,aA8 _,rfl,rfl,HV⟩
 case round=>
  obtain⟨kn,sn,hk,hs,rfl,rfl,HA⟩:=hrel;by_cases hlt:sn<=n
  ·have c:=hl.cell kn hk;cases hL:L kn with
   | true=>
    have H2:Hid (V=true):=hid (by rw[HA.out,show n+1 - sn=(n - sn)+1 by omega];simp[al,hL]);rw[hL]at c;clear hL;go_wp2_with fail;go_ret;exact⟨by rw[H2.out];rfl,rfl⟩
   | false=>
    have H2:Hid (V=al 70 L R (aU n back) (n+1 - (sn+1)) (aU n back kn)):=hid (by rw[HA.out,show n+1 - sn=(n+1 - (sn+1))+1 by omega];simp[al,hL]);rw[hL]at c;clear hL;by_cases he:kn+1=n
    ·have hx:Hid (aU n back kn=back):=hid (by unfold aU;rw[aBT (by omega)]);have ke:((kn:Int)+1==(n:Int))=true:=beq_iff_eq.2 (by omega);clear he;go_wp2_with fail
     go_round
     case rel=>exact⟨back,sn+1,hb,by omega,by go_num,by go_num,hid (by rw[H2.out,hx.out])⟩
     case measure=>simp[intOf];omega
    ·have hx:Hid (aU n back kn=kn+1):=hid (by unfold aU;rw[aBU (by omega)]);have ke:((kn:Int)+1==(n:Int))=false:=aA6.2 (by omega);have Oi:kn+1<n:=by omega
     clear he;go_wp2_with fail
     go_round
     case rel=>exact⟨kn+1,sn+1,Oi,by omega,by go_num,by go_num,hid (by rw[H2.out,hx.out])⟩
     case measure=>simp[intOf];omega
  ·have H2:Hid (V=false):=hid (by rw[HA.out,show n+1 - sn=0 by omega];rfl);go_wp2_with fail;go_ret;exact⟨by rw[H2.out];rfl,rfl⟩
theorem aiD(gl n i back:Nat)(ro:Value)(L R:Nat->Bool)(w:World)(hl:Rb w gl n L)(hi:i<n)(hb:back<n)(hn:n<=20000) :
  Calls Tryz.prog 145 #[.int .u8 71,.slice (some ⟨gl,0,none⟩) n n,ro,.int .i64 i,.int .i64 back] w λe w'=>e=.returned (.bool (al 71 L R (aU n back) (n+1) i))/\w'=w:=by
 obtain⟨V,hV⟩:∃ V,V=al 71 L R (aU n back) (n+1) i:=⟨_,rfl⟩;rw[<-hV];have HV:=hid hV;clear hV;go_enter Tryz.func145,Tryz.ntmps145;go_wp2_with fail
 go_loop [11,12] (λk st=>∃ kn sn:Nat,kn<n/\sn<=n+1/\k=.int .i64 kn/\st=.int .i64 sn/\Hid (V=al 71 L R (aU n back) (n+1 - sn) kn)) (λ_ st=>n+1 - (intOf st).toNat)
 case atStart=>exact⟨i,0,hi,aA8 _,rfl,rfl,HV⟩
 case round=>
  obtain⟨kn,sn,hk,hs,rfl,rfl,HA⟩:=hrel;by_cases hlt:sn<=n
  ·have c:=hl.cell kn hk;cases hL:L kn with
   | true=>
    have H2:Hid (V=al 71 L R (aU n back) (n+1 - (sn+1)) (aU n back kn)):=hid (by rw[HA.out,show n+1 - sn=(n+1 - (sn+1))+1 by omega];simp[al,hL]);rw[hL]at c;clear hL;by_cases he:kn+1=n
    ·have hx:Hid (aU n back kn=back):=hid (by unfold aU;rw[aBT (by omega)]);have ke:((kn:Int)+1==(n:Int))=true:=beq_iff_eq.2 (by omega);clear he;go_wp2_with fail
     go_round
     case rel=>exact⟨back,sn+1,hb,by omega,by go_num,by go_num,hid (by rw[H2.out,hx.out])⟩
     case measure=>simp[intOf];omega
    ·have hx:Hid (aU n back kn=kn+1):=hid (by unfold aU;rw[aBU (by omega)]);have ke:((kn:Int)+1==(n:Int))=false:=aA6.2 (by omega);have Oi:kn+1<n:=by omega
     clear he;go_wp2_with fail
     go_round
     case rel=>exact⟨kn+1,sn+1,Oi,by omega,by go_num,by go_num,hid (by rw[H2.out,hx.out])⟩
     case measure=>simp[intOf];omega
   | false=>
    have H2:Hid (V=false):=hid (by rw[HA.out,show n+1 - sn=(n - sn)+1 by omega];simp[al,hL]);rw[hL]at c;clear hL;go_wp2_with fail;go_ret;exact⟨by rw[H2.out];rfl,rfl⟩
  ·have H2:Hid (V=true):=hid (by rw[HA.out,show n+1 - sn=0 by omega];rfl);go_wp2_with fail;go_ret;exact⟨by rw[H2.out];rfl,rfl⟩
theorem aiB(gl n i back:Nat)(gr:Nat)(L R:Nat->Bool)(w:World)(hl:Rb w gl n L)(hr:Rb w gr n R)(hi:i<n)(hb:back<n)(hn:n<=20000) :
  Calls Tryz.prog 145 #[.int .u8 85,.slice (some ⟨gl,0,none⟩) n n,.slice (some ⟨gr,0,none⟩) n n,.int .i64 i,.int .i64 back] w λe w'=>e=.returned (.bool (al 85 L R (aU n back) (n+1) i))/\w'=w:=by
 obtain⟨V,hV⟩:∃ V,V=al 85 L R (aU n back) (n+1) i:=⟨_,rfl⟩;rw[<-hV];have HV:=hid hV;clear hV;go_enter Tryz.func145,Tryz.ntmps145;go_wp2_with fail
 go_loop [11,12] (λk st=>∃ kn sn:Nat,kn<n/\sn<=n+1/\k=.int .i64 kn/\st=.int .i64 sn/\Hid (V=al 85 L R (aU n back) (n+1 - sn) kn)) (λ_ st=>n+1 - (intOf st).toNat)
 case atStart=>exact⟨i,0,hi,aA8 _,rfl,rfl,HV⟩
 case round=>
  obtain⟨kn,sn,hk,hs,rfl,rfl,HA⟩:=hrel;by_cases hlt:sn<=n
  ·have c:=hl.cell kn hk;have c2:=hr.cell kn hk;cases hR:R kn with
   | true=>
    have H2:Hid (V=true):=hid (by rw[HA.out,show n+1 - sn=(n - sn)+1 by omega];simp[al,hR]);rw[hR]at c2;clear hR;go_wp2_with fail;go_ret;exact⟨by rw[H2.out];rfl,rfl⟩
   | false=>
    cases hL:L kn with
    | true=>
     have H2:Hid (V=al 85 L R (aU n back) (n+1 - (sn+1)) (aU n back kn)):=hid (by rw[HA.out,show n+1 - sn=(n+1 - (sn+1))+1 by omega];simp[al,hR,hL]);rw[hR]at c2;rw[hL]at c;clear hR hL;by_cases he:kn+1=n
     ·have hx:Hid (aU n back kn=back):=hid (by unfold aU;rw[aBT (by omega)]);have ke:((kn:Int)+1==(n:Int))=true:=beq_iff_eq.2 (by omega);clear he;go_wp2_with fail
      go_round
      case rel=>exact⟨back,sn+1,hb,by omega,by go_num,by go_num,hid (by rw[H2.out,hx.out])⟩
      case measure=>simp[intOf];omega
     ·have hx:Hid (aU n back kn=kn+1):=hid (by unfold aU;rw[aBU (by omega)]);have ke:((kn:Int)+1==(n:Int))=false:=aA6.2 (by omega);have Oi:kn+1<n:=by omega
      clear he;go_wp2_with fail
      go_round
      case rel=>exact⟨kn+1,sn+1,Oi,by omega,by go_num,by go_num,hid (by rw[H2.out,hx.out])⟩
      case measure=>simp[intOf];omega
    | false=>
     have H2:Hid (V=false):=hid (by rw[HA.out,show n+1 - sn=(n - sn)+1 by omega];simp[al,hR,hL]);rw[hR]at c2;rw[hL]at c;clear hR hL;go_wp2_with fail;go_ret;exact⟨by rw[H2.out];rfl,rfl⟩
  ·have H2:Hid (V=false):=hid (by rw[HA.out,show n+1 - sn=0 by omega];rfl);go_wp2_with fail;go_ret;exact⟨by rw[H2.out];rfl,rfl⟩
theorem aiC(gl n i back:Nat)(gr:Nat)(L R:Nat->Bool)(w:World)(hl:Rb w gl n L)(hr:Rb w gr n R)(hi:i<n)(hb:back<n)(hn:n<=20000) :
  Calls Tryz.prog 145 #[.int .u8 82,.slice (some ⟨gl,0,none⟩) n n,.slice (some ⟨gr,0,none⟩) n n,.int .i64 i,.int .i64 back] w λe w'=>e=.returned (.bool (al 82 L R (aU n back) (n+1) i))/\w'=w:=by
 obtain⟨V,hV⟩:∃ V,V=al 82 L R (aU n back) (n+1) i:=⟨_,rfl⟩;rw[<-hV];have HV:=hid hV;clear hV;go_enter Tryz.func145,Tryz.ntmps145;go_wp2_with fail
 go_loop [11,12] (λk st=>∃ kn sn:Nat,kn<n/\sn<=n+1/\k=.int .i64 kn/\st=.int .i64 sn/\Hid (V=al 82 L R (aU n back) (n+1 - sn) kn)) (λ_ st=>n+1 - (intOf st).toNat)
 case atStart=>exact⟨i,0,hi,aA8 _,rfl,rfl,HV⟩
 case round=>
  obtain⟨kn,sn,hk,hs,rfl,rfl,HA⟩:=hrel;by_cases hlt:sn<=n
  ·have c:=hl.cell kn hk;have c2:=hr.cell kn hk;cases hR:R kn with
   | true=>
    cases hL:L kn with
    | true=>
     have H2:Hid (V=true):=hid (by rw[HA.out,show n+1 - sn=(n - sn)+1 by omega];simp[al,hR,hL]);rw[hR]at c2;rw[hL]at c;clear hR hL;go_wp2_with fail;go_ret;exact⟨by rw[H2.out];rfl,rfl⟩
    | false=>
     have H2:Hid (V=al 82 L R (aU n back) (n+1 - (sn+1)) (aU n back kn)):=hid (by rw[HA.out,show n+1 - sn=(n+1 - (sn+1))+1 by omega];simp[al,hR,hL]);rw[hR]at c2;rw[hL]at c;clear hR hL;by_cases he:kn+1=n
     ·have hx:Hid (aU n back kn=back):=hid (by unfold aU;rw[aBT (by omega)]);have ke:((kn:Int)+1==(n:Int))=true:=beq_iff_eq.2 (by omega);clear he;go_wp2_with fail
      go_round
      case rel=>exact⟨back,sn+1,hb,by omega,by go_num,by go_num,hid (by rw[H2.out,hx.out])⟩
      case measure=>simp[intOf];omega
     ·have hx:Hid (aU n back kn=kn+1):=hid (by unfold aU;rw[aBU (by omega)]);have ke:((kn:Int)+1==(n:Int))=false:=aA6.2 (by omega);have Oi:kn+1<n:=by omega
      clear he;go_wp2_with fail
      go_round
      case rel=>exact⟨kn+1,sn+1,Oi,by omega,by go_num,by go_num,hid (by rw[H2.out,hx.out])⟩
      case measure=>simp[intOf];omega
   | false=>
    have H2:Hid (V=false):=hid (by rw[HA.out,show n+1 - sn=(n - sn)+1 by omega];simp[al,hR]);rw[hR]at c2;clear hR;go_wp2_with fail;go_ret;exact⟨by rw[H2.out];rfl,rfl⟩
  ·have H2:Hid (V=true):=hid (by rw[HA.out,show n+1 - sn=0 by omega];rfl);go_wp2_with fail;go_ret;exact⟨by rw[H2.out];rfl,rfl⟩
theorem asx{n back:Nat}(hb:back<n)(L R:Nat->Bool)(i:Nat)(hi:i<n):al 70 L R (aU n back) (n+1) i=true↔∃ s,L (it (aU n back) s i)=true:=by
 have key:∀ s k,al 70 L R (aU n back) s k=true↔∃ m,m<s/\L (it (aU n back) m k)=true:=by
  intro s
  induction s with
  | zero=>intro k;simp[al]
  | succ s ih=>
   intro k;simp only[al,if_true];cases hL:L k with
   | true=>simp;exact⟨0,by omega,hL⟩
   | false=>
    simp only[Bool.false_eq_true,if_false];rw[ih];constructor
    ·rintro ⟨m,hm,h⟩;exact⟨m+1,by omega,h⟩
    ·rintro ⟨m,hm,h⟩;cases m with
     | zero=>simp[it,hL]at h
     | succ m=>exact⟨m,by omega,h⟩
 rw[key];constructor
 ·rintro ⟨m,_,h⟩;exact⟨m,h⟩
 ·rintro ⟨m,h⟩;obtain⟨s,hs,h1,_⟩:=MR hb (A:=λ_=>True) (B:=λi=>L i=true) hi ⟨m,h,λ_ _=>trivial⟩;exact⟨s,by omega,h1⟩
theorem asw{n back:Nat}(hb:back<n)(L R:Nat->Bool)(i:Nat)(hi:i<n):al 71 L R (aU n back) (n+1) i=true↔∀ s,L (it (aU n back) s i)=true:=by
 have key:∀ s k,al 71 L R (aU n back) s k=true↔∀ m,m<s->L (it (aU n back) m k)=true:=by
  intro s
  induction s with
  | zero=>intro k;simp[al]
  | succ s ih=>
   intro k;simp only[al,Nat.reduceEqDiff,if_false,if_true];cases hL:L k with
   | false=>simp;exact⟨0,by omega,hL⟩
   | true=>
    simp only[if_true];rw[ih];constructor
    ·intro h m hm;cases m with
     | zero=>exact hL
     | succ m=>exact h m (by omega)
    ·intro h m hm;exact h (m+1) (by omega)
 rw[key];constructor
 ·intro h s;refine aBp λhc=>?_;obtain⟨s,hs,h1,_⟩:=MR hb (A:=λ_=>True) (B:=λi=>¬ L i=true) hi ⟨s,hc,λ_ _=>trivial⟩;exact h1 (h s (by omega))
 ·intro h m _;exact h m
theorem alj{n back:Nat}(hb:back<n)(L R:Nat->Bool)(i:Nat)(hi:i<n):al 85 L R (aU n back) (n+1) i=true↔∃ s,R (it (aU n back) s i)=true/\∀ m,m<s->L (it (aU n back) m i)=true:=by
 have key:∀ s k,al 85 L R (aU n back) s k=true↔∃ t,t<s/\R (it (aU n back) t k)=true/\∀ m,m<t->L (it (aU n back) m k)=true:=by
  intro s
  induction s with
  | zero=>intro k;simp[al]
  | succ s ih=>
   intro k;simp only[al,Nat.reduceEqDiff,if_false,if_true];cases hR:R k with
   | true=>simp only[if_true,true_iff];exact⟨0,by omega,hR,λm hm=>by omega⟩
   | false=>
    simp only[Bool.false_eq_true,if_false];cases hL:L k with
    | false=>
     simp only[Bool.false_eq_true,if_false,false_iff];rintro ⟨t,_,h1,h2⟩;cases t with
     | zero=>simp[it,hR]at h1
     | succ t=>have:=h2 0 (by omega);simp[it,hL]at this
    | true=>
     simp only[if_true];rw[ih];constructor
     ·rintro ⟨t,ht,h1,h2⟩;refine⟨t+1,by omega,h1,λm hm=>?_⟩;cases m with
      | zero=>exact hL
      | succ m=>exact h2 m (by omega)
     ·rintro ⟨t,ht,h1,h2⟩;cases t with
      | zero=>simp[it,hR]at h1
      | succ t=>exact⟨t,by omega,h1,λm hm=>h2 (m+1) (by omega)⟩
 rw[key];constructor
 ·rintro ⟨t,_,h⟩;exact⟨t,h⟩
 ·intro h;obtain⟨s,hs,h1,h2⟩:=MR hb (A:=λi=>L i=true) (B:=λi=>R i=true) hi h;exact⟨s,by omega,h1,h2⟩
theorem asv{n back:Nat}(hb:back<n)(L R:Nat->Bool)(i:Nat)(hi:i<n):al 82 L R (aU n back) (n+1) i=true↔∀ s,R (it (aU n back) s i)=true\/∃ m,m<s/\L (it (aU n back) m i)=true:=by
 have key:∀ s k,al 82 L R (aU n back) s k=!al 85 (λi=>!L i) (λi=>!R i) (aU n back) s k:=by
  intro s
  induction s with
  | zero=>intro k;rfl
  | succ s ih=>
   intro k;simp only[al,Nat.reduceEqDiff,if_false,if_true];rw[ih (aU n back k)];generalize al 85 (λi=>!L i) (λi=>!R i) (aU n back) s (aU n back k)=v;by_cases hR:R k=true <;> by_cases hL:L k=true <;> simp[hR,hL]
 have h2:=alj hb (λi=>!L i) (λi=>!R i) i hi;rw[key];constructor
 ·intro h s;have h3:¬ al 85 (λi=>!L i) (λi=>!R i) (aU n back) (n+1) i=true:=by simpa using h
  rw[h2]at h3;cases hR:R (it (aU n back) s i) with
  | true=>exact aA2 rfl
  | false=>
   refine aA3 (aBp λhc=>h3 ⟨s,by simp[hR],λm hm=>?_⟩);cases hL:L (it (aU n back) m i) with
   | false=>rfl
   | true=>exact absurd ⟨m,hm,hL⟩ hc
 ·intro h;cases hv:al 85 (λi=>!L i) (λi=>!R i) (aU n back) (n+1) i with
  | false=>rfl
  | true=>
   obtain⟨s,h3,h4⟩:=h2.1 hv;rcases h s with h5 | ⟨m,hm,h5⟩
   ·simp[h5]at h3
   ·have:=h4 m hm;simp[h5]at this
theorem Tryz.eD:(Tryz.prog.info? 4).map (λi=>(i.zero,i.size,i.bytes))=some (some (.bool false),1,1):=by kernel_rfl
def Parts(w:World)(ns:List Nd)(bs:List Nat):Prop:=∀ (i:Nat) (nd:Nd),ns[i]?=some nd->∃ b,bs[i]?=some b/\w.heap[b]?=some (bO bs i nd)
theorem Parts.below{w w':World}{ns:List Nd}{bs:List Nat}(h:Parts w ns bs)(hb:Below w.heap.size w w'):Parts w' ns bs:=λi nd hn=>by
 obtain⟨b,e,hh⟩:=h i nd hn;exact⟨b,e,by rw[hb.block b (dB hh)];exact hh⟩
structure Wd (w:World) (g n cap:Nat) (xs:List Nat):Prop where
 lt:g<w.heap.size
 cap:n<=cap
 cell:∀ i,i<n->w.cell? ⟨g,i,none⟩=some (.int .i64 (ltOf xs i:Nat))
theorem Wd.below{w w':World}{g n cap:Nat}{xs:List Nat}(h:Wd w g n cap xs)(hb:Below w.heap.size w w'):Wd w' g n cap xs:=
 ⟨aBi h.lt hb.size,h.cap,λi hi=>by rw[hb.cell (p:=⟨g,i,none⟩) h.lt];exact h.cell i hi⟩
def ay(f:Nat->Bool)(n j:Nat):List Value:=(List.range n).map λi=>.bool (if i<j then f i else false)
theorem dh(f:Nat->Bool)(n:Nat):ay f n 0=List.replicate n (.bool false):=by
 unfold ay;apply List.ext_getElem
 ·simp
 ·intro i h1 h2;simp
theorem fB(f:Nat->Bool)(n j:Nat):(ay f n j).set j (.bool (f j))=ay f n (j+1):=by
 unfold ay;apply List.ext_getElem
 ·simp
 ·intro i h1 h2;simp at h1;rw[List.getElem_set];by_cases e:j=i
  ·subst e;simp
  ·simp only[aBT e,List.getElem_map,List.getElem_range];by_cases h:i<j
   ·rw[aBU h,aBU (by omega)]
   ·rw[aBT h,aBT (by omega)]
theorem jM(f:Nat->Bool)(n i:Nat)(hi:i<n):(ay f n n)[i]?=some (.bool (f i)):=by
 unfold ay;simp[hi]
theorem fU{a b c:World}{row:Option Nat}(h:a.grownBy b row)(k:b.grownBy c row):a.grownBy c row:=
 ⟨k.os.trans h.os,k.tape.trans h.tape,k.output.trans h.output,aBO h.size k.size,λq hq hr=>(k.block q (aBi hq h.size) hr).trans (h.block q hq hr)⟩
theorem CW{a b:World}{row:Option Nat}(h:a.grownBy b row):a.grownBy b.drew row:=⟨h.os,h.tape,h.output,h.size,h.block⟩
theorem jd{a b:World}{g q o:Nat}(h:a.grownBy b (some g))(hq:q<a.heap.size)(hne:q≠g):b.cell? ⟨q,o,none⟩=a.cell? ⟨q,o,none⟩:=
 aBf (h.block q hq (by simpa using hne))
theorem Rb.grown{a b:World}{g q n:Nat}{f:Nat->Bool}(h:Rb a q n f)(hg:a.grownBy b (some g))(hne:q≠g):Rb b q n f:=
 ⟨aBi h.lt hg.size,λi hi=>by rw[jd hg h.lt hne];exact h.cell i hi⟩
theorem aeN{nx lt:Nat->Nat}{nd:Nd}{r1 r2:List (Nat->Prop)}(hl:bF nd.op=false->r1.getD nd.l (λ_=>False)=r2.getD nd.l (λ_=>False))(hr:bQ nd.op=true->r1.getD nd.r (λ_=>False)=r2.getD nd.r (λ_=>False))
  (hop:bF nd.op=true\/dY nd.op=true\/bQ nd.op=true) (i:Nat):kZ nx lt nd r1 i↔kZ nx lt nd r2 i:=by
 unfold kZ;rcases hop with hop | hop | hop
 ·rcases lD hop with e | e | e | e | e <;> simp[e]
 ·have h1:=hl (jN hop);rcases nu hop with e | e | e | e <;> simp only[e,h1,Nat.reduceEqDiff,if_false,if_true]
 ·have h1:=hl (l8 hop);have h2:=hr hop;rcases ky hop with e | e | e | e <;> simp only[e,h1,h2,Nat.reduceEqDiff,if_false,if_true]
theorem dS{ns:List Nd}(h:gZ ns){k:Nat}{nd:Nd}(hn:ns[k]?=some nd):(bF nd.op=true\/dY nd.op=true\/bQ nd.op=true)/\(bF nd.op=false->nd.l<k)/\(bQ nd.op=true->nd.r<k):=by
 rcases h k nd hn with⟨h1,_,_⟩ | ⟨h1,h2,_⟩ | ⟨h1,h2,h3⟩
 ·exact⟨aA2 h1,λh=>by rw[h1]at h;simp at h,λh=>by rw[sw h1]at h;simp at h⟩
 ·exact⟨aA3 (aA2 h1),λ_=>h2,λh=>by rw[kQ h1]at h;simp at h⟩
 ·exact⟨aA3 (aA3 h1),λ_=>h2,λ_=>h3⟩
theorem iW{nx lt:Nat->Nat}{ns:List Nd}{k:Nat}{nd:Nd}(hn:ns[k]?=some nd)(hw:gZ ns)(i:Nat):fA nx lt ns k i↔kZ nx lt nd (rows nx lt ns) i:=by
 obtain⟨hk,e⟩:=aA1.1 hn;obtain⟨hc,h1,h2⟩:=dS hw hn;have e1:ns=(ns.take k++[nd])++ns.drop (k+1):=by
  rw[List.append_assoc,<-e];simp
 have hlen:(ns.take k).length=k:=by simp;omega
 have e2:fA nx lt ns k i=kZ nx lt nd (rows nx lt (ns.take k)) i:=by
  have h3:=VE nx lt (ns.take k) nd i;rw[hlen]at h3;rw[<-h3]
  conv=>lhs;rw[e1]
  exact VD (by simp;omega) i
 have e3:∀ l,l<k->(rows nx lt (ns.take k)).getD l (λ_=>False)=(rows nx lt ns).getD l (λ_=>False):=by
  intro l hl;funext j;have h4:fA nx lt (ns.take k++ns.drop k) l j=fA nx lt (ns.take k) l j:=VD (by omega) j;rw[List.take_append_drop]at h4;exact h4.symm
 rw[e2];exact aeN (λh=>e3 _ (h1 h)) (λh=>e3 _ (h2 h)) hc i
theorem aT{w:World}{P:Nat}{c0 c1 c2 c3:Value}(h:w.heap[P]?=some (.cells #[c0,c1,c2,c3] 204 (0,0))) :
  w.cell? ⟨P,0,none⟩=some c0/\w.cell? ⟨P,1,none⟩=some c1/\w.cell? ⟨P,2,none⟩=some c2/\w.cell? ⟨P,3,none⟩=some c3:=by
 refine⟨?_,?_,?_,?_⟩ <;> (rw[aBJ w P _ _ _ _ h];rfl)
section
variable (ns:List Nd) (bs:List Nat) (gw n dC back:Nat) (xs:List Nat)
def jE(k:Nat)(w:World)(e:Ending)(w':World):Prop:=
 ∃ (g:Nat) (f:Nat->Bool),e=.returned (.slice (some ⟨g,0,none⟩) n n)/\(∀ i,i<n->(f i=true↔fA (aU n back) (ltOf xs) ns k i))/\w.heap.size<=g/\Rb w' g n f/\Below w.heap.size w w'
def pU(k:Nat):Prop:=∀ (w:World) (b:Nat),Parts w ns bs->Wd w gw n dC xs->bs[k]?=some b ->
 Calls Tryz.prog 128 #[.pointer (some ⟨b,0,none⟩),.slice (some ⟨gw,0,none⟩) n dC,.int .i64 back] w (jE ns n back xs k w)
theorem jD{k:Nat}{w wS wr:World}{f:Nat->Bool}(hbS:Below w.heap.size w wS)(hg:wS.grownBy wr (some w.heap.size))(hsz:w.heap.size<wS.heap.size)
  (own:wr.ownsRow w.heap.size 4 1 (.slice (some ⟨w.heap.size,0,none⟩) n n) n (ay f n n)) (hf:∀ i,i<n->(f i=true↔fA (aU n back) (ltOf xs) ns k i)) :
  jE ns n back xs k w (.returned (.slice (some ⟨w.heap.size,0,none⟩) n n)) wr:=by
 refine⟨w.heap.size,f,rfl,hf,aAU _,⟨aBi hsz hg.size,λi hi=>?_⟩,hbS.grown hg hbS.size (λk h=>by cases h;exact aAU _)⟩;rw[own.cellAt i (by omega)];exact jM f n i hi
end
