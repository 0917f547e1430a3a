import Derived.Test.YtjagijohfkffiabGreatALLM10
set_option maxHeartbeats 16000000
set_option maxRecDepth 100000
set_option linter.unusedSimpArgs false
namespace Go.Proofs.YtjagijohfkffiabGreat
open Go.RowKit
set_option linter.unusedVariables false
def gv(g:Nat->Bool):List Value:=(List.range 256).map λj=>.bool (g j)
theorem mG(g:Nat->Bool):(gv g).length=256:=by simp[gv]
theorem zZ(g:Nat->Bool){j:Nat}(h:j<256):(gv g)[j]?=some (.bool (g j)):=by simp[gv,h]
theorem Mh(g:Nat->Bool):∀ v∈gv g,v.oneCell'=true:=by
 intro v a;simp only[gv,aCU]at a;obtain⟨j,_,rfl⟩:=a;rfl
theorem UK{g h:Nat->Bool}(e:∀ j,j<256->g j=h j):gv g=gv h:=by
 unfold gv;refine aCX λj a=>?_;rw[e j (by simpa using a)]
theorem amE{g h:Nat->Bool}(e:gv g=gv h):∀ j,j<256->g j=h j:=λj hj=>by
 have:=zZ g hj;rw[e,zZ h hj]at this;simpa using this.symm
structure bE (w:World) (b o:Nat) (g:Nat->Bool):Prop where
 c:∀ j,j<256->w.cell? ⟨b,o+j,none⟩=some (.bool (g j))
 f:∀ j,j<256->w.frozen? ⟨b,o+j,none⟩=false
theorem bE.ww{w:World}{b o:Nat}{g:Nat->Bool}(h:bE w b o g):w.rangeAt b o (gv g):=λj v hv=>by
 have hj:j<256:=by have:=(aB9.1 hv).1;rwa [mG]at this
 rw[zZ g hj]at hv;rw[h.c j hj,hv]
theorem bE.there{w:World}{b o:Nat}{g:Nat->Bool}(h:bE w b o g):w.there b o 256:=λj hj=>⟨by rw[h.c j hj];rfl,h.f j hj⟩
theorem bE.lt{w:World}{b o:Nat}{g:Nat->Bool}(h:bE w b o g):b<w.heap.size:=World.block_lt_of_cell? w ⟨b,o+0,none⟩ (h.c 0 (by omega))
theorem bE.below{B:Nat}{w w':World}{b o:Nat}{g:Nat->Bool}(h:bE w b o g)(hb:Below B w w')(hlt:b<B):bE w' b o g:=
 ⟨λj hj=>(hb.cell (p:=⟨b,o+j,none⟩) hlt).trans (h.c j hj),λj hj=>(hb.frozen (p:=⟨b,o+j,none⟩) hlt).trans (h.f j hj)⟩
theorem bE.alloc{w:World}{b o:Nat}{g:Nat->Bool}(h:bE w b o g)(ob:Obj):bE (w.alloc ob) b o g:=by
 have d:=h.lt;refine⟨λj a=>?_,λj a=>?_⟩
 ·rw[aCB _ _ _ d];exact h.c j a
 ·rw[aCS _ _ _ d];exact h.f j a
theorem bE.drew{w:World}{b o:Nat}{g:Nat->Bool}(h:bE w b o g):bE w.drew b o g:=⟨h.c,h.f⟩
theorem bE.congr{w:World}{b o:Nat}{g g':Nat->Bool}(h:bE w b o g)(e:∀ j,j<256->g j=g' j):bE w b o g':=
 ⟨λj hj=>by rw[h.c j hj,e j hj],h.f⟩
theorem bE.set{w:World}{b o:Nat}{g:Nat->Bool}(h:bE w b o g){i:Nat}(hi:i<256)(v:Bool):bE (w.setCell ⟨b,o+i,none⟩ (.bool v)) b o (upd g i v):=by
 refine⟨λj a=>?_,λj a=>by rw[aCm];exact h.f j a⟩;by_cases e:j=i
 ·subst e;rw[aCz _ _ _ (h.c j a)];simp[upd]
 ·rw[aB8 _ ⟨b,o+i,none⟩ ⟨b,o+j,none⟩ _ (λq=>e (by have:=congrArg Addr.off q;simp at this;omega)),h.c j a];simp[upd,e]
theorem bE.other{w:World}{b o:Nat}{g:Nat->Bool}(h:bE w b o g)(p:Addr)(v:Value)(hp:p.block≠b\/p.off<o\/o+256<=p.off):bE (w.setCell p v) b o g:=by
 refine⟨λj a=>?_,λj a=>by rw[aCm];exact h.f j a⟩;rw[aB8 _ _ _ _ (λe=>by subst e;simp at hp;omega)];exact h.c j a
theorem Mi{w:World}{b o:Nat}(h:w.there b o 256)(g:Nat->Bool):bE (w.setCells b o (gv g)) b o g:=by
 have c:=World.rangeAt_setCells_same w b o (gv g) (by rw[mG];exact h);refine⟨λj a=>c j _ (zZ g a),λj a=>by rw[World.frozen?_setCells];exact(h j a).2⟩
theorem wQ(w:World)(g:Nat->Bool)(t:TypeId):bE (w.alloc (.cells (gv g).toArray t)) w.heap.size 0 g:=by
 refine⟨λj a=>?_,λj a=>?_⟩
 ·have:=aCR (w.alloc (.cells (gv g).toArray t)) w.heap.size (0+j) (gv g).toArray t (0,0) (heap_alloc_last w _);rw[this];simp[gv,a]
 ·simp
theorem Tryz.vJ:Tryz.zeroCells61=(gv λ_=>false).toArray:=by kernel_rfl
theorem Tryz.acP:(Tryz.prog.info? 61).map (·.size)=some 256:=by kernel_rfl
theorem Tryz.jM:Tryz.prog.underlying 61=some (.array 256 4):=Tryz.underlying61
theorem Tryz.qh(g:Nat->Bool):(Tryz.prog.info? 61).map (·.size)=some (gv g).length:=by rw[mG];exact Tryz.acP
theorem Tryz.Yg(g:Nat->Bool):(Tryz.prog.info? 61).map (·.size)=some (gv g).toArray.size:=by simp only[List.size_toArray];exact Tryz.qh g
theorem bE.akB{w:World}{b o:Nat}{g:Nat->Bool}(h:bE w b o g)(g':Nat->Bool):w.there b o (gv g').toArray.size:=by simp only[List.size_toArray,mG];exact h.there
theorem ig(w:World):bE (w.alloc (.cells Tryz.zeroCells61 61)) w.heap.size 0 (λ_=>false):=by rw[Tryz.vJ];exact wQ w _ _
theorem below_setCells{B:Nat}{a:World}{b:Nat}(hb:B<=b):∀ (vs:List Value) (o:Nat) (w:World),Below B a w->Below B a (w.setCells b o vs)
 | [],_,_,h=>h
 | v::r,o,w,h=>by
  rw[World.setCells];exact below_setCells hb r (o+1) _ (h.setCell (p:=⟨b,o,none⟩) hb v)
theorem size_setCells(b:Nat):∀ (vs:List Value) (o:Nat) (w:World),(w.setCells b o vs).heap.size=w.heap.size
 | [],_,_=>rfl
 | v::r,o,w=>by
  rw[World.setCells,size_setCells b r (o+1) _];simp[World.setCell]
theorem o6{fn:Func}{p:Tmp}{ty:TypeId}(h:fn.results=#[.cell p ty])(tmps:Array Value)(P:Program)(w:World) :
  (results fn tmps).run P w=((asAddr (tmps.getD p undef)).run P w).andThen λa w₁=>(loadVar ty a).run P w₁:=by
 simp only[results,h];simp[Sem.run_bind,Result.andThen]
theorem AJ{fn:Func}{c b o:Nat}{g:Nat->Bool}{a:Act}{w:World}{R:Ending->World->Prop}(h:fn.results=#[.cell c 61])(hd:a.defers=[])(hp:a.tmps.getD c undef=.pointer (some ⟨b,o,none⟩))
  (hg:bE w b o g) (hR:R (.returned (.agg (gv g).toArray)) w):bodyPost Tryz.prog fn R .ret a w:=by
 refine bodyPost_ret (v:=.agg (gv g).toArray) ?_ hd hR;rw[o6 h,hp];simp only[asAddr,Sem.run_pure,Result.andThen_ok];exact run_loadVar_mid w b o _ (gv g) _ hg.ww Tryz.jM rfl (Tryz.qh g)
structure wV (w:World) (b o:Nat) (g:Nat->Bool) (w1:World):Prop where
 at_:bE w1 b o g
 size:w1.heap.size=w.heap.size
 bD:∀ B a,B<=b->Below B a w->Below B a w1
 cell:∀ p:Addr,(p.block≠b\/p.off<o\/o+256<=p.off)->w1.cell? p=w.cell? p
 fz:∀ p,w1.frozen? p=w.frozen? p
theorem aiU{w:World}{b o:Nat}(h:w.there b o 256)(g:Nat->Bool):wV w b o g (w.setCells b o (gv g)):=by
 refine⟨Mi h g,size_setCells _ _ _ _,λB a d c=>below_setCells d _ _ _ c,λp e=>?_,λp=>World.frozen?_setCells _ _ _ _ _⟩;rw[World.cell?_setCells_out b (gv g) o w p (λc _=>by rw[mG];omega)]
theorem wV.z8{w w1:World}{b o:Nat}{g:Nat->Bool}(h:wV w b o g w1){b' o':Nat}{g':Nat->Bool}(k:bE w b' o' g')(hp:b'≠b\/o'+256<=o\/o+256<=o'):bE w1 b' o' g':=
 ⟨λj hj=>by rw[h.cell ⟨b',o'+j,none⟩ (by simp;omega)];exact k.c j hj,λj hj=>by rw[h.fz];exact k.f j hj⟩
theorem bM{ops:Array Oper}{rest:List Oper}{op:Oper}{a:Act}{w:World}{Q:Exit->Act->World->Prop}(nZ:op.guard=none)(x y:Operand)(ho:op.op=.store 61 x y)
  (b o:Nat) (g:Nat->Bool) (hx:a.eval x=.pointer (some ⟨b,o,none⟩)) (hy:a.eval y=.agg (gv g).toArray) (ht:w.there b o 256)
  (h:∀ w1,wV w b o g w1->wpList Tryz.prog ops Q rest (a.put op.dst undef) w1):wpList Tryz.prog ops Q (op::rest) a w:=by
 refine wpList_store_mid nZ 61 x y ho b o (gv g).toArray hx hy (by simp only[List.size_toArray,mG];exact ht) (Tryz.Yg g) (all_oneCell_toArray (Mh g)) ?_;exact h _ (aiU ht g)
theorem aN{ops:Array Oper}{rest:List Oper}{op:Oper}{a:Act}{w:World}{Q:Exit->Act->World->Prop}(nZ:op.guard=none)(x:Operand)(ho:op.op=.load 61 x)
  (b o:Nat) (g:Nat->Bool) (hx:a.eval x=.pointer (some ⟨b,o,none⟩)) (hg:bE w b o g)
  (h:wpList Tryz.prog ops Q rest (a.put op.dst (.agg (gv g).toArray)) w):wpList Tryz.prog ops Q (op::rest) a w:=
 wpList_load_mid nZ 61 x ho b o hx (gv g) _ hg.ww Tryz.jM rfl (Tryz.qh g) h
theorem QE(P:Nat)(g:Nat->Bool)(w:World)(h:bE w P 2305 g):Calls Tryz.prog 67 #[.pointer (some ⟨P,0,none⟩)] w λe w'=>e=.returned (.agg (gv g).toArray)/\Below w.heap.size w w':=by
 have a:=hid (ig w);have b:=hid (h.alloc (.cells Tryz.zeroCells61 61));clear h;go_enter Tryz.func67,Tryz.ntmps67;go_wp2_with (first | (refine wpList_load_mid rfl 61 (.tmp 5) rfl P 2305 rfl (gv g) _ b.out.ww Tryz.jM rfl (Tryz.qh g) ?_) | (refine wpList_store_mid rfl 61 (.tmp 2) (.tmp 6) rfl w.heap.size 0 (gv g).toArray rfl rfl (a.out.akB g) (Tryz.Yg g) (all_oneCell_toArray (Mh g)) ?_))
 exact AJ Tryz.results67 rfl rfl (Mi a.out.there g) ⟨rfl,below_setCells (aB2 _) _ _ _ ((aB4 _ _).alloc (aB2 _) _)⟩
structure JG (w:World) (gn:Nat) (ns:List Nd):Prop where
 lt:gn<w.heap.size
 c0:∀ i,i<ns.length->w.cell? ⟨gn,i*3,none⟩=some (.int .u8 (au ns i).op)
 c1:∀ i,i<ns.length->w.cell? ⟨gn,i*3+1,none⟩=some (.int .i64 (au ns i).l)
 c2:∀ i,i<ns.length->w.cell? ⟨gn,i*3+2,none⟩=some (.int .i64 (au ns i).r)
theorem JG.below{B:Nat}{w w':World}{gn:Nat}{ns:List Nd}(h:JG w gn ns)(hb:Below B w w')(hB:gn<B):JG w' gn ns:=
 ⟨aCq h.lt hb.size,λi hi=>(hb.cell (p:=⟨gn,i*3,none⟩) hB).trans (h.c0 i hi),λi hi=>(hb.cell (p:=⟨gn,i*3+1,none⟩) hB).trans (h.c1 i hi),λi hi=>(hb.cell (p:=⟨gn,i*3+2,none⟩) hB).trans (h.c2 i hi)⟩
def mo(op:Nat):Bool:=op==70||op==85||lK op
def iV(n:Nd):Nat:=if n.op=85\/n.op=82 then n.r else n.l
theorem aaQ(n:Nd)(w:World):Calls Tryz.prog 63 #[ym n] w λe w'=>e=.returned (.bool (mo n.op))/\Below w.heap.size w w':=by
 obtain⟨op,l,r⟩:=n;have a:=λW=>PW ⟨op,l,r⟩ W;unfold ym at *;dsimp only at *;by_cases b:op=70
 ·subst b;clear a;go_enter Tryz.func63,Tryz.ntmps63;go_wp2_with fail;go_ret;exact⟨rfl,(aB4 _ _).alloc (aB2 _) _⟩
 by_cases c:op=85
 ·subst c;clear a;go_enter Tryz.func63,Tryz.ntmps63;go_wp2_with fail;go_ret;exact⟨rfl,(aB4 _ _).alloc (aB2 _) _⟩
 have f:((op:Int)==70)=false:=aCe.2 (by omega);have g:((op:Int)==85)=false:=aCe.2 (by omega);have E:Hid (mo op=lK op):=hid (by simp[mo,b,c]);go_enter Tryz.func63,Tryz.ntmps63;go_wp2_with fail;refine(a _).mono ?_;rintro e w' ⟨rfl,d⟩;go_wp2_with fail;go_ret;exact⟨by rw[E.out];rfl,((aB4 _ _).alloc (aB2 _) _).trans (d.mono (by simp))⟩
theorem aj2(n:Nd)(w:World):Calls Tryz.prog 117 #[ym n] w λe w'=>e=.returned (.int .i64 (iV n:Nat))/\Below w.heap.size w w':=by
 obtain⟨a,l,r⟩:=n;unfold ym;dsimp only at *;by_cases b:a=85
 ·subst b;go_enter Tryz.func117,Tryz.ntmps117;go_wp2_with fail;go_ret;exact⟨by simp[iV],(aB4 _ _).alloc (aB2 _) _⟩
 by_cases c:a=82
 ·subst c;go_enter Tryz.func117,Tryz.ntmps117;go_wp2_with fail;go_ret;exact⟨by simp[iV],(aB4 _ _).alloc (aB2 _) _⟩
 have d:((a:Int)==85)=false:=aCe.2 (by omega);have f:((a:Int)==82)=false:=aCe.2 (by omega);have E:Hid (iV ⟨a,l,r⟩=l):=hid (by simp[iV,b,c]);go_enter Tryz.func117,Tryz.ntmps117;go_wp2_with fail;go_ret;exact⟨by rw[E.out];rfl,(aB4 _ _).alloc (aB2 _) _⟩
def jP(ns:List Nd)(x N:Nat):Nat->Nat
 | 0=>0
 | k+1=>uP (jP ns x N k) k (bg (au ns k).op x ((jP ns x N k).testBit (au ns k).l) ((jP ns x N k).testBit (au ns k).r) (N.testBit k) (N.testBit (au ns k).l))
def gF(ns:List Nd)(x N:Nat):Nat:=jP ns x N ns.length
theorem wT(ns:List Nd)(x N:Nat):∀ k,k<=8->jP ns x N k<256
 | 0,_=>by simp[jP]
 | k+1,h=>KT (wT ns x N k (by omega)) (by omega)
theorem vR{ns:List Nd}(h:ns.length<=8)(x N:Nat):gF ns x N<256:=wT ns x N _ h
theorem l9{ns:List Nd}{k:Nat}(h:k<ns.length):ns[k]?=some (au ns k):=by simp[au,List.getD,aB3 h]
theorem aat(gn m DW x N:Nat)(ns:List Nd)(w:World)(hm:JG w gn ns)(hg:Good ns)(LZ:ns.length=m)(hx:x<8)(hN:N<256) :
  Calls Tryz.prog 62 #[.slice (some ⟨gn,0,none⟩) m DW,.int .i64 x,.int .i64 N] w λe w'=>e=.returned (.int .u8 (gF ns x N:Nat))/\Below w.heap.size w w':=by
 have q:=hg.le;have n:=hid hg;have d:=hid hm;have f:=hm.lt;have s:Hid (jP ns x N m=gF ns x N):=hid (by rw[<-LZ];rfl);have c:=hid LZ;have t:m<=8:=by omega
 clear hm hg q LZ;go_enter Tryz.func62,Tryz.ntmps62;go_wp2_with fail
 go_loopw [7,13] (λh i u=>∃ k:Nat,k<=m/\i=.int .i64 k/\h=.int .i64 (jP ns x N k:Nat)/\Below w.heap.size w u) (λ_ i _=>m - (intOf i).toNat)
 case atStart=>exact⟨0,aCg _,rfl,rfl,aB4 _ _⟩
 case round=>
  obtain⟨k,F,rfl,rfl,b⟩:=hrel;by_cases a:k<m
  ·have o:k<8:=by omega
   have g:=wT ns x N k (by omega);obtain⟨y,z⟩:=iH.small n.out.wf n.out.le (l9 (ns:=ns) (k:=k) (by rw[c.out];exact a));have A:=(b.cell (p:=⟨gn,k*3,none⟩) f).trans (d.out.c0 k (by rw[c.out];exact a));have B:=(b.cell (p:=⟨gn,k*3+1,none⟩) f).trans (d.out.c1 k (by rw[c.out];exact a));have C:=(b.cell (p:=⟨gn,k*3+2,none⟩) f).trans (d.out.c2 k (by rw[c.out];exact a));have j:=λW=>XK (au ns k) k x (jP ns x N k) N W y z o hx g hN;have D:Hid (jP ns x N (k+1)=uP (jP ns x N k) k (bg (au ns k).op x ((jP ns x N k).testBit (au ns k).l) ((jP ns x N k).testBit (au ns k).r) (N.testBit k) (N.testBit (au ns k).l))):=hid rfl;unfold ym at j;generalize au ns k=nd at *;generalize jP ns x N k=S at *;go_wp2_with fail;refine(j _).mono ?_;rintro e G ⟨rfl,E⟩;clear j A B C;generalize bg nd.op x (S.testBit nd.l) (S.testBit nd.r) (N.testBit k) (N.testBit nd.l)=v at *;go_wp2_with fail;refine(JU S k v _ g o).mono ?_;rintro e H ⟨rfl,rfl⟩;go_wp2_with fail;go_roundw
   case rel=>exact⟨k+1,by omega,by go_num,by rw[D.out],(b.alloc b.size _).trans (E.mono (by have:=b.size;simp;omega))⟩
   case measure=>simp[intOf];omega
  ·obtain rfl:k=m:=by omega
   have g:=wT ns x N k (by omega);have I:IntKind.u8.wrap ((jP ns x N k:Nat):Int)=((jP ns x N k:Nat):Int):=by
    rw[IntKind.wrap_u8];omega
   go_wp2_with fail;go_ret;exact⟨by rw[<-s.out];rfl,b⟩
theorem size_alloc(w:World)(o:Obj):(w.alloc o).heap.size=w.heap.size+1:=by simp
def upTo(f:Nat->Bool)(n:Nat):Nat->Bool:=λj=>if j<n then f j else false
theorem uh(f:Nat->Bool)(n:Nat):upd (upTo f n) n (f n)=upTo f (n+1):=by
 funext j;unfold upd upTo;by_cases e:j=n
 ·subst e;simp
 ·by_cases h:j<n
  ·simp[e,h];intro;omega
  ·simp[e,h];intro;omega
theorem ug(f:Nat->Bool):upTo f 0=λ_=>false:=by funext j;simp[upTo]
theorem JV(f:Nat->Bool){j:Nat}(h:j<256):upTo f 256 j=f j:=by simp[upTo,h]
def kR(k e:Nat):Nat->Bool:=λv=>v.testBit k==v.testBit e
theorem WI(nd:Nd)(k:Nat)(w:World)(hk:k<8)(hl:nd.l<8)(hr:nd.r<8) :
  Calls Tryz.prog 64 #[ym nd,.int .i64 k] w λe w'=>e=.returned (.agg (gv (kR k (iV nd))).toArray)/\Below w.heap.size w w':=by
 have H:iV nd<8:=by unfold iV;split <;> omega
 have u:=λW=>aj2 nd W;have I:=hid Tryz.vJ;unfold ym at *;go_enter Tryz.func64,Tryz.ntmps64;go_wp2_with (refine bM rfl (.tmp 5) (.tmp 10) rfl (w.heap.size+1+1) 0 (λ_=>false) rfl (congrArg Value.agg I.out) ?t1 ?_)
 case t1=>
  have:=(ig ((w.alloc (.cells #[.int .u8 nd.op,.int .i64 nd.l,.int .i64 nd.r] 109)).alloc (.cells Tryz.zeroCells61 61))).there;simpa using this
 intro a b;have g:Below (w.heap.size+1) (w.alloc (.cells #[.int .u8 nd.op,.int .i64 nd.l,.int .i64 nd.r] 109)) a:=b.bD _ _ (by omega) (((aB4 _ _).alloc (by simp) _).alloc (by simp) _);have J:a.cell? ⟨w.heap.size,0,none⟩=some (.int .u8 nd.op):=(g.cell (p:=⟨w.heap.size,0,none⟩) (by show w.heap.size<_;omega)).trans (by simp);have K:a.cell? ⟨w.heap.size,1,none⟩=some (.int .i64 nd.l):=(g.cell (p:=⟨w.heap.size,1,none⟩) (by show w.heap.size<_;omega)).trans (by simp);have L:a.cell? ⟨w.heap.size,2,none⟩=some (.int .i64 nd.r):=(g.cell (p:=⟨w.heap.size,2,none⟩) (by show w.heap.size<_;omega)).trans (by simp);clear g;have n:=hid b.at_;have o:Hid (bE a (w.heap.size+1) 0 (λ_=>false)):=by
  have z:=(ig (w.alloc (.cells #[.int .u8 nd.op,.int .i64 nd.l,.int .i64 nd.r] 109))).alloc (.cells Tryz.zeroCells61 61);rw[size_alloc]at z;exact hid (b.z8 z (aCa (by omega)))
 have v:Hid (Below w.heap.size w a):=hid (b.bD _ _ (by omega) ((((aB4 _ _).alloc (aB2 _) _).alloc (by simp) _).alloc (by simp;omega) _));have q:a.heap.size=w.heap.size+3:=by rw[b.size];simp
 clear b;go_wp2_with fail;refine(u _).mono ?_;rintro e N ⟨rfl,h⟩;have n:=hid (n.out.below h (by omega));have o:=hid (o.out.below h (by omega));have M:=hid (v.out.trans (h.mono (by omega)));clear h v J K L u q;go_wp2_with fail
 go_loopw [13] (λi s=>∃ j:Nat,j<=256/\i=.int .i64 j/\Hid (bE s (w.heap.size+1+1) 0 (upTo (kR k (iV nd)) j))/\Hid (bE s (w.heap.size+1) 0 (λ_=>false))/\Hid (Below w.heap.size w s)) (λi _=>256 - (intOf i).toNat)
 case atStart=>exact⟨0,by omega,rfl,by rw[ug];exact n,o,M⟩
 case round=>
  obtain⟨j,x,rfl,m,y,A⟩:=hrel;rename World=>W0;by_cases d:j<256
  ·have O:W0.frozen? ⟨w.heap.size+1+1,j,none⟩=false:=by have:=m.out.f j d;rwa [aCw]at this
   have P:W0.cell? ⟨w.heap.size+1+1,j,none⟩=some (.bool (upTo (kR k (iV nd)) j j)):=by have:=m.out.c j d;rwa [aCw]at this
   have t:=hid (m.out.set d (kR k (iV nd) j));have B:=hid (y.out.other ⟨w.heap.size+1+1,j,none⟩ (.bool (kR k (iV nd) j)) (aCa (by simp)));have C:=hid (A.out.setCell (p:=⟨w.heap.size+1+1,j,none⟩) (by show w.heap.size<=w.heap.size+1+1;omega) (.bool (kR k (iV nd) j)));rw[uh,aCw]at t;have D:=λW=>bN j k W d hk;have E:=λW=>bN j (iV nd) W d H;unfold kR at B t C;generalize upTo (kR k (iV nd)) j j=ov at *;go_wp2_with fail;refine(D _).mono ?_;rintro e Q ⟨rfl,rfl⟩;go_wp2_with fail;refine(E _).mono ?_;rintro e R ⟨rfl,rfl⟩;clear D E;go_wp2_with fail;go_roundw
   case rel=>exact⟨j+1,by omega,by go_num,t,B,C⟩
   case measure=>simp[intOf];omega
  ·obtain rfl:j=256:=by omega
   have G:=hid (m.out.congr (λj x=>JV (kR k (iV nd)) x));go_wp2_with (first | (refine aN rfl (.tmp 5) rfl (w.heap.size+1+1) 0 _ rfl G.out ?_) | (refine bM rfl (.tmp 4) (.tmp 28) rfl (w.heap.size+1) 0 (kR k (iV nd)) rfl rfl y.out.there ?_))
   intro S F;go_wp2_with fail;refine AJ Tryz.results64 ?_ ?_ F.at_ ?_
   ·rfl
   ·rfl
   ·exact⟨rfl,F.bD _ _ (by omega) A.out⟩
def geq(g h:Nat->Bool):Bool:=(List.range 256).all λj=>g j==h j
theorem jR{g h:Nat->Bool}:geq g h=true↔∀ j,j<256->g j=h j:=by simp[geq]
theorem AC(d:Nat)(g h:Nat->Bool)(w:World):∀ is:List Nat,(∀ i∈is,i<256)->(Op.eqItems (d+1) 4 1 (gv g).toArray (gv h).toArray is).run Tryz.prog w=.ok (is.all λj=>g j==h j) w
 | [],_=>by simp[Op.eqItems]
 | i::is,hi=>by
  have h0:=hi i (by simp);have ih:=AC d g h w is (λj hj=>hi j (by simp[hj]));have p:∀ f:Nat->Bool,(part 4 (gv f).toArray (i*1)).run Tryz.prog w=.ok (.bool (f i)) w:=λf=>by
   have:=zZ f h0;simp[part,Tryz.isAgg4,this]
  simp only[Op.eqItems,Sem.run_bind,p,Result.andThen_ok,run_equalIn_bool' w d 4 _ _ Tryz.underlying4];cases e:(g i==h i)
  ·simp[e]
  ·simp[e,ih]
theorem Tryz.Ie:(Tryz.prog.info? 4).map (·.size)=some 1:=by kernel_rfl
theorem Tryz.adx:∃ i,Tryz.prog.info? 4=some i/\i.size=1:=by
 have h:=Tryz.Ie;cases hq:Tryz.prog.info? 4 with
 | none=>simp[hq]at h
 | some i=>simp[hq]at h;exact⟨i,rfl,h⟩
theorem pO(d:Nat)(g h:Nat->Bool)(w:World):(Op.equalIn (d+1+1) 61 (.agg (gv g).toArray) (.agg (gv h).toArray)).run Tryz.prog w=.ok (geq g h) w:=by
 obtain⟨i,a,c⟩:=Tryz.adx;rw[run_equalIn_array w (d+1) _ _ Tryz.jM a];have:Tryz.prog.cellsOf 4=1:=by kernel_rfl
 rw[this];exact AC d g h w _ (λj b=>by simpa using b)
def fO(E:Nat->Nat->Prop)(G:Nat->Prop)(x:Nat):Prop:=∃ y,reach E x y/\G y
theorem fO.mono{E:Nat->Nat->Prop}{G H:Nat->Prop}(h:∀ x,G x->H x){x:Nat}(k:fO E G x):fO E H x:=k.imp λy ⟨a,b⟩=>⟨a,h y b⟩
theorem fO.congr{E:Nat->Nat->Prop}{G H:Nat->Prop}(h:∀ x,G x↔H x)(x:Nat):fO E G x↔fO E H x:=⟨fO.mono λx=>(h x).1,fO.mono λx=>(h x).2⟩
def nG(E:Nat->Nat->Prop)(cs:List (Nat->Bool))(G:Nat->Prop):Nat->Prop:=cs.foldl (λL c=>fO E (λy=>L y/\c y=true)) (fO E G)
theorem aap(E:Nat->Nat->Prop)(cs:List (Nat->Bool))(c:Nat->Bool)(G:Nat->Prop):nG E (cs++[c]) G=fO E (λy=>nG E cs G y/\c y=true):=by simp[nG]
theorem Qq{E:Nat->Nat->Prop}:∀ (cs:List (Nat->Bool)) (A B:Nat->Prop),(∀ x,A x->B x)->∀ x,cs.foldl (λL c=>fO E (λy=>L y/\c y=true)) A x->cs.foldl (λL c=>fO E (λy=>L y/\c y=true)) B x
 | [],A,B,h=>h
 | c::cs,A,B,h=>Qq cs _ _ (λx k=>k.mono λy ⟨a,b⟩=>⟨h y a,b⟩)
theorem ade{E:Nat->Nat->Prop}{cs:List (Nat->Bool)}{G H:Nat->Prop}(h:∀ x,G x->H x)(x:Nat):nG E cs G x->nG E cs H x:=
 Qq cs _ _ (λx k=>k.mono h) x
def KL(cs:List (Nat->Bool))(k i:Nat):Prop:=∃ c,cs[k]?=some c/\c i=true
def iQ(E:Nat->Nat->Prop)(cs:List (Nat->Bool))(x:Nat):Prop:=∃ q,q 0=x/\Path E q/\xq (KL cs) cs.length q
theorem Hg{E:Nat->Nat->Prop}{q:Nat->Nat}(hq:Path E q):∀ (cs:List (Nat->Bool)) (A:Nat->Prop),(∀ c∈cs,∀ t,∃ t',t<=t'/\c (q t')=true)->(∀ t,A (q t))->∀ t,cs.foldl (λL c=>fO E (λy=>L y/\c y=true)) A (q t)
 | [],A,_,h=>h
 | c::cs,A,hc,h=>by
  refine Hg hq cs _ (λc' uB=>hc c' (List.mem_cons_of_mem _ uB)) (λt=>?_);obtain⟨t',h1,h2⟩:=hc c (List.mem_cons_self ..) (t+1);obtain⟨d,rfl⟩:∃ d,t'=t+d+1:=⟨t' - t - 1,by omega⟩;exact⟨_,uQ hq t d,h _,h2⟩
theorem qN{cs:List (Nat->Bool)}{q:Nat->Nat}(h:xq (KL cs) cs.length q):∀ c∈cs,∀ t,∃ t',t<=t'/\c (q t')=true:=by
 intro c d t;obtain⟨k,a,e⟩:=aCK d;obtain⟨t',f,i,b,g⟩:=h k a t;rw[aB3 a,e]at b;cases b;exact⟨t',f,g⟩
theorem Ab{E:Nat->Nat->Prop}{cs:List (Nat->Bool)}{q:Nat->Nat}(hq:Path E q)(hm:xq (KL cs) cs.length q)(t:Nat):iQ E cs (q t):=by
 refine⟨λi=>q (t+i),rfl,λi=>?_,λk b i=>?_⟩
 ·have:=hq (t+i);rwa [show t+i+1=t+(i+1) by omega]at this
 ·obtain⟨a,c,d⟩:=hm k b (t+i);refine⟨a - t,by omega,?_⟩;show KL cs k (q (t+(a - t)));rwa [show t+(a - t)=a by omega]
theorem UV{E:Nat->Nat->Prop}{cs:List (Nat->Bool)}{G:Nat->Prop}(h:∀ x,iQ E cs x->G x)(x:Nat)(hx:iQ E cs x):nG E cs G x:=by
 obtain⟨q,rfl,a,b⟩:=hx;have c:∀ t,G (q t):=λt=>h _ (Ab a b t);exact Hg a cs _ (qN b) (λt=>⟨_,uQ a t 0,c _⟩) 0
theorem Qp{E:Nat->Nat->Prop}{G:Nat->Prop}:∀ (cs done:List (Nat->Bool)) (A:Nat->Prop),(∀ x,A x->∃ y,G y/\reach E x y/\∀ c∈done,∃ i,reach E x i/\c i=true/\reach E i y) ->
  ∀ x,cs.foldl (λL c=>fO E (λy=>L y/\c y=true)) A x->∃ y,G y/\reach E x y/\∀ c∈done++cs,∃ i,reach E x i/\c i=true/\reach E i y
 | [],done,A,h=>by simpa using h
 | c::cs,done,A,h=>by
  have:=Qp (G:=G) cs (done++[c]) (fO E (λy=>A y/\c y=true)) (λx ⟨z,h1,h2,h3⟩=>by
   obtain⟨y,h4,h5,h6⟩:=h z h2;refine⟨y,h4,eu h1 h5,λc' uB=>?_⟩;rcases aCG.1 uB with uB | uB
   ·obtain⟨i,h7,h8,h9⟩:=h6 c' uB;exact⟨i,eu h1 h7,h8,h9⟩
   ·simp at uB;subst uB;exact⟨z,h1,h3,h5⟩)
  simpa using this
theorem Qy{E:Nat->Nat->Prop}{cs:List (Nat->Bool)}{G:Nat->Prop}{x:Nat}(h:nG E cs G x):∃ y,G y/\reach E x y/\∀ c∈cs,∃ i,reach E x i/\c i=true/\reach E i y:=by
 have:=Qp (E:=E) (G:=G) cs [] (fO E G) (λx ⟨y,a,b⟩=>⟨y,b,a,λc d=>by simp at d⟩) x h;simpa using this
theorem Vi{E:Nat->Nat->Prop}{cs:List (Nat->Bool)}{G:Nat->Prop}{n:Nat}(hE:∀ a b,E a b->b<n)(h:∀ x,G x->nG E cs G x){x:Nat}(hn:x<n)(hx:G x):iQ E cs x:=by
 have nx:∀ a:{ a // G a },∃ b:{ a // G a },reach E a.1 b.1/\∀ c∈cs,∃ i,reach E a.1 i/\c i=true/\reach E i b.1:=λa=>by
  obtain⟨y,D,s⟩:=Qy (h a.1 a.2);exact⟨⟨y,D⟩,s⟩
 let f:{ a // G a }->{ a // G a }:=λa=>Classical.choose (nx a)
 have j:∀ a,reach E a.1 (f a).1/\∀ c∈cs,∃ i,reach E a.1 i/\c i=true/\reach E i (f a).1:=λa=>Classical.choose_spec (nx a)
 let p:Nat->{ a // G a }:=λt=>Nat.rec ⟨x,hx⟩ (λ_ a=>f a) t
 have r:∀ t,p (t+1)=f (p t):=λt=>rfl;have F:∀ {a b},reach E a b->b<n:=by
  intro a b ⟨L,u⟩
  induction L generalizing a with
  | zero=>obtain⟨c,w,rfl⟩:=u;exact hE _ _ w
  | succ L ih=>obtain⟨c,w,H⟩:=u;exact ih H
 have I:∀ t,(p t).1<n:=λt=>by
  cases t with
  | zero=>exact hn
  | succ t=>rw[r];exact F (j (p t)).1
 have z:∀ d t,reach E (p t).1 (p (t+d+1)).1:=by
  intro d
  induction d with
  | zero=>intro t;rw[show t+0+1=t+1 by omega,r];exact(j (p t)).1
  | succ d ih=>
   intro t;refine eu (ih t) ?_;rw[show t+(d+1)+1=(t+d+1)+1 by omega,r];exact(j _).1
 obtain⟨v,J,-,l⟩:=Gd (q:=λt=>(p t).1) (P:=λ_=>True) I (λt=>⟨t,aB2 _,trivial⟩);obtain⟨e,-,o⟩:=l 0;obtain⟨A,s,M⟩:=l (e+2);obtain⟨d,rfl⟩:∃ d,A=e+1+d+1:=⟨A - e - 2,by omega⟩;have r1:=(j (p e)).1;have r2:=z d (e+1);rw[M,r]at r2;rw[o]at r1;have g:reach E v v:=eu r1 r2;have N:reach E x v:=by
  cases e with
  | zero=>rw[<-o]at g;rw[<-o];exact g
  | succ t=>
   have:=z t 0;rw[show 0+t+1=t+1 by omega,o]at this;exact this
 refine(Cc (K:=KL cs) (m:=cs.length) hE hn).2 ⟨v,J,N,g,λk B=>?_⟩;obtain⟨i,C,O,Q⟩:=(j (p e)).2 cs[k] (List.getElem_mem B);rw[o]at C;exact⟨i,C,eu Q r2,cs[k],aB3 B,O⟩
/-! ### The search -/
def iW(f:Nat->Bool):Nat->Nat
 | 0=>0
 | n+1=>iW f n+(if f n=true then 1 else 0)
theorem CW(f:Nat->Bool):∀ n,iW f n<=n
 | 0=>aB2 _
 | n+1=>by have:=CW f n;rw[iW];split <;> omega
theorem MB{f g:Nat->Bool}:∀ n,(∀ i,i<n->f i=g i)->iW f n=iW g n
 | 0,_=>rfl
 | n+1,h=>by rw[iW,iW,MB n (λi hi=>h i (by omega)),h n (by omega)]
theorem Ky{f:Nat->Bool}{b:Nat}(hf:f b=false):∀ n,b<n->iW (upd f b true) n=iW f n+1
 | 0,h=>by omega
 | n+1,h=>by
  by_cases e:b=n
  ·subst e;rw[iW,iW,MB (f:=upd f b true) (g:=f) b (λi hi=>by unfold upd;rw[aC1 (by omega)])];simp[upd,hf]
  ·rw[iW,iW,Ky hf n (by omega)];have e2:upd f b true n=f n:=by unfold upd;rw[aC1 (λh=>e h.symm)]
   rw[e2];omega
theorem QC{f g:Nat->Bool}:∀ n,(∀ i,i<n->f i=true->g i=true)->iW f n<=iW g n
 | 0,_=>aB2 _
 | n+1,h=>by
  have h1:=QC n (λi hi=>h i (by omega));have h2:=h n (by omega);rw[iW,iW];by_cases e:f n=true
  ·rw[aC2 e,aC2 (h2 e)];omega
  ·rw[aC1 e];split <;> omega
theorem Yn{f g:Nat->Bool}{b:Nat}(hf:f b=false)(hg:g b=true):∀ n,b<n->(∀ i,i<n->f i=true->g i=true)->iW f n<iW g n
 | 0,h,_=>by omega
 | n+1,h,hm=>by
  by_cases e:b=n
  ·subst e;have:=QC b (λi hi=>hm i (by omega));rw[iW,iW,aC1 (by simp[hf]),aC2 hg];omega
  ·have h1:=Yn hf hg n (by omega) (λi hi=>hm i (by omega));have h2:=hm n (by omega);rw[iW,iW];by_cases e:f n=true
   ·rw[aC2 e,aC2 (h2 e)];omega
   ·rw[aC1 e];split <;> omega
structure MX (E:Nat->Nat->Prop) (N:Nat) (goal:Nat->Bool) (rl:List Nat) (found:Nat->Bool):Prop where
 Yh:∀ x,x<N->goal x=true->x∈rl
 sound:∀ x∈rl,x<N/\(goal x=true\/found x=true)
 ok:∀ x,found x=true->x<N/\fO E (λy=>goal y=true) x
 in_:∀ x,found x=true->x∈rl
 len:rl.length=iW goal N+iW found N
theorem afH{E:Nat->Nat->Prop}{N:Nat}{goal found:Nat->Bool}{rl:List Nat}(h:MX E N goal rl found){a y:Nat}(ha:a∈rl)(he:E y a)(hy:y<N)(hf:found y=false):MX E N goal (rl++[y]) (upd found y true):=by
 have f:∀ x,upd found y true x=true↔(found x=true\/x=y):=λx=>by
  unfold upd;by_cases e:x=y
  ·simp[e]
  ·simp[e]
 refine⟨λx b i=>List.mem_append_left _ (h.Yh x b i),λx b=>?_,λx b=>?_,λx b=>?_,?_⟩
 ·rcases aCG.1 b with b | b
  ·obtain⟨d,c⟩:=h.sound x b;exact⟨d,c.imp id λg=>(f x).2 (aCa g)⟩
  ·simp at b;subst b;exact⟨hy,aCb ((f x).2 (aCb rfl))⟩
 ·rcases (f x).1 b with d | rfl
  ·exact h.ok x d
  ·refine⟨hy,?_⟩;obtain⟨d,c⟩:=h.sound a ha;rcases c with c | c
   ·exact⟨a,lU he,c⟩
   ·obtain⟨z,g,j⟩:=(h.ok a c).2;exact⟨z,Zt he g,j⟩
 ·rcases (f x).1 b with d | rfl
  ·exact List.mem_append_left _ (h.in_ x d)
  ·exact List.mem_append_right _ (by simp)
 ·rw[Ky hf N hy,aCd,h.len];simp;omega
theorem ab4{E:Nat->Nat->Prop}{N:Nat}{goal found:Nat->Bool}{rl:List Nat}(hE:∀ a b,E a b->b<N)(h:MX E N goal rl found)(hall:∀ a∈rl,∀ y,E y a->found y=true)(x:Nat):found x=true↔fO E (λy=>goal y=true) x:=by
 refine⟨λk=>(h.ok x k).2,?_⟩;rintro ⟨y,⟨L,e⟩,f⟩
 induction L generalizing x with
 | zero=>
  obtain⟨c,d,rfl⟩:=e;exact hall _ (h.Yh _ (hE _ _ d) f) x d
 | succ L ih=>
  obtain⟨c,d,g⟩:=e;exact hall c (h.in_ c (ih c g)) x d
def aG(goal:Nat->Bool)(n:Nat):List Nat:=(List.range n).filter goal
theorem He(goal:Nat->Bool)(n:Nat):aG goal (n+1)=aG goal n++(if goal n=true then [n] else []):=by
 unfold aG;rw[aCT,List.filter_append];cases e:goal n <;> simp[e]
theorem sM(goal:Nat->Bool):∀ n,(aG goal n).length=iW goal n
 | 0=>rfl
 | n+1=>by rw[He,iW,aCd,sM goal n];split <;> simp
theorem ZQ(E:Nat->Nat->Prop)(N:Nat)(goal:Nat->Bool):MX E N goal (aG goal N) (λ_=>false):=by
 have z:∀ n,iW (λ_=>false) n=0:=λn=>by
  induction n with
  | zero=>rfl
  | succ n ih=>rw[iW,ih];simp
 refine⟨λx a b=>by simp[aG,a,b],λx a=>?_,λx a=>by simp at a,λx a=>by simp at a,by rw[sM,z];rfl⟩;simp[aG]at a;exact⟨a.1,aCa a.2⟩
structure bV (w:World) (g N:Nat) (f:Nat->Bool):Prop where
 c:∀ i,i<N->w.cell? ⟨g,i,none⟩=some (.bool (f i))
 f:∀ i,i<N->w.frozen? ⟨g,i,none⟩=false
theorem bV.below{B:Nat}{w w':World}{g N:Nat}{f:Nat->Bool}(h:bV w g N f)(hb:Below B w w')(hlt:g<B):bV w' g N f:=
 ⟨λj hj=>(hb.cell (p:=⟨g,j,none⟩) hlt).trans (h.c j hj),λj hj=>(hb.frozen (p:=⟨g,j,none⟩) hlt).trans (h.f j hj)⟩
theorem bV.drew{w:World}{g N:Nat}{f:Nat->Bool}(h:bV w g N f):bV w.drew g N f:=⟨h.c,h.f⟩
theorem bV.congr{w:World}{g N:Nat}{f f':Nat->Bool}(h:bV w g N f)(e:∀ j,j<N->f j=f' j):bV w g N f':=⟨λj hj=>by rw[h.c j hj,e j hj],h.f⟩
theorem bV.set{w:World}{g N:Nat}{f:Nat->Bool}(h:bV w g N f)(i:Nat)(v:Bool):bV (w.setCell ⟨g,i,none⟩ (.bool v)) g N (upd f i v):=by
 refine⟨λj a=>?_,λj a=>by rw[aCm];exact h.f j a⟩;by_cases e:j=i
 ·subst e;rw[aCz _ _ _ (h.c j a)];simp[upd]
 ·rw[aB8 _ ⟨g,i,none⟩ ⟨g,j,none⟩ _ (λq=>e (by have:=congrArg Addr.off q;simp at this;omega)),h.c j a];simp[upd,e]
theorem bV.other{w:World}{g N:Nat}{f:Nat->Bool}(h:bV w g N f)(p:Addr)(v:Value)(hp:p.block≠g):bV (w.setCell p v) g N f:=by
 refine⟨λj a=>?_,λj a=>by rw[aCm];exact h.f j a⟩;rw[aB8 _ p ⟨g,j,none⟩ _ (λq=>hp (congrArg Addr.block q))];exact h.c j a
theorem bV.z8{w:World}{g N:Nat}{f:Nat->Bool}(h:bV w g N f){t:Nat}(ht:t*256+256<=N):bE w g (t*256) (λj=>f (t*256+j)):=
 ⟨λj hj=>h.c _ (by omega),λj hj=>h.f _ (by omega)⟩
theorem bV.stored{w w1:World}{b o g N:Nat}{f g':Nat->Bool}(h:bV w g N f)(s:wV w b o g' w1)(hne:g≠b):bV w1 g N f:=
 ⟨λj hj=>by rw[s.cell ⟨g,j,none⟩ (aCa hne)];exact h.c j hj,λj hj=>by rw[s.fz];exact h.f j hj⟩
theorem Tryz.Gm:(Tryz.prog.info? 61).map (λi=>(i.zero,i.size,i.bytes))=some (some (.agg (gv λ_=>false).toArray),256,256):=by kernel_rfl
theorem acZ{w:World}{base g n:Nat}(h:w.ownsRow base 61 256 (.slice (some ⟨g,0,none⟩) n n) n (madeCells (gv λ_=>false).toArray (n*256)).toList):bV w g (n*256) (λ_=>false):=by
 refine⟨λi a=>?_,λi a=>World.ownsRow.frozenAt h i⟩;rw[World.ownsRow.cellAt h i (by omega)];have b:(madeCells (gv λ_=>false).toArray (n*256)).toList[i]?=some ((gv λ_=>false).toArray[i % (gv λ_=>false).toArray.size]!):=by
  simp[madeCells,a]
 rw[b];have c:i % 256<256:=Nat.mod_lt _ (by omega);simp[gv,c]
theorem jv{ops:Array Oper}{rest:List Oper}{o:Oper}{a:Act}{Q:Exit->Act->World->Prop}(w:World)(hg:o.guard=none)(l:Operand)(hop:o.op=Op.makeSlice 59 l l)(n:Nat)(hl:a.eval l=.int .i64 n)(hn:n<=1099511627776)
  (hK:∀ w',bV w' w.heap.size (n*256) (λ_=>false)->w.heap.size<w'.heap.size->Below w.heap.size w w'->wpList Tryz.prog ops Q rest (a.put o.dst (.slice (some ⟨w.heap.size,0,none⟩) n n)) w') :
  wpList Tryz.prog ops Q (o::rest) a w:=by
 obtain⟨i0,c,d,e,f⟩:=info_parts Tryz.Gm;refine aCI w hg l l 59 hop w.heap.size 61 i0 (.agg (gv λ_=>false).toArray) 256 Tryz.underlying59 c d e .i64 .i64 n n n hl hl rfl rfl ?_ ?_ (aB2 _) ?_
 ·rw[f];omega
 ·unfold maxLen;omega
 ·intro w' own b;exact hK w' (acZ own) (own.lt _ rfl).2 ((aB4 _ _).grown b (aB2 _) (λk h=>by cases h))
def eU(f wt:Nat->Bool):Nat->Bool:=λx=>f x&&wt (x % 256)
theorem tq(f:Nat->Bool){j:Nat}(hj:j<256)(W:World):(Instr.index 61 (.agg (gv f).toArray) (.int .i64 (j:Nat))).run Tryz.prog W=.ok (.bool (f j)) W:=
 jh W Tryz.jM (λw=>Cu Tryz.underlying4 w) Tryz.Ie hj (by simpa using zZ f hj)
theorem Kz(g n cap:Nat)(f wt:Nat->Bool)(w:World)(hn:n<=1099511627776)(hf:bV w g (n*256) f)(hg:g<w.heap.size) :
  Calls Tryz.prog 137 #[.slice (some ⟨g,0,none⟩) n cap,.agg (gv wt).toArray] w λe w'=>∃ g',e=.returned (.slice (some ⟨g',0,none⟩) n n)/\w.heap.size<=g'/\g'<w'.heap.size/\bV w' g' (n*256) (eU f wt)/\Below w.heap.size w w':=by
 have B:=hid hf;clear hf;go_enter Tryz.func137,Tryz.ntmps137;go_wp2_with (at_make;go_must (refine jv _ rfl (.tmp 11) rfl n rfl hn ?_));intro T u C s;have D:=hid ((wQ w wt 61).below s (by omega));have E:=hid u;have F:=hid (((aB4 w.heap.size w).alloc (aB2 _) (.cells (gv wt).toArray 61)).trans (s.mono (by omega)));clear u s;go_wp2_with fail
 go_loopw [15] (λi b=>∃ t:Nat,t<=n/\i=.int .i64 t/\Hid (bV b (w.heap.size+1) (n*256) (upTo (eU f wt) (t*256)))/\Hid (bE b w.heap.size 0 wt)/\w.heap.size+1<b.heap.size/\Hid (Below w.heap.size w b)) (λi _=>n - (intOf i).toNat)
 case atStart=>exact⟨0,aCg _,rfl,by rw[Nat.zero_mul,ug];exact E,D,C,F⟩
 case round=>
  obtain⟨t,U,rfl,d,m,G,k⟩:=hrel;rename World=>W0;by_cases H:t<n
  ·have x:=hid ((B.out.below k.out hg).z8 (t:=t) (by omega));go_wp2_with (first | (refine aN rfl (.tmp 18) rfl g (t*256) _ rfl x.out ?_) | (refine bM rfl (.tmp 7) (.tmp 19) rfl W0.heap.size 0 (λj=>f (t*256+j)) rfl rfl (ig W0).there ?_))
   intro I l;have J:=hid l.at_;have L:=hid (l.z8 (m.out.alloc (.cells Tryz.zeroCells61 61)) (aCa (by omega)));have M:=hid ((d.out.below ((aB4 W0.heap.size W0).alloc (aB2 _) (.cells Tryz.zeroCells61 61)) (by omega)).stored l (by omega));have N:=hid (l.bD _ _ (by omega) (k.out.alloc (by omega) (.cells Tryz.zeroCells61 61)));have O:w.heap.size+1<I.heap.size:=by rw[l.size,size_alloc];omega
   clear l x;go_wp2_with (refine aN rfl (.tmp 7) rfl W0.heap.size 0 _ rfl J.out ?_)
   go_loopw [21] (λi b=>∃ j:Nat,j<=256/\i=.int .i64 j/\Hid (bV b (w.heap.size+1) (n*256) (upTo (eU f wt) (t*256+j)))/\Hid (bE b w.heap.size 0 wt)/\w.heap.size+1<b.heap.size/\Hid (Below w.heap.size w b)) (λi _=>256 - (intOf i).toNat)
   case atStart=>exact⟨0,by omega,rfl,M,L,O,N⟩
   case round=>
    obtain⟨j,y,rfl,d,m,P,k⟩:=hrel;rename World=>W3;by_cases z:j<256
    ·have V:=d.out.f (t*256+j) (by omega);have X:=d.out.c (t*256+j) (by omega);have Y:W3.cell? ⟨w.heap.size,j,none⟩=some (.bool (wt j)):=by have:=m.out.c j z;rwa [aCw]at this
     have Z:=λW=>tq (λj=>f (t*256+j)) z W;have Q:eU f wt (t*256+j)=(f (t*256+j)&&wt j):=by unfold eU;rw[show (t*256+j) % 256=j by omega]
     have o:=hid (d.out.drew.set (t*256+j) (eU f wt (t*256+j)));have q:=hid (m.out.drew.other ⟨w.heap.size+1,t*256+j,none⟩ (.bool (eU f wt (t*256+j))) (aCa (by simp)));have r:=hid (k.out.drew.setCell (p:=⟨w.heap.size+1,t*256+j,none⟩) (by show w.heap.size<=w.heap.size+1;omega) (.bool (eU f wt (t*256+j))));rw[uh]at o;generalize upTo (eU f wt) (t*256+j) (t*256+j)=ov at *;generalize eU f wt (t*256+j)=sv at *;generalize f (t*256+j)=fv at *;generalize wt j=wv at *;subst Q;cases fv with
     | false=>
      simp only[Bool.false_and]at o q r;go_wp2_with fail;refine wp_region_held_drew (S:=λ_=>True) (by kernel_rfl) trivial (λR=>?_);refine aCc (i:=0) (oi:={ dst:=some 25,op:=Op.move (.tmp 5),type:=_,pos:=_,after:=_,guard:=none }) (v:=(Value.slice (some ⟨w.heap.size+1,0,none⟩) n n)) rfl (by kernel_rfl) (by kernel_rfl) (by kernel_rfl) (λ_ _ _ h=>h) (aCa ⟨by rfl,by intro w' a;(try dsimp only at a);go_simp⟩) (by assumption) ?_
      simp only[Act.put,aB1,aB5,aB6];refine aCc (i:=1) (oi:={ dst:=some 26,op:=Op.move (.tmp 6),type:=_,pos:=_,after:=_,guard:=none }) (v:=(Value.int .i64 (t:Nat))) rfl (by kernel_rfl) (by kernel_rfl) (by kernel_rfl) (λ_ _ _ h=>h) (aCa ⟨by rfl,by intro w' a;(try dsimp only at a);go_simp⟩) (by assumption) ?_
      simp only[Act.put,aB1,aB5,aB6];refine aCc (i:=2) (oi:={ dst:=some 27,op:=Op.move (.tmp 8),type:=_,pos:=_,after:=_,guard:=none }) (v:=(Value.int .i64 (j:Nat))) rfl (by kernel_rfl) (by kernel_rfl) (by kernel_rfl) (λ_ _ _ h=>h) (aCa ⟨by rfl,by intro w' a;(try dsimp only at a);go_simp⟩) (by assumption) ?_
      simp only[Act.put,aB1,aB5,aB6];refine aCc (i:=3) (oi:={ dst:=some 28,op:=Op.move (.tmp 9),type:=_,pos:=_,after:=_,guard:=none }) (v:=(Value.bool false)) rfl (by kernel_rfl) (by kernel_rfl) (by kernel_rfl) (λ_ _ _ h=>h) (aCa ⟨by rfl,by intro w' a;(try dsimp only at a);go_simp⟩) (by assumption) ?_
      simp only[Act.put,aB1,aB5,aB6];refine aCc (i:=4) (oi:={ dst:=some 29,op:=Op.move (.tmp 28),type:=_,pos:=_,after:=_,guard:=none }) (v:=(Value.bool false)) rfl (by kernel_rfl) (by kernel_rfl) (by kernel_rfl) (λ_ _ _ h=>h) (aCa ⟨by rfl,by intro w' a;(try dsimp only at a);go_simp⟩) (by assumption) ?_
      simp only[Act.put,aB1,aB5,aB6];refine aCc (i:=5) (oi:={ dst:=some 30,op:=Op.move (.tmp 8),type:=_,pos:=_,after:=_,guard:=some (4,true) }) (v:=undef) rfl (by kernel_rfl) (by kernel_rfl) (by kernel_rfl) (λ_ _ _ h=>h) (aCb ⟨by rfl,rfl⟩) (by assumption) ?_;simp only[Act.put,aB1,aB5,aB6];refine aCc (i:=6) (oi:={ dst:=some 31,op:=Op.indexAddr _ (.tmp 3) (.tmp 30),type:=_,pos:=_,after:=_,guard:=some (4,true) }) (v:=undef) rfl (by kernel_rfl) (by kernel_rfl) (by kernel_rfl) (λ_ _ _ h=>h) (aCb ⟨by rfl,rfl⟩) (by assumption) ?_;simp only[Act.put,aB1,aB5,aB6];refine aCc (i:=7) (oi:={ dst:=some 32,op:=Op.load _ (.tmp 31),type:=_,pos:=_,after:=_,guard:=some (4,true) }) (v:=undef) rfl (by kernel_rfl) (by kernel_rfl) (by kernel_rfl) (λ_ _ _ h=>h) (aCb ⟨by rfl,rfl⟩) (by assumption) ?_;simp only[Act.put,aB1,aB5,aB6];refine aCc (i:=8) (oi:={ dst:=some 33,op:=Op.pick (.tmp 29) (.tmp 32) (Operand.const (Value.bool false)),type:=_,pos:=_,after:=_,guard:=none }) (v:=(Value.bool false)) rfl (by kernel_rfl) (by kernel_rfl) (by kernel_rfl) (λ_ _ _ h=>h) (aCa ⟨by rfl,by intro w' a;(try dsimp only at a);go_simp⟩) (by assumption) ?_
      simp only[Act.put,aB1,aB5,aB6];refine aCc (i:=9) (oi:={ dst:=some 34,op:=Op.indexAddr _ (.tmp 25) (.tmp 26),type:=_,pos:=_,after:=_,guard:=none }) (v:=(Value.pointer (some ⟨w.heap.size+1,t*256,none⟩))) rfl (by kernel_rfl) (by kernel_rfl) (by kernel_rfl) (λ_ _ _ h=>h) (aCa ⟨by rfl,by intro w' a;(try dsimp only at a);go_simp⟩) (by assumption) ?_
      simp only[Act.put,aB1,aB5,aB6];refine aCc (i:=10) (oi:={ dst:=some 35,op:=Op.indexAddr _ (.tmp 34) (.tmp 27),type:=_,pos:=_,after:=_,guard:=none }) (v:=(Value.pointer (some ⟨w.heap.size+1,t*256+j,none⟩))) rfl (by kernel_rfl) (by kernel_rfl) (by kernel_rfl) (λ_ _ _ h=>h) (aCa ⟨by rfl,by intro w' a;(try dsimp only at a);go_simp⟩) (by assumption) ?_
      simp only[Act.put,aB1,aB5,aB6];refine aCk (rs:=[11]) (by kernel_rfl) (by simp) ?_;refine aCf rfl (λK A=>?_) aCj
      go_simp
      refine A.out _ _ trivial (λR=>?_);clear A K;refine aC0 (by kernel_rfl) ?_ _;go_wp2_with fail;go_roundw
      case rel=>exact⟨j+1,by omega,by go_num,o,q,by simp;omega,r⟩
      case measure=>simp[intOf];omega
     | true=>
      simp only[Bool.true_and]at o q r;go_wp2_with fail
      go_region_held3 (λw'=>w'.cell? ⟨w.heap.size,j,none⟩=some (.bool wv)) (go_keep) (fail)
      go_wp2_with fail;go_roundw
      case rel=>exact⟨j+1,by omega,by go_num,o,q,by simp;omega,r⟩
      case measure=>simp[intOf];omega
    ·obtain rfl:j=256:=by omega
     go_wp2_with fail;go_roundw
     case rel=>exact⟨t+1,by omega,by go_num,by rw[show (t+1)*256=t*256+256 by omega];exact d,m,P,k⟩
     case measure=>simp[intOf];omega
  ·obtain rfl:t=n:=by omega
   go_wp2_with fail;go_ret;exact⟨_,rfl,by omega,G,d.out.congr (λj y=>by simp[upTo,y]),k.out⟩
theorem ae5(g1 g2 n c1 c2:Nat)(f h:Nat->Bool)(w:World)(hn:n<=1099511627776)(hf:bV w g1 (n*256) f)(hh:bV w g2 (n*256) h)(hg1:g1<w.heap.size)(oO:g2<w.heap.size) :
  Calls Tryz.prog 132 #[.slice (some ⟨g1,0,none⟩) n c1,.slice (some ⟨g2,0,none⟩) n c2] w λe w'=>∃ b:Bool,e=.returned (.bool b)/\(b=true↔∀ i,i<n*256->f i=h i)/\Below w.heap.size w w':=by
 have q:=hid hf;have r:=hid hh;have F:=λg h W=>pO 9998 g h W;clear hf hh;go_enter Tryz.func132,Tryz.ntmps132;go_wp2_with fail
 go_loopw [14] (λi s=>∃ t:Nat,t<=n/\i=.int .i64 t/\Hid (∀ i,i<t*256->f i=h i)/\Hid (Below w.heap.size w s)) (λi _=>n - (intOf i).toNat)
 case atStart=>exact⟨0,aCg _,rfl,hid (λi u=>by omega),hid (aB4 _ _)⟩
 case round=>
  obtain⟨t,G,rfl,l,c⟩:=hrel;rename World=>W0;by_cases x:t<n
  ·have y:=c.out.size;have m:=hid ((q.out.below c.out hg1).z8 (t:=t) (by omega));have o:=hid ((r.out.below c.out oO).z8 (t:=t) (by omega));go_wp2_with (first | (refine aN rfl (.tmp 17) rfl g1 (t*256) _ rfl m.out ?_) | (refine bM rfl (.tmp 6) (.tmp 18) rfl W0.heap.size 0 (λj=>f (t*256+j)) rfl rfl (ig W0).there ?_))
   intro H d;have z:=hid d.at_;have A:=hid (d.z8 (o.out.alloc (.cells Tryz.zeroCells61 61)) (aCa (by omega)));have p:=hid (d.bD _ _ (by omega) (c.out.alloc (by omega) (.cells Tryz.zeroCells61 61)));clear d m o;go_wp2_with fail;refine wp_region_held_drew (S:=λW=>bE W W0.heap.size 0 (λj=>f (t*256+j))/\bE W g2 (t*256) (λj=>h (t*256+j))) (by kernel_rfl) ⟨z.out.drew,A.out.drew⟩ (λB=>?_);refine aCc (i:=0) (oi:={ dst:=some 19,op:=Op.load 61 (.tmp 6),type:=_,pos:=_,after:=_,guard:=none }) (v:=(Value.agg (gv (λj=>f (t*256+j))).toArray)) rfl (by kernel_rfl) (by kernel_rfl) (by kernel_rfl) (λ_ _ _ h=>h) (yieldsIf_load_mid (by rfl) 61 (.tmp 6) rfl W0.heap.size 0 rfl (gv (λj=>f (t*256+j))) _ (λW h=>h.1.ww) Tryz.jM rfl (Tryz.qh _)) (by assumption) ?_;simp only[Act.put,aB1,aB5,aB6];refine aCc (i:=1) (oi:={ dst:=some 20,op:=Op.move (.tmp 1),type:=_,pos:=_,after:=_,guard:=none }) (v:=(Value.slice (some ⟨g2,0,none⟩) n c2)) rfl (by kernel_rfl) (by kernel_rfl) (by kernel_rfl) (λ_ _ _ h=>h) (aCa ⟨by rfl,by intro w' a;(try dsimp only at a);go_simp⟩) (by assumption) ?_
   simp only[Act.put,aB1,aB5,aB6];refine aCc (i:=2) (oi:={ dst:=some 21,op:=Op.move (.tmp 5),type:=_,pos:=_,after:=_,guard:=none }) (v:=(Value.int .i64 (t:Nat))) rfl (by kernel_rfl) (by kernel_rfl) (by kernel_rfl) (λ_ _ _ h=>h) (aCa ⟨by rfl,by intro w' a;(try dsimp only at a);go_simp⟩) (by assumption) ?_
   simp only[Act.put,aB1,aB5,aB6];refine aCc (i:=3) (oi:={ dst:=some 22,op:=Op.indexAddr _ (.tmp 20) (.tmp 21),type:=_,pos:=_,after:=_,guard:=none }) (v:=(Value.pointer (some ⟨g2,t*256,none⟩))) rfl (by kernel_rfl) (by kernel_rfl) (by kernel_rfl) (λ_ _ _ h=>h) (aCa ⟨by rfl,by intro w' a;(try dsimp only at a);go_simp⟩) (by assumption) ?_
   simp only[Act.put,aB1,aB5,aB6];refine aCc (i:=4) (oi:={ dst:=some 23,op:=Op.load 61 (.tmp 22),type:=_,pos:=_,after:=_,guard:=none }) (v:=(Value.agg (gv (λj=>h (t*256+j))).toArray)) rfl (by kernel_rfl) (by kernel_rfl) (by kernel_rfl) (λ_ _ _ h=>h) (yieldsIf_load_mid (by rfl) 61 (.tmp 22) rfl g2 (t*256) rfl (gv (λj=>h (t*256+j))) _ (λW h=>h.2.ww) Tryz.jM rfl (Tryz.qh _)) (by assumption) ?_;simp only[Act.put,aB1,aB5,aB6];refine aCc (i:=5) (oi:={ dst:=some 24,op:=Op.binOp BinOp.neq 61 (.tmp 19) (.tmp 23) 61,type:=_,pos:=_,after:=_,guard:=none }) (v:=(Value.bool (!geq (λj=>f (t*256+j)) (λj=>h (t*256+j))))) rfl (by kernel_rfl) (by kernel_rfl) (by kernel_rfl) (λ_ _ _ h=>h) (aCa ⟨by rfl,by intro w' a;go_simp⟩) (by assumption) ?_;simp only[Act.put,aB1,aB5,aB6];refine aC0 (by kernel_rfl) ?_ _;clear B;cases eq:geq (λj=>f (t*256+j)) (λj=>h (t*256+j)) with
   | true=>
    have C:=hid (jR.1 eq);clear eq;go_wp2_with fail;go_roundw
    case rel=>
     refine⟨t+1,by omega,by go_num,hid (λi u=>?_),hid p.out.drew⟩;by_cases D:i<t*256
     ·exact l.out i D
     ·have:=C.out (i - t*256) (by omega);rwa [show t*256+(i - t*256)=i by omega]at this
    case measure=>simp[intOf];omega
   | false=>
    have E:Hid (¬ ∀ i,i<n*256->f i=h i):=hid (λk=>by
     have:geq (λj=>f (t*256+j)) (λj=>h (t*256+j))=true:=jR.2 λj I=>k _ (by omega);rw[eq]at this;cases this)
    clear eq;go_wp2_with fail;go_ret;exact⟨false,rfl,by simpa using E.out,p.out.drew⟩
  ·obtain rfl:t=n:=by omega
   go_wp2_with fail;go_ret;exact⟨true,rfl,by simpa using l.out,c.out⟩
def dE(xs:List Nat):List Value:=xs.flatMap λx=>[.int .i64 (x / 256:Nat),.int .u8 (x % 256:Nat)]
theorem Jw(xs:List Nat)(x:Nat):dE (xs++[x])=dE xs++[.int .i64 (x / 256:Nat),.int .u8 (x % 256:Nat)]:=by simp[dE]
theorem yQ{xs:List Nat}{i x:Nat}(h:xs[i]?=some x):(dE xs)[i*2]?=some (.int .i64 (x / 256:Nat))/\(dE xs)[i*2+1]?=some (.int .u8 (x % 256:Nat)):=by
 induction xs generalizing i with
 | nil=>simp at h
 | cons p ps ih=>
  cases i with
  | zero=>simp at h;subst h;simp[dE]
  | succ i=>
   have:=ih (by simpa using h);rw[show dE (p::ps)=[.int .i64 (p / 256:Nat),.int .u8 (p % 256:Nat)]++dE ps by simp[dE]];rw[aCi (by simp;omega),aCi (by simp;omega)];simpa [show (i+1)*2 - 2=i*2 by omega,show (i+1)*2+1 - 2=i*2+1 by omega] using this
theorem Tryz.Gl:(Tryz.prog.info? 166).map (λi=>(i.zero,i.size,i.bytes))=some (some (.agg #[.int .i64 0,.int .u8 0]),2,16):=by kernel_rfl
theorem UO(f:Nat->Bool)(n:Nat):(aG f n).length<=n:=by rw[sM];exact CW f n
theorem TB(g n cap:Nat)(f:Nat->Bool)(w:World)(hn:n<=17179869184)(hf:bV w g (n*256) f)(hg:g<w.heap.size) :
  Calls Tryz.prog 92 #[.slice (some ⟨g,0,none⟩) n cap] w λe w'=>∃ v,e=.returned v/\w'.ownsRow w.heap.size 166 2 v (aG f (n*256)).length (dE (aG f (n*256)))/\Below w.heap.size w w':=by
 have s:=hid hf;clear hf;obtain⟨i0,u,x,y,z⟩:=info_parts Tryz.Gl;go_enter Tryz.func92,Tryz.ntmps92;go_wp2_with fail
 go_loopw [3,10] (λv i l=>∃ t:Nat,t<=n/\i=.int .i64 t/\Hid (l.ownsRow w.heap.size 166 2 v (aG f (t*256)).length (dE (aG f (t*256))))/\Hid (Below w.heap.size w l)) (λ_ i _=>n - (intOf i).toNat)
 case atStart=>exact⟨0,aCg _,rfl,hid (aCp _ _ _ _),hid (aB4 _ _)⟩
 case round=>
  obtain⟨t,L,rfl,d,b⟩:=hrel;rename World=>W0;rename Value=>v0;by_cases A:t<n
  ·have m:=b.out.size;have p:=hid ((s.out.below b.out hg).z8 (t:=t) (by omega));go_wp2_with (first | (refine aN rfl (.tmp 13) rfl g (t*256) _ rfl p.out ?_) | (refine bM rfl (.tmp 5) (.tmp 14) rfl W0.heap.size 0 (λj=>f (t*256+j)) rfl rfl (ig W0).there ?_))
   intro M o;have q:=hid o.at_;have B:=hid (o.bD _ _ (by omega) (b.out.alloc (by omega) (.cells Tryz.zeroCells61 61)));have C:=hid (ai d.out (o.bD W0.heap.size W0 (aB2 _) ((aB4 _ _).alloc (aB2 _) (.cells Tryz.zeroCells61 61))));clear o p;go_wp2_with (refine aN rfl (.tmp 5) rfl W0.heap.size 0 _ rfl q.out ?_);clear q
   go_loopw [3,16] (λv i l=>∃ j:Nat,j<=256/\i=.int .i64 j/\Hid (l.ownsRow w.heap.size 166 2 v (aG f (t*256+j)).length (dE (aG f (t*256+j))))/\Hid (Below w.heap.size w l)) (λ_ i _=>256 - (intOf i).toNat)
   case atStart=>exact⟨0,by omega,rfl,C,B⟩
   case round=>
    obtain⟨j,N,rfl,d,b⟩:=hrel;rename World=>W3;rename Value=>v3;by_cases D:j<256
    ·have O:=λW=>tq (λj=>f (t*256+j)) D W;have P:=UO f (t*256+j);have r:=hid (He f (t*256+j));have E:Hid ((t*256+j) / 256=t):=hid (by omega);have F:Hid ((t*256+j) % 256=j):=hid (by omega);have G:IntKind.u8.wrap (j:Int)=j:=by rw[IntKind.wrap_u8];omega
     have m:=b.out.size;generalize aG f (t*256+j)=xs at *;generalize f (t*256+j)=fv at *;cases fv with
     | false=>
      go_wp2_with fail;go_roundw
      case rel=>exact⟨j+1,by omega,by go_num,by rw[show t*256+(j+1)=t*256+j+1 by omega,r.out];simpa using d,b⟩
      case measure=>simp[intOf];omega
     | true=>
      go_wp2_with (at_builtin;go_must (refine wpList_append_own _ rfl (.tmp 21) (.tmp 26) 163 rfl w.heap.size 166 i0 (.agg #[.int .i64 0,.int .u8 0]) 2 16 Tryz.underlying163 u x y z rfl (by decide) _ _ _ rfl (d.out.alloc _) ⟨W3.heap.size,0,none⟩ 1 1 [.int .i64 (t:Nat),.int .u8 (j:Nat)] rfl rfl ?c1 ?c2 ?c3 ?c4 ?c5 ?_))
      case c2=>exact⟨rfl,rfl⟩
      case c3=>unfold maxLen;omega
      case c4=>omega
      case c5=>omega
      intro H I c a _;have J:=hid ((b.out.alloc m (.cells #[.int .i64 (t:Nat),.int .u8 (j:Nat)] 166)).grown a (by simp;omega) (λk h=>(d.out.lt k h).1));have K:Hid (I.ownsRow w.heap.size 166 2 H (aG f (t*256+j+1)).length (dE (aG f (t*256+j+1)))):=by
       rw[r.out,aC2 (by trivial),aCd,Jw,E.out,F.out];exact hid c
      clear c a;go_wp2_with fail;go_roundw
      case rel=>exact⟨j+1,by omega,by go_num,K,J⟩
      case measure=>simp[intOf];omega
    ·obtain rfl:j=256:=by omega
     go_wp2_with fail;go_roundw
     case rel=>exact⟨t+1,by omega,by go_num,by rw[show (t+1)*256=t*256+256 by omega];exact d,b⟩
     case measure=>simp[intOf];omega
  ·obtain rfl:t=n:=by omega
   go_wp2_with fail;go_ret;exact⟨_,rfl,d.out,b.out⟩
