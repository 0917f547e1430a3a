import Derived.Test.YtjagijohfkffiabGreatALLM04
import Derived.Test.YtjagijohfkffiabGreatALLM37
import Derived.Laws.ResultCell
set_option maxHeartbeats 16000000
set_option maxRecDepth 100000
namespace Go.Proofs.YtjagijohfkffiabGreat
open Go.RowKit
set_option linter.unusedVariables false
def GR (ns:List Nd) (ss:List St):Prop:=∃ out nx,Ap ns ss.length out nx∧∀ c,c<ss.length→ss[c]?=some (uE (out c) (nx c))
section
variable {ns:List Nd} {aa:Nat→Bool} {us:List (List Nat)} {xs:List Nat}
structure Pe (out:Nat→Nat) (nx:Nat→Nat→Nat) (K:Nat) (kds:List Nat) (n:Nat):Prop where
 len:kds.length=K
 fo:Fo (dS kds) K
 cnt:n=aR (dS kds) K
 like:∀ i j,i<K→j<K→ik out nx out nx i j→dS kds i=dS kds j
 fin:∀ kd',XY K out nx (dS kds) kd'→∀ i j,i<K→j<K→kd' i=kd' j→dS kds i=dS kds j
theorem vE (K i:Nat):dS (List.replicate K 0) i=0:=by
 unfold dS
 rw [List.getD]
 by_cases h:i<K
 ·simp [h]
 ·simp [List.getElem?_eq_none (show (List.replicate K 0).length≤i by simp;omega)]
theorem Oh:∀ m,aR (fun _=>0) (m+1)=1
 | 0=>rfl
 | m+1=>by rw [aR,Oh m];rfl
theorem ZR (out:Nat→Nat) (nx:Nat→Nat→Nat) {K:Nat} (hK:0<K):Pe out nx K (List.replicate K 0) 1:=by
 have e:dS (List.replicate K 0)=fun _=>0:=by funext i;exact vE K i
 obtain ⟨m,rfl⟩:∃ m,K=m+1:=⟨K - 1,by omega⟩
 refine ⟨by simp,fun i _=>by rw [vE];exact Nat.zero_le _,by rw [e,Oh],fun i j _ _ _=>by rw [vE,vE],fun kd' _ i j _ _ _=>by rw [vE,vE]⟩
theorem ac3 {out:Nat→Nat} {nx:Nat→Nat→Nat} {K n:Nat} {kds kds':List Nat} {ss:List St} (hc:∀ i a,i<K→a<8→nx i a<K) (h:Pe out nx K kds n) (hr:yT (Jt out nx (dS kds)) K kds' ss):Pe out nx K kds' ss.length∧n≤ss.length:=by
 have hf:=VD hr
 refine ⟨⟨hr.len,hr.fo,hr.cnt,Mx hc hf h.like,fun kd' hk=>Zo hc hf hk (h.fin _ hf)⟩,?_⟩
 rw [h.cnt,hr.cnt]
 exact aao h.fo hr.fo (h.fin _ hf)
theorem ac4 (hg:Good ns) (hl:gW ns (aI ns ns.length) aa) (hE:eX ns aa (aB ns aa) us xs) (hx:xs.length=8*us.length) {kds kds':List Nat} {ss:List St}
  (h:Pe (bQ ns aa (aB ns aa) us) (aL xs) us.length kds ss.length) (hr:yT (Jt (bQ ns aa (aB ns aa) us) (aL xs) (dS kds)) us.length kds' ss):GR ns ss:=by
 have hf:=VD hr
 have same:=Xl h.fo hr.fo (h.fin _ hf) (by rw [←h.cnt,←hr.cnt])
 have hc:=vI hE hx
 have ex:∀ c,∃ r,c<ss.length→r<us.length∧dS kds' r=c:=fun c=>by
  by_cases hlt:c<ss.length
  ·obtain ⟨r,h1,h2⟩:=ul hr.fo us.length (Nat.le_refl _) c (by rw [←hr.cnt];exact hlt)
   exact ⟨r,fun _=>⟨h1,h2⟩⟩
  ·exact ⟨0,fun h=>absurd h hlt⟩
 let rep:Nat→Nat:=fun c=>Classical.choose (ex c)
 have hrep:∀ c,c<ss.length→rep c<us.length∧dS kds' (rep c)=c:=fun c=>Classical.choose_spec (ex c)
 have key:∀ i,i<us.length→dS kds' i<ss.length∧Jt (bQ ns aa (aB ns aa) us) (aL xs) (dS kds) (rep (dS kds' i))=Jt (bQ ns aa (aB ns aa) us) (aL xs) (dS kds) i:=fun i hi=>by
  have h1:dS kds' i<ss.length:=(List.getElem?_eq_some_iff.1 (hr.at_ i hi)).1
  obtain ⟨h2,h3⟩:=hrep _ h1
  exact ⟨h1,(VE hr h2 hi).1 h3⟩
 refine ⟨fun c=>bQ ns aa (aB ns aa) us (rep c),fun c a=>dS kds (aL xs (rep c) a),?_,fun c hlt=>?_⟩
 ·have hm:=TU hg hl hE hx (kd:=dS kds') (out':=fun c=>bQ ns aa (aB ns aa) us (rep c)) (nx':=fun c a=>dS kds (aL xs (rep c) a)) hr.fo ⟨fun i hi=>(Ic.1 (key i hi).2).1,fun i a hi ha=>by
   have h9:dS kds (aL xs (rep (dS kds' i)) a)=dS kds (aL xs i a):=(Ic.1 (key i hi).2).2 a ha
   show dS kds (aL xs (rep (dS kds' i)) a)=dS kds' (aL xs i a)
   rw [h9,same _ (hc i a hi ha)]⟩ (Mx hc hf h.like)
  rw [←hr.cnt] at hm
  exact hm
 ·obtain ⟨h2,h3⟩:=hrep c hlt
  have:=hr.at_ _ h2
  rw [h3] at this
  exact this
end
theorem eZ {P:Program} (w:World) {ops:Array Oper} {o:Oper} {a:Act} {K:Act→World→Prop} {Q:Exit→Act→World→Prop} {E:Prop} (hg:o.guard=none) (l c:Operand) (t:TypeId) (hop:o.op=Op.makeSlice t l c)
  (base:Nat) (e:TypeId) (i:TypeInfo) (z:Value) (size:Nat) (h1:P.underlying t=some (.slice e)) (h2:P.info? e=some i) (h3:i.zero=some z) (h4:i.size=size)
  (kl kc:IntKind) (L C:Int) (n:Nat) (hl:a.eval l=.int kl L) (hc:a.eval c=.int kc C) (hL:L=(n:Int)) (hC:C=(n:Int)) (b2:i.bytes*n≤281474976710656) (b3:n≤maxLen) (b4:base≤w.heap.size)
  (hK:∀ w',w'.ownsRow base e size (.slice (some ⟨w.heap.size,0,none⟩) n n) n (madeCells z.cells (n*size)).toList→w.grownBy w' none→K (a.put o.dst (.slice (some ⟨w.heap.size,0,none⟩) n n)) w') :
  if Region.wanted o (yielded ops a.tmps)=true then Oper.wp P o a w K Q else E:=by
 have hw:Region.wanted o (yielded ops a.tmps)=true:=by simp [Region.wanted,hg]
 rw [if_pos hw]
 obtain ⟨w',hrun,r1,r2⟩:=run_make_full (P:=P) w base t e i z size h1 h2 h3 h4 kl kc n b2 b3 b4
 subst hL
 subst hC
 unfold Oper.wp
 simp [execOp,hop,hl,hc,hrun,Result.andThen]
 exact hK w' r1 r2
theorem qp {w w':World} {b:Nat} {x y:Value} (h:Two w b x y) (hg:w.grownBy w' none):Two w' b x y:=by
 have hb:=hg.block b h.lt (by simp)
 exact ⟨(World.cell?_of_block (a:=⟨b,0,none⟩) hb).trans h.c0,(World.cell?_of_block (a:=⟨b,1,none⟩) hb).trans h.c1,(World.frozen?_of_block (a:=⟨b,0,none⟩) hb).trans h.f0,(World.frozen?_of_block (a:=⟨b,1,none⟩) hb).trans h.f1⟩
def TN (w:World) (b:Nat):Nat:=match w.cell? ⟨b,1,none⟩ with
 | some (.slice _ n _)=>n
 | _=>0
theorem JP {w:World} {b:Nat} {x:Value} {ao:Option Addr} {n c:Nat} (h:Two w b x (.slice ao n c)):TN w b=n:=by unfold TN;rw [h.c1]
def adC (ns:List Nd) (w:World) (e:Ending) (w':World):Prop:=
 ((∃ ss v,e=.returned (.tuple #[v,.bool true])∧w'.ownsRow w.heap.size 119 9 v ss.length (dY ss)∧iM ss∧ss.length≤8∧GR ns ss)∨(e=.returned (.tuple #[.slice none 0 0,.bool false])∧Big ns))∧Below w.heap.size w w'
theorem Vf (ns:List Nd) (aa:Nat→Bool) (us:List (List Nat)) (xs:List Nat) (g cap B0:Nat) (w:World) (hg:Good ns) (hl:gW ns (aI ns ns.length) aa) (hE:eX ns aa (aB ns aa) us xs) (hx:xs.length=8*us.length) (hK:us.length≤796594185)
  (hr:w.ownsRow B0 119 9 (.slice (some ⟨g,0,none⟩) us.length cap) us.length (dY ((List.range us.length).map fun i=>uE (bQ ns aa (aB ns aa) us i) (aL xs i)))) (hgl:g<w.heap.size) :
  Calls Tryz.prog 33 #[.slice (some ⟨g,0,none⟩) us.length cap] w (adC ns w):=by
 have qG:0<us.length:=(List.getElem?_eq_some_iff.1 hE.first).1
 have HC:=hid (vI hE hx)
 have HST:=hid (ZR (bQ ns aa (aB ns aa) us) (aL xs) qG)
 have iE:=hid (fun (kds kds':List Nat) (ss:List St) (h:Pe (bQ ns aa (aB ns aa) us) (aL xs) us.length kds ss.length) hr=>ac4 hg hl hE hx (kds':=kds') h hr)
 have Ht:=hid (fun (kds:List Nat) (n:Nat) (h:Pe (bQ ns aa (aB ns aa) us) (aL xs) us.length kds n) (h8:8<n)=>Wv hg hl hE hx (kd:=dS kds) h.fo h.like (by rw [←h.cnt];exact h8))
 have HR:=hid hr
 obtain ⟨i0,hi,hz0,hz1,hz2⟩:=info_parts Tryz.kG
 obtain ⟨i1,hi1,hz01,hz11,hz21⟩:=info_parts Tryz.Ir
 clear hr hE hx hl hg
 generalize bQ ns aa (aB ns aa) us=out at *
 generalize aL xs=nx at *
 generalize us.length=K at *
 go_enter Tryz.func33,Tryz.ntmps33
 go_wp2_with fail
 rename_i KK hKK
 have Ay:∀ (W:World) (S gK gH:Nat),Hid (Two W S (.slice (some ⟨gK,0,none⟩) K K) (.slice (some ⟨gH,0,none⟩) 1 1))→Hid (W.ownsRow w.heap.size 3 1 (.slice (some ⟨gK,0,none⟩) K K) K (madeCells (Value.int .i64 0).cells (K*1)).toList)→Hid (Below w.heap.size w W)→w.heap.size≤S→KK { tmps:=#[.slice (some ⟨g,0,none⟩) K cap,undef,.slice none 0 0,.bool false,.pointer (some ⟨S,0,none⟩),undef,.slice (some ⟨g,0,none⟩) K cap,.int .i64 (K:Nat),.slice (some ⟨gK,0,none⟩) K K,.slice (some ⟨gH,0,none⟩) 1 1,.agg #[.slice (some ⟨gK,0,none⟩) K K,.slice (some ⟨gH,0,none⟩) 1 1],undef,undef,undef,undef,undef,undef,undef,undef,undef,undef,undef,undef,undef,undef,undef,undef,undef],defers:=[] } W:=by
  intro W S gK gH TW OW BW hSle
  have hne0:(List.replicate K 0).length=K:=by simp
  have NK:Hid (NR W (.slice (some ⟨gK,0,none⟩) K K) (List.replicate K 0)):=hid (by
   have h9:=yI (B:=w.heap.size) (v:=.slice (some ⟨gK,0,none⟩) K K) (l:=List.replicate K 0) (w:=W) (by
    rw [hne0]
    have e9:(madeCells (Value.int .i64 0).cells (K*1)).toList=au (List.replicate K 0):=by
     rw [show (Value.int .i64 0).cells=#[Value.int .i64 0] from rfl,Nat.mul_one,toList_madeCells_one]
     simp [au]
    rw [←e9]
    exact OW.out)
   exact h9)
  clear OW
  go_wp2_with fail
  go_loopw [5] (fun v5 wq=>∃ (kds:List Nat) (n:Nat) (vK:Value) (ao:Option Addr) (c:Nat),Hid (Pe out nx K kds n)∧Hid (NR wq vK kds)∧Hid (Two wq S vK (.slice ao n c))∧Hid (Below w.heap.size w wq)) (fun _ wq=>10 - TN wq S)
  case atStart=>exact ⟨_,1,_,_,1,HST,NK,TW,BW⟩
  case round=>
   obtain ⟨kds,n,vK,ao,c,HKD,Yk,HTW,HB⟩:=hrel
   rename World=>W0
   clear TW NK BW
   have t0:=HTW.out.c0
   have t1:=HTW.out.c1
   have lm:=HTW.out.lt
   have KU:=hid (JP HTW.out)
   have HKL:=hid HKD.out.len
   obtain ⟨aoK,cpK,eK,hcK,hrK⟩:=Yk.out
   subst eK
   by_cases hn:n≤8
   ·have h8:(n:Int)≤8:=by omega
    go_wp2_with fail
    refine (Tf K g cap B0 out nx kds (.slice aoK kds.length cpK) (.slice ao n c) W0 hK (ae HR.out HB.out) (Nat.lt_of_lt_of_le hgl HB.out.size) Yk.out HKL.out ⟨_,_,_,rfl⟩ HC.out).mono ?_
    rintro e w5 ⟨vK5,vH5,kds5,ss5,rfl,hRF,h85,oK5,oH5,hb5⟩
    obtain ⟨hkd5,hle5⟩:=ac3 HC.out HKD.out hRF
    obtain ⟨aoK5,cpK5,rfl⟩:=ag oK5
    obtain ⟨aoH5,cpH5,rfl⟩:=ag oH5
    have Jd:=hid (HTW.out.below hb5 lm)
    have dV:=hid (HB.out.trans (hb5.mono HB.out.size))
    have hs5:=hb5.size
    have ba:=(Below.refl w5.heap.size w5).alloc (Nat.le_refl _) (.cells #[.slice aoK5 kds5.length cpK5,.slice aoH5 ss5.length cpH5] 122)
    have Uz:=hid (Jd.out.below ba (by omega))
    have iQ:=hid (dV.out.trans (ba.mono dV.out.size))
    have OKR:=hid oK5
    have OH6:=hid (ae oH5 ba)
    have q1:=Uz.out.c1
    have q0:=Uz.out.c0
    have f0:=Uz.out.f0
    have f1:=Uz.out.f1
    have ajc:S<w5.heap.size:=by omega
    have HRF:=hid hRF
    have ajJ:=hid hkd5
    have H85:=hid h85
    have p1:=Jd.out.c1
    have p0:=Jd.out.c0
    have g0:=Jd.out.f0
    have g1:=Jd.out.f1
    clear hRF hkd5 h85 oK5 oH5 hb5 t0 t1
    by_cases he:ss5.length=n
    ·have HM:=hid (iE.out kds kds5 ss5 (by rw [he];exact HKD.out) HRF.out)
     have OHF:=hid (aY OH6.out (show w.heap.size≤W0.heap.size from HB.out.size))
     subst he
     clear ba
     go_wp2_with fail
     go_ret2
     exact ⟨Or.inl ⟨ss5,_,rfl,OHF.out,H85.out,hn,HM.out⟩,iQ.out⟩
    ·have he1:¬ ((ss5.length:Int)=(n:Int)):=by omega
     have D1:=hid (((Jd.out.set0 (.slice aoK5 kds5.length cpK5)).set1 (.slice aoH5 ss5.length cpH5)).below ((Below.refl w5.heap.size _).alloc (by simp) (.cells #[.slice aoK5 kds5.length cpK5,.slice aoH5 ss5.length cpH5] 122)) ajc)
     have D3:=hid (((dV.out.setCell (p:=⟨S,0,none⟩) hSle (.slice aoK5 kds5.length cpK5)).setCell (p:=⟨S,1,none⟩) hSle (.slice aoH5 ss5.length cpH5)).alloc (by have:=dV.out.size;simp;omega) (.cells #[.slice aoK5 kds5.length cpK5,.slice aoH5 ss5.length cpH5] 122))
     have D2:=hid (yI ((ak (ak OKR.out (show S<W0.heap.size from lm) 0 (.slice aoK5 kds5.length cpK5)) (show S<W0.heap.size from lm) 1 (.slice aoH5 ss5.length cpH5)).alloc (.cells #[.slice aoK5 kds5.length cpK5,.slice aoH5 ss5.length cpH5] 122)))
     have bg:=hid (JP D1.out)
     clear ba
     go_wp2_with fail
     go_roundw
     case rel=>exact ⟨kds5,ss5.length,_,_,_,ajJ,D2,D1,D3⟩
     case measure=>
      have h1:=bg.out
      have h2:=KU.out
      omega
   ·have h8:¬ ((n:Int)≤8):=by omega
    have uO:=hid (Ht.out kds n HKD.out (by omega))
    go_wp2_with fail
    go_ret2
    exact ⟨Or.inr ⟨rfl,uO.out⟩,HB.out⟩
 refine wp_region_held_drew (S:=fun _=>True) (by kernel_rfl) trivial (fun hHeld=>?_)
 refine wpAnyH_take (i:=0) (oi:={ dst:=some 6,op:=Op.move (.tmp 0),type:=_,pos:=_,after:=_,guard:=none }) (v:=(Value.slice (some ⟨g,0,none⟩) K cap)) rfl (by kernel_rfl) (by kernel_rfl) (by kernel_rfl) (fun _ _ _ h=>h) (Or.inl ⟨by rfl,by intro w' hSw;(try dsimp only at hSw);go_simp⟩) (by assumption) ?_
 simp only [Act.put,List.setIfInBounds_toArray,List.set_cons_zero,List.set_cons_succ]
 refine wpAnyH_take (i:=1) (oi:={ dst:=some 7,op:=Op.call { callee:=Callee.builtin Builtin.len,args:=#[.tmp 6],argTypes:=_ },type:=_,pos:=_,after:=_,guard:=none }) (v:=(Value.int .i64 (K:Nat))) rfl (by kernel_rfl) (by kernel_rfl) (by kernel_rfl) (fun _ _ _ h=>h) (Or.inl ⟨by rfl,by intro w' hSw;(try dsimp only at hSw);go_simp⟩) (by assumption) ?_
 simp only [Act.put,List.setIfInBounds_toArray,List.set_cons_zero,List.set_cons_succ]
 have aO:Below w.heap.size w w.drew:=(Below.refl w.heap.size w).drew
 refine wpAnyH_ready (rs:=[2,3,5]) (by kernel_rfl) (by simp) ?_
 refine AllReadyH.cons rfl (fun KX hK=>?_) (AllReadyH.cons rfl (fun KX hK=>?_) (AllReadyH.cons rfl (fun KX hK=>?_) AllReadyH.nil))
 ·refine eZ _ (by rfl) (.tmp 7) (.tmp 7) 22 (by rfl) w.heap.size 3 i0 (.int .i64 0) 1 Tryz.underlying22 hi hz0 hz1 .i64 .i64 K K K (by rfl) (by rfl) rfl rfl (by rw [hz2];omega) (by unfold maxLen;omega) (by first | exact aO.size | (have h9:=aO.size;simp;omega)) ?_
  intro wM own gM
  refine hK.out _ _ trivial (fun hHeld=>?_)
  clear hK KX
  try simp only [Act.put]
  try simp only [List.setIfInBounds_toArray]
  have aO:Below w.heap.size w wM:=aO.grown gM (by first | exact aO.size | (have h9:=aO.size;simp;omega)) (fun k h=>by cases h)
  refine wpAnyH_ready (rs:=[3,5]) (by kernel_rfl) (by simp) ?_
  refine AllReadyH.cons rfl (fun KX hK=>?_) (AllReadyH.cons rfl (fun KX hK=>?_) AllReadyH.nil)
  ·refine eZ _ (by rfl) (.const (.int .i64 1)) (.const (.int .i64 1)) 65 (by rfl) w.heap.size 119 i1 (.agg #[.int .i64 0,.int .i64 0,.int .i64 0,.int .i64 0,.int .i64 0,.int .i64 0,.int .i64 0,.int .i64 0,.int .i64 0]) 9 Tryz.underlying65 hi1 hz01 hz11 .i64 .i64 1 1 1 (by rfl) (by rfl) rfl rfl (by rw [hz21];omega) (by unfold maxLen;omega) (by first | exact aO.size | (have h9:=aO.size;simp;omega)) ?_
   intro wH oH gH
   have own:=own.kept gH (Or.inr (by simp [Value.ownBlock]))
   refine hK.out _ _ trivial (fun hHeld=>?_)
   clear hK KX
   try simp only [Act.put]
   try simp only [List.setIfInBounds_toArray]
   have aO:Below w.heap.size w wH:=aO.grown gH (by first | exact aO.size | (have h9:=aO.size;simp;omega)) (fun k h=>by cases h)
   refine wpAnyH_take (i:=4) (oi:={ dst:=some 10,op:=Op.build 122 #[(0,.tmp 8),(1,.tmp 9)],type:=_,pos:=_,after:=_,guard:=none }) (v:=.agg #[.slice (some ⟨w.heap.size,0,none⟩) K K,.slice (some ⟨(wM).heap.size,0,none⟩) 1 1]) rfl (by kernel_rfl) (by kernel_rfl) (by kernel_rfl) (fun _ _ _ h=>h) (Or.inl ⟨by rfl,by intro w' hSw;go_simp⟩) (by assumption) ?_
   try simp only [Act.put]
   try simp only [List.setIfInBounds_toArray]
   refine wpAnyH_ready (rs:=[5]) (by kernel_rfl) (by simp) ?_
   refine AllReadyH.cons rfl (fun KX hK=>?_) AllReadyH.nil
   go_simp
   refine hK.out _ _ trivial (fun hHeld=>?_)
   clear hK KX
   try simp only [Act.put]
   try simp only [List.setIfInBounds_toArray]
   refine wpAnyH_ready (rs:=[6]) (by kernel_rfl) (by simp) ?_
   refine AllReadyH.cons rfl (fun KX hK=>?_) AllReadyH.nil
   go_simp
   refine hK.out _ _ trivial (fun hHeld=>?_)
   clear hK KX
   refine wpAnyH_done (by kernel_rfl) ?_ _
   exact Ay _ (wH).heap.size (w.heap.size) ((wM).heap.size) (hid (bF (wH) (.slice (some ⟨w.heap.size,0,none⟩) K K) (.slice (some ⟨(wM).heap.size,0,none⟩) 1 1) 122)) (hid (own.alloc _)) (hid (aO.alloc aO.size _)) aO.size
  ·go_simp
   refine hK.out _ _ trivial (fun hHeld=>?_)
   clear hK KX
   try simp only [Act.put]
   try simp only [List.setIfInBounds_toArray]
   have hne:(wM).heap.size≠w.heap.size:=fun e=>Nat.lt_irrefl _ (Nat.lt_of_lt_of_eq (own.lt _ rfl).2 e)
   have own:=own.alloc (.cells #[.slice none 0 0,.slice none 0 0] 122)
   have lm:w.heap.size≤(wM).heap.size:=aO.size
   have tw:Two ((wM).alloc (.cells #[.slice none 0 0,.slice none 0 0] 122)) (wM).heap.size (.slice none 0 0) (.slice none 0 0):=bF (wM) (.slice none 0 0) (.slice none 0 0) 122
   have aO:=aO.alloc aO.size (.cells #[.slice none 0 0,.slice none 0 0] 122)
   refine wpAnyH_ready (rs:=[3]) (by kernel_rfl) (by simp) ?_
   refine AllReadyH.cons rfl (fun KX hK=>?_) AllReadyH.nil
   ·refine eZ _ (by rfl) (.const (.int .i64 1)) (.const (.int .i64 1)) 65 (by rfl) w.heap.size 119 i1 (.agg #[.int .i64 0,.int .i64 0,.int .i64 0,.int .i64 0,.int .i64 0,.int .i64 0,.int .i64 0,.int .i64 0,.int .i64 0]) 9 Tryz.underlying65 hi1 hz01 hz11 .i64 .i64 1 1 1 (by rfl) (by rfl) rfl rfl (by rw [hz21];omega) (by unfold maxLen;omega) (by first | exact aO.size | (have h9:=aO.size;simp;omega)) ?_
    intro wH oH gH
    have own:=own.kept gH (Or.inr (by simp [Value.ownBlock]))
    have tw:=qp tw gH
    refine hK.out _ _ trivial (fun hHeld=>?_)
    clear hK KX
    try simp only [Act.put]
    try simp only [List.setIfInBounds_toArray]
    have aO:Below w.heap.size w wH:=aO.grown gH (by first | exact aO.size | (have h9:=aO.size;simp;omega)) (fun k h=>by cases h)
    refine wpAnyH_take (i:=4) (oi:={ dst:=some 10,op:=Op.build 122 #[(0,.tmp 8),(1,.tmp 9)],type:=_,pos:=_,after:=_,guard:=none }) (v:=.agg #[.slice (some ⟨w.heap.size,0,none⟩) K K,.slice (some ⟨(wM).heap.size+1,0,none⟩) 1 1]) rfl (by kernel_rfl) (by kernel_rfl) (by kernel_rfl) (fun _ _ _ h=>h) (Or.inl ⟨by rfl,by intro w' hSw;go_simp⟩) (by assumption) ?_
    try simp only [Act.put]
    try simp only [List.setIfInBounds_toArray]
    have t0:=tw.c0
    have t1:=tw.c1
    have u0:=tw.f0
    have u1:=tw.f1
    refine wpAnyH_ready (rs:=[6]) (by kernel_rfl) (by simp) ?_
    refine AllReadyH.cons rfl (fun KX hK=>?_) AllReadyH.nil
    go_simp
    refine hK.out _ _ trivial (fun hHeld=>?_)
    clear hK KX
    refine wpAnyH_done (by kernel_rfl) ?_ _
    exact Ay _ ((wM).heap.size) (w.heap.size) ((wM).heap.size+1) (hid ((tw.set0 _).set1 _)) (hid (aQ (aQ own ⟨(wM).heap.size,0,none⟩ _ (fun e=>hne (Option.some.inj e).symm)) ⟨(wM).heap.size,1,none⟩ _ (fun e=>hne (Option.some.inj e).symm))) (hid ((aO.setCell (p:=⟨(wM).heap.size,0,none⟩) lm _).setCell (p:=⟨(wM).heap.size,1,none⟩) lm _)) lm
 ·refine eZ _ (by rfl) (.const (.int .i64 1)) (.const (.int .i64 1)) 65 (by rfl) w.heap.size 119 i1 (.agg #[.int .i64 0,.int .i64 0,.int .i64 0,.int .i64 0,.int .i64 0,.int .i64 0,.int .i64 0,.int .i64 0,.int .i64 0]) 9 Tryz.underlying65 hi1 hz01 hz11 .i64 .i64 1 1 1 (by rfl) (by rfl) rfl rfl (by rw [hz21];omega) (by unfold maxLen;omega) (by first | exact aO.size | (have h9:=aO.size;simp;omega)) ?_
  intro wH oH gH
  refine hK.out _ _ trivial (fun hHeld=>?_)
  clear hK KX
  try simp only [Act.put]
  try simp only [List.setIfInBounds_toArray]
  have aO:Below w.heap.size w wH:=aO.grown gH (by first | exact aO.size | (have h9:=aO.size;simp;omega)) (fun k h=>by cases h)
  refine wpAnyH_ready (rs:=[2,5]) (by kernel_rfl) (by simp) ?_
  refine AllReadyH.cons rfl (fun KX hK=>?_) (AllReadyH.cons rfl (fun KX hK=>?_) AllReadyH.nil)
  ·refine eZ _ (by rfl) (.tmp 7) (.tmp 7) 22 (by rfl) w.heap.size 3 i0 (.int .i64 0) 1 Tryz.underlying22 hi hz0 hz1 .i64 .i64 K K K (by rfl) (by rfl) rfl rfl (by rw [hz2];omega) (by unfold maxLen;omega) (by first | exact aO.size | (have h9:=aO.size;simp;omega)) ?_
   intro wM own gM
   refine hK.out _ _ trivial (fun hHeld=>?_)
   clear hK KX
   try simp only [Act.put]
   try simp only [List.setIfInBounds_toArray]
   have aO:Below w.heap.size w wM:=aO.grown gM (by first | exact aO.size | (have h9:=aO.size;simp;omega)) (fun k h=>by cases h)
   refine wpAnyH_take (i:=4) (oi:={ dst:=some 10,op:=Op.build 122 #[(0,.tmp 8),(1,.tmp 9)],type:=_,pos:=_,after:=_,guard:=none }) (v:=.agg #[.slice (some ⟨(wH).heap.size,0,none⟩) K K,.slice (some ⟨w.heap.size,0,none⟩) 1 1]) rfl (by kernel_rfl) (by kernel_rfl) (by kernel_rfl) (fun _ _ _ h=>h) (Or.inl ⟨by rfl,by intro w' hSw;go_simp⟩) (by assumption) ?_
   try simp only [Act.put]
   try simp only [List.setIfInBounds_toArray]
   refine wpAnyH_ready (rs:=[5]) (by kernel_rfl) (by simp) ?_
   refine AllReadyH.cons rfl (fun KX hK=>?_) AllReadyH.nil
   go_simp
   refine hK.out _ _ trivial (fun hHeld=>?_)
   clear hK KX
   try simp only [Act.put]
   try simp only [List.setIfInBounds_toArray]
   refine wpAnyH_ready (rs:=[6]) (by kernel_rfl) (by simp) ?_
   refine AllReadyH.cons rfl (fun KX hK=>?_) AllReadyH.nil
   go_simp
   refine hK.out _ _ trivial (fun hHeld=>?_)
   clear hK KX
   refine wpAnyH_done (by kernel_rfl) ?_ _
   exact Ay _ (wM).heap.size ((wH).heap.size) (w.heap.size) (hid (bF (wM) (.slice (some ⟨(wH).heap.size,0,none⟩) K K) (.slice (some ⟨w.heap.size,0,none⟩) 1 1) 122)) (hid (own.alloc _)) (hid (aO.alloc aO.size _)) aO.size
  ·go_simp
   refine hK.out _ _ trivial (fun hHeld=>?_)
   clear hK KX
   try simp only [Act.put]
   try simp only [List.setIfInBounds_toArray]
   have lm:w.heap.size≤(wH).heap.size:=aO.size
   have tw:Two ((wH).alloc (.cells #[.slice none 0 0,.slice none 0 0] 122)) (wH).heap.size (.slice none 0 0) (.slice none 0 0):=bF (wH) (.slice none 0 0) (.slice none 0 0) 122
   have aO:=aO.alloc aO.size (.cells #[.slice none 0 0,.slice none 0 0] 122)
   refine wpAnyH_ready (rs:=[2]) (by kernel_rfl) (by simp) ?_
   refine AllReadyH.cons rfl (fun KX hK=>?_) AllReadyH.nil
   ·refine eZ _ (by rfl) (.tmp 7) (.tmp 7) 22 (by rfl) w.heap.size 3 i0 (.int .i64 0) 1 Tryz.underlying22 hi hz0 hz1 .i64 .i64 K K K (by rfl) (by rfl) rfl rfl (by rw [hz2];omega) (by unfold maxLen;omega) (by first | exact aO.size | (have h9:=aO.size;simp;omega)) ?_
    intro wM own gM
    have own:wM.ownsRow w.heap.size 3 1 (.slice (some ⟨(wH).heap.size+1,0,none⟩) K K) K (madeCells (Value.int .i64 0).cells (K*1)).toList:=by
     have h9:=own
     first | (simp only [World.size_alloc] at h9;exact h9) | (rw [show (w.alloc (.cells #[.slice none 0 0,.slice none 0 0] 122)).drew.heap.size=w.heap.size+1 from World.size_alloc ..] at h9;exact h9)
    have hne:(wH).heap.size≠(wH).heap.size+1:=fun e=>Nat.lt_irrefl _ (Nat.lt_of_lt_of_eq tw.lt (by rw [World.size_alloc];exact e.symm))
    have tw:=qp tw gM
    refine hK.out _ _ trivial (fun hHeld=>?_)
    clear hK KX
    try simp only [Act.put]
    try simp only [List.setIfInBounds_toArray]
    have aO:Below w.heap.size w wM:=aO.grown gM (by first | exact aO.size | (have h9:=aO.size;simp;omega)) (fun k h=>by cases h)
    refine wpAnyH_take (i:=4) (oi:={ dst:=some 10,op:=Op.build 122 #[(0,.tmp 8),(1,.tmp 9)],type:=_,pos:=_,after:=_,guard:=none }) (v:=.agg #[.slice (some ⟨(wH).heap.size+1,0,none⟩) K K,.slice (some ⟨w.heap.size,0,none⟩) 1 1]) rfl (by kernel_rfl) (by kernel_rfl) (by kernel_rfl) (fun _ _ _ h=>h) (Or.inl ⟨by rfl,by intro w' hSw;go_simp⟩) (by assumption) ?_
    try simp only [Act.put]
    try simp only [List.setIfInBounds_toArray]
    have t0:=tw.c0
    have t1:=tw.c1
    have u0:=tw.f0
    have u1:=tw.f1
    refine wpAnyH_ready (rs:=[6]) (by kernel_rfl) (by simp) ?_
    refine AllReadyH.cons rfl (fun KX hK=>?_) AllReadyH.nil
    go_simp
    refine hK.out _ _ trivial (fun hHeld=>?_)
    clear hK KX
    refine wpAnyH_done (by kernel_rfl) ?_ _
    exact Ay _ ((wH).heap.size) ((wH).heap.size+1) (w.heap.size) (hid ((tw.set0 _).set1 _)) (hid (aQ (aQ own ⟨(wH).heap.size,0,none⟩ _ (fun e=>hne (Option.some.inj e).symm)) ⟨(wH).heap.size,1,none⟩ _ (fun e=>hne (Option.some.inj e).symm))) (hid ((aO.setCell (p:=⟨(wH).heap.size,0,none⟩) lm _).setCell (p:=⟨(wH).heap.size,1,none⟩) lm _)) lm
 ·go_simp
  refine hK.out _ _ trivial (fun hHeld=>?_)
  clear hK KX
  try simp only [Act.put]
  try simp only [List.setIfInBounds_toArray]
  have lm:w.heap.size≤w.heap.size:=aO.size
  have tw:Two ((w.drew).alloc (.cells #[.slice none 0 0,.slice none 0 0] 122)) w.heap.size (.slice none 0 0) (.slice none 0 0):=bF (w.drew) (.slice none 0 0) (.slice none 0 0) 122
  have aO:=aO.alloc aO.size (.cells #[.slice none 0 0,.slice none 0 0] 122)
  refine wpAnyH_ready (rs:=[2,3]) (by kernel_rfl) (by simp) ?_
  refine AllReadyH.cons rfl (fun KX hK=>?_) (AllReadyH.cons rfl (fun KX hK=>?_) AllReadyH.nil)
  ·refine eZ _ (by rfl) (.tmp 7) (.tmp 7) 22 (by rfl) w.heap.size 3 i0 (.int .i64 0) 1 Tryz.underlying22 hi hz0 hz1 .i64 .i64 K K K (by rfl) (by rfl) rfl rfl (by rw [hz2];omega) (by unfold maxLen;omega) (by first | exact aO.size | (have h9:=aO.size;simp;omega)) ?_
   intro wM own gM
   have own:wM.ownsRow w.heap.size 3 1 (.slice (some ⟨w.heap.size+1,0,none⟩) K K) K (madeCells (Value.int .i64 0).cells (K*1)).toList:=by
    have h9:=own
    first | (simp only [World.size_alloc] at h9;exact h9) | (rw [show (w.alloc (.cells #[.slice none 0 0,.slice none 0 0] 122)).drew.heap.size=w.heap.size+1 from World.size_alloc ..] at h9;exact h9)
   have hne:w.heap.size≠w.heap.size+1:=fun e=>Nat.lt_irrefl _ (Nat.lt_of_lt_of_eq tw.lt (by rw [World.size_alloc];exact e.symm))
   have tw:=qp tw gM
   refine hK.out _ _ trivial (fun hHeld=>?_)
   clear hK KX
   try simp only [Act.put]
   try simp only [List.setIfInBounds_toArray]
   have aO:Below w.heap.size w wM:=aO.grown gM (by first | exact aO.size | (have h9:=aO.size;simp;omega)) (fun k h=>by cases h)
   refine wpAnyH_ready (rs:=[3]) (by kernel_rfl) (by simp) ?_
   refine AllReadyH.cons rfl (fun KX hK=>?_) AllReadyH.nil
   ·refine eZ _ (by rfl) (.const (.int .i64 1)) (.const (.int .i64 1)) 65 (by rfl) w.heap.size 119 i1 (.agg #[.int .i64 0,.int .i64 0,.int .i64 0,.int .i64 0,.int .i64 0,.int .i64 0,.int .i64 0,.int .i64 0,.int .i64 0]) 9 Tryz.underlying65 hi1 hz01 hz11 .i64 .i64 1 1 1 (by rfl) (by rfl) rfl rfl (by rw [hz21];omega) (by unfold maxLen;omega) (by first | exact aO.size | (have h9:=aO.size;simp;omega)) ?_
    intro wH oH gH
    have own:=own.kept gH (Or.inr (by simp [Value.ownBlock]))
    have tw:=qp tw gH
    refine hK.out _ _ trivial (fun hHeld=>?_)
    clear hK KX
    try simp only [Act.put]
    try simp only [List.setIfInBounds_toArray]
    have aO:Below w.heap.size w wH:=aO.grown gH (by first | exact aO.size | (have h9:=aO.size;simp;omega)) (fun k h=>by cases h)
    refine wpAnyH_take (i:=4) (oi:={ dst:=some 10,op:=Op.build 122 #[(0,.tmp 8),(1,.tmp 9)],type:=_,pos:=_,after:=_,guard:=none }) (v:=.agg #[.slice (some ⟨w.heap.size+1,0,none⟩) K K,.slice (some ⟨(wM).heap.size,0,none⟩) 1 1]) rfl (by kernel_rfl) (by kernel_rfl) (by kernel_rfl) (fun _ _ _ h=>h) (Or.inl ⟨by rfl,by intro w' hSw;go_simp⟩) (by assumption) ?_
    try simp only [Act.put]
    try simp only [List.setIfInBounds_toArray]
    have t0:=tw.c0
    have t1:=tw.c1
    have u0:=tw.f0
    have u1:=tw.f1
    refine wpAnyH_ready (rs:=[6]) (by kernel_rfl) (by simp) ?_
    refine AllReadyH.cons rfl (fun KX hK=>?_) AllReadyH.nil
    go_simp
    refine hK.out _ _ trivial (fun hHeld=>?_)
    clear hK KX
    refine wpAnyH_done (by kernel_rfl) ?_ _
    exact Ay _ (w.heap.size) (w.heap.size+1) ((wM).heap.size) (hid ((tw.set0 _).set1 _)) (hid (aQ (aQ own ⟨w.heap.size,0,none⟩ _ (fun e=>hne (Option.some.inj e).symm)) ⟨w.heap.size,1,none⟩ _ (fun e=>hne (Option.some.inj e).symm))) (hid ((aO.setCell (p:=⟨w.heap.size,0,none⟩) lm _).setCell (p:=⟨w.heap.size,1,none⟩) lm _)) lm
  ·refine eZ _ (by rfl) (.const (.int .i64 1)) (.const (.int .i64 1)) 65 (by rfl) w.heap.size 119 i1 (.agg #[.int .i64 0,.int .i64 0,.int .i64 0,.int .i64 0,.int .i64 0,.int .i64 0,.int .i64 0,.int .i64 0,.int .i64 0]) 9 Tryz.underlying65 hi1 hz01 hz11 .i64 .i64 1 1 1 (by rfl) (by rfl) rfl rfl (by rw [hz21];omega) (by unfold maxLen;omega) (by first | exact aO.size | (have h9:=aO.size;simp;omega)) ?_
   intro wH oH gH
   have tw:=qp tw gH
   refine hK.out _ _ trivial (fun hHeld=>?_)
   clear hK KX
   try simp only [Act.put]
   try simp only [List.setIfInBounds_toArray]
   have aO:Below w.heap.size w wH:=aO.grown gH (by first | exact aO.size | (have h9:=aO.size;simp;omega)) (fun k h=>by cases h)
   refine wpAnyH_ready (rs:=[2]) (by kernel_rfl) (by simp) ?_
   refine AllReadyH.cons rfl (fun KX hK=>?_) AllReadyH.nil
   ·refine eZ _ (by rfl) (.tmp 7) (.tmp 7) 22 (by rfl) w.heap.size 3 i0 (.int .i64 0) 1 Tryz.underlying22 hi hz0 hz1 .i64 .i64 K K K (by rfl) (by rfl) rfl rfl (by rw [hz2];omega) (by unfold maxLen;omega) (by first | exact aO.size | (have h9:=aO.size;simp;omega)) ?_
    intro wM own gM
    have hne:w.heap.size≠(wH).heap.size:=fun e=>Nat.lt_irrefl _ (Nat.lt_of_lt_of_eq tw.lt e.symm)
    have tw:=qp tw gM
    refine hK.out _ _ trivial (fun hHeld=>?_)
    clear hK KX
    try simp only [Act.put]
    try simp only [List.setIfInBounds_toArray]
    have aO:Below w.heap.size w wM:=aO.grown gM (by first | exact aO.size | (have h9:=aO.size;simp;omega)) (fun k h=>by cases h)
    refine wpAnyH_take (i:=4) (oi:={ dst:=some 10,op:=Op.build 122 #[(0,.tmp 8),(1,.tmp 9)],type:=_,pos:=_,after:=_,guard:=none }) (v:=.agg #[.slice (some ⟨(wH).heap.size,0,none⟩) K K,.slice (some ⟨w.heap.size+1,0,none⟩) 1 1]) rfl (by kernel_rfl) (by kernel_rfl) (by kernel_rfl) (fun _ _ _ h=>h) (Or.inl ⟨by rfl,by intro w' hSw;go_simp⟩) (by assumption) ?_
    try simp only [Act.put]
    try simp only [List.setIfInBounds_toArray]
    have t0:=tw.c0
    have t1:=tw.c1
    have u0:=tw.f0
    have u1:=tw.f1
    refine wpAnyH_ready (rs:=[6]) (by kernel_rfl) (by simp) ?_
    refine AllReadyH.cons rfl (fun KX hK=>?_) AllReadyH.nil
    go_simp
    refine hK.out _ _ trivial (fun hHeld=>?_)
    clear hK KX
    refine wpAnyH_done (by kernel_rfl) ?_ _
    exact Ay _ (w.heap.size) ((wH).heap.size) (w.heap.size+1) (hid ((tw.set0 _).set1 _)) (hid (aQ (aQ own ⟨w.heap.size,0,none⟩ _ (fun e=>hne (Option.some.inj e).symm)) ⟨w.heap.size,1,none⟩ _ (fun e=>hne (Option.some.inj e).symm))) (hid ((aO.setCell (p:=⟨w.heap.size,0,none⟩) lm _).setCell (p:=⟨w.heap.size,1,none⟩) lm _)) lm
theorem Tryz.sP:(Tryz.prog.info? 37).map (·.size)=some 2:=by kernel_rfl
theorem Vd {ns:List Nd} {aa:Nat→Bool} {us:List (List Nat)} {xs:List Nat} {SS:List St} (h:yw ns aa (aB ns aa) us xs SS) (hl:SS.length=us.length):SS=(List.range us.length).map fun i=>uE (bQ ns aa (aB ns aa) us i) (aL xs i):=by
 apply List.ext_getElem
 ·simp [hl]
 ·intro i h1 h2
  obtain ⟨u,hu,_,e⟩:=h i SS[i] (List.getElem?_eq_getElem h1)
  rw [e]
  simp only [List.getElem_map,List.getElem_range]
  unfold uE bQ aL
  rw [show us.getD i []=u by simp [List.getD,hu]]
  rfl
def vJ (s:ByteArray) (w:World) (e:Ending) (w':World):Prop:=
 ∃ v1 v2 er,e=.returned (.tuple #[.agg #[v1,v2],.int .i64 (er:Nat)])∧((af s).1≠0→er=(af s).1∧v1=.slice none 0 0∧v2=.slice none 0 0) ∧
  ((af s).1=0→(er=0∧∃ ss V,kQ w' w.heap.size v1 v2 V ss ss.length∧iM ss∧ss.length≤8∧GR (af s).2 ss)∨(er=7∧v1=.slice none 0 0∧v2=.slice none 0 0∧Big (af s).2))∧Below w.heap.size w w'
section
variable (s:ByteArray) (w:World)
theorem YG (hm:s.size≤maxLen) (h:(af s).1≠0):Calls Tryz.prog 11 #[.string s] w (vJ s w):=by
 have C:=fun W=>jr s W hm
 unfold jP at C
 unfold vJ
 generalize af s=p at *
 have k:((p.1:Int)!=0)=true:=by rw [bne_iff_ne];omega
 go_enter Tryz.func11,Tryz.ntmps11
 go_wp2_with fail
 refine (C _).mono ?_
 rintro e w1 ⟨ao,cap,rfl,_,hb⟩
 simp only [World.size_alloc] at hb
 have T1:=(bF w (.slice none 0 0) (.slice none 0 0) 37).below hb (by omega)
 have d0:=T1.c0
 have d1:=T1.c1
 have e0:=T1.f0
 have e1:=T1.f1
 have HB:=hid (((Below.refl w.heap.size w).alloc (Nat.le_refl _) (.cells #[.slice none 0 0,.slice none 0 0] 37)).trans (hb.mono (by omega)))
 clear C hb T1
 go_wp2_with fail
 refine df (cs:=[.slice none 0 0,.slice none 0 0]) (v:=.int .i64 (p.1:Nat)) (b:=w.heap.size) Tryz.results11 ?_ ?_ ?_ ?_ Tryz.underlying37 rfl Tryz.sP ?_
 ·rfl
 ·rfl
 ·rfl
 ·exact sH d0 d1 _ _
 ·exact ⟨_,_,p.1,rfl,fun _=>⟨rfl,rfl,rfl⟩,fun h0=>absurd h0 h,(HB.out.setCell (p:=⟨w.heap.size,0,none⟩) (Nat.le_refl _) _).setCell (p:=⟨w.heap.size,1,none⟩) (Nat.le_refl _) _⟩
theorem UO (hm:s.size≤maxLen) (h:(af s).1=0):Calls Tryz.prog 11 #[.string s] w (vJ s w):=by
 have C:=fun W=>jr s W hm
 unfold jP at C
 have G:=hid (fV h)
 have SG:=hid (xw h)
 unfold vJ
 generalize af s=p at *
 obtain ⟨p1,ns⟩:=p
 dsimp only at *
 subst h
 have hpos:=G.out.pos
 obtain ⟨m1',hlen⟩:∃ m1',ns.length=m1'+1:=⟨ns.length - 1,by omega⟩
 have bg:=hid hlen
 rw [hlen] at C
 clear hlen hpos
 have qP:=hid Tryz.wC
 go_enter Tryz.func11,Tryz.ntmps11
 go_wp2_with fail
 refine (C _).mono ?_
 rintro e w1 ⟨ao,cap,rfl,own,hb⟩
 simp only [World.size_alloc] at hb
 obtain ⟨gn,rfl,_,hgn,_⟩:=pu own (by omega)
 have ND:=hid (FP own bg.out)
 have T1:=hid ((bF w (.slice none 0 0) (.slice none 0 0) 37).below hb (by omega))
 have HB1:=hid (((Below.refl w.heap.size w).alloc (Nat.le_refl _) (.cells #[.slice none 0 0,.slice none 0 0] 37)).trans (hb.mono (by omega)))
 have hs1:w.heap.size<w1.heap.size:=T1.out.lt
 clear C own hb
 go_wp2_with fail
 refine (zO gn m1' cap ns _ ND.out G.out bg.out).mono ?_
 rintro e w3 ⟨sl,aa,rfl,hlv,hcv,hon,hb3⟩
 have kK:=hid hlv
 have HB3:=hid (HB1.out.trans (hb3.mono (by omega)))
 have T3:=hid (T1.out.below hb3 hs1)
 have hs3:w.heap.size<w3.heap.size:=T3.out.lt
 clear hlv hb3 hcv ND HB1 T1
 have hth:(w3.alloc (.cells Tryz.zeroCells63 63)).there w3.heap.size 0 2561:=by
  have:=kS w3 (bX (fun _=>0) (.slice none 0 0) (fun _=>false) (fun _=>false)) 2561 63
  rw [←qP.out] at this
  exact this.there 0 2561 (by omega)
 have Cv:=hid hth
 clear hth
 go_wp2_with (refine dE rfl 63 (.tmp 6) (.tmp 20) rfl w3.heap.size 2561 (bX (lS ns) sl aa (aB ns aa)) rfl rfl Cv.out Tryz.qz (sN _ _ _ hon) ?_)
 intro w4 S4
 have OM:=hid (CP S4.at_)
 have Cg:Below w3.heap.size w3 w4:=S4.aO _ _ (Nat.le_refl _) ((Below.refl _ _).alloc (Nat.le_refl _) _)
 have dm:=hid (HB3.out.trans (Cg.mono (by omega)))
 have T4:=hid (T3.out.below Cg hs3)
 have hs4:w.heap.size<w4.heap.size:=T4.out.lt
 have h8:=G.out.le
 clear S4 Cv HB3 Cg T3
 go_wp2_with fail
 refine (Fe w3.heap.size ns aa (aB ns aa) w4 h8 (fun us xs hE=>wL G.out SG.out kK.out hE) OM.out).mono ?_
 rintro e w5 ⟨us,xs,SS,vS,rfl,hE,hx,lm,hSO,hown,hb5⟩
 have hK:=wL G.out SG.out kK.out hE
 have qG:0<us.length:=(List.getElem?_eq_some_iff.1 hE.first).1
 rw [Vd hSO lm] at hown
 obtain ⟨aoS,cpS,rfl⟩:=ag hown
 obtain ⟨gS,rfl,_,hgS,_⟩:=dH hown qG
 have HE:=hid hE
 have HX:=hid hx
 have HOW:=hid hown
 have dV:=hid (dm.out.trans (hb5.mono (by omega)))
 have T5:=hid (T4.out.below hb5 hs4)
 have hs5:w.heap.size<w5.heap.size:=T5.out.lt
 clear hE hx lm hSO hown hb5 dm T4 OM
 go_wp2_with fail
 refine (Vf ns aa us xs gS cpS _ w5 G.out kK.out HE.out HX.out hK HOW.out hgS).mono ?_
 rintro e w6 ⟨hcase,hb6⟩
 have iQ:=hid (dV.out.trans (hb6.mono (by omega)))
 have T6:=hid (T5.out.below hb6 hs5)
 have hs6:w.heap.size<w6.heap.size:=T6.out.lt
 clear hb6 dV T5
 rcases hcase with ⟨ss,v,rfl,oss,h8s,AR,hMS⟩ | ⟨rfl,hBig⟩
 ·have hn0:0<ss.length:=by
   obtain ⟨o9,n9,hM,_⟩:=hMS
   exact Bt hM.num
  obtain ⟨aov,cpv,rfl⟩:=ag oss
  obtain ⟨gv9,rfl,_,hgv,hcv9⟩:=dH oss hn0
  have OSS:=hid oss
  have H8S:=hid h8s
  have HMS:=hid hMS
  clear oss h8s hMS
  go_wp2_with fail
  refine (JD gv9 ss.length cpv _ ss w6 OSS.out H8S.out rfl (by omega) hgv hcv9).mono ?_
  rintro e w7 ⟨v1,v2,V,rfl,hL,lM⟩
  have HL:=hid (hL.mono (show w.heap.size+1≤w6.heap.size by omega))
  obtain ⟨ao1,cp1,rfl⟩:=ag hL.out
  obtain ⟨ao2,cp2,rfl⟩:=ag hL.mV
  have fI:=hid (iQ.out.trans (lM.mono (by omega)))
  have T7:=T6.out.below lM hs6
  have d0:=T7.c0
  have d1:=T7.c1
  have e0:=T7.f0
  have e1:=T7.f1
  clear hL lM T7
  go_wp2_with fail
  refine df (cs:=[.slice ao1 ss.length cp1,.slice ao2 ss.length cp2]) (v:=.int .i64 (0:Nat)) (b:=w.heap.size) Tryz.results11 ?_ ?_ ?_ ?_ Tryz.underlying37 rfl Tryz.sP ?_
  ·rfl
  ·rfl
  ·rfl
  ·exact sH d0 d1 _ _
  ·exact ⟨_,_,0,rfl,fun h0=>absurd rfl h0,fun _=>Or.inl ⟨rfl,ss,V,((HL.out.set (show w.heap.size<w.heap.size+1 by omega) 0 _).set (show w.heap.size<w.heap.size+1 by omega) 1 _).mono (by omega),H8S.out,AR,HMS.out⟩,(fI.out.setCell (p:=⟨w.heap.size,0,none⟩) (Nat.le_refl _) _).setCell (p:=⟨w.heap.size,1,none⟩) (Nat.le_refl _) _⟩
 ·have Ht:=hid hBig
  have d0:=T6.out.c0
  have d1:=T6.out.c1
  have e0:=T6.out.f0
  have e1:=T6.out.f1
  clear hBig
  go_wp2_with fail
  refine df (cs:=[.slice none 0 0,.slice none 0 0]) (v:=.int .i64 (7:Nat)) (b:=w.heap.size) Tryz.results11 ?_ ?_ ?_ ?_ Tryz.underlying37 rfl Tryz.sP ?_
  ·rfl
  ·rfl
  ·rfl
  ·exact sH d0 d1 _ _
  ·exact ⟨_,_,7,rfl,fun h0=>absurd rfl h0,fun _=>Or.inr ⟨rfl,rfl,rfl,Ht.out⟩,(iQ.out.setCell (p:=⟨w.heap.size,0,none⟩) (Nat.le_refl _) _).setCell (p:=⟨w.heap.size,1,none⟩) (Nat.le_refl _) _⟩
theorem UQ (hm:s.size≤maxLen):Calls Tryz.prog 11 #[.string s] w (vJ s w):=by
 by_cases h:(af s).1=0
 ·exact UO s w hm h
 ·exact YG s w hm h
end
end Go.Proofs.YtjagijohfkffiabGreat
