import Derived.RowKit
import Derived.Test.YtjagijohfkffiabGreatRows
import Derived.WalkKit
import Derived.WalkSmall
import Derived.BigQuiet
import Derived.WalkSpells
import Derived.Deep.WholeRow
import Derived.Laws.CopyRow
import Derived.Outline
import Derived.Laws.IdiomStrings
import Derived.Laws.BitsLemmas
import Derived.Deep.AppendLies
import Derived.Deep.QuietTactic
import Derived.Laws.CopyOwn
import Derived.Deep.RegionWith
import Derived.WalkLawsBesides
import Derived.Laws.AppendOwnNone
import Derived.RegionTactic
import Derived.ProofKit
import Derived.OpenShut
import Derived.ShutString
import Derived.ChangeOld
import Derived.Deep.RegionHeld3
import Derived.Deep.MidRow
import Derived.ChangeKeysEq
import Derived.Laws.ResultCell
import Derived.Deep.Matrix
import Derived.ChangeSame
import Derived.Deep.RegionLaw
import Derived.Deep.DrawnRows
import Derived.JoinedCond
import Derived.OwnWalk
import Derived.Deep.Strs
set_option maxHeartbeats 16000000
set_option maxRecDepth 100000
set_option linter.unusedSimpArgs false
namespace Go.Proofs.YtjagijohfkffiabGreat
open Go.RowKit
open Go.ChangeShapes Go.WideShapes Go.ChangeAt Go.RowKit
open Go.ChangeMaps (open_string shut_string)
open Go.ChangeShapes Go.WideShapes Go.ChangeAt Go.RowKit Go.Deep
abbrev aB1:=@List.setIfInBounds_toArray
abbrev aB2:=@Nat.le_refl
abbrev aB3:=@List.getElem?_eq_getElem
abbrev aB4:=@Below.refl
abbrev aB5:=@List.set_cons_zero
abbrev aB6:=@List.set_cons_succ
abbrev aB7:=@World.size_alloc
abbrev aB8:=@World.cell?_setCell_other
abbrev aB9:=@List.getElem?_eq_some_iff
abbrev aCa:=@Or.inl
abbrev aCb:=@Or.inr
abbrev aCc:=@wpAnyH_take
abbrev aCd:=@List.length_append
abbrev aCe:=@beq_eq_false_iff_ne
abbrev aCf:=@AllReadyH.cons
abbrev aCg:=@Nat.zero_le
abbrev aCh:=@List.getElem?_append_left
abbrev aCi:=@List.getElem?_append_right
abbrev aCj:=@AllReadyH.nil
abbrev aCk:=@wpAnyH_ready
abbrev aCl:=@below_drewN
abbrev aCm:=@World.frozen?_setCell
abbrev aCn:=@World.cell?_of_block
abbrev aCo:=@World.frozen?_of_block
abbrev aCp:=@World.ownsRow_nil
abbrev aCq:=@Nat.lt_of_lt_of_le
abbrev aCr:=@World.size_setCell
abbrev aCs:=@List.getElem?_map
abbrev aCt:=@Below.heap_alloc
abbrev aCu:=@Array.getElem?_eq_some_iff
abbrev aCv:=@List.length_singleton
abbrev aCw:=@Nat.zero_add
abbrev aCx:=@Classical.byContradiction
abbrev aCy:=@toList_madeCells_one
abbrev aCz:=@World.cell?_setCell_same
abbrev aCA:=@Nat.lt_succ_self
abbrev aCB:=@World.cell?_alloc_lt
abbrev aCC:=@Option.some.injEq
abbrev aCD:=@Below.heap_setCell
abbrev aCE:=@wpList_append_lies
abbrev aCF:=@List.getElem?_range
abbrev aCG:=@List.mem_append
abbrev aCH:=@Bool.and_eq_true
abbrev aCI:=@wpList_make_full
abbrev aCJ:=@List.mem_of_getElem?
abbrev aCK:=@List.getElem_of_mem
abbrev aCL:=@Option.isSome_iff_exists
abbrev aCM:=@List.map_append
abbrev aCN:=@Bool.or_eq_true
abbrev aCO:=@List.length_map
abbrev aCP:=@Prod.mk.injEq
abbrev aCQ:=@List.mem_range
abbrev aCR:=@cell_of_row
abbrev aCS:=@World.frozen?_alloc_past
abbrev aCT:=@List.range_succ
abbrev aCU:=@List.mem_map
abbrev aCV:=@step_append_lies
abbrev aCW:=@Nat.le_trans
abbrev aCX:=@List.map_congr_left
abbrev aCY:=@World.cell?_alloc_new
abbrev aCZ:=@decide_eq_true_eq
abbrev aC0:=@wpAnyH_done
abbrev aC1:=@if_neg
abbrev aC2:=@if_pos
structure Nd where
 op:Nat
 l:Nat
 r:Nat
def bt(s:ByteArray)(i:Nat):Nat:=if h:i<s.size then (s[i]'h).toNat else 0
theorem iB{s:ByteArray}{i:Nat}(h:i<s.size):bt s i=(s[i]'h).toNat:=by simp[bt,h]
theorem Ic{s:ByteArray}{i:Nat}(h:¬ i<s.size):bt s i=0:=by simp[bt,h]
theorem kr{s:ByteArray}{i:Nat}(h:bt s i≠0):i<s.size:=by
 by_cases k:i<s.size
 ·exact k
 ·exact absurd (Ic k) h
theorem ru(s:ByteArray)(i:Nat):bt s i<256:=by
 by_cases k:i<s.size
 ·rw[iB k];exact UInt8.toNat_lt _
 ·rw[Ic k];omega
def bG(b:Nat):Bool:=b==48||b==49||b==112||b==113||b==114
def eF(b:Nat):Bool:=b==33||b==88||b==70||b==71
def bU(b:Nat):Bool:=b==38||b==124||b==85||b==82
def ps:Nat->ByteArray->Nat->List Nd->Option (Nat × List Nd)
 | 0,_,_,_=>none
 | k+1,s,a,ns=>
  if bG (bt s a) then some (a+1,ns++[⟨bt s a,0,0⟩])
  else if eF (bt s a) then
   match ps k s (a+1) ns with
   | none=>none
   | some (a1,n1)=>some (a1,n1++[⟨bt s a,n1.length - 1,0⟩])
  else if bt s a=40 then
   match ps k s (a+1) ns with
   | none=>none
   | some (a1,n1)=>
    if bU (bt s a1) then
     match ps k s (a1+1) n1 with
     | none=>none
     | some (a2,n2)=>if bt s a2=41 then some (a2+1,n2++[⟨bt s a1,n1.length - 1,n2.length - 1⟩]) else none
    else none
  else none
def ps2(k:Nat)(s:ByteArray)(a:Nat)(ns:List Nd):Option (Nat × List Nd):=
 match ps k s a ns with
 | none=>none
 | some (a1,n1)=>
  if bU (bt s a1) then
   match ps k s (a1+1) n1 with
   | none=>none
   | some (a2,n2)=>if bt s a2=41 then some (a2+1,n2++[⟨bt s a1,n1.length - 1,n2.length - 1⟩]) else none
  else none
def xy(op:Nat)(k:Nat)(s:ByteArray)(a:Nat)(ns:List Nd):Option (Nat × List Nd):=
 match ps k s a ns with
 | none=>none
 | some (a1,n1)=>some (a1,n1++[⟨op,n1.length - 1,0⟩])
theorem qg{k:Nat}{s:ByteArray}{a:Nat}{ns:List Nd}(h:bG (bt s a)=true):ps (k+1) s a ns=some (a+1,ns++[⟨bt s a,0,0⟩]):=by
 simp[ps,h]
theorem kW{b:Nat}(h:eF b=true):bG b=false:=by
 simp only[eF,aCN,beq_iff_eq]at h;rcases h with((h | h) | h) | h <;> subst h <;> decide
theorem uU{k:Nat}{s:ByteArray}{a:Nat}{ns:List Nd}(h:eF (bt s a)=true):ps (k+1) s a ns=xy (bt s a) k s (a+1) ns:=by
 simp[ps,h,kW h,xy]
theorem qJ{k:Nat}{s:ByteArray}{a:Nat}{ns:List Nd}(h:bt s a=40):ps (k+1) s a ns=ps2 k s (a+1) ns:=by
 simp[ps,h,ps2,bG,eF]
theorem IU{k:Nat}{s:ByteArray}{a:Nat}{ns:List Nd}(h1:bG (bt s a)=false)(h2:eF (bt s a)=false)(h3:¬ bt s a=40):ps (k+1) s a ns=none:=by
 simp[ps,h1,h2,h3]
theorem XJ{b:Nat}(h:bG b=true):b≠0:=by intro e;subst e;revert h;decide
theorem akT{b:Nat}(h:eF b=true):b≠0:=by intro e;subst e;revert h;decide
theorem Cq{b:Nat}(h:bU b=true):b≠0:=by intro e;subst e;revert h;decide
theorem eY:∀ (k:Nat) (s:ByteArray) (a:Nat) (ns:List Nd) (a':Nat) (eQ:List Nd),ps k s a ns=some (a',eQ) ->
  a<a'/\a'<=s.size/\eQ.length+a<=ns.length+a'/\ns.length<eQ.length
 | 0,_,_,_,_,_,h=>by simp[ps]at h
 | k+1,s,a,ns,a',eQ,h=>by
  by_cases b1:bG (bt s a)=true
  ·rw[qg b1]at h;simp only[aCC,aCP]at h;obtain⟨rfl,rfl⟩:=h;have:=kr (XJ b1);simp;omega
  ·rw[Bool.not_eq_true]at b1;by_cases b2:eF (bt s a)=true
   ·rw[uU b2]at h;unfold xy at h;cases e:ps k s (a+1) ns with
    | none=>rw[e]at h;simp at h
    | some x=>
     obtain⟨a1,n1⟩:=x;rw[e]at h;simp only[aCC,aCP]at h;obtain⟨rfl,rfl⟩:=h;have:=eY k s _ _ _ _ e;simp;omega
   ·rw[Bool.not_eq_true]at b2;by_cases b3:bt s a=40
    ·rw[qJ b3]at h;unfold ps2 at h;cases e:ps k s (a+1) ns with
     | none=>rw[e]at h;simp at h
     | some x=>
      obtain⟨a1,n1⟩:=x;rw[e]at h;simp only at h;by_cases b4:bU (bt s a1)=true
      ·rw[aC2 b4]at h;cases e2:ps k s (a1+1) n1 with
       | none=>rw[e2]at h;simp at h
       | some x=>
        obtain⟨a2,n2⟩:=x;rw[e2]at h;simp only at h;by_cases b5:bt s a2=41
        ·rw[aC2 b5]at h;simp only[aCC,aCP]at h;obtain⟨rfl,rfl⟩:=h;have g1:=eY k s _ _ _ _ e;have g2:=eY k s _ _ _ _ e2;have:=kr (s:=s) (i:=a2) (by omega);simp;omega
        ·rw[aC1 b5]at h;simp at h
      ·rw[aC1 b4]at h;simp at h
    ·rw[IU b1 b2 b3]at h;simp at h
def Wf(ns:List Nd):Prop:=∀ (i:Nat) (n:Nd),ns[i]?=some n->(bG n.op=false->n.l<i)/\(bU n.op=true->n.r<i)
theorem Wf.snoc{ns:List Nd}(h:Wf ns)(n:Nd)(h1:bG n.op=false->n.l<ns.length)(h2:bU n.op=true->n.r<ns.length):Wf (ns++[n]):=by
 intro i m a;by_cases b:i<ns.length
 ·rw[aCh b]at a;exact h i m a
 ·rw[aCi (by omega)]at a;have:i=ns.length:=by
   have:=(aB9.1 a).1;simp at this;omega
  subst this;simp at a;subst a;exact⟨h1,h2⟩
theorem akt:Wf []:=by intro i n h;simp at h
theorem l8{b:Nat}(h:eF b=true):bU b=false:=by
 simp only[eF,aCN,beq_iff_eq]at h;rcases h with((h | h) | h) | h <;> subst h <;> decide
theorem uZ{b:Nat}(h:bG b=true):bU b=false:=by
 simp only[bG,aCN,beq_iff_eq]at h;rcases h with(((h | h) | h) | h) | h <;> subst h <;> decide
theorem nS{b:Nat}(h:bU b=true):bG b=false:=by
 simp only[bU,aCN,beq_iff_eq]at h;rcases h with((h | h) | h) | h <;> subst h <;> decide
theorem mZ{b:Nat}(h:bG b=true):b=48\/b=49\/b=112\/b=113\/b=114:=by
 simpa [bG,or_assoc] using h
theorem pQ{b:Nat}(h:eF b=true):b=33\/b=88\/b=70\/b=71:=by
 simpa [eF,or_assoc] using h
theorem lJ{b:Nat}(h:bU b=true):b=38\/b=124\/b=85\/b=82:=by
 simpa [bU,or_assoc] using h
def flat(ns:List Nd):List Value:=ns.flatMap λn=>[.int .u8 n.op,.int .i64 n.l,.int .i64 n.r]
theorem acY(ns:List Nd)(n:Nd):flat (ns++[n])=flat ns++[.int .u8 n.op,.int .i64 n.l,.int .i64 n.r]:=by simp[flat]
def nP(s:ByteArray):Nat->Nat
 | 0=>0
 | k+1=>nP s k+if bt s k=40\/bt s k=41 then 0 else 1
theorem agA(s:ByteArray)(k:Nat):nP s k<=k:=by
 induction k with
 | zero=>exact aB2 _
 | succ k ih=>unfold nP;split <;> omega
theorem Mx{s:ByteArray}{k:Nat}(h:bt s k≠40)(h2:bt s k≠41):nP s (k+1)=nP s k+1:=by
 simp only[nP];rw[aC1 (by omega)]
theorem I9{s:ByteArray}{k:Nat}(h:bt s k=40\/bt s k=41):nP s (k+1)=nP s k:=by
 simp only[nP];rw[aC2 h];rfl
theorem Ls:∀ (k:Nat) (s:ByteArray) (a:Nat) (ns:List Nd) (a':Nat) (eQ:List Nd),ps k s a ns=some (a',eQ)->eQ.length+nP s a=ns.length+nP s a'
 | 0,_,_,_,_,_,h=>by simp[ps]at h
 | k+1,s,a,ns,a',eQ,h=>by
  by_cases b1:bG (bt s a)=true
  ·rw[qg b1]at h;simp only[aCC,aCP]at h;obtain⟨rfl,rfl⟩:=h;have:=mZ b1;rw[Mx (by omega) (by omega)];simp;omega
  ·rw[Bool.not_eq_true]at b1;by_cases b2:eF (bt s a)=true
   ·rw[uU b2]at h;unfold xy at h;cases e:ps k s (a+1) ns with
    | none=>rw[e]at h;simp at h
    | some x=>
     obtain⟨a1,n1⟩:=x;rw[e]at h;simp only[aCC,aCP]at h;obtain⟨rfl,rfl⟩:=h;have g:=Ls k s _ _ _ _ e;have:=pQ b2;rw[Mx (by omega) (by omega)]at g;simp;omega
   ·rw[Bool.not_eq_true]at b2;by_cases b3:bt s a=40
    ·rw[qJ b3]at h;unfold ps2 at h;cases e:ps k s (a+1) ns with
     | none=>rw[e]at h;simp at h
     | some x=>
      obtain⟨a1,n1⟩:=x;rw[e]at h;simp only at h;by_cases b4:bU (bt s a1)=true
      ·rw[aC2 b4]at h;cases e2:ps k s (a1+1) n1 with
       | none=>rw[e2]at h;simp at h
       | some x=>
        obtain⟨a2,n2⟩:=x;rw[e2]at h;simp only at h;by_cases b5:bt s a2=41
        ·rw[aC2 b5]at h;simp only[aCC,aCP]at h;obtain⟨rfl,rfl⟩:=h;have g1:=Ls k s _ _ _ _ e;have g2:=Ls k s _ _ _ _ e2;have:=lJ b4;rw[I9 (aCa b3)]at g1;rw[Mx (by omega) (by omega)]at g2;rw[I9 (aCb b5)];simp;omega
        ·rw[aC1 b5]at h;simp at h
      ·rw[aC1 b4]at h;simp at h
    ·rw[IU b1 b2 b3]at h;simp at h
def af(s:ByteArray):Nat × List Nd:=
 if 24<s.size then (1,[]) else
 match ps 25 s 0 [] with
 | none=>(2,[])
 | some (a,ns)=>if a=s.size then (if 8<ns.length then (3,[]) else (0,ns)) else (2,[])
set_option linter.unusedVariables false
theorem Tryz.afO:(Tryz.prog.info? 109).map (λi=>(i.zero,i.size,i.bytes))=some (some (.agg #[.int .u8 0,.int .i64 0,.int .i64 0]),3,24):=by kernel_rfl
theorem hid{p:Prop}(h:p):Hid p:=h
theorem Ow(w:World)(a b c:Value)(t:TypeId):∀ j u,[a,b,c][j]?=some u->(w.alloc (.cells #[a,b,c] t)).cell? ((⟨w.heap.size,0,none⟩:Addr).add j)=some u:=by
 intro j u d
 match j,d with
 | 0,d=>simp at d;subst d;simp[Addr.add]
 | 1,d=>simp at d;subst d;simp[Addr.add]
 | 2,d=>simp at d;subst d;simp[Addr.add]
 | j+3,d=>simp at d
theorem bQ{w:World}{B B':Nat}{e:TypeId}{size:Nat}{v:Value}{n:Nat}{xs:List Value}(h:w.ownsRow B e size v n xs)(hb:B'<=B):w.ownsRow B' e size v n xs:=by
 obtain⟨d,c⟩:=h;rcases c with c | ⟨g,cap,cur,a,b,r⟩
 ·exact⟨d,aCa c⟩
 ·exact⟨d,aCb ⟨g,cap,cur,a,aCW hb b,r⟩⟩
structure Rd (w:World) (R:Nat) (s:ByteArray) (a:Nat) (ns:List Nd):Prop where
 c0:w.cell? ⟨R,0,none⟩=some (.string s)
 c1:w.cell? ⟨R,1,none⟩=some (.int .i64 a)
 c2:∃ ao cap,w.cell? ⟨R,2,none⟩=some (.slice ao ns.length cap)/\w.ownsRow (R+1) 109 3 (.slice ao ns.length cap) ns.length (flat ns)
 f1:w.frozen? ⟨R,1,none⟩=false
 f2:w.frozen? ⟨R,2,none⟩=false
theorem Rd.lt{w:World}{R:Nat}{s:ByteArray}{a:Nat}{ns:List Nd}(h:Rd w R s a ns):R<w.heap.size:=World.block_lt_of_cell? w ⟨R,0,none⟩ h.c0
theorem Rd.drewN{w:World}{R:Nat}{s:ByteArray}{a:Nat}{ns:List Nd}(h:Rd w R s a ns)(m:Nat):Rd (w.drewN m) R s a ns:=
 ⟨h.c0,h.c1,h.c2,h.f1,h.f2⟩
theorem Rd.moved{w:World}{R:Nat}{s:ByteArray}{a:Nat}{ns:List Nd}(h:Rd w R s a ns)(b:Nat):Rd (w.setCell ⟨R,1,none⟩ (.int .i64 b)) R s b ns:=by
 obtain⟨c,cap,d,e⟩:=h.c2;refine⟨?_,?_,⟨c,cap,?_,?_⟩,?_,?_⟩
 ·rw[aB8 _ _ _ _ (by simp)];exact h.c0
 ·exact aCz _ _ _ h.c1
 ·rw[aB8 _ _ _ _ (by simp)];exact d
 ·exact ownsRow_setCell_below e (by simp) _
 ·rw[aCm];exact h.f1
 ·rw[aCm];exact h.f2
theorem Rd.pushed{w w':World}{R:Nat}{s:ByteArray}{a:Nat}{ns:List Nd}(h:Rd w R s a ns)(hb:Below (R+1) w w')(ms:List Nd)(ao:Option Addr)(cap:Nat)
  (ho:w'.ownsRow (R+1) 109 3 (.slice ao ms.length cap) ms.length (flat ms)):Rd (w'.setCell ⟨R,2,none⟩ (.slice ao ms.length cap)) R s a ms:=by
 have b:R<R+1:=aCA _;obtain⟨_,_,c,_⟩:=h.c2;refine⟨?_,?_,⟨ao,cap,?_,?_⟩,?_,?_⟩
 ·rw[aB8 _ _ _ _ (by simp),hb.cell b];exact h.c0
 ·rw[aB8 _ _ _ _ (by simp),hb.cell b];exact h.c1
 ·exact aCz _ _ _ ((hb.cell (p:=⟨R,2,none⟩) b).trans c)
 ·exact ownsRow_setCell_below ho (by simp) _
 ·rw[aCm,hb.frozen b];exact h.f1
 ·rw[aCm,hb.frozen b];exact h.f2
theorem aiR(R a:Nat)(s:ByteArray)(ns:List Nd)(w:World)(hs:s.size<=24)(hlt:a<s.size)(hr:Rd w R s a ns) :
  Calls Tryz.prog 110 #[.pointer (some ⟨R,0,none⟩)] w λe w'=>e=.returned (.int .u8 (bt s a))/\Rd w' R s (a+1) ns/\Below R w w':=by
 have b:=hr.c0;have c1:=hr.c1;have c:=hr.f1;have d:decide ((a:Int)<0)=false:=by simp
 have f:decide ((s.size:Int)<=(a:Int))=false:=by simp;omega
 go_enter Tryz.func110,Tryz.ntmps110;go_wp2
 go_quiet (fail)
 go_wp2
 go_quiet (fail)
 go_wp2;go_ret;refine⟨by rw[iB hlt];rfl,?_,?_⟩
 ·exact(hr.drewN _).moved (a+1)
 ·exact(aCl (aB4 R w) _).setCell (p:=⟨R,1,none⟩) (aB2 _) _
theorem aeF(R a:Nat)(s:ByteArray)(ns:List Nd)(w:World)(hs:s.size<=24)(hlt:¬ a<s.size)(ha:a<=s.size)(hr:Rd w R s a ns) :
  Calls Tryz.prog 110 #[.pointer (some ⟨R,0,none⟩)] w λe w'=>e=.returned (.int .u8 (bt s a))/\Rd w' R s a ns/\Below R w w':=by
 have b:=hr.c0;have c1:=hr.c1;have c:=hr.f1;have d:decide ((a:Int)<0)=false:=by simp
 have f:decide ((s.size:Int)<=(a:Int))=true:=by simp;omega
 go_enter Tryz.func110,Tryz.ntmps110;go_wp2
 go_quiet (fail)
 go_wp2;go_ret;refine⟨by rw[Ic hlt];rfl,hr.drewN _,aCl (aB4 _ _) _⟩
def pU(s:ByteArray)(a:Nat):Nat:=if a<s.size then a+1 else a
theorem tK(R a:Nat)(s:ByteArray)(ns:List Nd)(w:World)(hs:s.size<=24)(ha:a<=s.size)(hr:Rd w R s a ns) :
  Calls Tryz.prog 110 #[.pointer (some ⟨R,0,none⟩)] w λe w'=>e=.returned (.int .u8 (bt s a))/\Rd w' R s (pU s a) ns/\Below R w w':=by
 unfold pU;by_cases h:a<s.size
 ·rw[aC2 h];exact aiR R a s ns w hs h hr
 ·rw[aC1 h];exact aeF R a s ns w hs h ha hr
theorem wU(R a:Nat)(op l r:Int)(s:ByteArray)(ns:List Nd)(w:World)(hn:ns.length<=1000)(ho:0<=op)(hl:0<=l)(Uc:0<=r)(hr:Rd w R s a ns) :
  Calls Tryz.prog 111 #[.pointer (some ⟨R,0,none⟩),.int .u8 op,.int .i64 l,.int .i64 r] w λe w'=>e=.returned (.tuple #[])/\Rd w' R s a (ns++[⟨op.toNat,l.toNat,r.toNat⟩])/\Below R w w':=by
 obtain⟨f,rfl⟩:=Int.eq_ofNat_of_zero_le ho;obtain⟨i,rfl⟩:=Int.eq_ofNat_of_zero_le hl;obtain⟨j,rfl⟩:=Int.eq_ofNat_of_zero_le Uc;simp only[Int.toNat_natCast];obtain⟨H,cap,c2,own⟩:=hr.c2;have o:=hr.f2;have I:=hr.lt;obtain⟨i0,z,A,B,C⟩:=info_parts Tryz.afO;go_enter Tryz.func111,Tryz.ntmps111;go_wp2_with (at_builtin;refine wpList_append_own _ rfl (.tmp 12) (.tmp 17) 54 rfl (R+1) 109 i0 (.agg #[.int .u8 0,.int .i64 0,.int .i64 0]) 3 24 Tryz.underlying54 z A B C rfl (by decide) _ _ _ rfl (own.alloc _) ⟨w.heap.size,0,none⟩ 1 1 [.int .u8 f,.int .i64 i,.int .i64 j] rfl rfl ?c1 ?c2 ?c3 ?c4 ?c5 ?_)
 case c1=>exact Ow _ _ _ _ _
 case c2=>intro u q;simp at q;rcases q with rfl | rfl | rfl <;> rfl
 case c3=>unfold maxLen;omega
 case c4=>omega
 case c5=>simp;omega
 intro D E c d _;have m:Below (R+1) w E:=((aB4 _ _).alloc (by omega) _).grown d (by simp;omega) (λk h=>(own.lt k h).1);have t:ns.length+1=(ns++[(⟨f,i,j⟩:Nd)]).length:=by simp
 have v:flat ns++[.int .u8 f,.int .i64 i,.int .i64 j]=flat (ns++[(⟨f,i,j⟩:Nd)]):=(acY ns ⟨f,i,j⟩).symm;rw[v,t]at c;obtain⟨n,b,F⟩:∃ n b,D=.slice n (ns++[(⟨f,i,j⟩:Nd)]).length b:=by
  rcases c.2 with⟨h,h0⟩ | ⟨g,b,_,h,_⟩
  ·simp at h0
  ·exact⟨_,b,h⟩
 subst F;have G:=hid (hr.pushed m _ n b c);have J:=(m.cell (p:=⟨R,2,none⟩) (aCA _)).trans c2;have K:=(m.frozen (p:=⟨R,2,none⟩) (aCA _)).trans o;have B1:=hid ((m.mono (Nat.le_succ R)).setCell (p:=⟨R,2,none⟩) (aB2 _) (.slice n (ns++[(⟨f,i,j⟩:Nd)]).length b));clear c d t v m own c2 o;go_wp2
 go_end0
 have x:=G.out;have y:=B1.out;rw[aCd,aCv]at x y;exact⟨rfl,x,y⟩
theorem AY(b:Nat)(w:World)(hb:b<256):Calls Tryz.prog 142 #[.int .u8 b] w λe w'=>e=.returned (.bool (bU b))/\w'=w:=by
 by_cases a:b=38
 ·subst a;go_enter Tryz.func142,Tryz.ntmps142;go_wp2;go_ret;exact⟨rfl,rfl⟩
 by_cases c:b=124
 ·subst c;go_enter Tryz.func142,Tryz.ntmps142;go_wp2;go_ret;exact⟨rfl,rfl⟩
 by_cases d:b=85
 ·subst d;go_enter Tryz.func142,Tryz.ntmps142;go_wp2;go_ret;exact⟨rfl,rfl⟩
 by_cases f:b=82
 ·subst f;go_enter Tryz.func142,Tryz.ntmps142;go_wp2;go_ret;exact⟨rfl,rfl⟩
 have h:((b:Int)==38)=false:=aCe.2 (by omega);have i:((b:Int)==124)=false:=aCe.2 (by omega);have j:((b:Int)==85)=false:=aCe.2 (by omega);have k:((b:Int)==82)=false:=aCe.2 (by omega);have g:bU b=false:=by
  cases e:bU b with
  | false=>rfl
  | true=>have:=lJ e;omega
 go_enter Tryz.func142,Tryz.ntmps142;go_wp2;go_ret;rw[g];exact⟨rfl,rfl⟩
structure St where
 out:Int
 next:List Int
def gq(n i:Nat)(fin:Bool)(k:Int):Bool:=decide (0<=k)&&decide (k<n)&&(!fin||decide (k=i))
def wR(o:Int):Bool:=decide (o=1)||decide (o=2)
def qo(n i:Nat)(s:St):Bool:=(decide (s.out=0)||wR s.out)&&s.next.all (gq n i (wR s.out))
def bu(ss:List St)(i:Nat):St:=ss.getD i ⟨0,[]⟩
def mM(ss:List St):Bool:=decide (1<=ss.length)&&decide (ss.length<=8)&&(List.range ss.length).all λi=>qo ss.length i (bu ss i)
def dQ(os:List Int)(ls:List (List Int)):List St:=List.zipWith St.mk os ls
def eG(os:List Int)(ls:List (List Int)):Bool:=decide (ls.length=os.length)&&ls.all (λl=>decide (l.length=8))&&mM (dQ os ls)
def ku(ss:List St):Prop:=∀ s∈ss,s.next.length=8
def iA(s:St):List Value:=Value.int .i64 s.out::s.next.map (Value.int .i64)
def yI(s:St):Array Value:=(iA s).toArray
def gu(ss:List St):List Value:=ss.flatMap iA
theorem Ce{l:List Int}(h:l.length=8):∃ a0 a1 a2 a3 a4 a5 a6 a7,l=[a0,a1,a2,a3,a4,a5,a6,a7]:=by
 match l,h with
 | [a0,a1,a2,a3,a4,a5,a6,a7],_=>exact⟨_,_,_,_,_,_,_,_,rfl⟩
theorem WC{s:St}(h:s.next.length=8):(iA s).length=9:=by simp[iA,h]
theorem yR(ss:List St)(s:St):gu (ss++[s])=gu ss++iA s:=by simp[gu]
theorem rq{ss:List St}(h:ku ss){i:Nat}(hi:i<ss.length):(bu ss i).next.length=8:=by
 have:bu ss i=ss[i]:=by simp[bu,List.getD,aB3 hi]
 rw[this];exact h _ (List.getElem_mem hi)
theorem xJ{ss:List St}(h:ku ss){i:Nat}(hi:i<ss.length){j:Nat}(hj:j<9):(gu ss)[i*9+j]?=(iA (bu ss i))[j]?:=by
 induction ss generalizing i with
 | nil=>simp at hi
 | cons s ss ih=>
  have a:s.next.length=8:=h s (by simp);have b:=WC a;cases i with
  | zero=>
   show (iA s++gu ss)[0*9+j]?=_;rw[aCh (by omega)];simp[bu]
  | succ i=>
   show (iA s++gu ss)[(i+1)*9+j]?=_;rw[aCi (by omega),b,show (i+1)*9+j - 9=i*9+j by omega,ih (λx c=>h x (by simp[c])) (by simpa using hi)];simp[bu]
theorem adG{n:Nat}{p:Nat->Bool}:(List.range n).all p=true↔∀ i,i<n->p i=true:=by simp[List.all_eq_true]
theorem jw{ss:List St}:mM ss=true↔1<=ss.length/\ss.length<=8/\∀ i,i<ss.length->qo ss.length i (bu ss i)=true:=by
 unfold mM;rw[aCH,aCH,adG];simp[and_assoc]
theorem nQ{os:List Int}{ls:List (List Int)}(h:ls.length=os.length):(dQ os ls).length=os.length:=by simp[dQ,h]
theorem KQ{os:List Int}{ls:List (List Int)}(h:ls.length=os.length){i:Nat}(hi:i<os.length):bu (dQ os ls) i=⟨os.getD i 0,ls.getD i []⟩:=by
 have a:i<(dQ os ls).length:=by rw[nQ h];exact hi
 have b:(dQ os ls)[i]?=some ⟨os[i],ls[i]⟩:=by rw[aB3 a];simp[dQ]
 simp[bu,List.getD,b,aB3 hi,aB3 (show i<ls.length by omega)]
theorem aaD{os:List Int}{ls:List (List Int)}(h:ls.all (λl=>decide (l.length=8))=true):ku (dQ os ls):=by
 intro s a;rw[List.all_eq_true]at h;obtain⟨i,b,rfl⟩:=aCK a;simp[dQ]at b ⊢;have:=h (ls[i]) (List.getElem_mem _);simpa using this
def xO(z:Int):UInt8:=UInt8.ofNat z.toNat
def qf(s:St):List UInt8:=xO s.out::s.next.map xO
def bytesOf(ss:List St):List UInt8:=xO (ss.length:Int)::ss.flatMap qf
theorem Br{z:Int}(h0:0<=z)(h1:z<256):((xO z).toNat:Int)=z:=by
 unfold xO;rw[UInt8.toNat_ofNat'];omega
def ky(os:List Int)(ls:List (List Int)):Nat:=if eG os ls=true then 0 else 8
def kw(os:List Int)(ls:List (List Int)):ByteArray:=if eG os ls=true then ⟨(bytesOf (dQ os ls)).toArray⟩ else ⟨#[]⟩
structure Ints (w:World) (ao:Option Addr) (len cap:Nat) (zs:List Int):Prop where
 hlen:zs.length=len
 hcap:len<=cap
 hmax:cap<=9223372036854775807
 hnil:ao=none->len=0/\cap=0
 hcell:0<len->∃ b off,ao=some ⟨b,off,none⟩/\b<w.heap.size/\∀ i,i<len->w.cell? ⟨b,off+i,none⟩=some (.int .i64 (zs.getD i 0))
theorem Ints.below{w w':World}{ao:Option Addr}{len cap:Nat}{zs:List Int}(h:Ints w ao len cap zs)(hb:Below w.heap.size w w'):Ints w' ao len cap zs:=by
 refine⟨h.hlen,h.hcap,h.hmax,h.hnil,λd=>?_⟩;obtain⟨b,a,e,c,f⟩:=h.hcell d;exact⟨b,a,e,aCq c hb.size,λi g=>by rw[hb.cell (p:=⟨b,a+i,none⟩) c];exact f i g⟩
def qO(z:Int):Bool:=decide (0<=z)&&decide (z<8)
def dh(zs:List Int):Bool:=zs.all qO
theorem ja{z:Int}:qO z=true↔0<=z/\z<8:=by simp[qO]
theorem aci{z:Int}(h:z<0\/7<z):qO z=false:=by
 cases e:qO z with
 | false=>rfl
 | true=>rw[ja]at e;omega
theorem Gi(z:Int)(w:World):Calls Tryz.prog 129 #[.int .i64 z] w λe w'=>e=.returned (.bool (qO z))/\w'=w:=by
 by_cases a:0<=z
 ·by_cases b:z<8
  ·have H:Hid (qO z=true):=hid (by simp[qO,a,b]);go_enter Tryz.func129,Tryz.ntmps129;go_wp2;go_ret;exact⟨by rw[H.out];rfl,rfl⟩
  ·have H:Hid (qO z=false):=hid (by simp[qO];omega);go_enter Tryz.func129,Tryz.ntmps129;go_wp2;go_ret;exact⟨by rw[H.out];rfl,rfl⟩
 ·have H:Hid (qO z=false):=hid (by simp[qO];omega);go_enter Tryz.func129,Tryz.ntmps129;go_wp2;go_ret;exact⟨by rw[H.out];rfl,rfl⟩
theorem VE{zs:List Int}(h:∀ m,m<zs.length->qO (zs.getD m 0)=true):dh zs=true:=by
 unfold dh;rw[List.all_eq_true];intro x b;obtain⟨i,a,rfl⟩:=aCK b;have:=h i a;simpa [List.getD,aB3 a] using this
theorem Oy{zs:List Int}{m:Nat}(hm:m<zs.length)(h:qO (zs.getD m 0)=false):dh zs=false:=by
 unfold dh;rw[List.all_eq_false];refine⟨zs[m],List.getElem_mem hm,?_⟩;simpa [List.getD,aB3 hm] using h
theorem jB(ao:Option Addr)(len cap:Nat)(zs:List Int)(w:World)(h:Ints w ao len cap zs):Calls Tryz.prog 86 #[.slice ao len cap] w λe w'=>e=.returned (.bool (dh zs))/\w'=w:=by
 have r:=h.hlen;have s:=h.hcap;have f:=h.hmax;go_enter Tryz.func86,Tryz.ntmps86;go_wp2_with fail
 go_loop [7] (λi=>∃ j:Nat,j<=len/\i=.int .i64 j/\Hid (∀ m,m<j->qO (zs.getD m 0)=true)) (λi=>len - (intOf i).toNat)
 case atStart=>exact⟨0,aCg _,rfl,hid (λm f=>by omega)⟩
 case round=>
  obtain⟨j,t,rfl,k⟩:=hrel;by_cases g:j<len
  ·obtain⟨b,n,rfl,u,a⟩:=h.hcell (by omega);have c:=a j g;clear a;cases hz:qO (zs.getD j 0) with
   | true=>
    have d:=hid hz;clear hz;generalize l:zs.getD j 0=x at *;have o:=hid l;clear l;go_wp2_with fail;refine(Gi x w).mono ?_;rintro e w' ⟨rfl,rfl⟩;rw[d.out];go_wp2_with fail
    go_round
    case rel=>
     refine⟨j+1,by omega,by go_num,hid (λm f=>?_)⟩;by_cases e:m<j
     ·exact k.out m e
     ·rw[show m=j by omega,o.out];exact d.out
    case measure=>simp[intOf];omega
   | false=>
    have p:=hid (Oy (zs:=zs) (m:=j) (by omega) hz);have d:=hid hz;clear hz;generalize zs.getD j 0=x at *;go_wp2_with fail;refine(Gi x w).mono ?_;rintro e w' ⟨rfl,rfl⟩;rw[d.out];go_wp2_with fail;go_ret;exact⟨by rw[p.out];rfl,rfl⟩
  ·have q:=hid (VE (zs:=zs) (λm f=>k.out m (by omega)));go_wp2_with fail;go_ret;exact⟨by rw[q.out];rfl,rfl⟩
theorem ul(ao:Option Addr)(len cap:Nat)(zs:List Int)(w:World)(h:Ints w ao len cap zs):Calls Tryz.prog 102 #[.slice ao len cap] w λe w'=>e=.returned (.bool (dh zs))/\w'=w:=by
 have r:=h.hlen;have s:=h.hcap;have d:=h.hmax;go_enter Tryz.func102,Tryz.ntmps102;go_wp2_with fail
 go_loop [3] (λi=>∃ j:Nat,j<=len/\i=.int .i64 j/\Hid (∀ m,m<j->qO (zs.getD m 0)=true)) (λi=>len - (intOf i).toNat)
 case atStart=>exact⟨0,aCg _,rfl,hid (λm d=>by omega)⟩
 case round=>
  obtain⟨j,t,rfl,k⟩:=hrel;by_cases f:j<len
  ·obtain⟨b,n,rfl,u,a⟩:=h.hcell (by omega);have c:=a j f;clear a;by_cases v:zs.getD j 0<0
   ·have g:=hid (Oy (zs:=zs) (m:=j) (by omega) (aci (by omega)));generalize zs.getD j 0=x at *;go_wp2_with fail;go_ret;exact⟨by rw[g.out];rfl,rfl⟩
   by_cases y:7<zs.getD j 0
   ·have g:=hid (Oy (zs:=zs) (m:=j) (by omega) (aci (by omega)));generalize zs.getD j 0=x at *;go_wp2_with fail;go_ret;exact⟨by rw[g.out];rfl,rfl⟩
   have o:Hid (qO (zs.getD j 0)=true):=hid (by rw[ja];omega);generalize l:zs.getD j 0=x at *;have p:=hid l;clear l;go_wp2_with fail
   go_round
   case rel=>
    refine⟨j+1,by omega,by go_num,hid (λm d=>?_)⟩;by_cases e:m<j
    ·exact k.out m e
    ·rw[show m=j by omega,p.out];exact o.out
   case measure=>simp[intOf];omega
  ·have q:=hid (VE (zs:=zs) (λm d=>k.out m (by omega)));go_wp2_with fail;go_ret;exact⟨by rw[q.out];rfl,rfl⟩
theorem run_sizeOf{P:Program}{t:TypeId}{n:Nat}(h:(P.info? t).map (·.size)=some n)(w:World):(sizeOf t).run P w=.ok n w:=by
 cases hq:P.info? t with
 | none=>simp[hq]at h
 | some i=>simp[hq]at h;simp[sizeOf,typeInfo,hq,h]
theorem lC{P:Program}{t:TypeId}{k:IntKind}(h:P.underlying t=some (.int k))(w:World):(isAgg t).run P w=.ok false w:=by
 simp[isAgg,run_underlying h]
theorem Cu{P:Program}{t:TypeId}(h:P.underlying t=some .bool)(w:World):(isAgg t).run P w=.ok false w:=by
 simp[isAgg,run_underlying h]
theorem jh{P:Program}{t e:TypeId}{len:Nat}{X:Array Value}{j:Nat}{v:Value}(w:World)(ht:P.underlying t=some (.array len e))(he:∀ w,(isAgg e).run P w=.ok false w)(hs:(P.info? e).map (·.size)=some 1)
  (hj:j<len) (hX:X[j]?=some v):(Instr.index t (.agg X) (.int .i64 (j:Nat))).run P w=.ok v w:=by
 have a:(0:Int)<=(j:Int)/\(j:Int)<(len:Int):=by omega
 simp only[Instr.index,asIntOf,Sem.run_bind,Sem.run_pure,Result.andThen,run_underlying ht,aC2 a,run_sizeOf hs,part,he];simp[hX]
theorem lG{n i:Nat}{fin:Bool}{k:Int}:gq n i fin k=true↔0<=k/\k<n/\(fin=true->k=i):=by
 unfold gq;cases fin <;> simp[and_assoc]
theorem KJ{l:List Int}{p:Int->Bool}(h:∀ m,m<l.length->p (l.getD m 0)=true):l.all p=true:=by
 rw[List.all_eq_true];intro x b;obtain⟨i,a,rfl⟩:=aCK b;simpa [List.getD,aB3 a] using h i a
theorem lc{l:List Int}{p:Int->Bool}{m:Nat}(hm:m<l.length)(h:p (l.getD m 0)=false):l.all p=false:=by
 rw[List.all_eq_false];exact⟨l[m],List.getElem_mem hm,by simpa [List.getD,aB3 hm] using h⟩
theorem asV(a0 a1 a2 a3 a4 a5 a6 a7:Int):∀ j,j<8->(#[Value.int .i64 a0,.int .i64 a1,.int .i64 a2,.int .i64 a3,.int .i64 a4,.int .i64 a5,.int .i64 a6,.int .i64 a7]:Array Value)[j]?=some (.int .i64 ([a0,a1,a2,a3,a4,a5,a6,a7].getD j 0)):=by
 intro j a
 match j,a with
 | 0,_ | 1,_ | 2,_ | 3,_ | 4,_ | 5,_ | 6,_ | 7,_=>rfl
theorem zA(o:Int){l:List Int}(h8:l.length=8):∃ a0 a1 a2 a3 a4 a5 a6 a7,yI ⟨o,l⟩=#[.int .i64 o,.int .i64 a0,.int .i64 a1,.int .i64 a2,.int .i64 a3,.int .i64 a4,.int .i64 a5,.int .i64 a6,.int .i64 a7] /\
  Hid (∀ j,j<8->(#[Value.int .i64 a0,.int .i64 a1,.int .i64 a2,.int .i64 a3,.int .i64 a4,.int .i64 a5,.int .i64 a6,.int .i64 a7]:Array Value)[j]?=some (.int .i64 (l.getD j 0))):=by
 obtain⟨a0,a1,a2,a3,a4,a5,a6,a7,rfl⟩:=Ce h8;exact⟨a0,a1,a2,a3,a4,a5,a6,a7,rfl,hid (asV a0 a1 a2 a3 a4 a5 a6 a7)⟩
theorem ac2(l:List Int)(i0 n:Nat)(w:World)(h8:l.length=8)(hi:i0<100)(hn:n<100) :
  Calls Tryz.prog 126 #[.agg (yI ⟨0,l⟩),.int .i64 i0,.int .i64 n] w λe w'=>e=.returned (.bool (qo n i0 ⟨0,l⟩))/\Below w.heap.size w w':=by
 have b:Hid (qo n i0 ⟨0,l⟩=l.all (gq n i0 false)):=hid (by simp[qo,wR]);obtain⟨q,r,s,t,u,v,y,z,e,A⟩:=zA 0 h8;have c:=hid h8;rw[e];clear e h8;go_enter Tryz.func126,Tryz.ntmps126;go_wp2_with fail;generalize (#[Value.int .i64 q,.int .i64 r,.int .i64 s,.int .i64 t,.int .i64 u,.int .i64 v,.int .i64 y,.int .i64 z]:Array Value)=X at *
 go_loop [27] (λi=>∃ j:Nat,j<=8/\i=.int .i64 j/\Hid (∀ m,m<j->gq n i0 false (l.getD m 0)=true)) (λi=>8 - (intOf i).toNat)
 case atStart=>exact⟨0,aCg _,rfl,hid (λm d=>by omega)⟩
 case round=>
  obtain⟨j,E,rfl,g⟩:=hrel;by_cases a:j<8
  ·have F:=λW=>jh (P:=Tryz.prog) W Tryz.underlying117 (lC Tryz.underlying3) (by kernel_rfl) a (A.out j a);by_cases G:l.getD j 0<0
   ·have f:=hid (lc (l:=l) (p:=gq n i0 false) (m:=j) (by rw[c.out];exact a) (by
     cases e:gq n i0 false (l.getD j 0) with
     | false=>rfl
     | true=>rw[lG]at e;omega))
    generalize l.getD j 0=x at *;go_wp2_with fail;go_ret;exact⟨by rw[b.out,f.out];rfl,(aB4 _ _).alloc (aB2 _) _⟩
   by_cases H:(n:Int)<=l.getD j 0
   ·have f:=hid (lc (l:=l) (p:=gq n i0 false) (m:=j) (by rw[c.out];exact a) (by
     cases e:gq n i0 false (l.getD j 0) with
     | false=>rfl
     | true=>rw[lG]at e;omega))
    generalize l.getD j 0=x at *;go_wp2_with fail;go_ret;exact⟨by rw[b.out,f.out];rfl,(aB4 _ _).alloc (aB2 _) _⟩
   have B:=hid ((lG (n:=n) (i:=i0) (fin:=false) (k:=l.getD j 0)).2 ⟨by omega,by omega,λh=>by cases h⟩);generalize o:l.getD j 0=x at *;have C:=hid o;clear o;go_wp2_with fail
   go_round
   case rel=>
    refine⟨j+1,by omega,by go_num,hid (λm d=>?_)⟩;by_cases e:m<j
    ·exact g.out m e
    ·rw[show m=j by omega,C.out];exact B.out
   case measure=>simp[intOf];omega
  ·have D:=hid (KJ (l:=l) (p:=gq n i0 false) (λm d=>g.out m (by rw[c.out]at d;omega)));go_wp2_with fail;go_ret;exact⟨by rw[b.out,D.out];rfl,(aB4 _ _).alloc (aB2 _) _⟩
theorem agm(l:List Int)(i0 n:Nat)(w:World)(h8:l.length=8)(hi:i0<100)(hn:n<100) :
  Calls Tryz.prog 126 #[.agg (yI ⟨1,l⟩),.int .i64 i0,.int .i64 n] w λe w'=>e=.returned (.bool (qo n i0 ⟨1,l⟩))/\Below w.heap.size w w':=by
 have d:Hid (qo n i0 ⟨1,l⟩=l.all (gq n i0 true)):=hid (by simp[qo,wR]);obtain⟨q,r,s,t,u,v,y,z,e,A⟩:=zA 1 h8;have f:=hid h8;rw[e];clear e h8;go_enter Tryz.func126,Tryz.ntmps126;go_wp2_with fail;generalize (#[Value.int .i64 q,.int .i64 r,.int .i64 s,.int .i64 t,.int .i64 u,.int .i64 v,.int .i64 y,.int .i64 z]:Array Value)=X at *
 go_loop [27] (λi=>∃ j:Nat,j<=8/\i=.int .i64 j/\Hid (∀ m,m<j->gq n i0 true (l.getD m 0)=true)) (λi=>8 - (intOf i).toNat)
 case atStart=>exact⟨0,aCg _,rfl,hid (λm g=>by omega)⟩
 case round=>
  obtain⟨j,F,rfl,h⟩:=hrel;by_cases a:j<8
  ·have G:=λW=>jh (P:=Tryz.prog) W Tryz.underlying117 (lC Tryz.underlying3) (by kernel_rfl) a (A.out j a);by_cases H:l.getD j 0<0
   ·have c:=hid (lc (l:=l) (p:=gq n i0 true) (m:=j) (by rw[f.out];exact a) (by
     cases e:gq n i0 true (l.getD j 0) with
     | false=>rfl
     | true=>rw[lG]at e;omega))
    generalize l.getD j 0=x at *;go_wp2_with fail;go_ret;exact⟨by rw[d.out,c.out];rfl,(aB4 _ _).alloc (aB2 _) _⟩
   by_cases I:(n:Int)<=l.getD j 0
   ·have c:=hid (lc (l:=l) (p:=gq n i0 true) (m:=j) (by rw[f.out];exact a) (by
     cases e:gq n i0 true (l.getD j 0) with
     | false=>rfl
     | true=>rw[lG]at e;omega))
    generalize l.getD j 0=x at *;go_wp2_with fail;go_ret;exact⟨by rw[d.out,c.out];rfl,(aB4 _ _).alloc (aB2 _) _⟩
   by_cases b:l.getD j 0=(i0:Int)
   ·have B:=hid ((lG (n:=n) (i:=i0) (fin:=true) (k:=l.getD j 0)).2 ⟨by omega,by omega,λ_=>b⟩);have C:((l.getD j 0)==(i0:Int))=true:=beq_iff_eq.2 b;clear b;generalize o:l.getD j 0=x at *;have D:=hid o;clear o;go_wp2_with fail
    go_round
    case rel=>
     refine⟨j+1,by omega,by go_num,hid (λm g=>?_)⟩;by_cases e:m<j
     ·exact h.out m e
     ·rw[show m=j by omega,D.out];exact B.out
    case measure=>simp[intOf];omega
   ·have c:=hid (lc (l:=l) (p:=gq n i0 true) (m:=j) (by rw[f.out];exact a) (by
     cases e:gq n i0 true (l.getD j 0) with
     | false=>rfl
     | true=>rw[lG]at e;exact absurd (e.2.2 rfl) b))
    have C:((l.getD j 0)==(i0:Int))=false:=aCe.2 b;clear b;generalize l.getD j 0=x at *;go_wp2_with fail;go_ret;exact⟨by rw[d.out,c.out];rfl,(aB4 _ _).alloc (aB2 _) _⟩
  ·have E:=hid (KJ (l:=l) (p:=gq n i0 true) (λm g=>h.out m (by rw[f.out]at g;omega)));go_wp2_with fail;go_ret;exact⟨by rw[d.out,E.out];rfl,(aB4 _ _).alloc (aB2 _) _⟩
theorem agk(l:List Int)(i0 n:Nat)(w:World)(h8:l.length=8)(hi:i0<100)(hn:n<100) :
  Calls Tryz.prog 126 #[.agg (yI ⟨2,l⟩),.int .i64 i0,.int .i64 n] w λe w'=>e=.returned (.bool (qo n i0 ⟨2,l⟩))/\Below w.heap.size w w':=by
 have d:Hid (qo n i0 ⟨2,l⟩=l.all (gq n i0 true)):=hid (by simp[qo,wR]);obtain⟨q,r,s,t,u,v,y,z,e,A⟩:=zA 2 h8;have f:=hid h8;rw[e];clear e h8;go_enter Tryz.func126,Tryz.ntmps126;go_wp2_with fail;generalize (#[Value.int .i64 q,.int .i64 r,.int .i64 s,.int .i64 t,.int .i64 u,.int .i64 v,.int .i64 y,.int .i64 z]:Array Value)=X at *
 go_loop [27] (λi=>∃ j:Nat,j<=8/\i=.int .i64 j/\Hid (∀ m,m<j->gq n i0 true (l.getD m 0)=true)) (λi=>8 - (intOf i).toNat)
 case atStart=>exact⟨0,aCg _,rfl,hid (λm g=>by omega)⟩
 case round=>
  obtain⟨j,F,rfl,h⟩:=hrel;by_cases a:j<8
  ·have G:=λW=>jh (P:=Tryz.prog) W Tryz.underlying117 (lC Tryz.underlying3) (by kernel_rfl) a (A.out j a);by_cases H:l.getD j 0<0
   ·have c:=hid (lc (l:=l) (p:=gq n i0 true) (m:=j) (by rw[f.out];exact a) (by
     cases e:gq n i0 true (l.getD j 0) with
     | false=>rfl
     | true=>rw[lG]at e;omega))
    generalize l.getD j 0=x at *;go_wp2_with fail;go_ret;exact⟨by rw[d.out,c.out];rfl,(aB4 _ _).alloc (aB2 _) _⟩
   by_cases I:(n:Int)<=l.getD j 0
   ·have c:=hid (lc (l:=l) (p:=gq n i0 true) (m:=j) (by rw[f.out];exact a) (by
     cases e:gq n i0 true (l.getD j 0) with
     | false=>rfl
     | true=>rw[lG]at e;omega))
    generalize l.getD j 0=x at *;go_wp2_with fail;go_ret;exact⟨by rw[d.out,c.out];rfl,(aB4 _ _).alloc (aB2 _) _⟩
   by_cases b:l.getD j 0=(i0:Int)
   ·have B:=hid ((lG (n:=n) (i:=i0) (fin:=true) (k:=l.getD j 0)).2 ⟨by omega,by omega,λ_=>b⟩);have C:((l.getD j 0)==(i0:Int))=true:=beq_iff_eq.2 b;clear b;generalize o:l.getD j 0=x at *;have D:=hid o;clear o;go_wp2_with fail
    go_round
    case rel=>
     refine⟨j+1,by omega,by go_num,hid (λm g=>?_)⟩;by_cases e:m<j
     ·exact h.out m e
     ·rw[show m=j by omega,D.out];exact B.out
    case measure=>simp[intOf];omega
   ·have c:=hid (lc (l:=l) (p:=gq n i0 true) (m:=j) (by rw[f.out];exact a) (by
     cases e:gq n i0 true (l.getD j 0) with
     | false=>rfl
     | true=>rw[lG]at e;exact absurd (e.2.2 rfl) b))
    have C:((l.getD j 0)==(i0:Int))=false:=aCe.2 b;clear b;generalize l.getD j 0=x at *;go_wp2_with fail;go_ret;exact⟨by rw[d.out,c.out];rfl,(aB4 _ _).alloc (aB2 _) _⟩
  ·have E:=hid (KJ (l:=l) (p:=gq n i0 true) (λm g=>h.out m (by rw[f.out]at g;omega)));go_wp2_with fail;go_ret;exact⟨by rw[d.out,E.out];rfl,(aB4 _ _).alloc (aB2 _) _⟩
theorem ac3(o:Int)(l:List Int)(i0 n:Nat)(w:World)(h8:l.length=8)(h0:o≠0)(h1:o≠1)(h2:o≠2) :
  Calls Tryz.prog 126 #[.agg (yI ⟨o,l⟩),.int .i64 i0,.int .i64 n] w λe w'=>e=.returned (.bool (qo n i0 ⟨o,l⟩))/\Below w.heap.size w w':=by
 have a:Hid (qo n i0 ⟨o,l⟩=false):=hid (by simp[qo,wR,h0,h1,h2]);have b:(o==0)=false:=aCe.2 h0;have c:(o==1)=false:=aCe.2 h1;have d:(o==2)=false:=aCe.2 h2;obtain⟨f,g,h,i,j,k,m,p,e,q⟩:=zA o h8;rw[e];clear e h0 h1 h2;go_enter Tryz.func126,Tryz.ntmps126;go_wp2_with fail;go_ret;exact⟨by rw[a.out];rfl,(aB4 _ _).alloc (aB2 _) _⟩
theorem agp(s:St)(i0 n:Nat)(w:World)(h8:s.next.length=8)(hi:i0<100)(hn:n<100) :
  Calls Tryz.prog 126 #[.agg (yI s),.int .i64 i0,.int .i64 n] w λe w'=>e=.returned (.bool (qo n i0 s))/\Below w.heap.size w w':=by
 obtain⟨o,l⟩:=s;by_cases a:o=0
 ·subst a;exact ac2 l i0 n w h8 hi hn
 by_cases b:o=1
 ·subst b;exact agm l i0 n w h8 hi hn
 by_cases c:o=2
 ·subst c;exact agk l i0 n w h8 hi hn
 exact ac3 o l i0 n w h8 a b c
theorem aku{ss:List St}{j:Nat}(hj:j<ss.length)(h:qo ss.length j (bu ss j)=false):mM ss=false:=by
 cases e:mM ss with
 | false=>rfl
 | true=>rw[jw]at e;rw[e.2.2 j hj]at h;cases h
theorem xz{w:World}{B n cap g:Nat}{ss:List St}(h:w.ownsRow B 119 9 (.slice (some ⟨g,0,none⟩) n cap) n (gu ss))(h8:ku ss)(hn:ss.length=n){j:Nat}(hj:j<n) :
  ∀ k,k<9->w.cell? ⟨g,j*9+k,none⟩=(iA (bu ss j))[k]?:=λk hk=>by
 rw[h.cellAt (j*9+k) (by omega)];exact xJ h8 (by omega) hk
theorem aaK(ao:Option Addr)(n cap:Nat)(ss:List St)(w:World)(hl:ss.length=n)(hn:n<1\/8<n)(hm:n<=1000) :
  Calls Tryz.prog 79 #[.slice ao n cap] w λe w'=>e=.returned (.bool (mM ss))/\Below w.heap.size w w':=by
 have a:Hid (mM ss=false):=hid (by
  cases e:mM ss with
  | false=>rfl
  | true=>rw[jw]at e;omega)
 clear hl;rcases hn with hn | hn
 focus
  obtain rfl:n=0:=by omega
 rotate_left
 focus
  have b:¬ n<1:=by omega
 all_goals
  go_enter Tryz.func79,Tryz.ntmps79;go_wp2_with fail;go_ret;exact⟨by rw[a.out];rfl,aB4 _ _⟩
theorem Xl(g n cap B:Nat)(ss:List St)(w:World)(hr:w.ownsRow B 119 9 (.slice (some ⟨g,0,none⟩) n cap) n (gu ss))(h8:ku ss)(hl:ss.length=n)(hn:1<=n)(hm:n<=8)(hg:g<w.heap.size)(hcap:n<=cap) :
  Calls Tryz.prog 79 #[.slice (some ⟨g,0,none⟩) n cap] w λe w'=>e=.returned (.bool (mM ss))/\Below w.heap.size w w':=by
 have z:=hid hr;clear hr;have N:¬ n<1:=by omega
 have O:¬ 8<n:=by omega
 go_enter Tryz.func79,Tryz.ntmps79;go_wp2_with fail
 go_loopw [15] (λi wr=>∃ j:Nat,j<=n/\i=.int .i64 j/\Hid (∀ m,m<j->qo n m (bu ss m)=true)/\Below w.heap.size w wr) (λi _=>n - (intOf i).toNat)
 case atStart=>exact⟨0,aCg _,rfl,hid (λm hm=>by omega),aB4 _ _⟩
 case round=>
  obtain⟨j,P,rfl,v,a⟩:=hrel;by_cases f:j<n
  ·have S:=xz z.out h8 hl f;have x:=rq h8 (i:=j) (by omega);have F:=λW=>agp (bu ss j) j n W x (by omega) (by omega);have A:Hid (qo n j (bu ss j)=false->mM ss=false):=hid (λh=>aku (j:=j) (by omega) (by rw[hl];exact h));obtain⟨C,D,E,G,H,I,J,K,d,_⟩:=zA (bu ss j).out x;rw[show (⟨(bu ss j).out,(bu ss j).next⟩:St)=bu ss j from rfl]at d;have y:iA (bu ss j)=[.int .i64 (bu ss j).out,.int .i64 C,.int .i64 D,.int .i64 E,.int .i64 G,.int .i64 H,.int .i64 I,.int .i64 J,.int .i64 K]:=by
    have:=congrArg Array.toList d;simpa [yI] using this
   rw[y]at S;rw[d]at F;generalize (bu ss j).out=o at *;have k:=(a.cell (p:=⟨g,j*9,none⟩) hg).trans (S 0 (by decide));have c1:=(a.cell (p:=⟨g,j*9+1,none⟩) hg).trans (S 1 (by decide));have c2:=(a.cell (p:=⟨g,j*9+2,none⟩) hg).trans (S 2 (by decide));have l:=(a.cell (p:=⟨g,j*9+3,none⟩) hg).trans (S 3 (by decide));have q:=(a.cell (p:=⟨g,j*9+4,none⟩) hg).trans (S 4 (by decide));have r:=(a.cell (p:=⟨g,j*9+5,none⟩) hg).trans (S 5 (by decide));have s:=(a.cell (p:=⟨g,j*9+6,none⟩) hg).trans (S 6 (by decide));have t:=(a.cell (p:=⟨g,j*9+7,none⟩) hg).trans (S 7 (by decide));have u:=(a.cell (p:=⟨g,j*9+8,none⟩) hg).trans (S 8 (by decide));simp only[List.getElem?_cons_succ,List.getElem?_cons_zero]at k c1 c2 l q r s t u;clear S d y;cases ev:qo n j (bu ss j) with
   | true=>
    have b:=hid ev;clear ev;go_wp2_with fail;refine(F _).mono ?_;rintro e L ⟨rfl,c⟩;rw[b.out];have B2:=hid (a.trans (((aB4 _ _).alloc a.size _).trans (c.mono (by have:=a.size;simp;omega))));clear c k c1 c2 l q r s t u;go_wp2_with fail;go_roundw
    case rel=>
     refine⟨j+1,by omega,by go_num,hid (λm hm=>?_),B2.out⟩;by_cases e:m<j
     ·exact v.out m e
     ·rw[show m=j by omega];exact b.out
    case measure=>simp[intOf];omega
   | false=>
    have b:=hid ev;clear ev;go_wp2_with fail;refine(F _).mono ?_;rintro e L ⟨rfl,c⟩;rw[b.out];have B2:=hid (a.trans (((aB4 _ _).alloc a.size _).trans (c.mono (by have:=a.size;simp;omega))));clear c k c1 c2 l q r s t u;go_wp2_with fail;go_ret;exact⟨by rw[A.out b.out];rfl,B2.out⟩
  ·have M:Hid (mM ss=true):=hid (jw.2 ⟨by omega,by omega,λi Q=>by rw[hl];exact v.out i (by omega)⟩);go_wp2_with fail;go_ret;exact⟨by rw[M.out];rfl,a⟩
theorem ai{B:Nat}{e:TypeId}{k:Nat}{v:Value}{n:Nat}{xs:List Value}{w w':World}(h:w.ownsRow B e k v n xs)(hb:Below w.heap.size w w'):w'.ownsRow B e k v n xs:=
 h.kept (row:=none) ⟨hb.os,hb.tape,hb.output,hb.size,λj hj _=>hb.block j hj⟩ (by cases hv:v.ownBlock <;> simp)
theorem eZ{w:World}{B e size n cap:Nat}{ao:Option Addr}{xs:List Value}(h:w.ownsRow B e size (.slice ao n cap) n xs)(hn:0<n):∃ g,ao=some ⟨g,0,none⟩/\B<=g/\g<w.heap.size/\n<=cap:=by
 rcases h.2 with⟨e,h0⟩ | ⟨g,cap',cur,e,hb,hh,hc,_⟩
 ·omega
 ·cases e;exact⟨g,rfl,hb,(aCu.1 hh).1,hc⟩
theorem aY{w:World}{B B' e e' size aoP n n':Nat}{v v':Value}{xs xs':List Value}(h:w.ownsRow B e size v n xs)(h':w.ownsRow B' e' aoP v' n' xs')(hne:e≠e'):v.ownBlock=none\/v.ownBlock≠v'.ownBlock:=by
 rcases h.2 with⟨rfl,_⟩ | ⟨g,cap,cur,rfl,_,hg,_⟩
 ·exact aCa rfl
 ·rcases h'.2 with⟨rfl,_⟩ | ⟨g',cap',atL,rfl,_,Uy,_⟩
  ·exact aCb (by simp[Value.ownBlock])
  ·refine aCb λe=>?_;simp[Value.ownBlock]at e;subst e;rw[hg]at Uy;simp at Uy;exact hne Uy.2
theorem aB{w:World}{base:Nat}{e:TypeId}{size:Nat}{v:Value}{n:Nat}{xs:List Value}(h:w.ownsRow base e size v n xs){k:Nat}(hk:k<base)(o:Nat)(u:Value):(w.setCell ⟨k,o,none⟩ u).ownsRow base e size v n xs:=ownsRow_setCell_below h (by simpa using hk) u
theorem ak{w:World}{B:Nat}{e:TypeId}{size:Nat}{v:Value}{n:Nat}{xs:List Value}(h:w.ownsRow B e size v n xs):∃ ao cap,v=.slice ao n cap:=by
 rcases h.2 with⟨rfl,rfl⟩ | ⟨g,cap,cur,rfl,_⟩
 ·exact⟨none,0,rfl⟩
 ·exact⟨_,cap,rfl⟩
theorem Cv{w:World}{B:Nat}{v:Value}{n:Nat}{xs:List Value}{e:TypeId}{size:Nat}(h:w.ownsRow B e size v n xs)(hn:0<n):∃ g cap,v=.slice (some ⟨g,0,none⟩) n cap/\B<=g/\g<w.heap.size/\n<=cap:=by
 rcases h.2 with⟨_,h0⟩ | ⟨g,cap,cur,rfl,hb,hg,hc,_⟩
 ·omega
 ·exact⟨g,cap,rfl,hb,(aCu.1 hg).1,hc⟩
structure Two (w:World) (b:Nat) (x y:Value):Prop where
 c0:w.cell? ⟨b,0,none⟩=some x
 c1:w.cell? ⟨b,1,none⟩=some y
 f0:w.frozen? ⟨b,0,none⟩=false
 f1:w.frozen? ⟨b,1,none⟩=false
theorem Two.lt{w:World}{b:Nat}{x y:Value}(h:Two w b x y):b<w.heap.size:=World.block_lt_of_cell? w ⟨b,0,none⟩ h.c0
theorem bY(w:World)(x y:Value)(t:TypeId):Two (w.alloc (.cells #[x,y] t)) w.heap.size x y:=⟨by simp,by simp,by simp,by simp⟩
theorem Two.below{B:Nat}{w w':World}{b:Nat}{x y:Value}(h:Two w b x y)(hb:Below B w w')(hlt:b<B):Two w' b x y:=
 ⟨(hb.cell (p:=⟨b,0,none⟩) hlt).trans h.c0,(hb.cell (p:=⟨b,1,none⟩) hlt).trans h.c1,(hb.frozen (p:=⟨b,0,none⟩) hlt).trans h.f0,(hb.frozen (p:=⟨b,1,none⟩) hlt).trans h.f1⟩
theorem Two.set0{w:World}{b:Nat}{x y:Value}(h:Two w b x y)(v:Value):Two (w.setCell ⟨b,0,none⟩ v) b v y:=
 ⟨aCz _ _ _ h.c0,by rw[aB8 _ _ _ _ (by simp)];exact h.c1,by rw[aCm];exact h.f0,by rw[aCm];exact h.f1⟩
theorem Two.set1{w:World}{b:Nat}{x y:Value}(h:Two w b x y)(v:Value):Two (w.setCell ⟨b,1,none⟩ v) b x v:=
 ⟨by rw[aB8 _ _ _ _ (by simp)];exact h.c0,aCz _ _ _ h.c1,by rw[aCm];exact h.f0,by rw[aCm];exact h.f1⟩
theorem Two.other{w:World}{b k o:Nat}{x y:Value}(h:Two w b x y)(hk:k≠b)(v:Value):Two (w.setCell ⟨k,o,none⟩ v) b x y:=
 ⟨by rw[aB8 _ _ _ _ (λe=>hk (congrArg Addr.block e))];exact h.c0,by rw[aB8 _ _ _ _ (λe=>hk (congrArg Addr.block e))];exact h.c1,by rw[aCm];exact h.f0,by rw[aCm];exact h.f1⟩
theorem Tryz.uw:(Tryz.prog.info? 3).map (λi=>(i.zero,i.size,i.bytes))=some (some (.int .i64 0),1,8):=by kernel_rfl
theorem uK(b off j:Nat):(⟨b,off,none⟩:Addr).add j=⟨b,off+j,none⟩:=by simp[Addr.add]
theorem Ints.src{w:World}{ao:Option Addr}{len cap:Nat}{zs:List Int}(h:Ints w ao len cap zs):∀ ad,ao=some ad->∀ j u,(zs.map (Value.int .i64))[j]?=some u->w.cell? (ad.add j)=some u:=by
 intro ad e j u a;have c:=(aB9.1 a).1;simp at c;have i:=h.hlen;obtain⟨b,f,d,_,g⟩:=h.hcell (by omega);rw[e]at d;cases d;rw[uK,g j (by omega)];simp[aB3 c]at a;simp[List.getD,aB3 c,a]
theorem uu(zs:List Int):∀ u∈zs.map (Value.int .i64),u.oneCell'=true:=by
 intro u a;obtain⟨x,_,rfl⟩:=aCU.1 a;rfl
def dI(z1 z2:List Int):Nat:=if z2.length=0 then 4 else if 40<z1.length\/40<z2.length then 5 else if dh z1=true/\dh z2=true then 0 else 6
def Joined(z1 z2:List Int)(w:World)(e:Ending)(w':World):Prop:=
 Below w.heap.size w w' /\
 ((dI z1 z2≠0/\e=.returned (.tuple #[.agg #[.slice none 0 0,.int .i64 0],.int .i64 (dI z1 z2)])) \/
 (dI z1 z2=0/\∃ g cap,e=.returned (.tuple #[.agg #[.slice (some ⟨g,0,none⟩) (z1.length+z2.length) cap,.int .i64 z1.length],.int .i64 0]) /\
  w'.ownsRow w.heap.size 3 1 (.slice (some ⟨g,0,none⟩) (z1.length+z2.length) cap) (z1.length+z2.length) ((z1++z2).map (Value.int .i64))))
section
variable (a1 a2:Option Addr) (l1 c1 l2 c2:Nat) (z1 z2:List Int) (w:World)
theorem acg(h1:Ints w a1 l1 c1 z1)(h2:Ints w a2 l2 c2 z2)(h:l2=0):Calls Tryz.prog 100 #[.slice a1 l1 c1,.slice a2 l2 c2] w (Joined z1 z2 w):=by
 have E:Hid (dI z1 z2=4):=hid (by simp[dI,h2.hlen,h]);subst h;go_enter Tryz.func100,Tryz.ntmps100;go_wp2_with fail;refine bodyPost_ret (v:=.tuple #[.agg #[.slice none 0 0,.int .i64 0],.int .i64 4]) (by simp[results,Tryz.results100,go_sem]) rfl ?_;unfold Joined;rw[E.out];exact⟨(aB4 _ _).alloc (aB2 _) _,aCa ⟨by decide,rfl⟩⟩
theorem acf(h1:Ints w a1 l1 c1 z1)(h2:Ints w a2 l2 c2 z2)(h:¬ l2=0)(hw:40<l1\/40<l2):Calls Tryz.prog 100 #[.slice a1 l1 c1,.slice a2 l2 c2] w (Joined z1 z2 w):=by
 have E:Hid (dI z1 z2=5):=hid (by unfold dI;rw[h1.hlen,h2.hlen,aC1 h,aC2 hw]);have k:((l2:Int)==0)=false:=aCe.2 (by omega);have m1:=h1.hmax;have a:=h2.hmax;have m3:=h1.hcap;have m4:=h2.hcap;by_cases b:40<l1
 rotate_left
 focus
  have c:40<l2:=by omega
 all_goals
  go_enter Tryz.func100,Tryz.ntmps100;go_wp2_with fail;refine bodyPost_ret (v:=.tuple #[.agg #[.slice none 0 0,.int .i64 0],.int .i64 5]) (by simp[results,Tryz.results100,go_sem]) rfl ?_;unfold Joined;rw[E.out];exact⟨(aB4 _ _).alloc (aB2 _) _,aCa ⟨by decide,rfl⟩⟩
theorem Xa(h1:Ints w a1 l1 c1 z1)(h2:Ints w a2 l2 c2 z2)(h:¬ l2=0)(hw:¬ (40<l1\/40<l2))(hl:¬ (dh z1=true/\dh z2=true)):Calls Tryz.prog 100 #[.slice a1 l1 c1,.slice a2 l2 c2] w (Joined z1 z2 w):=by
 have E:Hid (dI z1 z2=6):=hid (by unfold dI;rw[h1.hlen,h2.hlen,aC1 h,aC1 hw,aC1 hl]);have k:((l2:Int)==0)=false:=aCe.2 (by omega);have g:¬ 40<l1:=by omega
 have i:¬ 40<l2:=by omega
 have c:=jB a1 l1 c1 z1 _ (h1.below ((aB4 _ _).alloc (aB2 _) (.cells #[.slice none 0 0,.int .i64 0] 180)));have d:=jB a2 l2 c2 z2 _ (h2.below ((aB4 _ _).alloc (aB2 _) (.cells #[.slice none 0 0,.int .i64 0] 180)));cases e1:dh z1 with
 | false=>
  have b:=hid e1;clear e1 hl hw;go_enter Tryz.func100,Tryz.ntmps100;go_wp2_with fail;refine c.mono ?_;rintro e w' ⟨rfl,rfl⟩;rw[b.out];go_wp2_with fail;refine d.mono ?_;rintro e w' ⟨rfl,rfl⟩;go_wp2_with fail;refine bodyPost_ret (v:=.tuple #[.agg #[.slice none 0 0,.int .i64 0],.int .i64 6]) (by simp[results,Tryz.results100,go_sem]) rfl ?_;unfold Joined;rw[E.out];exact⟨(aB4 _ _).alloc (aB2 _) _,aCa ⟨by decide,rfl⟩⟩
 | true=>
  have a:dh z2=false:=by
   cases a:dh z2 with
   | false=>rfl
   | true=>exact absurd ⟨e1,a⟩ hl
  have b:=hid e1;have f:=hid a;clear e1 a hl hw;go_enter Tryz.func100,Tryz.ntmps100;go_wp2_with fail;refine c.mono ?_;rintro e w' ⟨rfl,rfl⟩;rw[b.out];go_wp2_with fail;refine d.mono ?_;rintro e w' ⟨rfl,rfl⟩;rw[f.out];go_wp2_with fail;refine bodyPost_ret (v:=.tuple #[.agg #[.slice none 0 0,.int .i64 0],.int .i64 6]) (by simp[results,Tryz.results100,go_sem]) rfl ?_;unfold Joined;rw[E.out];exact⟨(aB4 _ _).alloc (aB2 _) _,aCa ⟨by decide,rfl⟩⟩
theorem ajQ(h1:Ints w a1 l1 c1 z1)(h2:Ints w a2 l2 c2 z2)(h:¬ l2=0)(hw:¬ (40<l1\/40<l2))(hl:dh z1=true/\dh z2=true):Calls Tryz.prog 100 #[.slice a1 l1 c1,.slice a2 l2 c2] w (Joined z1 z2 w):=by
 have E:Hid (dI z1 z2=0):=hid (by unfold dI;rw[h1.hlen,h2.hlen,aC1 h,aC1 hw,aC2 hl]);have k:((l2:Int)==0)=false:=aCe.2 (by omega);have S:¬ 40<l1:=by omega
 have T:¬ 40<l2:=by omega
 have s:=jB a1 l1 c1 z1 _ (h1.below ((aB4 _ _).alloc (aB2 _) (.cells #[.slice none 0 0,.int .i64 0] 180)));have t:=jB a2 l2 c2 z2 _ (h2.below ((aB4 _ _).alloc (aB2 _) (.cells #[.slice none 0 0,.int .i64 0] 180)));have K:=hid hl.1;have L:=hid hl.2;have u:=h1.hlen;have x:=h2.hlen;obtain⟨i0,i,M,j,N⟩:=info_parts Tryz.uw;clear hl hw;go_enter Tryz.func100,Tryz.ntmps100;go_wp2_with fail;refine s.mono ?_;rintro e w' ⟨rfl,rfl⟩;rw[K.out];go_wp2_with fail;refine t.mono ?_;rintro e w' ⟨rfl,rfl⟩;rw[L.out];clear s t;go_wp2_with (at_make;go_must (refine wpList_make_own _ rfl (.const (.int .i64 0)) (.tmp 37) 22 rfl (w.heap.size+1) 3 i0 (.int .i64 0) 1 Tryz.underlying22 i M j .i64 .i64 _ (l1+l2) rfl rfl ?m1 ?m2 ?m3 ?m4 ?_))
 case m1=>omega
 case m2=>rw[N];omega
 case m3=>unfold maxLen;omega
 case m4=>simp
 intro y l z
 try simp only[aB7]at l
 have m:Below (w.heap.size+1) (w.alloc (.cells #[.slice none 0 0,.int .i64 0] 180)) y:=(aB4 _ _).grown z (by simp) (λk h=>by cases h);have c:Below w.heap.size w y:=((aB4 _ _).alloc (aB2 _) _).trans (m.mono (Nat.le_succ _));have A:=(h1.below c).src;have B:=(h1.below c).hnil;have O:=hid c;have d:=hid m;have U:=c.size;clear c m z;go_wp2_with (at_builtin;go_must (refine wpList_append_fits_any _ rfl (.tmp 39) (.tmp 40) 22 rfl (w.heap.size+1) 3 i0 1 Tryz.underlying22 i j (w.heap.size+1) 0 (l1+l2) [] rfl l a1 l1 c1 (z1.map (Value.int .i64)) rfl ?n1 B A (uu z1) ?n2 ?_))
 case n1=>simp[u]
 case n2=>omega
 intro C n o
 try simp only[aCw,List.nil_append]at n
 have f:Below w.heap.size w C:=O.out.grown o (by omega) (λk h=>by cases h;omega);have D:Below (w.heap.size+1) (w.alloc (.cells #[.slice none 0 0,.int .i64 0] 180)) C:=d.out.grown o (by have:=d.out.size;simpa using this) (λk h=>by cases h;omega);have F:=(h2.below f).src;have G:=(h2.below f).hnil;have P:=hid f;have g:=hid D;have V:=f.size;clear f D o A B l;go_wp2_with (at_builtin;go_must (refine wpList_append_fits_any _ rfl (.tmp 42) (.tmp 43) 22 rfl (w.heap.size+1) 3 i0 1 Tryz.underlying22 i j (w.heap.size+1) l1 (l1+l2) (z1.map (Value.int .i64)) rfl n a2 l2 c2 (z2.map (Value.int .i64)) rfl ?n3 G F (uu z2) ?n4 ?_))
 case n3=>simp[x]
 case n4=>omega
 intro H q r;rw[<-aCM]at q;have I:Below w.heap.size w H:=P.out.grown r (by omega) (λk h=>by cases h;omega);have b:Below (w.heap.size+1) (w.alloc (.cells #[.slice none 0 0,.int .i64 0] 180)) H:=g.out.grown r (by have:=g.out.size;simpa using this) (λk h=>by cases h;omega);have J:=(b.cell (p:=⟨w.heap.size,0,none⟩) (aCA _)).trans (aCY w _ _ 0);have r1:=(b.cell (p:=⟨w.heap.size,1,none⟩) (aCA _)).trans (aCY w _ _ 1);have W:=(b.frozen (p:=⟨w.heap.size,0,none⟩) (aCA _)).trans (World.frozen?_alloc_new w _ _ 0);have X:=(b.frozen (p:=⟨w.heap.size,1,none⟩) (aCA _)).trans (World.frozen?_alloc_new w _ _ 1);simp at J r1;have Q:=hid I;have R:=hid q;clear I b r q n F G;go_wp2_with fail;refine bodyPost_ret (v:=.tuple #[.agg #[.slice (some ⟨w.heap.size+1,0,none⟩) (l1+l2) (l1+l2),.int .i64 l1],.int .i64 0]) (by simp[results,Tryz.results100,go_sem,J,r1]) rfl ?_;unfold Joined;rw[E.out,u,x];refine⟨(Q.out.setCell (p:=⟨w.heap.size,0,none⟩) (aB2 _) _).setCell (p:=⟨w.heap.size,1,none⟩) (aB2 _) _,aCb ⟨rfl,w.heap.size+1,l1+l2,rfl,?_⟩⟩;exact bQ (ownsRow_setCell_below (ownsRow_setCell_below R.out (a:=⟨w.heap.size,0,none⟩) (aCA _) _) (a:=⟨w.heap.size,1,none⟩) (aCA _) _) (Nat.le_succ _)
theorem TI(h1:Ints w a1 l1 c1 z1)(h2:Ints w a2 l2 c2 z2):Calls Tryz.prog 100 #[.slice a1 l1 c1,.slice a2 l2 c2] w (Joined z1 z2 w):=by
 by_cases h:l2=0
 ·exact acg a1 a2 l1 c1 l2 c2 z1 z2 w h1 h2 h
 by_cases a:40<l1\/40<l2
 ·exact acf a1 a2 l1 c1 l2 c2 z1 z2 w h1 h2 h a
 by_cases b:dh z1=true/\dh z2=true
 ·exact ajQ a1 a2 l1 c1 l2 c2 z1 z2 w h1 h2 h a b
 ·exact Xa a1 a2 l1 c1 l2 c2 z1 z2 w h1 h2 h a b
end
