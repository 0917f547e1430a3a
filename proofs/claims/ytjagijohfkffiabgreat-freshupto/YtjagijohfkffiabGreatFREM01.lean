import Derived.RowKit
import Derived.Test.YtjagijohfkffiabGreatRows
import Derived.WalkKit
import Derived.WalkSmall
import Derived.BigQuiet
import Derived.WalkSpells
import Derived.Deep.WholeRow
import Derived.Laws.CopyRow
import Derived.Outline
import Derived.Laws.IdiomStrings
import Derived.Laws.BitsLemmas
import Derived.Deep.AppendLies
import Derived.Deep.QuietTactic
import Derived.WalkLawsBesides
import Derived.Deep.RegionWith
import Derived.Deep.RegionHeld3
import Derived.Deep.MidRow
import Derived.ArgAppend
import Derived.Deep.RegionLaw
import Derived.ChangeKeysEq
import Derived.Laws.AppendOwnNone
import Derived.Laws.ResultCell
import Derived.ProofKit
import Derived.OpenShut
import Derived.ShutString
import Derived.ChangeOld
import Derived.Deep.DrawnRows
import Derived.JoinedCond
import Derived.OwnWalk
import Derived.Laws.CopyOwn
import Derived.RegionTactic
import Derived.Deep.Matrix
import Derived.Deep.Strs
import Derived.ChangeSame
set_option maxHeartbeats 16000000
set_option maxRecDepth 100000
set_option linter.unusedSimpArgs false
namespace Go.Proofs.YtjagijohfkffiabGreat
open Go.RowKit
open Go.ChangeShapes Go.WideShapes Go.ChangeAt Go.RowKit
open Go.ChangeMaps (open_string shut_string)
open Go.ChangeShapes Go.WideShapes Go.ChangeAt Go.RowKit Go.Deep
abbrev aAT:=@List.setIfInBounds_toArray
abbrev aAU:=@Nat.le_refl
abbrev aAV:=@List.getElem?_eq_getElem
abbrev aAW:=@Below.refl
abbrev aAX:=@List.set_cons_zero
abbrev aAY:=@List.set_cons_succ
abbrev aAZ:=@World.size_alloc
abbrev aA0:=@World.cell?_setCell_other
abbrev aA1:=@List.getElem?_eq_some_iff
abbrev aA2:=@Or.inl
abbrev aA3:=@Or.inr
abbrev aA4:=@wpAnyH_take
abbrev aA5:=@List.length_append
abbrev aA6:=@beq_eq_false_iff_ne
abbrev aA7:=@AllReadyH.cons
abbrev aA8:=@Nat.zero_le
abbrev aA9:=@List.getElem?_append_left
abbrev aBa:=@List.getElem?_append_right
abbrev aBb:=@AllReadyH.nil
abbrev aBc:=@wpAnyH_ready
abbrev aBd:=@below_drewN
abbrev aBe:=@World.frozen?_setCell
abbrev aBf:=@World.cell?_of_block
abbrev aBg:=@World.frozen?_of_block
abbrev aBh:=@World.ownsRow_nil
abbrev aBi:=@Nat.lt_of_lt_of_le
abbrev aBj:=@World.size_setCell
abbrev aBk:=@List.getElem?_map
abbrev aBl:=@Below.heap_alloc
abbrev aBm:=@Array.getElem?_eq_some_iff
abbrev aBn:=@List.length_singleton
abbrev aBo:=@Nat.zero_add
abbrev aBp:=@Classical.byContradiction
abbrev aBq:=@toList_madeCells_one
abbrev aBr:=@World.cell?_setCell_same
abbrev aBs:=@Nat.lt_succ_self
abbrev aBt:=@World.cell?_alloc_lt
abbrev aBu:=@Option.some.injEq
abbrev aBv:=@Below.heap_setCell
abbrev aBw:=@wpList_append_lies
abbrev aBx:=@List.getElem?_range
abbrev aBy:=@List.mem_append
abbrev aBz:=@Bool.and_eq_true
abbrev aBA:=@wpList_make_full
abbrev aBB:=@List.mem_of_getElem?
abbrev aBC:=@List.getElem_of_mem
abbrev aBD:=@Option.isSome_iff_exists
abbrev aBE:=@List.map_append
abbrev aBF:=@Bool.or_eq_true
abbrev aBG:=@List.length_map
abbrev aBH:=@Prod.mk.injEq
abbrev aBI:=@List.mem_range
abbrev aBJ:=@cell_of_row
abbrev aBK:=@World.frozen?_alloc_past
abbrev aBL:=@List.range_succ
abbrev aBM:=@List.mem_map
abbrev aBN:=@step_append_lies
abbrev aBO:=@Nat.le_trans
abbrev aBP:=@List.map_congr_left
abbrev aBQ:=@World.cell?_alloc_new
abbrev aBR:=@decide_eq_true_eq
abbrev aBS:=@wpAnyH_done
abbrev aBT:=@if_neg
abbrev aBU:=@if_pos
structure Nd where
 op:Nat
 l:Nat
 r:Nat
def bt(s:ByteArray)(i:Nat):Nat:=if h:i<s.size then (s[i]'h).toNat else 0
theorem gL{s:ByteArray}{i:Nat}(h:i<s.size):bt s i=(s[i]'h).toNat:=by simp[bt,h]
theorem Ga{s:ByteArray}{i:Nat}(h:¬ i<s.size):bt s i=0:=by simp[bt,h]
theorem jv{s:ByteArray}{i:Nat}(h:bt s i≠0):i<s.size:=by
 by_cases k:i<s.size
 ·exact k
 ·exact absurd (Ga k) h
theorem nD(s:ByteArray)(i:Nat):bt s i<256:=by
 by_cases k:i<s.size
 ·rw[gL k];exact UInt8.toNat_lt _
 ·rw[Ga k];omega
def bF(b:Nat):Bool:=b==48||b==49||b==112||b==113||b==114
def dY(b:Nat):Bool:=b==33||b==88||b==70||b==71
def bQ(b:Nat):Bool:=b==38||b==124||b==85||b==82
def ps:Nat->ByteArray->Nat->List Nd->Option (Nat × List Nd)
 | 0,_,_,_=>none
 | k+1,s,a,ns=>
  if bF (bt s a) then some (a+1,ns++[⟨bt s a,0,0⟩])
  else if dY (bt s a) then
   match ps k s (a+1) ns with
   | none=>none
   | some (a1,n1)=>some (a1,n1++[⟨bt s a,n1.length - 1,0⟩])
  else if bt s a=40 then
   match ps k s (a+1) ns with
   | none=>none
   | some (a1,n1)=>
    if bQ (bt s a1) then
     match ps k s (a1+1) n1 with
     | none=>none
     | some (a2,n2)=>if bt s a2=41 then some (a2+1,n2++[⟨bt s a1,n1.length - 1,n2.length - 1⟩]) else none
    else none
  else none
def ps2(k:Nat)(s:ByteArray)(a:Nat)(ns:List Nd):Option (Nat × List Nd):=
 match ps k s a ns with
 | none=>none
 | some (a1,n1)=>
  if bQ (bt s a1) then
   match ps k s (a1+1) n1 with
   | none=>none
   | some (a2,n2)=>if bt s a2=41 then some (a2+1,n2++[⟨bt s a1,n1.length - 1,n2.length - 1⟩]) else none
  else none
def ve(op:Nat)(k:Nat)(s:ByteArray)(a:Nat)(ns:List Nd):Option (Nat × List Nd):=
 match ps k s a ns with
 | none=>none
 | some (a1,n1)=>some (a1,n1++[⟨op,n1.length - 1,0⟩])
theorem nK{k:Nat}{s:ByteArray}{a:Nat}{ns:List Nd}(h:bF (bt s a)=true):ps (k+1) s a ns=some (a+1,ns++[⟨bt s a,0,0⟩]):=by
 simp[ps,h]
theorem jN{b:Nat}(h:dY b=true):bF b=false:=by
 simp only[dY,aBF,beq_iff_eq]at h;rcases h with((h | h) | h) | h <;> subst h <;> decide
theorem rW{k:Nat}{s:ByteArray}{a:Nat}{ns:List Nd}(h:dY (bt s a)=true):ps (k+1) s a ns=ve (bt s a) k s (a+1) ns:=by
 simp[ps,h,jN h,ve]
theorem oK{k:Nat}{s:ByteArray}{a:Nat}{ns:List Nd}(h:bt s a=40):ps (k+1) s a ns=ps2 k s (a+1) ns:=by
 simp[ps,h,ps2,bF,dY]
theorem GA{k:Nat}{s:ByteArray}{a:Nat}{ns:List Nd}(h1:bF (bt s a)=false)(h2:dY (bt s a)=false)(h3:¬ bt s a=40):ps (k+1) s a ns=none:=by
 simp[ps,h1,h2,h3]
theorem VR{b:Nat}(h:bF b=true):b≠0:=by intro e;subst e;revert h;decide
theorem ajb{b:Nat}(h:dY b=true):b≠0:=by intro e;subst e;revert h;decide
theorem AA{b:Nat}(h:bQ b=true):b≠0:=by intro e;subst e;revert h;decide
theorem eU:∀ (k:Nat) (s:ByteArray) (a:Nat) (ns:List Nd) (a':Nat) (d9:List Nd),ps k s a ns=some (a',d9) ->
  a<a'/\a'<=s.size/\d9.length+a<=ns.length+a'/\ns.length<d9.length
 | 0,_,_,_,_,_,h=>by simp[ps]at h
 | k+1,s,a,ns,a',d9,h=>by
  by_cases b1:bF (bt s a)=true
  ·rw[nK b1]at h;simp only[aBu,aBH]at h;obtain⟨rfl,rfl⟩:=h;have:=jv (VR b1);simp;omega
  ·rw[Bool.not_eq_true]at b1;by_cases b2:dY (bt s a)=true
   ·rw[rW b2]at h;unfold ve at h;cases e:ps k s (a+1) ns with
    | none=>rw[e]at h;simp at h
    | some x=>
     obtain⟨a1,n1⟩:=x;rw[e]at h;simp only[aBu,aBH]at h;obtain⟨rfl,rfl⟩:=h;have:=eU k s _ _ _ _ e;simp;omega
   ·rw[Bool.not_eq_true]at b2;by_cases b3:bt s a=40
    ·rw[oK b3]at h;unfold ps2 at h;cases e:ps k s (a+1) ns with
     | none=>rw[e]at h;simp at h
     | some x=>
      obtain⟨a1,n1⟩:=x;rw[e]at h;simp only at h;by_cases b4:bQ (bt s a1)=true
      ·rw[aBU b4]at h;cases e2:ps k s (a1+1) n1 with
       | none=>rw[e2]at h;simp at h
       | some x=>
        obtain⟨a2,n2⟩:=x;rw[e2]at h;simp only at h;by_cases b5:bt s a2=41
        ·rw[aBU b5]at h;simp only[aBu,aBH]at h;obtain⟨rfl,rfl⟩:=h;have g1:=eU k s _ _ _ _ e;have g2:=eU k s _ _ _ _ e2;have:=jv (s:=s) (i:=a2) (by omega);simp;omega
        ·rw[aBT b5]at h;simp at h
      ·rw[aBT b4]at h;simp at h
    ·rw[GA b1 b2 b3]at h;simp at h
def Wf(ns:List Nd):Prop:=∀ (i:Nat) (n:Nd),ns[i]?=some n->(bF n.op=false->n.l<i)/\(bQ n.op=true->n.r<i)
theorem Wf.snoc{ns:List Nd}(h:Wf ns)(n:Nd)(h1:bF n.op=false->n.l<ns.length)(h2:bQ n.op=true->n.r<ns.length):Wf (ns++[n]):=by
 intro i m hm;by_cases hi:i<ns.length
 ·rw[aA9 hi]at hm;exact h i m hm
 ·rw[aBa (by omega)]at hm;have:i=ns.length:=by
   have:=(aA1.1 hm).1;simp at this;omega
  subst this;simp at hm;subst hm;exact⟨h1,h2⟩
theorem aiO:Wf []:=by intro i n h;simp at h
theorem kQ{b:Nat}(h:dY b=true):bQ b=false:=by
 simp only[dY,aBF,beq_iff_eq]at h;rcases h with((h | h) | h) | h <;> subst h <;> decide
theorem sw{b:Nat}(h:bF b=true):bQ b=false:=by
 simp only[bF,aBF,beq_iff_eq]at h;rcases h with(((h | h) | h) | h) | h <;> subst h <;> decide
theorem l8{b:Nat}(h:bQ b=true):bF b=false:=by
 simp only[bQ,aBF,beq_iff_eq]at h;rcases h with((h | h) | h) | h <;> subst h <;> decide
theorem lD{b:Nat}(h:bF b=true):b=48\/b=49\/b=112\/b=113\/b=114:=by
 simpa [bF,or_assoc] using h
theorem nu{b:Nat}(h:dY b=true):b=33\/b=88\/b=70\/b=71:=by
 simpa [dY,or_assoc] using h
theorem ky{b:Nat}(h:bQ b=true):b=38\/b=124\/b=85\/b=82:=by
 simpa [bQ,or_assoc] using h
def flat(ns:List Nd):List Value:=ns.flatMap λn=>[.int .u8 n.op,.int .i64 n.l,.int .i64 n.r]
theorem abj(ns:List Nd)(n:Nd):flat (ns++[n])=flat ns++[.int .u8 n.op,.int .i64 n.l,.int .i64 n.r]:=by simp[flat]
def lZ(s:ByteArray):Nat->Nat
 | 0=>0
 | k+1=>lZ s k+if bt s k=40\/bt s k=41 then 0 else 1
theorem aeO(s:ByteArray)(k:Nat):lZ s k<=k:=by
 induction k with
 | zero=>exact aAU _
 | succ k ih=>unfold lZ;split <;> omega
theorem KG{s:ByteArray}{k:Nat}(h:bt s k≠40)(h2:bt s k≠41):lZ s (k+1)=lZ s k+1:=by
 simp only[lZ];rw[aBT (by omega)]
theorem GZ{s:ByteArray}{k:Nat}(h:bt s k=40\/bt s k=41):lZ s (k+1)=lZ s k:=by
 simp only[lZ];rw[aBU h];rfl
theorem JW:∀ (k:Nat) (s:ByteArray) (a:Nat) (ns:List Nd) (a':Nat) (d9:List Nd),ps k s a ns=some (a',d9)->d9.length+lZ s a=ns.length+lZ s a'
 | 0,_,_,_,_,_,h=>by simp[ps]at h
 | k+1,s,a,ns,a',d9,h=>by
  by_cases b1:bF (bt s a)=true
  ·rw[nK b1]at h;simp only[aBu,aBH]at h;obtain⟨rfl,rfl⟩:=h;have:=lD b1;rw[KG (by omega) (by omega)];simp;omega
  ·rw[Bool.not_eq_true]at b1;by_cases b2:dY (bt s a)=true
   ·rw[rW b2]at h;unfold ve at h;cases e:ps k s (a+1) ns with
    | none=>rw[e]at h;simp at h
    | some x=>
     obtain⟨a1,n1⟩:=x;rw[e]at h;simp only[aBu,aBH]at h;obtain⟨rfl,rfl⟩:=h;have g:=JW k s _ _ _ _ e;have:=nu b2;rw[KG (by omega) (by omega)]at g;simp;omega
   ·rw[Bool.not_eq_true]at b2;by_cases b3:bt s a=40
    ·rw[oK b3]at h;unfold ps2 at h;cases e:ps k s (a+1) ns with
     | none=>rw[e]at h;simp at h
     | some x=>
      obtain⟨a1,n1⟩:=x;rw[e]at h;simp only at h;by_cases b4:bQ (bt s a1)=true
      ·rw[aBU b4]at h;cases e2:ps k s (a1+1) n1 with
       | none=>rw[e2]at h;simp at h
       | some x=>
        obtain⟨a2,n2⟩:=x;rw[e2]at h;simp only at h;by_cases b5:bt s a2=41
        ·rw[aBU b5]at h;simp only[aBu,aBH]at h;obtain⟨rfl,rfl⟩:=h;have g1:=JW k s _ _ _ _ e;have g2:=JW k s _ _ _ _ e2;have:=ky b4;rw[GZ (aA2 b3)]at g1;rw[KG (by omega) (by omega)]at g2;rw[GZ (aA3 b5)];simp;omega
        ·rw[aBT b5]at h;simp at h
      ·rw[aBT b4]at h;simp at h
    ·rw[GA b1 b2 b3]at h;simp at h
def aB(s:ByteArray):Nat × List Nd:=
 if 24<s.size then (1,[]) else
 match ps 25 s 0 [] with
 | none=>(2,[])
 | some (a,ns)=>if a=s.size then (if 8<ns.length then (3,[]) else (0,ns)) else (2,[])
set_option linter.unusedVariables false
theorem Tryz.adZ:(Tryz.prog.info? 109).map (λi=>(i.zero,i.size,i.bytes))=some (some (.agg #[.int .u8 0,.int .i64 0,.int .i64 0]),3,24):=by kernel_rfl
theorem hid{p:Prop}(h:p):Hid p:=h
theorem MN(w:World)(a b c:Value)(t:TypeId):∀ j u,[a,b,c][j]?=some u->(w.alloc (.cells #[a,b,c] t)).cell? ((⟨w.heap.size,0,none⟩:Addr).add j)=some u:=by
 intro j u hj
 match j,hj with
 | 0,hj=>simp at hj;subst hj;simp[Addr.add]
 | 1,hj=>simp at hj;subst hj;simp[Addr.add]
 | 2,hj=>simp at hj;subst hj;simp[Addr.add]
 | j+3,hj=>simp at hj
theorem bJ{w:World}{B B':Nat}{e:TypeId}{size:Nat}{v:Value}{n:Nat}{xs:List Value}(h:w.ownsRow B e size v n xs)(hb:B'<=B):w.ownsRow B' e size v n xs:=by
 obtain⟨h1,h2⟩:=h;rcases h2 with h2 | ⟨g,cap,cur,a,b,r⟩
 ·exact⟨h1,aA2 h2⟩
 ·exact⟨h1,aA3 ⟨g,cap,cur,a,aBO hb b,r⟩⟩
structure Rd (w:World) (R:Nat) (s:ByteArray) (a:Nat) (ns:List Nd):Prop where
 c0:w.cell? ⟨R,0,none⟩=some (.string s)
 c1:w.cell? ⟨R,1,none⟩=some (.int .i64 a)
 c2:∃ ao cap,w.cell? ⟨R,2,none⟩=some (.slice ao ns.length cap)/\w.ownsRow (R+1) 109 3 (.slice ao ns.length cap) ns.length (flat ns)
 f1:w.frozen? ⟨R,1,none⟩=false
 f2:w.frozen? ⟨R,2,none⟩=false
theorem Rd.lt{w:World}{R:Nat}{s:ByteArray}{a:Nat}{ns:List Nd}(h:Rd w R s a ns):R<w.heap.size:=World.block_lt_of_cell? w ⟨R,0,none⟩ h.c0
theorem Rd.drewN{w:World}{R:Nat}{s:ByteArray}{a:Nat}{ns:List Nd}(h:Rd w R s a ns)(m:Nat):Rd (w.drewN m) R s a ns:=
 ⟨h.c0,h.c1,h.c2,h.f1,h.f2⟩
theorem Rd.moved{w:World}{R:Nat}{s:ByteArray}{a:Nat}{ns:List Nd}(h:Rd w R s a ns)(b:Nat):Rd (w.setCell ⟨R,1,none⟩ (.int .i64 b)) R s b ns:=by
 obtain⟨ao,cap,hc,ho⟩:=h.c2;refine⟨?_,?_,⟨ao,cap,?_,?_⟩,?_,?_⟩
 ·rw[aA0 _ _ _ _ (by simp)];exact h.c0
 ·exact aBr _ _ _ h.c1
 ·rw[aA0 _ _ _ _ (by simp)];exact hc
 ·exact ownsRow_setCell_below ho (by simp) _
 ·rw[aBe];exact h.f1
 ·rw[aBe];exact h.f2
theorem Rd.pushed{w w':World}{R:Nat}{s:ByteArray}{a:Nat}{ns:List Nd}(h:Rd w R s a ns)(hb:Below (R+1) w w')(ms:List Nd)(ao:Option Addr)(cap:Nat)
  (ho:w'.ownsRow (R+1) 109 3 (.slice ao ms.length cap) ms.length (flat ms)):Rd (w'.setCell ⟨R,2,none⟩ (.slice ao ms.length cap)) R s a ms:=by
 have hR:R<R+1:=aBs _;obtain⟨_,_,hc,_⟩:=h.c2;refine⟨?_,?_,⟨ao,cap,?_,?_⟩,?_,?_⟩
 ·rw[aA0 _ _ _ _ (by simp),hb.cell hR];exact h.c0
 ·rw[aA0 _ _ _ _ (by simp),hb.cell hR];exact h.c1
 ·exact aBr _ _ _ ((hb.cell (p:=⟨R,2,none⟩) hR).trans hc)
 ·exact ownsRow_setCell_below ho (by simp) _
 ·rw[aBe,hb.frozen hR];exact h.f1
 ·rw[aBe,hb.frozen hR];exact h.f2
theorem ahh(R a:Nat)(s:ByteArray)(ns:List Nd)(w:World)(hs:s.size<=24)(hlt:a<s.size)(hr:Rd w R s a ns) :
  Calls Tryz.prog 110 #[.pointer (some ⟨R,0,none⟩)] w λe w'=>e=.returned (.int .u8 (bt s a))/\Rd w' R s (a+1) ns/\Below R w w':=by
 have c0:=hr.c0;have c1:=hr.c1;have f1:=hr.f1;have hd:decide ((a:Int)<0)=false:=by simp
 have hd2:decide ((s.size:Int)<=(a:Int))=false:=by simp;omega
 go_enter Tryz.func110,Tryz.ntmps110;go_wp2
 go_quiet (fail)
 go_wp2
 go_quiet (fail)
 go_wp2;go_ret;refine⟨by rw[gL hlt];rfl,?_,?_⟩
 ·exact(hr.drewN _).moved (a+1)
 ·exact(aBd (aAW R w) _).setCell (p:=⟨R,1,none⟩) (aAU _) _
theorem acX(R a:Nat)(s:ByteArray)(ns:List Nd)(w:World)(hs:s.size<=24)(hlt:¬ a<s.size)(ha:a<=s.size)(hr:Rd w R s a ns) :
  Calls Tryz.prog 110 #[.pointer (some ⟨R,0,none⟩)] w λe w'=>e=.returned (.int .u8 (bt s a))/\Rd w' R s a ns/\Below R w w':=by
 have c0:=hr.c0;have c1:=hr.c1;have f1:=hr.f1;have hd:decide ((a:Int)<0)=false:=by simp
 have hd2:decide ((s.size:Int)<=(a:Int))=true:=by simp;omega
 go_enter Tryz.func110,Tryz.ntmps110;go_wp2
 go_quiet (fail)
 go_wp2;go_ret;refine⟨by rw[Ga hlt];rfl,hr.drewN _,aBd (aAW _ _) _⟩
def nS(s:ByteArray)(a:Nat):Nat:=if a<s.size then a+1 else a
theorem qD(R a:Nat)(s:ByteArray)(ns:List Nd)(w:World)(hs:s.size<=24)(ha:a<=s.size)(hr:Rd w R s a ns) :
  Calls Tryz.prog 110 #[.pointer (some ⟨R,0,none⟩)] w λe w'=>e=.returned (.int .u8 (bt s a))/\Rd w' R s (nS s a) ns/\Below R w w':=by
 unfold nS;by_cases h:a<s.size
 ·rw[aBU h];exact ahh R a s ns w hs h hr
 ·rw[aBT h];exact acX R a s ns w hs h ha hr
theorem uJ(R a:Nat)(op l r:Int)(s:ByteArray)(ns:List Nd)(w:World)(hn:ns.length<=1000)(ho:0<=op)(hl:0<=l)(RA:0<=r)(hr:Rd w R s a ns) :
  Calls Tryz.prog 111 #[.pointer (some ⟨R,0,none⟩),.int .u8 op,.int .i64 l,.int .i64 r] w λe w'=>e=.returned (.tuple #[])/\Rd w' R s a (ns++[⟨op.toNat,l.toNat,r.toNat⟩])/\Below R w w':=by
 obtain⟨on,rfl⟩:=Int.eq_ofNat_of_zero_le ho;obtain⟨ln,rfl⟩:=Int.eq_ofNat_of_zero_le hl;obtain⟨rn,rfl⟩:=Int.eq_ofNat_of_zero_le RA;simp only[Int.toNat_natCast];obtain⟨ao,cap,c2,own⟩:=hr.c2;have f2:=hr.f2;have hR:=hr.lt;obtain⟨i0,hi,aR,aP,aN⟩:=info_parts Tryz.adZ;go_enter Tryz.func111,Tryz.ntmps111;go_wp2_with (at_builtin;refine wpList_append_own _ rfl (.tmp 12) (.tmp 17) 54 rfl (R+1) 109 i0 (.agg #[.int .u8 0,.int .i64 0,.int .i64 0]) 3 24 Tryz.underlying54 hi aR aP aN rfl (by decide) _ _ _ rfl (own.alloc _) ⟨w.heap.size,0,none⟩ 1 1 [.int .u8 on,.int .i64 ln,.int .i64 rn] rfl rfl ?c1 ?c2 ?c3 ?c4 ?c5 ?_)
 case c1=>exact MN _ _ _ _ _
 case c2=>intro u hu;simp at hu;rcases hu with rfl | rfl | rfl <;> rfl
 case c3=>unfold maxLen;omega
 case c4=>omega
 case c5=>simp;omega
 intro v' w1 hown hgrow _;have Fh:Below (R+1) w w1:=((aAW _ _).alloc (by omega) _).grown hgrow (by simp;omega) (λk h=>(own.lt k h).1);have e1:ns.length+1=(ns++[(⟨on,ln,rn⟩:Nd)]).length:=by simp
 have e2:flat ns++[.int .u8 on,.int .i64 ln,.int .i64 rn]=flat (ns++[(⟨on,ln,rn⟩:Nd)]):=(abj ns ⟨on,ln,rn⟩).symm;rw[e2,e1]at hown;obtain⟨nE,cap',hv⟩:∃ nE cap',v'=.slice nE (ns++[(⟨on,ln,rn⟩:Nd)]).length cap':=by
  rcases hown.2 with⟨h,h0⟩ | ⟨g,cap',_,h,_⟩
  ·simp at h0
  ·exact⟨_,cap',h⟩
 subst hv;have P1:=hid (hr.pushed Fh _ nE cap' hown);have k2:=(Fh.cell (p:=⟨R,2,none⟩) (aBs _)).trans c2;have g2:=(Fh.frozen (p:=⟨R,2,none⟩) (aBs _)).trans f2;have B1:=hid ((Fh.mono (Nat.le_succ R)).setCell (p:=⟨R,2,none⟩) (aAU _) (.slice nE (ns++[(⟨on,ln,rn⟩:Nd)]).length cap'));clear hown hgrow e1 e2 Fh own c2 f2;go_wp2
 go_end0
 have q1:=P1.out;have q2:=B1.out;rw[aA5,aBn]at q1 q2;exact⟨rfl,q1,q2⟩
theorem zn(b:Nat)(w:World)(hb:b<256):Calls Tryz.prog 142 #[.int .u8 b] w λe w'=>e=.returned (.bool (bQ b))/\w'=w:=by
 by_cases h1:b=38
 ·subst h1;go_enter Tryz.func142,Tryz.ntmps142;go_wp2;go_ret;exact⟨rfl,rfl⟩
 by_cases h2:b=124
 ·subst h2;go_enter Tryz.func142,Tryz.ntmps142;go_wp2;go_ret;exact⟨rfl,rfl⟩
 by_cases h3:b=85
 ·subst h3;go_enter Tryz.func142,Tryz.ntmps142;go_wp2;go_ret;exact⟨rfl,rfl⟩
 by_cases h4:b=82
 ·subst h4;go_enter Tryz.func142,Tryz.ntmps142;go_wp2;go_ret;exact⟨rfl,rfl⟩
 have k1:((b:Int)==38)=false:=aA6.2 (by omega);have k2:((b:Int)==124)=false:=aA6.2 (by omega);have k3:((b:Int)==85)=false:=aA6.2 (by omega);have k4:((b:Int)==82)=false:=aA6.2 (by omega);have k5:bQ b=false:=by
  cases e:bQ b with
  | false=>rfl
  | true=>have:=ky e;omega
 go_enter Tryz.func142,Tryz.ntmps142;go_wp2;go_ret;rw[k5];exact⟨rfl,rfl⟩
structure St where
 out:Int
 next:List Int
def fJ(n i:Nat)(fin:Bool)(k:Int):Bool:=decide (0<=k)&&decide (k<n)&&(!fin||decide (k=i))
def wB(o:Int):Bool:=decide (o=1)||decide (o=2)
def qf(n i:Nat)(s:St):Bool:=(decide (s.out=0)||wB s.out)&&s.next.all (fJ n i (wB s.out))
def dF(ss:List St)(i:Nat):St:=ss.getD i ⟨0,[]⟩
def oq(ss:List St):Bool:=decide (1<=ss.length)&&decide (ss.length<=8)&&(List.range ss.length).all λi=>qf ss.length i (dF ss i)
def lF(os:List Int)(ls:List (List Int)):List St:=List.zipWith St.mk os ls
def jm(os:List Int)(ls:List (List Int)):Bool:=decide (ls.length=os.length)&&ls.all (λl=>decide (l.length=8))&&oq (lF os ls)
def lU(ss:List St):Prop:=∀ s∈ss,s.next.length=8
def jT(s:St):List Value:=Value.int .i64 s.out::s.next.map (Value.int .i64)
def yR(s:St):Array Value:=(jT s).toArray
def ik(ss:List St):List Value:=ss.flatMap jT
theorem Ih{l:List Int}(h:l.length=8):∃ a0 a1 a2 a3 a4 a5 a6 a7,l=[a0,a1,a2,a3,a4,a5,a6,a7]:=by
 match l,h with
 | [a0,a1,a2,a3,a4,a5,a6,a7],_=>exact⟨_,_,_,_,_,_,_,_,rfl⟩
theorem U3{s:St}(h:s.next.length=8):(jT s).length=9:=by simp[jT,h]
theorem xg(ss:List St)(s:St):ik (ss++[s])=ik ss++jT s:=by simp[ik]
theorem Jq{ss:List St}(h:lU ss){i:Nat}(hi:i<ss.length):(dF ss i).next.length=8:=by
 have:dF ss i=ss[i]:=by simp[dF,List.getD,aAV hi]
 rw[this];exact h _ (List.getElem_mem hi)
theorem FP{ss:List St}(h:lU ss){i:Nat}(hi:i<ss.length){j:Nat}(hj:j<9):(ik ss)[i*9+j]?=(jT (dF ss i))[j]?:=by
 induction ss generalizing i with
 | nil=>simp at hi
 | cons s ss ih=>
  have h1:s.next.length=8:=h s (by simp);have hs:=U3 h1;cases i with
  | zero=>
   show (jT s++ik ss)[0*9+j]?=_;rw[aA9 (by omega)];simp[dF]
  | succ i=>
   show (jT s++ik ss)[(i+1)*9+j]?=_;rw[aBa (by omega),hs,show (i+1)*9+j - 9=i*9+j by omega,ih (λx hx=>h x (by simp[hx])) (by simpa using hi)];simp[dF]
theorem ab2{n:Nat}{p:Nat->Bool}:(List.range n).all p=true↔∀ i,i<n->p i=true:=by simp[List.all_eq_true]
theorem qR{ss:List St}:oq ss=true↔1<=ss.length/\ss.length<=8/\∀ i,i<ss.length->qf ss.length i (dF ss i)=true:=by
 unfold oq;rw[aBz,aBz,ab2];simp[and_assoc]
theorem Aw{os:List Int}{ls:List (List Int)}(h:ls.length=os.length):(lF os ls).length=os.length:=by simp[lF,h]
theorem Y5{os:List Int}{ls:List (List Int)}(h:ls.length=os.length){i:Nat}(hi:i<os.length):dF (lF os ls) i=⟨os.getD i 0,ls.getD i []⟩:=by
 have h1:i<(lF os ls).length:=by rw[Aw h];exact hi
 have h2:(lF os ls)[i]?=some ⟨os[i],ls[i]⟩:=by rw[aAV h1];simp[lF]
 simp[dF,List.getD,h2,aAV hi,aAV (show i<ls.length by omega)]
theorem Y4{os:List Int}{ls:List (List Int)}(h:ls.all (λl=>decide (l.length=8))=true):lU (lF os ls):=by
 intro s hs;rw[List.all_eq_true]at h;obtain⟨i,hi,rfl⟩:=aBC hs;simp[lF]at hi ⊢;have:=h (ls[i]) (List.getElem_mem _);simpa using this
structure Ints (w:World) (ao:Option Addr) (len cap:Nat) (zs:List Int):Prop where
 hlen:zs.length=len
 hcap:len<=cap
 hmax:cap<=9223372036854775807
 hnil:ao=none->len=0/\cap=0
 hcell:0<len->∃ b off,ao=some ⟨b,off,none⟩/\b<w.heap.size/\∀ i,i<len->w.cell? ⟨b,off+i,none⟩=some (.int .i64 (zs.getD i 0))
theorem Ints.below{w w':World}{ao:Option Addr}{len cap:Nat}{zs:List Int}(h:Ints w ao len cap zs)(hb:Below w.heap.size w w'):Ints w' ao len cap zs:=by
 refine⟨h.hlen,h.hcap,h.hmax,h.hnil,λh0=>?_⟩;obtain⟨b,off,e,hlt,hc⟩:=h.hcell h0;exact⟨b,off,e,aBi hlt hb.size,λi hi=>by rw[hb.cell (p:=⟨b,off+i,none⟩) hlt];exact hc i hi⟩
def ry(z:Int):Bool:=decide (0<=z)&&decide (z<8)
def iT(zs:List Int):Bool:=zs.all ry
theorem l9{z:Int}:ry z=true↔0<=z/\z<8:=by simp[ry]
theorem aaB{z:Int}(h:z<0\/7<z):ry z=false:=by
 cases e:ry z with
 | false=>rfl
 | true=>rw[l9]at e;omega
theorem EK(z:Int)(w:World):Calls Tryz.prog 129 #[.int .i64 z] w λe w'=>e=.returned (.bool (ry z))/\w'=w:=by
 by_cases h1:0<=z
 ·by_cases h2:z<8
  ·have H:Hid (ry z=true):=hid (by simp[ry,h1,h2]);go_enter Tryz.func129,Tryz.ntmps129;go_wp2;go_ret;exact⟨by rw[H.out];rfl,rfl⟩
  ·have H:Hid (ry z=false):=hid (by simp[ry];omega);go_enter Tryz.func129,Tryz.ntmps129;go_wp2;go_ret;exact⟨by rw[H.out];rfl,rfl⟩
 ·have H:Hid (ry z=false):=hid (by simp[ry];omega);go_enter Tryz.func129,Tryz.ntmps129;go_wp2;go_ret;exact⟨by rw[H.out];rfl,rfl⟩
theorem TU{zs:List Int}(h:∀ m,m<zs.length->ry (zs.getD m 0)=true):iT zs=true:=by
 unfold iT;rw[List.all_eq_true];intro x hx;obtain⟨i,hi,rfl⟩:=aBC hx;have:=h i hi;simpa [List.getD,aAV hi] using this
theorem MO{zs:List Int}{m:Nat}(hm:m<zs.length)(h:ry (zs.getD m 0)=false):iT zs=false:=by
 unfold iT;rw[List.all_eq_false];refine⟨zs[m],List.getElem_mem hm,?_⟩;simpa [List.getD,aAV hm] using h
theorem MQ(ao:Option Addr)(len cap:Nat)(zs:List Int)(w:World)(h:Ints w ao len cap zs):Calls Tryz.prog 86 #[.slice ao len cap] w λe w'=>e=.returned (.bool (iT zs))/\w'=w:=by
 have hl:=h.hlen;have hc:=h.hcap;have hm:=h.hmax;go_enter Tryz.func86,Tryz.ntmps86;go_wp2_with fail
 go_loop [7] (λi=>∃ j:Nat,j<=len/\i=.int .i64 j/\Hid (∀ m,m<j->ry (zs.getD m 0)=true)) (λi=>len - (intOf i).toNat)
 case atStart=>exact⟨0,aA8 _,rfl,hid (λm hm=>by omega)⟩
 case round=>
  obtain⟨j,hj,rfl,HI⟩:=hrel;by_cases hlt:j<len
  ·obtain⟨b,off,rfl,hb,hcell⟩:=h.hcell (by omega);have c:=hcell j hlt;clear hcell;cases hz:ry (zs.getD j 0) with
   | true=>
    have HZ:=hid hz;clear hz;generalize hx:zs.getD j 0=x at *;have HX:=hid hx;clear hx;go_wp2_with fail;refine(EK x w).mono ?_;rintro e w' ⟨rfl,rfl⟩;rw[HZ.out];go_wp2_with fail
    go_round
    case rel=>
     refine⟨j+1,by omega,by go_num,hid (λm hm=>?_)⟩;by_cases e:m<j
     ·exact HI.out m e
     ·rw[show m=j by omega,HX.out];exact HZ.out
    case measure=>simp[intOf];omega
   | false=>
    have HN:=hid (MO (zs:=zs) (m:=j) (by omega) hz);have HZ:=hid hz;clear hz;generalize zs.getD j 0=x at *;go_wp2_with fail;refine(EK x w).mono ?_;rintro e w' ⟨rfl,rfl⟩;rw[HZ.out];go_wp2_with fail;go_ret;exact⟨by rw[HN.out];rfl,rfl⟩
  ·have HA:=hid (TU (zs:=zs) (λm hm=>HI.out m (by omega)));go_wp2_with fail;go_ret;exact⟨by rw[HA.out];rfl,rfl⟩
theorem ZF(ao:Option Addr)(len cap:Nat)(zs:List Int)(w:World)(h:Ints w ao len cap zs):Calls Tryz.prog 102 #[.slice ao len cap] w λe w'=>e=.returned (.bool (iT zs))/\w'=w:=by
 have hl:=h.hlen;have hc:=h.hcap;have hm:=h.hmax;go_enter Tryz.func102,Tryz.ntmps102;go_wp2_with fail
 go_loop [3] (λi=>∃ j:Nat,j<=len/\i=.int .i64 j/\Hid (∀ m,m<j->ry (zs.getD m 0)=true)) (λi=>len - (intOf i).toNat)
 case atStart=>exact⟨0,aA8 _,rfl,hid (λm hm=>by omega)⟩
 case round=>
  obtain⟨j,hj,rfl,HI⟩:=hrel;by_cases hlt:j<len
  ·obtain⟨b,off,rfl,hb,hcell⟩:=h.hcell (by omega);have c:=hcell j hlt;clear hcell;by_cases h1:zs.getD j 0<0
   ·have HN:=hid (MO (zs:=zs) (m:=j) (by omega) (aaB (by omega)));generalize zs.getD j 0=x at *;go_wp2_with fail;go_ret;exact⟨by rw[HN.out];rfl,rfl⟩
   by_cases h2:7<zs.getD j 0
   ·have HN:=hid (MO (zs:=zs) (m:=j) (by omega) (aaB (by omega)));generalize zs.getD j 0=x at *;go_wp2_with fail;go_ret;exact⟨by rw[HN.out];rfl,rfl⟩
   have HZ:Hid (ry (zs.getD j 0)=true):=hid (by rw[l9];omega);generalize hx:zs.getD j 0=x at *;have HX:=hid hx;clear hx;go_wp2_with fail
   go_round
   case rel=>
    refine⟨j+1,by omega,by go_num,hid (λm hm=>?_)⟩;by_cases e:m<j
    ·exact HI.out m e
    ·rw[show m=j by omega,HX.out];exact HZ.out
   case measure=>simp[intOf];omega
  ·have HA:=hid (TU (zs:=zs) (λm hm=>HI.out m (by omega)));go_wp2_with fail;go_ret;exact⟨by rw[HA.out];rfl,rfl⟩
theorem run_sizeOf{P:Program}{t:TypeId}{n:Nat}(h:(P.info? t).map (·.size)=some n)(w:World):(sizeOf t).run P w=.ok n w:=by
 cases hq:P.info? t with
 | none=>simp[hq]at h
 | some i=>simp[hq]at h;simp[sizeOf,typeInfo,hq,h]
theorem ng{P:Program}{t:TypeId}{k:IntKind}(h:P.underlying t=some (.int k))(w:World):(isAgg t).run P w=.ok false w:=by
 simp[isAgg,run_underlying h]
theorem AU{P:Program}{t:TypeId}(h:P.underlying t=some .bool)(w:World):(isAgg t).run P w=.ok false w:=by
 simp[isAgg,run_underlying h]
theorem kr{P:Program}{t e:TypeId}{len:Nat}{X:Array Value}{j:Nat}{v:Value}(w:World)(ht:P.underlying t=some (.array len e))(he:∀ w,(isAgg e).run P w=.ok false w)(hs:(P.info? e).map (·.size)=some 1)
  (hj:j<len) (hX:X[j]?=some v):(Instr.index t (.agg X) (.int .i64 (j:Nat))).run P w=.ok v w:=by
 have h0:(0:Int)<=(j:Int)/\(j:Int)<(len:Int):=by omega
 simp only[Instr.index,asIntOf,Sem.run_bind,Sem.run_pure,Result.andThen,run_underlying ht,aBU h0,run_sizeOf hs,part,he];simp[hX]
