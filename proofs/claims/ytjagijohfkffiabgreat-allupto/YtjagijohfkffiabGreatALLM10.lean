import Derived.Test.YtjagijohfkffiabGreatALLM06
import Derived.Test.YtjagijohfkffiabGreatALLM07
import Derived.Test.YtjagijohfkffiabGreatALLM08
import Derived.Test.YtjagijohfkffiabGreatALLM09
import Derived.ProofKit
import Derived.OpenShut
import Derived.ShutString
import Derived.ChangeOld
set_option maxHeartbeats 16000000
set_option maxRecDepth 100000
namespace Go.Proofs.YtjagijohfkffiabGreat
open Go.RowKit
set_option linter.unusedVariables false
theorem Vv (k F:Nat) (s:ByteArray) (hs:s.size≤24) (a:Nat) (ns:List Nd) (bs:List Nat) (w:World) (hf:Fm w F ns bs) (ha:a≤s.size) (h1:aP (bt s a)=false) (h2:dB (bt s a)=false) (h3:¬ bt s a=40) :
  Calls Tryz.prog 72 #[.pointer (some ⟨F,0,none⟩),.string s,.int .i64 a] w (DD (ps (k+1) s a ns) F a bs w):=by
 have e1:=hid (CL (k:=k) (ns:=ns) h1 h2 h3)
 have hF:=hf.rf
 by_cases hl:a<s.size
 ·have hx:=fJ hl
  rw [hx] at h1 h2 h3
  have k48:(((s[a]'hl).toNat:Int)==48)=false:=beq_eq_false_iff_ne.2 (fun h=>by rw [show (s[a]'hl).toNat=48 by omega] at h1;revert h1;decide)
  have k49:(((s[a]'hl).toNat:Int)==49)=false:=beq_eq_false_iff_ne.2 (fun h=>by rw [show (s[a]'hl).toNat=49 by omega] at h1;revert h1;decide)
  have aes:(((s[a]'hl).toNat:Int)==112)=false:=beq_eq_false_iff_ne.2 (fun h=>by rw [show (s[a]'hl).toNat=112 by omega] at h1;revert h1;decide)
  have aer:(((s[a]'hl).toNat:Int)==113)=false:=beq_eq_false_iff_ne.2 (fun h=>by rw [show (s[a]'hl).toNat=113 by omega] at h1;revert h1;decide)
  have aeq:(((s[a]'hl).toNat:Int)==114)=false:=beq_eq_false_iff_ne.2 (fun h=>by rw [show (s[a]'hl).toNat=114 by omega] at h1;revert h1;decide)
  have k33:(((s[a]'hl).toNat:Int)==33)=false:=beq_eq_false_iff_ne.2 (fun h=>by rw [show (s[a]'hl).toNat=33 by omega] at h2;revert h2;decide)
  have k88:(((s[a]'hl).toNat:Int)==88)=false:=beq_eq_false_iff_ne.2 (fun h=>by rw [show (s[a]'hl).toNat=88 by omega] at h2;revert h2;decide)
  have k70:(((s[a]'hl).toNat:Int)==70)=false:=beq_eq_false_iff_ne.2 (fun h=>by rw [show (s[a]'hl).toNat=70 by omega] at h2;revert h2;decide)
  have k71:(((s[a]'hl).toNat:Int)==71)=false:=beq_eq_false_iff_ne.2 (fun h=>by rw [show (s[a]'hl).toNat=71 by omega] at h2;revert h2;decide)
  have k40:(((s[a]'hl).toNat:Int)==40)=false:=beq_eq_false_iff_ne.2 (by omega)
  clear h1 h2 h3 hx
  go_enter Tryz.func72,Tryz.ntmps72
  go_wp2_with fail
  go_ret3
  exact Or.inl ⟨e1.out,rfl,(Below.refl F w).alloc (by omega) _⟩
 ·clear h1 h2 h3
  go_enter Tryz.func72,Tryz.ntmps72
  go_wp2_with fail
  go_ret3
  exact Or.inl ⟨e1.out,rfl,Below.refl F w⟩
theorem zD (F:Nat) (s:ByteArray) (hs:s.size≤24) (k:Nat):oC k F s:=by
 induction k with
 | zero=>intro x a ns bs w hx hf hk ha hn;omega
 | succ k ih=>
  intro x a ns bs w hx hf hk ha hn
  subst hx
  by_cases h1:aP (bt s a)=true
  ·exact Qa k F s hs a ns bs w hf hn h1
  rw [Bool.not_eq_true] at h1
  by_cases h2:dB (bt s a)=true
  ·exact SV k F s hs ih a ns bs w hf hk hn h2
  rw [Bool.not_eq_true] at h2
  by_cases h3:bt s a=40
  ·cases e0:ps k s (a+1) ns with
   | none=>exact Fv k F s hs ih a ns bs w hf hk hn h3 e0
   | some y=>
    obtain ⟨a1,n1⟩:=y
    cases b4:bz (bt s a1) with
    | false=>exact Fu k F s hs ih a ns bs w hf hk hn h3 a1 n1 e0 b4
    | true=>
     cases e3:ps k s (a1+1) n1 with
     | none=>exact Eh k F s hs ih a ns bs w hf hk hn h3 a1 n1 e0 b4 e3
     | some y=>
      obtain ⟨a2,n2⟩:=y
      by_cases b5:bt s a2=41
      ·exact Ih k F s hs ih a ns bs w hf hk hn h3 a1 a2 n1 n2 e0 b4 e3 b5
      ·by_cases hl:a2<s.size
       ·exact Fs k F s hs ih a ns bs w hf hk hn h3 a1 a2 n1 n2 e0 b4 e3 b5 hl
       ·exact Ii k F s hs ih a ns bs w hf hk hn h3 a1 a2 n1 n2 e0 b4 e3 b5 hl
  ·exact Vv k F s hs a ns bs w hf ha h1 h2 h3
def bU (s:ByteArray) (w:World) (e:Ending) (w':World):Prop:=
 Below w.heap.size w w' ∧
 (((af s).1≠0∧e=.returned (.tuple #[.pointer none,.int .i64 (af s).1])) ∨
 ((af s).1=0∧∃ bs,e=.returned (.tuple #[.pointer (some ⟨w.heap.size,0,none⟩),.int .i64 0])∧Fm w' w.heap.size (af s).2 bs))
theorem NZ (w:World):Fm (w.alloc (.cells #[.slice none 0 0] 126)) w.heap.size [] []:=
 ⟨⟨none,0,by simp,World.ownsRow_nil _ _ _ _⟩,by simp,rfl,adH,by intro i n h;simp at h⟩
theorem IJ (s:ByteArray) (w:World) (hm:s.size≤maxLen) (h:24<s.size):Calls Tryz.prog 35 #[.string s] w (bU s w):=by
 unfold maxLen at hm
 have P:Hid (af s=(1,[])):=hid (by simp [af,h])
 go_enter Tryz.func35,Tryz.ntmps35
 go_wp2_with fail
 go_ret2
 unfold bU
 rw [P.out]
 exact ⟨Below.refl _ _,Or.inl ⟨by decide,rfl⟩⟩
theorem II (s:ByteArray) (w:World) (h:¬ 24<s.size) (e0:ps 25 s 0 []=none):Calls Tryz.prog 35 #[.string s] w (bU s w):=by
 have C:=zD w.heap.size s (by omega) 25 0 0 [] [] _ (by omega) (NZ w) (by omega) (by omega) (by simp)
 have P:Hid (af s=(2,[])):=hid (by simp [af,h,e0])
 have E0:=hid e0
 clear e0
 go_enter Tryz.func35,Tryz.ntmps35
 go_wp2_with fail
 refine C.mono ?_
 rintro e w1 (⟨_,rfl,hb⟩ | ⟨a',ns',_,_,h,_⟩)
 ·go_wp2_with fail
  go_ret2
  unfold bU
  rw [P.out]
  exact ⟨((Below.refl _ _).alloc (Nat.le_refl _) _).trans hb,Or.inl ⟨by decide,rfl⟩⟩
 ·rw [E0.out] at h;cases h
theorem IE (s:ByteArray) (w:World) (h:¬ 24<s.size) (a:Nat) (ns:List Nd) (e0:ps 25 s 0 []=some (a,ns)) (h1:¬ a=s.size):Calls Tryz.prog 35 #[.string s] w (bU s w):=by
 have C:=zD w.heap.size s (by omega) 25 0 0 [] [] _ (by omega) (NZ w) (by omega) (by omega) (by simp)
 have P:Hid (af s=(2,[])):=hid (by simp [af,h,e0,h1])
 have g:=dJ 25 s 0 [] a ns e0
 have E0:=hid e0
 have h3:((a:Int)!=(s.size:Int))=true:=by rw [bne_iff_ne];omega
 clear e0
 go_enter Tryz.func35,Tryz.ntmps35
 go_wp2_with fail
 refine C.mono ?_
 rintro e w1 (⟨h,_⟩ | ⟨a',ns',ext,L,h,rfl,hf1,hL,hext,hb,hkp⟩)
 ·rw [E0.out] at h;cases h
 rw [E0.out] at h
 simp only [Option.some.injEq,Prod.mk.injEq] at h
 obtain ⟨rfl,rfl⟩:=h
 go_wp2_with fail
 go_ret2
 unfold bU
 rw [P.out]
 exact ⟨((Below.refl _ _).alloc (Nat.le_refl _) _).trans hb,Or.inl ⟨by decide,rfl⟩⟩
theorem Gd (s:ByteArray) (w:World) (h:¬ 24<s.size) (ns:List Nd) (e0:ps 25 s 0 []=some (s.size,ns)):Calls Tryz.prog 35 #[.string s] w (bU s w):=by
 have C:=zD w.heap.size s (by omega) 25 0 0 [] [] _ (by omega) (NZ w) (by omega) (by omega) (by simp)
 have g:=dJ 25 s 0 [] s.size ns e0
 have hc:lC s s.size=ns.length:=by have:=FH 25 s 0 [] s.size ns e0;simp [lC] at this;omega
 have P3:Hid (8<ns.length→af s=(3,[])):=hid (fun h2=>by simp [af,h,e0,h2])
 have P0:Hid (¬ 8<ns.length→af s=(0,ns)):=hid (fun h2=>by simp [af,h,e0,h2])
 have E0:=hid e0
 have HC:=hid hc
 clear e0 hc
 go_enter Tryz.func35,Tryz.ntmps35
 go_wp2_with fail
 refine C.mono ?_
 rintro e w1 (⟨h,_⟩ | ⟨a',ns',ext,L,h,rfl,hf1,hL,hext,hb,hkp⟩)
 ·rw [E0.out] at h;cases h
 rw [E0.out] at h
 simp only [Option.some.injEq,Prod.mk.injEq] at h
 obtain ⟨rfl,rfl⟩:=h
 have HB:=hid (((Below.refl w.heap.size w).alloc (Nat.le_refl _) _).trans hb)
 have HF:=hid hf1
 have hnl:ns.length≤24:=by simp at g;omega
 clear hb hf1 hL hext hkp C g
 go_wp2_with fail
 go_loop [8,9] (fun n i=>∃ k:Nat,k≤s.size∧i=.int .i64 k∧n=.int .i64 (lC s k)) (fun _ i=>s.size - (intOf i).toNat)
 case atStart=>exact ⟨0,Nat.zero_le _,rfl,rfl⟩
 case round=>
  obtain ⟨k,hk,rfl,rfl⟩:=hrel
  have hd:=aax s k
  by_cases hlt:k<s.size
  ·have hx:=fJ hlt
   by_cases h40:bt s k=40
   ·have k1:(((s[k]'hlt).toNat:Int)!=40)=false:=by rw [bne_eq_false_iff_eq];omega
    have HS:=hid (CW (s:=s) (k:=k) (Or.inl h40))
    clear h40 hx
    go_wp2_with fail
    go_round
    case rel=>exact ⟨k+1,by omega,by go_num,by rw [HS.out]⟩
    case measure=>simp [intOf];omega
   by_cases h41:bt s k=41
   ·have k1:(((s[k]'hlt).toNat:Int)!=40)=true:=by rw [bne_iff_ne];omega
    have k2:(((s[k]'hlt).toNat:Int)!=41)=false:=by rw [bne_eq_false_iff_eq];omega
    have HS:=hid (CW (s:=s) (k:=k) (Or.inr h41))
    clear h40 h41 hx
    go_wp2_with fail
    go_round
    case rel=>exact ⟨k+1,by omega,by go_num,by rw [HS.out]⟩
    case measure=>simp [intOf];omega
   have k1:(((s[k]'hlt).toNat:Int)!=40)=true:=by rw [bne_iff_ne];omega
   have k2:(((s[k]'hlt).toNat:Int)!=41)=true:=by rw [bne_iff_ne];omega
   have HS:=hid (Gl (s:=s) (k:=k) h40 h41)
   clear h40 h41 hx
   go_wp2_with fail
   go_round
   case rel=>exact ⟨k+1,by omega,by go_num,by rw [HS.out];go_num⟩
   case measure=>simp [intOf];omega
  ·have hk2:k=s.size:=by omega
   subst hk2
   by_cases h8:8<ns.length
   ·have h9:8<lC s s.size:=by rw [HC.out];exact h8
    go_wp2_with fail
    go_ret2
    unfold bU
    rw [P3.out h8]
    exact ⟨HB.out,Or.inl ⟨by decide,rfl⟩⟩
   ·have h9:¬ 8<lC s s.size:=by rw [HC.out];exact h8
    go_wp2_with fail
    go_ret2
    unfold bU
    rw [P0.out h8]
    exact ⟨HB.out,Or.inr ⟨rfl,_,rfl,HF.out⟩⟩
theorem dK (s:ByteArray) (w:World) (hm:s.size≤maxLen):Calls Tryz.prog 35 #[.string s] w (bU s w):=by
 by_cases h:24<s.size
 ·exact IJ s w hm h
 cases e0:ps 25 s 0 [] with
 | none=>exact II s w h e0
 | some x=>
  obtain ⟨a,ns⟩:=x
  by_cases h1:a=s.size
  ·subst h1;exact Gd s w h ns e0
  ·exact IE s w h a ns e0 h1
theorem Vu (s:ByteArray) (w:World) (hm:s.size≤maxLen):Calls Tryz.prog 50 #[.string s] w fun e w'=>e=.returned (.tuple #[.int .i64 (af s).2.length,.int .i64 (af s).1])∧Below w.heap.size w w':=by
 have he:(af s).1≠0→(af s).2=[]:=by
  unfold af
  split
  ·intro _;rfl
  ·split
   ·intro _;rfl
   ·split
    ·split
     ·intro _;rfl
     ·intro h;exact absurd rfl h
    ·intro _;rfl
 have HE:=hid he
 clear he
 generalize hp:af s=p at *
 obtain ⟨er,ns⟩:=p
 have HP:=hid hp
 clear hp
 by_cases h0:er=0
 ·subst h0
  go_enter Tryz.func50,Tryz.ntmps50
  go_wp2_with fail
  refine (dK s _ hm).mono ?_
  unfold bU
  rw [HP.out]
  rintro e w1 ⟨hb,⟨h,_⟩ | ⟨_,bs,rfl,hf⟩⟩
  ·exact absurd rfl h
  obtain ⟨ao,cap,c0,_⟩:=hf.c0
  go_wp2_with fail
  go_ret2
  exact ⟨rfl,hb⟩
 ·have hz:((er:Int)!=0)=true:=by rw [bne_iff_ne];omega
  go_enter Tryz.func50,Tryz.ntmps50
  go_wp2_with fail
  refine (dK s _ hm).mono ?_
  unfold bU
  rw [HP.out]
  rintro e w1 ⟨hb,⟨_,rfl⟩ | ⟨h,_⟩⟩
  ·go_wp2_with fail
   go_ret2
   have this:ns=[]:=HE.out h0
   subst this
   exact ⟨rfl,hb⟩
  ·exact absurd h h0
end Go.Proofs.YtjagijohfkffiabGreat
namespace Go.Proofs.YtjagijohfkffiabGreat.sizes
open Go.ChangeShapes Go.WideShapes Go.ChangeAt Go.RowKit
open Go.ChangeMaps (open_string shut_string)
set_option linter.unusedVariables false
theorem Wo (a0:ByteArray) (w0:a0.size≤maxLen) (w:World) :
  Calls Tryz.prog 23 #[.string a0] w fun e w'=>e=.returned (.bool true)∧Below w.heap.size w w':=by
 go_enter Tryz.func23,Tryz.ntmps23
 go_wp2_with fail
 refine (YX a0 _ w0).mono ?_
 rintro e w1 ⟨rfl,hb1⟩
 go_wp2_with fail
 refine (Vu a0 _ w0).mono ?_
 rintro e w2 ⟨rfl,hb2⟩
 have hz:=hb1.size
 go_wp2
 go_ret
 exact ⟨rfl,hb1.trans (hb2.mono hz)⟩
end Go.Proofs.YtjagijohfkffiabGreat.sizes
namespace Go.Proofs.YtjagijohfkffiabGreat
open Go.RowKit
set_option linter.unusedVariables false
def jB (x op:Nat):Bool:=if op=112 then x.testBit 0 else if op=113 then x.testBit 1 else x.testBit 2
theorem Ze:∀ x:Fin 8,((x.val:Int) % 2==1)=x.val.testBit 0∧((x.val:Int) / 2 % 2==1)=x.val.testBit 1∧((x.val:Int) / 4 % 2==1)=x.val.testBit 2:=by decide
theorem zA (x op:Nat) (w:World) (hx:x<8) (ho:op=112∨op=113∨op=114):Calls Tryz.prog 127 #[.int .i64 x,.int .u8 op] w fun e w'=>e=.returned (.bool (jB x op))∧w'=w:=by
 have F:=hid (Ze ⟨x,hx⟩)
 rcases ho with rfl | rfl | rfl
 ·go_enter Tryz.func127,Tryz.ntmps127
  go_wp2
  go_ret
  exact ⟨qb F.out.1,rfl⟩
 ·go_enter Tryz.func127,Tryz.ntmps127
  go_wp2
  go_ret
  exact ⟨qb F.out.2.1,rfl⟩
 ·go_enter Tryz.func127,Tryz.ntmps127
  go_wp2
  go_ret
  exact ⟨qb F.out.2.2,rfl⟩
structure Rb (w:World) (g n:Nat) (f:Nat→Bool):Prop where
 lt:g<w.heap.size
 cell:∀ i,i<n→w.cell? ⟨g,i,none⟩=some (.bool (f i))
theorem Rb.below {w w':World} {g n:Nat} {f:Nat→Bool} (h:Rb w g n f) (hb:Below w.heap.size w w'):Rb w' g n f:=
 ⟨Nat.lt_of_lt_of_le h.lt hb.size,fun i hi=>by rw [hb.cell (p:=⟨g,i,none⟩) h.lt];exact h.cell i hi⟩
def al (op:Nat) (L R:Nat→Bool) (nx:Nat→Nat):Nat→Nat→Bool
 | 0,_=>op==71||op==82
 | s+1,k=>
  if op=70 then (if L k then true else al op L R nx s (nx k))
  else if op=71 then (if L k then al op L R nx s (nx k) else false)
  else if op=85 then (if R k then true else if L k then al op L R nx s (nx k) else false)
  else (if R k then (if L k then true else al op L R nx s (nx k)) else false)
theorem adx (gl n i back:Nat) (ro:Value) (L R:Nat→Bool) (w:World) (hl:Rb w gl n L) (hi:i<n) (hb:back<n) (hn:n≤20000) :
  Calls Tryz.prog 145 #[.int .u8 70,.slice (some ⟨gl,0,none⟩) n n,ro,.int .i64 i,.int .i64 back] w fun e w'=>e=.returned (.bool (al 70 L R (aG n back) (n+1) i))∧w'=w:=by
 obtain ⟨V,hV⟩:∃ V,V=al 70 L R (aG n back) (n+1) i:=⟨_,rfl⟩
 rw [←hV]
 have HV:=hid hV
 clear hV
 go_enter Tryz.func145,Tryz.ntmps145
 go_wp2_with fail
 go_loop [11,12] (fun k st=>∃ kn sn:Nat,kn<n∧sn≤n+1∧k=.int .i64 kn∧st=.int .i64 sn∧Hid (V=al 70 L R (aG n back) (n+1 - sn) kn)) (fun _ st=>n+1 - (intOf st).toNat)
 case atStart=>exact ⟨i,0,hi,Nat.zero_le _,rfl,rfl,HV⟩
 case round=>
  obtain ⟨kn,sn,hk,hs,rfl,rfl,HA⟩:=hrel
  by_cases hlt:sn≤n
  ·have c:=hl.cell kn hk
   cases hL:L kn with
   | true=>
    have H2:Hid (V=true):=hid (by rw [HA.out,show n+1 - sn=(n - sn)+1 by omega];simp [al,hL])
    rw [hL] at c
    clear hL
    go_wp2_with fail
    go_ret
    exact ⟨by rw [H2.out];rfl,rfl⟩
   | false=>
    have H2:Hid (V=al 70 L R (aG n back) (n+1 - (sn+1)) (aG n back kn)):=hid (by rw [HA.out,show n+1 - sn=(n+1 - (sn+1))+1 by omega];simp [al,hL])
    rw [hL] at c
    clear hL
    by_cases he:kn+1=n
    ·have hx:Hid (aG n back kn=back):=hid (by unfold aG;rw [if_neg (by omega)])
     have ke:((kn:Int)+1==(n:Int))=true:=beq_iff_eq.2 (by omega)
     clear he
     go_wp2_with fail
     go_round
     case rel=>exact ⟨back,sn+1,hb,by omega,by go_num,by go_num,hid (by rw [H2.out,hx.out])⟩
     case measure=>simp [intOf];omega
    ·have hx:Hid (aG n back kn=kn+1):=hid (by unfold aG;rw [if_pos (by omega)])
     have ke:((kn:Int)+1==(n:Int))=false:=beq_eq_false_iff_ne.2 (by omega)
     have he2:kn+1<n:=by omega
     clear he
     go_wp2_with fail
     go_round
     case rel=>exact ⟨kn+1,sn+1,he2,by omega,by go_num,by go_num,hid (by rw [H2.out,hx.out])⟩
     case measure=>simp [intOf];omega
  ·have H2:Hid (V=false):=hid (by rw [HA.out,show n+1 - sn=0 by omega];rfl)
   go_wp2_with fail
   go_ret
   exact ⟨by rw [H2.out];rfl,rfl⟩
theorem adw (gl n i back:Nat) (ro:Value) (L R:Nat→Bool) (w:World) (hl:Rb w gl n L) (hi:i<n) (hb:back<n) (hn:n≤20000) :
  Calls Tryz.prog 145 #[.int .u8 71,.slice (some ⟨gl,0,none⟩) n n,ro,.int .i64 i,.int .i64 back] w fun e w'=>e=.returned (.bool (al 71 L R (aG n back) (n+1) i))∧w'=w:=by
 obtain ⟨V,hV⟩:∃ V,V=al 71 L R (aG n back) (n+1) i:=⟨_,rfl⟩
 rw [←hV]
 have HV:=hid hV
 clear hV
 go_enter Tryz.func145,Tryz.ntmps145
 go_wp2_with fail
 go_loop [11,12] (fun k st=>∃ kn sn:Nat,kn<n∧sn≤n+1∧k=.int .i64 kn∧st=.int .i64 sn∧Hid (V=al 71 L R (aG n back) (n+1 - sn) kn)) (fun _ st=>n+1 - (intOf st).toNat)
 case atStart=>exact ⟨i,0,hi,Nat.zero_le _,rfl,rfl,HV⟩
 case round=>
  obtain ⟨kn,sn,hk,hs,rfl,rfl,HA⟩:=hrel
  by_cases hlt:sn≤n
  ·have c:=hl.cell kn hk
   cases hL:L kn with
   | true=>
    have H2:Hid (V=al 71 L R (aG n back) (n+1 - (sn+1)) (aG n back kn)):=hid (by rw [HA.out,show n+1 - sn=(n+1 - (sn+1))+1 by omega];simp [al,hL])
    rw [hL] at c
    clear hL
    by_cases he:kn+1=n
    ·have hx:Hid (aG n back kn=back):=hid (by unfold aG;rw [if_neg (by omega)])
     have ke:((kn:Int)+1==(n:Int))=true:=beq_iff_eq.2 (by omega)
     clear he
     go_wp2_with fail
     go_round
     case rel=>exact ⟨back,sn+1,hb,by omega,by go_num,by go_num,hid (by rw [H2.out,hx.out])⟩
     case measure=>simp [intOf];omega
    ·have hx:Hid (aG n back kn=kn+1):=hid (by unfold aG;rw [if_pos (by omega)])
     have ke:((kn:Int)+1==(n:Int))=false:=beq_eq_false_iff_ne.2 (by omega)
     have he2:kn+1<n:=by omega
     clear he
     go_wp2_with fail
     go_round
     case rel=>exact ⟨kn+1,sn+1,he2,by omega,by go_num,by go_num,hid (by rw [H2.out,hx.out])⟩
     case measure=>simp [intOf];omega
   | false=>
    have H2:Hid (V=false):=hid (by rw [HA.out,show n+1 - sn=(n - sn)+1 by omega];simp [al,hL])
    rw [hL] at c
    clear hL
    go_wp2_with fail
    go_ret
    exact ⟨by rw [H2.out];rfl,rfl⟩
  ·have H2:Hid (V=true):=hid (by rw [HA.out,show n+1 - sn=0 by omega];rfl)
   go_wp2_with fail
   go_ret
   exact ⟨by rw [H2.out];rfl,rfl⟩
theorem adu (gl n i back:Nat) (gr:Nat) (L R:Nat→Bool) (w:World) (hl:Rb w gl n L) (hr:Rb w gr n R) (hi:i<n) (hb:back<n) (hn:n≤20000) :
  Calls Tryz.prog 145 #[.int .u8 85,.slice (some ⟨gl,0,none⟩) n n,.slice (some ⟨gr,0,none⟩) n n,.int .i64 i,.int .i64 back] w fun e w'=>e=.returned (.bool (al 85 L R (aG n back) (n+1) i))∧w'=w:=by
 obtain ⟨V,hV⟩:∃ V,V=al 85 L R (aG n back) (n+1) i:=⟨_,rfl⟩
 rw [←hV]
 have HV:=hid hV
 clear hV
 go_enter Tryz.func145,Tryz.ntmps145
 go_wp2_with fail
 go_loop [11,12] (fun k st=>∃ kn sn:Nat,kn<n∧sn≤n+1∧k=.int .i64 kn∧st=.int .i64 sn∧Hid (V=al 85 L R (aG n back) (n+1 - sn) kn)) (fun _ st=>n+1 - (intOf st).toNat)
 case atStart=>exact ⟨i,0,hi,Nat.zero_le _,rfl,rfl,HV⟩
 case round=>
  obtain ⟨kn,sn,hk,hs,rfl,rfl,HA⟩:=hrel
  by_cases hlt:sn≤n
  ·have c:=hl.cell kn hk
   have c2:=hr.cell kn hk
   cases hR:R kn with
   | true=>
    have H2:Hid (V=true):=hid (by rw [HA.out,show n+1 - sn=(n - sn)+1 by omega];simp [al,hR])
    rw [hR] at c2
    clear hR
    go_wp2_with fail
    go_ret
    exact ⟨by rw [H2.out];rfl,rfl⟩
   | false=>
    cases hL:L kn with
    | true=>
     have H2:Hid (V=al 85 L R (aG n back) (n+1 - (sn+1)) (aG n back kn)):=hid (by rw [HA.out,show n+1 - sn=(n+1 - (sn+1))+1 by omega];simp [al,hR,hL])
     rw [hR] at c2
     rw [hL] at c
     clear hR hL
     by_cases he:kn+1=n
     ·have hx:Hid (aG n back kn=back):=hid (by unfold aG;rw [if_neg (by omega)])
      have ke:((kn:Int)+1==(n:Int))=true:=beq_iff_eq.2 (by omega)
      clear he
      go_wp2_with fail
      go_round
      case rel=>exact ⟨back,sn+1,hb,by omega,by go_num,by go_num,hid (by rw [H2.out,hx.out])⟩
      case measure=>simp [intOf];omega
     ·have hx:Hid (aG n back kn=kn+1):=hid (by unfold aG;rw [if_pos (by omega)])
      have ke:((kn:Int)+1==(n:Int))=false:=beq_eq_false_iff_ne.2 (by omega)
      have he2:kn+1<n:=by omega
      clear he
      go_wp2_with fail
      go_round
      case rel=>exact ⟨kn+1,sn+1,he2,by omega,by go_num,by go_num,hid (by rw [H2.out,hx.out])⟩
      case measure=>simp [intOf];omega
    | false=>
     have H2:Hid (V=false):=hid (by rw [HA.out,show n+1 - sn=(n - sn)+1 by omega];simp [al,hR,hL])
     rw [hR] at c2
     rw [hL] at c
     clear hR hL
     go_wp2_with fail
     go_ret
     exact ⟨by rw [H2.out];rfl,rfl⟩
  ·have H2:Hid (V=false):=hid (by rw [HA.out,show n+1 - sn=0 by omega];rfl)
   go_wp2_with fail
   go_ret
   exact ⟨by rw [H2.out];rfl,rfl⟩
theorem adv (gl n i back:Nat) (gr:Nat) (L R:Nat→Bool) (w:World) (hl:Rb w gl n L) (hr:Rb w gr n R) (hi:i<n) (hb:back<n) (hn:n≤20000) :
  Calls Tryz.prog 145 #[.int .u8 82,.slice (some ⟨gl,0,none⟩) n n,.slice (some ⟨gr,0,none⟩) n n,.int .i64 i,.int .i64 back] w fun e w'=>e=.returned (.bool (al 82 L R (aG n back) (n+1) i))∧w'=w:=by
 obtain ⟨V,hV⟩:∃ V,V=al 82 L R (aG n back) (n+1) i:=⟨_,rfl⟩
 rw [←hV]
 have HV:=hid hV
 clear hV
 go_enter Tryz.func145,Tryz.ntmps145
 go_wp2_with fail
 go_loop [11,12] (fun k st=>∃ kn sn:Nat,kn<n∧sn≤n+1∧k=.int .i64 kn∧st=.int .i64 sn∧Hid (V=al 82 L R (aG n back) (n+1 - sn) kn)) (fun _ st=>n+1 - (intOf st).toNat)
 case atStart=>exact ⟨i,0,hi,Nat.zero_le _,rfl,rfl,HV⟩
 case round=>
  obtain ⟨kn,sn,hk,hs,rfl,rfl,HA⟩:=hrel
  by_cases hlt:sn≤n
  ·have c:=hl.cell kn hk
   have c2:=hr.cell kn hk
   cases hR:R kn with
   | true=>
    cases hL:L kn with
    | true=>
     have H2:Hid (V=true):=hid (by rw [HA.out,show n+1 - sn=(n - sn)+1 by omega];simp [al,hR,hL])
     rw [hR] at c2
     rw [hL] at c
     clear hR hL
     go_wp2_with fail
     go_ret
     exact ⟨by rw [H2.out];rfl,rfl⟩
    | false=>
     have H2:Hid (V=al 82 L R (aG n back) (n+1 - (sn+1)) (aG n back kn)):=hid (by rw [HA.out,show n+1 - sn=(n+1 - (sn+1))+1 by omega];simp [al,hR,hL])
     rw [hR] at c2
     rw [hL] at c
     clear hR hL
     by_cases he:kn+1=n
     ·have hx:Hid (aG n back kn=back):=hid (by unfold aG;rw [if_neg (by omega)])
      have ke:((kn:Int)+1==(n:Int))=true:=beq_iff_eq.2 (by omega)
      clear he
      go_wp2_with fail
      go_round
      case rel=>exact ⟨back,sn+1,hb,by omega,by go_num,by go_num,hid (by rw [H2.out,hx.out])⟩
      case measure=>simp [intOf];omega
     ·have hx:Hid (aG n back kn=kn+1):=hid (by unfold aG;rw [if_pos (by omega)])
      have ke:((kn:Int)+1==(n:Int))=false:=beq_eq_false_iff_ne.2 (by omega)
      have he2:kn+1<n:=by omega
      clear he
      go_wp2_with fail
      go_round
      case rel=>exact ⟨kn+1,sn+1,he2,by omega,by go_num,by go_num,hid (by rw [H2.out,hx.out])⟩
      case measure=>simp [intOf];omega
   | false=>
    have H2:Hid (V=false):=hid (by rw [HA.out,show n+1 - sn=(n - sn)+1 by omega];simp [al,hR])
    rw [hR] at c2
    clear hR
    go_wp2_with fail
    go_ret
    exact ⟨by rw [H2.out];rfl,rfl⟩
  ·have H2:Hid (V=true):=hid (by rw [HA.out,show n+1 - sn=0 by omega];rfl)
   go_wp2_with fail
   go_ret
   exact ⟨by rw [H2.out];rfl,rfl⟩
theorem ajg {n back:Nat} (hb:back<n) (L R:Nat→Bool) (i:Nat) (hi:i<n):al 70 L R (aG n back) (n+1) i=true↔∃ s,L (it (aG n back) s i)=true:=by
 have key:∀ s k,al 70 L R (aG n back) s k=true↔∃ m,m<s∧L (it (aG n back) m k)=true:=by
  intro s
  induction s with
  | zero=>intro k;simp [al]
  | succ s ih=>
   intro k
   simp only [al,if_true]
   cases hL:L k with
   | true=>simp;exact ⟨0,by omega,hL⟩
   | false=>
    simp only [Bool.false_eq_true,if_false]
    rw [ih]
    constructor
    ·rintro ⟨m,hm,h⟩;exact ⟨m+1,by omega,h⟩
    ·rintro ⟨m,hm,h⟩
     cases m with
     | zero=>simp [it,hL] at h
     | succ m=>exact ⟨m,by omega,h⟩
 rw [key]
 constructor
 ·rintro ⟨m,_,h⟩;exact ⟨m,h⟩
 ·rintro ⟨m,h⟩
  obtain ⟨s,hs,h1,_⟩:=I8 hb (A:=fun _=>True) (B:=fun i=>L i=true) hi ⟨m,h,fun _ _=>trivial⟩
  exact ⟨s,by omega,h1⟩
theorem ajf {n back:Nat} (hb:back<n) (L R:Nat→Bool) (i:Nat) (hi:i<n):al 71 L R (aG n back) (n+1) i=true↔∀ s,L (it (aG n back) s i)=true:=by
 have key:∀ s k,al 71 L R (aG n back) s k=true↔∀ m,m<s→L (it (aG n back) m k)=true:=by
  intro s
  induction s with
  | zero=>intro k;simp [al]
  | succ s ih=>
   intro k
   simp only [al,Nat.reduceEqDiff,if_false,if_true]
   cases hL:L k with
   | false=>simp;exact ⟨0,by omega,hL⟩
   | true=>
    simp only [if_true]
    rw [ih]
    constructor
    ·intro h m hm
     cases m with
     | zero=>exact hL
     | succ m=>exact h m (by omega)
    ·intro h m hm;exact h (m+1) (by omega)
 rw [key]
 constructor
 ·intro h s
  refine Classical.byContradiction fun hc=>?_
  obtain ⟨s,hs,h1,_⟩:=I8 hb (A:=fun _=>True) (B:=fun i=>¬ L i=true) hi ⟨s,hc,fun _ _=>trivial⟩
  exact h1 (h s (by omega))
 ·intro h m _;exact h m
theorem ae2 {n back:Nat} (hb:back<n) (L R:Nat→Bool) (i:Nat) (hi:i<n):al 85 L R (aG n back) (n+1) i=true↔∃ s,R (it (aG n back) s i)=true∧∀ m,m<s→L (it (aG n back) m i)=true:=by
 have key:∀ s k,al 85 L R (aG n back) s k=true↔∃ t,t<s∧R (it (aG n back) t k)=true∧∀ m,m<t→L (it (aG n back) m k)=true:=by
  intro s
  induction s with
  | zero=>intro k;simp [al]
  | succ s ih=>
   intro k
   simp only [al,Nat.reduceEqDiff,if_false,if_true]
   cases hR:R k with
   | true=>simp only [if_true,true_iff];exact ⟨0,by omega,hR,fun m hm=>by omega⟩
   | false=>
    simp only [Bool.false_eq_true,if_false]
    cases hL:L k with
    | false=>
     simp only [Bool.false_eq_true,if_false,false_iff]
     rintro ⟨t,_,h1,h2⟩
     cases t with
     | zero=>simp [it,hR] at h1
     | succ t=>have:=h2 0 (by omega);simp [it,hL] at this
    | true=>
     simp only [if_true]
     rw [ih]
     constructor
     ·rintro ⟨t,ht,h1,h2⟩
      refine ⟨t+1,by omega,h1,fun m hm=>?_⟩
      cases m with
      | zero=>exact hL
      | succ m=>exact h2 m (by omega)
     ·rintro ⟨t,ht,h1,h2⟩
      cases t with
      | zero=>simp [it,hR] at h1
      | succ t=>exact ⟨t,by omega,h1,fun m hm=>h2 (m+1) (by omega)⟩
 rw [key]
 constructor
 ·rintro ⟨t,_,h⟩;exact ⟨t,h⟩
 ·intro h
  obtain ⟨s,hs,h1,h2⟩:=I8 hb (A:=fun i=>L i=true) (B:=fun i=>R i=true) hi h
  exact ⟨s,by omega,h1,h2⟩
theorem aje {n back:Nat} (hb:back<n) (L R:Nat→Bool) (i:Nat) (hi:i<n):al 82 L R (aG n back) (n+1) i=true↔∀ s,R (it (aG n back) s i)=true∨∃ m,m<s∧L (it (aG n back) m i)=true:=by
 have key:∀ s k,al 82 L R (aG n back) s k=!al 85 (fun i=>!L i) (fun i=>!R i) (aG n back) s k:=by
  intro s
  induction s with
  | zero=>intro k;rfl
  | succ s ih=>
   intro k
   simp only [al,Nat.reduceEqDiff,if_false,if_true]
   rw [ih (aG n back k)]
   generalize al 85 (fun i=>!L i) (fun i=>!R i) (aG n back) s (aG n back k)=v
   by_cases hR:R k=true <;> by_cases hL:L k=true <;> simp [hR,hL]
 have h2:=ae2 hb (fun i=>!L i) (fun i=>!R i) i hi
 rw [key]
 constructor
 ·intro h s
  have h3:¬ al 85 (fun i=>!L i) (fun i=>!R i) (aG n back) (n+1) i=true:=by simpa using h
  rw [h2] at h3
  cases hR:R (it (aG n back) s i) with
  | true=>exact Or.inl rfl
  | false=>
   refine Or.inr (Classical.byContradiction fun hc=>h3 ⟨s,by simp [hR],fun m hm=>?_⟩)
   cases hL:L (it (aG n back) m i) with
   | false=>rfl
   | true=>exact absurd ⟨m,hm,hL⟩ hc
 ·intro h
  cases hv:al 85 (fun i=>!L i) (fun i=>!R i) (aG n back) (n+1) i with
  | false=>rfl
  | true=>
   obtain ⟨s,h3,h4⟩:=h2.1 hv
   rcases h s with h5 | ⟨m,hm,h5⟩
   ·simp [h5] at h3
   ·have:=h4 m hm;simp [h5] at this
theorem Tryz.dw:(Tryz.prog.info? 4).map (fun i=>(i.zero,i.size,i.bytes))=some (some (.bool false),1,1):=by kernel_rfl
def Parts (w:World) (ns:List Nd) (bs:List Nat):Prop:=∀ (i:Nat) (nd:Nd),ns[i]?=some nd→∃ b,bs[i]?=some b∧w.heap[b]?=some (bu bs i nd)
theorem Parts.below {w w':World} {ns:List Nd} {bs:List Nat} (h:Parts w ns bs) (hb:Below w.heap.size w w'):Parts w' ns bs:=fun i nd hn=>by
 obtain ⟨b,e,hh⟩:=h i nd hn
 exact ⟨b,e,by rw [hb.block b (bO hh)];exact hh⟩
structure Wd (w:World) (g n cap:Nat) (xs:List Nat):Prop where
 lt:g<w.heap.size
 cap:n≤cap
 cell:∀ i,i<n→w.cell? ⟨g,i,none⟩=some (.int .i64 (ltOf xs i:Nat))
theorem Wd.below {w w':World} {g n cap:Nat} {xs:List Nat} (h:Wd w g n cap xs) (hb:Below w.heap.size w w'):Wd w' g n cap xs:=
 ⟨Nat.lt_of_lt_of_le h.lt hb.size,h.cap,fun i hi=>by rw [hb.cell (p:=⟨g,i,none⟩) h.lt];exact h.cell i hi⟩
def aj (f:Nat→Bool) (n j:Nat):List Value:=(List.range n).map fun i=>.bool (if i<j then f i else false)
theorem bJ (f:Nat→Bool) (n:Nat):aj f n 0=List.replicate n (.bool false):=by
 unfold aj
 apply List.ext_getElem
 ·simp
 ·intro i h1 h2;simp
theorem dX (f:Nat→Bool) (n j:Nat):(aj f n j).set j (.bool (f j))=aj f n (j+1):=by
 unfold aj
 apply List.ext_getElem
 ·simp
 ·intro i h1 h2
  simp at h1
  rw [List.getElem_set]
  by_cases e:j=i
  ·subst e;simp
  ·simp only [if_neg e,List.getElem_map,List.getElem_range]
   by_cases h:i<j
   ·rw [if_pos h,if_pos (by omega)]
   ·rw [if_neg h,if_neg (by omega)]
theorem jv (f:Nat→Bool) (n i:Nat) (hi:i<n):(aj f n n)[i]?=some (.bool (f i)):=by
 unfold aj
 simp [hi]
theorem fq {a b c:World} {row:Option Nat} (h:a.grownBy b row) (k:b.grownBy c row):a.grownBy c row:=
 ⟨k.os.trans h.os,k.tape.trans h.tape,k.output.trans h.output,Nat.le_trans h.size k.size,fun q hq hr=>(k.block q (Nat.lt_of_lt_of_le hq h.size) hr).trans (h.block q hq hr)⟩
theorem zX {a b:World} {row:Option Nat} (h:a.grownBy b row):a.grownBy b.drew row:=⟨h.os,h.tape,h.output,h.size,h.block⟩
theorem iG {a b:World} {g q o:Nat} (h:a.grownBy b (some g)) (hq:q<a.heap.size) (hne:q≠g):b.cell? ⟨q,o,none⟩=a.cell? ⟨q,o,none⟩:=
 World.cell?_of_block (h.block q hq (by simpa using hne))
theorem Rb.grown {a b:World} {g q n:Nat} {f:Nat→Bool} (h:Rb a q n f) (hg:a.grownBy b (some g)) (hne:q≠g):Rb b q n f:=
 ⟨Nat.lt_of_lt_of_le h.lt hg.size,fun i hi=>by rw [iG hg h.lt hne];exact h.cell i hi⟩
theorem aaw {nx lt:Nat→Nat} {nd:Nd} {r1 r2:List (Nat→Prop)} (hl:aP nd.op=false→r1.getD nd.l (fun _=>False)=r2.getD nd.l (fun _=>False)) (hr:bz nd.op=true→r1.getD nd.r (fun _=>False)=r2.getD nd.r (fun _=>False))
  (hop:aP nd.op=true∨dB nd.op=true∨bz nd.op=true) (i:Nat):kI nx lt nd r1 i↔kI nx lt nd r2 i:=by
 unfold kI
 rcases hop with hop | hop | hop
 ·rcases kV hop with e | e | e | e | e <;> simp [e]
 ·have h1:=hl (jw hop)
  rcases mR hop with e | e | e | e <;> simp only [e,h1,Nat.reduceEqDiff,if_false,if_true]
 ·have h1:=hl (lG hop)
  have h2:=hr hop
  rcases jL hop with e | e | e | e <;> simp only [e,h1,h2,Nat.reduceEqDiff,if_false,if_true]
theorem dx {ns:List Nd} (h:fO ns) {k:Nat} {nd:Nd} (hn:ns[k]?=some nd):(aP nd.op=true∨dB nd.op=true∨bz nd.op=true)∧(aP nd.op=false→nd.l<k)∧(bz nd.op=true→nd.r<k):=by
 rcases h k nd hn with ⟨h1,_,_⟩ | ⟨h1,h2,_⟩ | ⟨h1,h2,h3⟩
 ·exact ⟨Or.inl h1,fun h=>by rw [h1] at h;simp at h,fun h=>by rw [ru h1] at h;simp at h⟩
 ·exact ⟨Or.inr (Or.inl h1),fun _=>h2,fun h=>by rw [jX h1] at h;simp at h⟩
 ·exact ⟨Or.inr (Or.inr h1),fun _=>h2,fun _=>h3⟩
theorem iy {nx lt:Nat→Nat} {ns:List Nd} {k:Nat} {nd:Nd} (hn:ns[k]?=some nd) (hw:fO ns) (i:Nat):dz nx lt ns k i↔kI nx lt nd (rows nx lt ns) i:=by
 obtain ⟨hk,e⟩:=List.getElem?_eq_some_iff.1 hn
 obtain ⟨hc,h1,h2⟩:=dx hw hn
 have e1:ns=(ns.take k++[nd])++ns.drop (k+1):=by
  rw [List.append_assoc,←e]
  simp
 have hlen:(ns.take k).length=k:=by simp;omega
 have e2:dz nx lt ns k i=kI nx lt nd (rows nx lt (ns.take k)) i:=by
  have h3:=QG nx lt (ns.take k) nd i
  rw [hlen] at h3
  rw [←h3]
  conv=>lhs;rw [e1]
  exact QF (by simp;omega) i
 have e3:∀ l,l<k→(rows nx lt (ns.take k)).getD l (fun _=>False)=(rows nx lt ns).getD l (fun _=>False):=by
  intro l hl
  funext j
  have h4:dz nx lt (ns.take k++ns.drop k) l j=dz nx lt (ns.take k) l j:=QF (by omega) j
  rw [List.take_append_drop] at h4
  exact h4.symm
 rw [e2]
 exact aaw (fun h=>e3 _ (h1 h)) (fun h=>e3 _ (h2 h)) hc i
theorem aF {w:World} {P:Nat} {c0 c1 c2 c3:Value} (h:w.heap[P]?=some (.cells #[c0,c1,c2,c3] 204 (0,0))) :
  w.cell? ⟨P,0,none⟩=some c0∧w.cell? ⟨P,1,none⟩=some c1∧w.cell? ⟨P,2,none⟩=some c2∧w.cell? ⟨P,3,none⟩=some c3:=by
 refine ⟨?_,?_,?_,?_⟩ <;> (rw [cell_of_row w P _ _ _ _ h];rfl)
section
variable (ns:List Nd) (bs:List Nat) (gw n wcap back:Nat) (xs:List Nat)
def jf (k:Nat) (w:World) (e:Ending) (w':World):Prop:=
 ∃ (g:Nat) (f:Nat→Bool),e=.returned (.slice (some ⟨g,0,none⟩) n n)∧(∀ i,i<n→(f i=true↔dz (aG n back) (ltOf xs) ns k i))∧w.heap.size≤g∧Rb w' g n f∧Below w.heap.size w w'
def oQ (k:Nat):Prop:=∀ (w:World) (b:Nat),Parts w ns bs→Wd w gw n wcap xs→bs[k]?=some b →
 Calls Tryz.prog 128 #[.pointer (some ⟨b,0,none⟩),.slice (some ⟨gw,0,none⟩) n wcap,.int .i64 back] w (jf ns n back xs k w)
theorem jb {k:Nat} {w wS wr:World} {f:Nat→Bool} (hbS:Below w.heap.size w wS) (hg:wS.grownBy wr (some w.heap.size)) (hsz:w.heap.size<wS.heap.size)
  (own:wr.ownsRow w.heap.size 4 1 (.slice (some ⟨w.heap.size,0,none⟩) n n) n (aj f n n)) (hf:∀ i,i<n→(f i=true↔dz (aG n back) (ltOf xs) ns k i)) :
  jf ns n back xs k w (.returned (.slice (some ⟨w.heap.size,0,none⟩) n n)) wr:=by
 refine ⟨w.heap.size,f,rfl,hf,Nat.le_refl _,⟨Nat.lt_of_lt_of_le hsz hg.size,fun i hi=>?_⟩,hbS.grown hg hbS.size (fun k h=>by cases h;exact Nat.le_refl _)⟩
 rw [own.cellAt i (by omega)]
 exact jv f n i hi
end
end Go.Proofs.YtjagijohfkffiabGreat
