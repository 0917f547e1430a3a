import Derived.Test.YtjagijohfkffiabGreatALLM25
set_option maxHeartbeats 16000000
set_option maxRecDepth 100000
set_option linter.unusedSimpArgs false
namespace Go.Proofs.YtjagijohfkffiabGreat
open Go.RowKit
set_option linter.unusedVariables false
def ng(st f aJ:Nat->Bool)(x:Nat):Bool:=st (x / 256)&&(f x&&!aJ (x % 256))
theorem aaH(P g n cap gl asW:Nat)(lt:Nat->Nat)(ed:Nat->Nat->Bool)(st f aJ:Nat->Bool)(w:World)(hn:n<=6)(h:Bv w g n lt ed st)(hf:bV w gl (n*256) f)(lL:gl<w.heap.size)(hb:bE w P 2305 aJ)(hP:P<w.heap.size) :
  Calls Tryz.prog 91 #[.pointer (some ⟨P,0,none⟩),.slice (some ⟨g,0,none⟩) n cap,.slice (some ⟨gl,0,none⟩) n asW] w λe w'=>∃ g',e=.returned (.slice (some ⟨g',0,none⟩) n n)/\w.heap.size<=g'/\g'<w'.heap.size/\bV w' g' (n*256) (ng st f aJ)/\Below w.heap.size w w':=by
 have O:=hid h;have Q:=h.blk;have R:=hid hf;have T:=hid hb;clear h hf hb;go_enter Tryz.func91,Tryz.ntmps91;go_wp2_with (at_make;go_must (refine jv _ rfl (.tmp 13) rfl n rfl (by omega) ?_));intro w1 D U E;have F:=hid D;have G:=hid E;clear D E;go_wp2_with fail
 go_loopw [17] (λi o=>∃ k:Nat,k<=n/\i=.int .i64 k/\Hid (bV o w.heap.size (n*256) (upTo (ng st f aJ) (k*256)))/\w.heap.size<o.heap.size/\Hid (Below w.heap.size w o)) (λi _=>n - (intOf i).toNat)
 case atStart=>exact⟨0,aCg _,rfl,by rw[Nat.zero_mul,ug];exact F,U,G⟩
 case round=>
  obtain⟨k,hk,rfl,q,H,m⟩:=hrel;rename World=>W0;clear F G;by_cases a:k<n
  ·have r:=O.out.below m.out (aB2 _) Q;have V:=r.l k a;have X:W0.cell? ⟨g,k*8+1,none⟩=some (.bool (ed k 0)):=r.e k 0 a (by omega);have Y:W0.cell? ⟨g,k*8+2,none⟩=some (.bool (ed k 1)):=r.e k 1 a (by omega);have Z:W0.cell? ⟨g,k*8+3,none⟩=some (.bool (ed k 2)):=r.e k 2 a (by omega);have q4:W0.cell? ⟨g,k*8+4,none⟩=some (.bool (ed k 3)):=r.e k 3 a (by omega);have q5:W0.cell? ⟨g,k*8+5,none⟩=some (.bool (ed k 4)):=r.e k 4 a (by omega);have q6:W0.cell? ⟨g,k*8+6,none⟩=some (.bool (ed k 5)):=r.e k 5 a (by omega);have A:=r.s k a;have dk:decide ((n:Int)<=(k:Int))=false:=by simp;omega
   have dkn:decide (n<=k)=false:=by simp;omega
   have y:=(aB4 W0.heap.size W0).alloc (aB2 _) (.cells #[.int .i64 (lt k:Nat),.bool (ed k 0),.bool (ed k 1),.bool (ed k 2),.bool (ed k 3),.bool (ed k 4),.bool (ed k 5),.bool (st k)] 156);have I:=hid y;have u:=hid (m.out.trans (y.mono m.out.size));have d:=hid (q.out.below y H);clear r y;cases hst:st k with
   | false=>
    rw[hst]at A I u d;have B:=hid (d.out.congr (f':=upTo (ng st f aJ) ((k+1)*256)) (λj C=>by
     unfold upTo;by_cases c1:j<k*256
     ·rw[aC2 c1,aC2 (by omega)]
     ·rw[aC1 c1];by_cases c2:j<(k+1)*256
      ·rw[aC2 c2];unfold ng;rw[show j / 256=k by omega,hst];rfl
      ·rw[aC1 c2]))
    clear hst;generalize lt k=e0 at *;generalize ed k 0=e1 at *;generalize ed k 1=e2 at *;generalize ed k 2=e3 at *;generalize ed k 3=e4 at *;generalize ed k 4=e5 at *;generalize ed k 5=e6 at *;go_wp2_with fail;go_roundw
    case rel=>exact⟨k+1,by omega,by go_num,B,by simp;omega,u⟩
    case measure=>simp[intOf] <;> omega
   | true=>
    rw[hst]at A I u d;have qa:=hid hst;clear hst;have GF:=hid ((R.out.below u.out lL).z8 (t:=k) (by omega));generalize lt k=e0 at *;generalize ed k 0=e1 at *;generalize ed k 1=e2 at *;generalize ed k 2=e3 at *;generalize ed k 3=e4 at *;generalize ed k 4=e5 at *;generalize ed k 5=e6 at *;have J:w.heap.size<(W0.alloc (.cells #[.int .i64 (e0:Nat),.bool e1,.bool e2,.bool e3,.bool e4,.bool e5,.bool e6,.bool true] 156)).heap.size:=by simp;omega
    go_wp2_with (refine aN rfl (.tmp 33) rfl gl (k*256) _ rfl GF.out ?_)
    go_loopw [35] (λi o=>∃ j:Nat,j<=256/\i=.int .i64 j/\Hid (bV o w.heap.size (n*256) (upTo (ng st f aJ) (k*256+j)))/\w.heap.size<o.heap.size/\Hid (Below w.heap.size w o)) (λi _=>256 - (intOf i).toNat)
    case atStart=>exact⟨0,by omega,rfl,d,J,u⟩
    case round=>
     obtain⟨j,C,rfl,q,LK,m⟩:=hrel;rename World=>W3;clear d J u V X Y Z q4 q5 q6 A;by_cases L:j<256
     ·have p0:=q.out.f (k*256+j) (by omega);have p1:=q.out.c (k*256+j) (by omega);have M:W3.cell? ⟨P,2305+j,none⟩=some (.bool (aJ j)):=((T.out.below m.out hP).c j L);have ix:=λW=>tq (λj=>f (k*256+j)) L W;have e9:ng st f aJ (k*256+j)=(f (k*256+j)&&!aJ j):=by unfold ng;rw[show (k*256+j) / 256=k by omega,show (k*256+j) % 256=j by omega,qa.out];rfl
      have x:=hid (q.out.drew.set (k*256+j) (ng st f aJ (k*256+j)));have z:=hid (m.out.drew.setCell (p:=⟨w.heap.size,k*256+j,none⟩) (aB2 _) (.bool (ng st f aJ (k*256+j))));rw[uh]at x;generalize upTo (ng st f aJ) (k*256+j) (k*256+j)=ov at *;generalize ng st f aJ (k*256+j)=sv at *;generalize f (k*256+j)=fv at *;generalize aJ j=bv at *;subst e9;have i1:(0:Int)<=(k:Int):=by omega
      have i2:(k:Int)<(n:Int):=by omega
      have i3:(0:Int)<=(j:Int):=by omega
      have i4:(j:Int)<256:=by omega
      cases fv with
      | false=>
       simp only[Bool.false_and]at x z;go_wp2_with fail;refine wp_region_held_drew (S:=λ_=>True) (by kernel_rfl) trivial (λaD=>?_);refine aCc (i:=0) (oi:={ dst:=some 39,op:=Op.move (.tmp 7),type:=_,pos:=_,after:=_,guard:=none }) (v:=(Value.slice (some ⟨w.heap.size,0,none⟩) n n)) rfl (by kernel_rfl) (by kernel_rfl) (by kernel_rfl) (λ_ _ _ h=>h) (aCa ⟨by rfl,by intro w' b;(try dsimp only at b);go_simp⟩) (by assumption) ?_
       simp only[Act.put,aB1,aB5,aB6];refine aCc (i:=1) (oi:={ dst:=some 40,op:=Op.move (.tmp 8),type:=_,pos:=_,after:=_,guard:=none }) (v:=(Value.int .i64 (k:Nat))) rfl (by kernel_rfl) (by kernel_rfl) (by kernel_rfl) (λ_ _ _ h=>h) (aCa ⟨by rfl,by intro w' b;(try dsimp only at b);go_simp⟩) (by assumption) ?_
       simp only[Act.put,aB1,aB5,aB6];refine aCc (i:=2) (oi:={ dst:=some 41,op:=Op.move (.tmp 10),type:=_,pos:=_,after:=_,guard:=none }) (v:=(Value.int .i64 (j:Nat))) rfl (by kernel_rfl) (by kernel_rfl) (by kernel_rfl) (λ_ _ _ h=>h) (aCa ⟨by rfl,by intro w' b;(try dsimp only at b);go_simp⟩) (by assumption) ?_
       simp only[Act.put,aB1,aB5,aB6];refine aCc (i:=3) (oi:={ dst:=some 42,op:=Op.move (.tmp 11),type:=_,pos:=_,after:=_,guard:=none }) (v:=(Value.bool false)) rfl (by kernel_rfl) (by kernel_rfl) (by kernel_rfl) (λ_ _ _ h=>h) (aCa ⟨by rfl,by intro w' b;(try dsimp only at b);go_simp⟩) (by assumption) ?_
       simp only[Act.put,aB1,aB5,aB6];refine aCc (i:=4) (oi:={ dst:=some 43,op:=Op.move (.tmp 42),type:=_,pos:=_,after:=_,guard:=none }) (v:=(Value.bool false)) rfl (by kernel_rfl) (by kernel_rfl) (by kernel_rfl) (λ_ _ _ h=>h) (aCa ⟨by rfl,by intro w' b;(try dsimp only at b);go_simp⟩) (by assumption) ?_
       simp only[Act.put,aB1,aB5,aB6];refine aCc (i:=5) (oi:={ dst:=some 44,op:=Op.move (.tmp 0),type:=_,pos:=_,after:=_,guard:=some (4,true) }) (v:=undef) rfl (by kernel_rfl) (by kernel_rfl) (by kernel_rfl) (λ_ _ _ h=>h) (aCb ⟨by rfl,rfl⟩) (by assumption) ?_;simp only[Act.put,aB1,aB5,aB6];refine aCc (i:=6) (oi:={ dst:=some 45,op:=Op.move (.tmp 10),type:=_,pos:=_,after:=_,guard:=some (4,true) }) (v:=undef) rfl (by kernel_rfl) (by kernel_rfl) (by kernel_rfl) (λ_ _ _ h=>h) (aCb ⟨by rfl,rfl⟩) (by assumption) ?_;simp only[Act.put,aB1,aB5,aB6];refine aCc (i:=7) (oi:={ dst:=some 46,op:=Op.nilCheck (.tmp 44),type:=_,pos:=_,after:=_,guard:=some (4,true) }) (v:=undef) rfl (by kernel_rfl) (by kernel_rfl) (by kernel_rfl) (λ_ _ _ h=>h) (aCb ⟨by rfl,rfl⟩) (by assumption) ?_;simp only[Act.put,aB1,aB5,aB6];refine aCc (i:=8) (oi:={ dst:=some 47,op:=Op.fieldAddr _ (.tmp 46) 3,type:=_,pos:=_,after:=_,guard:=some (4,true) }) (v:=undef) rfl (by kernel_rfl) (by kernel_rfl) (by kernel_rfl) (λ_ _ _ h=>h) (aCb ⟨by rfl,rfl⟩) (by assumption) ?_;simp only[Act.put,aB1,aB5,aB6];refine aCc (i:=9) (oi:={ dst:=some 48,op:=Op.indexAddr _ (.tmp 47) (.tmp 45),type:=_,pos:=_,after:=_,guard:=some (4,true) }) (v:=undef) rfl (by kernel_rfl) (by kernel_rfl) (by kernel_rfl) (λ_ _ _ h=>h) (aCb ⟨by rfl,rfl⟩) (by assumption) ?_;simp only[Act.put,aB1,aB5,aB6];refine aCc (i:=10) (oi:={ dst:=some 49,op:=Op.load _ (.tmp 48),type:=_,pos:=_,after:=_,guard:=some (4,true) }) (v:=undef) rfl (by kernel_rfl) (by kernel_rfl) (by kernel_rfl) (λ_ _ _ h=>h) (aCb ⟨by rfl,rfl⟩) (by assumption) ?_;simp only[Act.put,aB1,aB5,aB6];refine aCc (i:=11) (oi:={ dst:=some 50,op:=Op.unOp UnOp.not _ (.tmp 49),type:=_,pos:=_,after:=_,guard:=some (4,true) }) (v:=undef) rfl (by kernel_rfl) (by kernel_rfl) (by kernel_rfl) (λ_ _ _ h=>h) (aCb ⟨by rfl,rfl⟩) (by assumption) ?_;simp only[Act.put,aB1,aB5,aB6];refine aCc (i:=12) (oi:={ dst:=some 51,op:=Op.pick (.tmp 43) (.tmp 50) (Operand.const (Value.bool false)),type:=_,pos:=_,after:=_,guard:=none }) (v:=(Value.bool false)) rfl (by kernel_rfl) (by kernel_rfl) (by kernel_rfl) (λ_ _ _ h=>h) (aCa ⟨by rfl,by intro w' b;(try dsimp only at b);go_simp⟩) (by assumption) ?_
       simp only[Act.put,aB1,aB5,aB6];refine aCc (i:=13) (oi:={ dst:=some 52,op:=Op.indexAddr _ (.tmp 39) (.tmp 40),type:=_,pos:=_,after:=_,guard:=none }) (v:=(Value.pointer (some ⟨w.heap.size,k*256,none⟩))) rfl (by kernel_rfl) (by kernel_rfl) (by kernel_rfl) (λ_ _ _ h=>h) (aCa ⟨by rfl,by intro w' b;(try dsimp only at b);go_simp⟩) (by assumption) ?_
       simp only[Act.put,aB1,aB5,aB6];refine aCc (i:=14) (oi:={ dst:=some 53,op:=Op.indexAddr _ (.tmp 52) (.tmp 41),type:=_,pos:=_,after:=_,guard:=none }) (v:=(Value.pointer (some ⟨w.heap.size,k*256+j,none⟩))) rfl (by kernel_rfl) (by kernel_rfl) (by kernel_rfl) (λ_ _ _ h=>h) (aCa ⟨by rfl,by intro w' b;(try dsimp only at b);go_simp⟩) (by assumption) ?_
       simp only[Act.put,aB1,aB5,aB6];refine aCk (rs:=[15]) (by kernel_rfl) (by simp) ?_;refine aCf rfl (λK N=>?_) aCj
       go_simp
       refine N.out _ _ trivial (λaD=>?_);clear N K;refine aC0 (by kernel_rfl) ?_ _;go_wp2_with fail;go_roundw
       case rel=>exact⟨j+1,by omega,by go_num,x,by simp;omega,z⟩
       case measure=>simp[intOf] <;> omega
      | true=>
       simp only[Bool.true_and]at x z;have s0:((W3.drew.setCell ⟨w.heap.size,k*256+j,none⟩ (.bool (!bv)))).cell? ⟨P,2305+j,none⟩=some (.bool bv):=by
        rw[aB8 _ _ _ _ (λe=>by have:=congrArg Addr.block e;simp at this;omega)];exact M
       have s1:((W3.setCell ⟨w.heap.size,k*256+j,none⟩ (.bool (!bv)))).cell? ⟨P,2305+j,none⟩=some (.bool bv):=by
        rw[aB8 _ _ _ _ (λe=>by have:=congrArg Addr.block e;simp at this;omega)];exact M
       go_wp2_with fail
       go_region_held3 (λw'=>w'.cell? ⟨P,2305+j,none⟩=some (.bool bv)) (first | go_keep | exact s0 | exact s1) (fail)
       go_wp2_with fail;go_roundw
       case rel=>exact⟨j+1,by omega,by go_num,x,by simp;omega,z⟩
       case measure=>simp[intOf] <;> omega
     ·obtain rfl:j=256:=by omega
      go_wp2_with fail;go_roundw
      case rel=>exact⟨k+1,by omega,by go_num,by rw[show (k+1)*256=k*256+256 by omega];exact q,LK,m⟩
      case measure=>simp[intOf] <;> omega
  ·obtain rfl:k=n:=by omega
   have HG:=hid (q.out.congr (f':=ng st f aJ) (λj C=>by unfold upTo;rw[aC2 C]));go_wp2_with fail;go_ret;exact⟨_,rfl,aB2 _,H,HG.out,m.out⟩
def Goes(E:Nat->Nat->Prop):List Nat->Nat->Prop
 | [],_=>True
 | a::l,e=>E a (l.headD e)/\Goes E l e
theorem uA(l m:List Nat)(e:Nat):(l++m).headD e=l.headD (m.headD e):=by cases l <;> rfl
theorem Aa{E:Nat->Nat->Prop}:∀ {l m:List Nat} {e:Nat},Goes E l (m.headD e)->Goes E m e->Goes E (l++m) e
 | [],m,e,_,h=>h
 | a::l,m,e,⟨h1,h2⟩,h=>⟨by show E a ((l++m).headD e);rw[uA];exact h1,Aa h2 h⟩
theorem acS{E:Nat->Nat->Prop}{l:List Nat}{a b:Nat}(h:Goes E l a)(he:E a b):Goes E (l++[a]) b:=Aa (m:=[a]) h ⟨he,trivial⟩
theorem Oc{E:Nat->Nat->Prop}:∀ {l:List Nat} {e:Nat},Goes E l e->∀ i (hi:i<l.length),E l[i] (if h:i+1<l.length then l[i+1] else e)
 | [],e,_,i,hi=>by simp at hi
 | a::l,e,⟨h1,h2⟩,i,hi=>by
  cases i with
  | zero=>
   cases l with
   | nil=>simpa using h1
   | cons b l=>simpa using h1
  | succ i=>
   have:=Oc h2 i (by simpa using hi);simpa using this
def Toward(E:Nat->Nat->Prop)(a b:Nat):Prop:=a=b\/reach E a b
theorem uR{E:Nat->Nat->Prop}{a b c:Nat}(h:Toward E a b)(k:Toward E b c):Toward E a c:=by
 rcases h with rfl | h
 ·exact k
 ·rcases k with rfl | k
  ·exact aCb h
  ·exact aCb (eu h k)
theorem FJ{E:Nat->Nat->Prop}{a b c:Nat}(h:Toward E a b)(k:reach E b c):reach E a c:=by
 rcases h with rfl | h
 ·exact k
 ·exact eu h k
theorem FY{E:Nat->Nat->Prop}{a b c:Nat}(h:reach E a b)(k:Toward E b c):reach E a c:=by
 rcases k with rfl | k
 ·exact h
 ·exact eu h k
theorem Mk{E:Nat->Nat->Prop}:∀ {l:List Nat} {e:Nat},Goes E l e->Toward E (l.headD e) e/\∀ x∈l,reach E x e
 | [],e,_=>⟨aCa rfl,λx hx=>by simp at hx⟩
 | a::l,e,⟨h1,h2⟩=>by
  obtain⟨k1,k2⟩:=Mk h2;have:reach E a e:=FY (lU h1) k1;exact⟨aCb this,λx hx=>by
   rcases List.mem_cons.1 hx with rfl | hx
   ·exact this
   ·exact k2 x hx⟩
structure C9 (E:Nat->Nat->Prop) (cs:List (Nat->Bool)) (k a b:Nat):Prop where
 go:if k=0 then a=b else reach E a b
 met:∀ c,c∈cs.take k->∃ i,reach E a i/\c i=true/\Toward E i b
theorem Su(E:Nat->Nat->Prop)(cs:List (Nat->Bool))(a:Nat):C9 E cs 0 a a:=⟨rfl,λc hc=>by simp at hc⟩
theorem WN{E:Nat->Nat->Prop}{cs:List (Nat->Bool)}{k a b b':Nat}(h:C9 E cs k a b)(hr:reach E b b')(hc:∀ c,cs[k]?=some c->c b'=true):C9 E cs (k+1) a b':=by
 have f:Toward E a b:=by
  have:=h.go;by_cases e:k=0
  ·rw[aC2 e]at this;exact aCa this
  ·rw[aC1 e]at this;exact aCb this
 refine⟨by rw[aC1 (by omega)];exact FJ f hr,λc d=>?_⟩;rw[List.take_add_one]at d;rcases aCG.1 d with d | d
 ·obtain⟨i,g,j,l⟩:=h.met c d;exact⟨i,g,j,uR l (aCb hr)⟩
 ·cases e:cs[k]? with
  | none=>rw[e]at d;simp at d
  | some c'=>
   rw[e]at d;simp at d;subst d;exact⟨b',FJ f hr,hc _ e,aCa rfl⟩
structure Jc (E:Nat->Nat->Prop) (cs:List (Nat->Bool)) (last:Nat->Bool) (from_:Nat) (seen:Nat->Bool) (at_:Nat):Prop where
 last:last at_=true
 go:Toward E from_ at_
 old:∀ x,seen x=true->∃ y,reach E x y/\(∀ c∈cs,∃ i,reach E x i/\c i=true/\Toward E i y)/\Toward E y at_
theorem Wx{E:Nat->Nat->Prop}(cs:List (Nat->Bool)){last:Nat->Bool}{a:Nat}(h:last a=true):Jc E cs last a (λ_=>false) a:=⟨h,aCa rfl,λx hx=>by cases hx⟩
theorem YZ{E:Nat->Nat->Prop}{cs:List (Nat->Bool)}{last seen:Nat->Bool}{f a b k:Nat}(h:Jc E cs last f seen a)(hr:C9 E cs k a b)(hk:0<k)(hkc:cs.length<=k)(hb:last b=true):Jc E cs last f (upd seen a true) b:=by
 have d:=hr.go;rw[aC1 (by omega)]at d;refine⟨hb,uR h.go (aCb d),λx g=>?_⟩;by_cases e:x=a
 ·subst e;refine⟨b,d,λc i=>hr.met c ?_,aCa rfl⟩;rw[List.take_of_length_le hkc];exact i
 ·unfold upd at g;rw[aC1 e]at g;obtain⟨y,j,l,m⟩:=h.old x g;exact⟨y,j,l,uR m (aCb d)⟩
structure RA (E:Nat->Nat->Prop) (cs:List (Nat->Bool)) (last:Nat->Bool) (f a:Nat):Prop where
 last:last a=true
 go:Toward E f a
 ring:reach E a a
 met:∀ c∈cs,∃ i,reach E a i/\c i=true/\reach E i a
theorem aaS{E:Nat->Nat->Prop}{cs:List (Nat->Bool)}{last seen:Nat->Bool}{f a:Nat}(h:Jc E cs last f seen a)(hs:seen a=true):RA E cs last f a:=by
 obtain⟨y,e,g,b⟩:=h.old a hs;have d:reach E a a:=FY e b;refine⟨h.last,h.go,d,λc j=>?_⟩;obtain⟨i,l,m,n⟩:=g c j;refine⟨i,l,m,?_⟩;rcases uR n b with rfl | k
 ·exact d
 ·exact k
structure Bw (E:Nat->Nat->Prop) (cs:List (Nat->Bool)) (kC k:Nat) (ps:List Nat) (at_:Nat):Prop where
 go:Goes E ps at_
 head:ps.headD at_=kC
 home:reach E at_ kC
 met:∀ c∈cs.take k,c at_=true\/∃ p∈ps,c p=true
theorem WX{E:Nat->Nat->Prop}{cs:List (Nat->Bool)}{kC:Nat}(h:reach E kC kC):Bw E cs kC 0 [] kC:=⟨trivial,rfl,h,λc hc=>by simp at hc⟩
theorem LD{E:Nat->Nat->Prop}{cs:List (Nat->Bool)}{kC k at_:Nat}{ps:List Nat}(h:Bw E cs kC k ps at_){c:Nat->Bool}(hc:cs[k]?=some c)(hm:c at_=true\/∃ p∈ps,c p=true):Bw E cs kC (k+1) ps at_:=by
 refine⟨h.go,h.head,h.home,λd a=>?_⟩;rw[List.take_add_one,hc]at a;rcases aCG.1 a with a | a
 ·exact h.met d a
 ·simp at a;subst a;exact hm
theorem ZO{E:Nat->Nat->Prop}{cs:List (Nat->Bool)}{kC k at_ b:Nat}{ps qs:List Nat}(h:Bw E cs kC k ps at_){c:Nat->Bool}(hc:cs[k]?=some c)(hq:qs≠[])(hh:qs.headD b=at_)(hg:Goes E qs b)(hb:reach E b kC)(hcb:c b=true):Bw E cs kC (k+1) (ps++qs) b:=by
 refine⟨Aa (by rw[hh];exact h.go) hg,by rw[uA,hh];exact h.head,hb,λd a=>?_⟩;have e:at_∈qs:=by
  cases qs with
  | nil=>exact absurd rfl hq
  | cons x l=>simp at hh;subst hh;simp
 rw[List.take_add_one,hc]at a;rcases aCG.1 a with a | a
 ·rcases h.met d a with h1 | ⟨p,h1,h2⟩
  ·exact aCb ⟨at_,List.mem_append_right _ e,h1⟩
  ·exact aCb ⟨p,List.mem_append_left _ h1,h2⟩
 ·simp at a;subst a;exact aCa hcb
structure MW (E:Nat->Nat->Prop) (cs:List (Nat->Bool)) (kC:Nat) (ps:List Nat):Prop where
 ne:ps≠[]
 head:ps.headD 0=kC
 go:Goes E ps kC
 met:∀ c∈cs,∃ p∈ps,c p=true
theorem abW{E:Nat->Nat->Prop}{cs:List (Nat->Bool)}{kC k at_:Nat}{ps qs:List Nat}(h:Bw E cs kC k ps at_)(hk:cs.length<=k)(hq:qs≠[])(hh:qs.headD kC=at_)(hg:Goes E qs kC):MW E cs kC (ps++qs):=by
 have b:at_∈qs:=by
  cases qs with
  | nil=>exact absurd rfl hq
  | cons x l=>simp at hh;subst hh;simp
 refine⟨by simp[hq],?_,Aa (by rw[hh];exact h.go) hg,λc d=>?_⟩
 ·have e:∀ l:List Nat,l≠[]->∀ x y,l.headD x=l.headD y:=λl f x y=>by cases l with
   | nil=>exact absurd rfl f
   | cons a l=>rfl
  rw[e _ (by simp[hq]) 0 kC,uA,hh];exact h.head
 ·rcases h.met c (by rw[List.take_of_length_le hk];exact d) with h1 | ⟨p,h1,h2⟩
  ·exact⟨at_,List.mem_append_right _ b,h1⟩
  ·exact⟨p,List.mem_append_left _ h1,h2⟩
def rowAt(A B:List Nat)(i:Nat):Nat:=if i<A.length then A.getD i 0 else B.getD ((i - A.length) % B.length) 0
theorem Li{E:Nat->Nat->Prop}{cs:List (Nat->Bool)}{A B:List Nat}{kC:Nat}(hA:Goes E A kC)(hB:MW E cs kC B):Path E (rowAt A B)/\xq (KL cs) cs.length (rowAt A B):=by
 have d:0<B.length:=List.length_pos_iff.2 hB.ne;have g:B.getD 0 0=kC:=by
  have:=hB.head;cases B with
  | nil=>simp at d
  | cons b l=>simpa using this
 have i:=Oc hA;have m:=Oc hB.go;have f:∀ j,j<B.length->E (B.getD j 0) (B.getD ((j+1) % B.length) 0):=λj c=>by
  have a:=m j c;rw[show B.getD j 0=B[j] by simp[List.getD,aB3 c]];by_cases e:j+1<B.length
  ·rw[dif_pos e]at a;rw[Nat.mod_eq_of_lt e,show B.getD (j+1) 0=B[j+1] by simp[List.getD,aB3 e]];exact a
  ·rw[dif_neg e]at a;rw[show j+1=B.length by omega,Nat.mod_self,g];exact a
 constructor
 ·intro t;unfold rowAt;by_cases c1:t<A.length
  ·rw[aC2 c1];have a:=i t c1;rw[show A.getD t 0=A[t] by simp[List.getD,aB3 c1]];by_cases c2:t+1<A.length
   ·rw[dif_pos c2]at a;rw[aC2 c2,show A.getD (t+1) 0=A[t+1] by simp[List.getD,aB3 c2]];exact a
   ·rw[dif_neg c2]at a;rw[aC1 c2,show t+1 - A.length=0 by omega,Nat.zero_mod,g];exact a
  ·rw[aC1 c1,aC1 (by omega),show t+1 - A.length=(t - A.length)+1 by omega];have a:=f ((t - A.length) % B.length) (Nat.mod_lt _ d);rw[show ((t - A.length) % B.length+1) % B.length=(t - A.length+1) % B.length by rw[Nat.mod_add_mod]]at a;exact a
 ·intro k h t;obtain⟨p,a,n⟩:=hB.met cs[k] (List.getElem_mem h);obtain⟨j,c,e⟩:=aCK a;refine⟨A.length+t*B.length+j,?_,cs[k],aB3 h,?_⟩
  ·have:t*1<=t*B.length:=Nat.mul_le_mul_left t d;omega
  ·unfold rowAt;rw[aC1 (by omega),show A.length+t*B.length+j - A.length=j+B.length*t by rw[Nat.mul_comm];omega,Nat.add_mul_mod_self_left,Nat.mod_eq_of_lt c];rw[show B.getD j 0=p by simp[List.getD,aB3 c,e]];exact n
theorem ZV{E:Nat->Nat->Prop}{cs:List (Nat->Bool)}{c:Nat->Bool}(hc:c∈cs){x:Nat}(h:iQ E cs x):fO E (λy=>iQ E cs y/\c y=true) x:=by
 obtain⟨q,rfl,a,b⟩:=h;obtain⟨t,f,e⟩:=qN b c hc 1;obtain⟨d,rfl⟩:∃ d,t=0+d+1:=⟨t - 1,by omega⟩;exact⟨_,uQ a 0 d,Ab a b _,e⟩
theorem NT{E:Nat->Nat->Prop}{cs:List (Nat->Bool)}{x:Nat}(h:iQ E cs x):fO E (λy=>iQ E cs y) x:=by
 obtain⟨q,rfl,a,b⟩:=h;exact⟨_,uQ a 0 0,Ab a b _⟩
def RH(n:Nat)(ed:Nat->Nat->Bool)(st:Nat->Bool)(q:Nat->Nat):Prop:=st (q 0)=true/\∀ t,q t<n/\ed (q t) (q (t+1))=true
def rP(ns:List Nd)(n:Nat)(lt:Nat->Nat)(ed:Nat->Nat->Bool)(st:Nat->Bool):Prop:=∀ q,RH n ed st q->d9 (λi=>i+1) (λt=>lt (q t)) ns (ns.length - 1) 0
section
variable {ns:List Nd} {aa:Nat->Bool} {n:Nat} {lt:Nat->Nat} {ed:Nat->Nat->Bool} {st f:Nat->Bool} {tl:Nat->List (Nat × Nat)}
theorem Y6(hg:Good ns)(hl:jf ns (aW ns ns.length) aa)(hn:n<=6)(hlt:∀ i,i<n->lt i<8)(hA:yF lt ed n 0 tl){q:Nat->Nat}(hq:Path (Ew n ns tl) q)(hm:xq (KL (spreads (aW ns ns.length))) (spreads (aW ns ns.length)).length q) :
  (∀ t,q t / 256<n/\ed (q t / 256) (q (t+1) / 256)=true)/\aa (q 0 % 256)=true/\((q 0 % 256).testBit (ns.length - 1)=true↔d9 (λi=>i+1) (λt=>lt (q t / 256)) ns (ns.length - 1) 0):=by
 have r:=hg.le;have m:=hg.pos;have b:∀ t,q t / 256<n/\ed (q t / 256) (q (t+1) / 256)=true/\q t % 256=gF ns (lt (q t / 256)) (q (t+1) % 256):=λt=>by
  obtain⟨_,i,d,f,j⟩:=(aaw hA hn).1 (hq t);have x:=vR r (lt i) (q (t+1) % 256);have s:q t / 256=i:=by rw[j];omega
  have u:q t % 256=gF ns (lt i) (q (t+1) % 256):=by rw[j];omega
  rw[s,u];exact⟨d,f,rfl⟩
 have v:wh ns (q 0 % 256):=by
  refine⟨λt=>q t % 256,rfl,λt=>Ad.2 ⟨Nat.mod_lt _ (by omega),lt (q t / 256),hlt _ (b t).1,(b t).2.2⟩,qM λc o t=>?_⟩;obtain⟨e,d,f⟩:=qN hm c o t;refine⟨e,d,?_⟩;obtain⟨k,_,_,rfl⟩:=ma.1 o;unfold spread at f ⊢;rw[Nat.mod_mod];exact f
 have row:yf ns (λt=>lt (q t / 256)) (λt=>tb (q t % 256)):=by
  refine⟨λt=>?_,λk l a t=>?_⟩
  ·have:=kH hg (lt (q t / 256)) (q (t+1) % 256);rw[<-(b t).2.2]at this;exact this
  ·obtain⟨d,f,j⟩:=nR hg.wf a;have g:au ns k=l:=by have:=l9 (ns:=ns) d;rw[a]at this;exact(Option.some.inj this).symm
   cases hww:mo l.op with
   | false=>exact⟨t,aB2 _,Gg hww⟩
   | true=>
    obtain⟨e,w,p⟩:=qN hm _ (ma.2 ⟨k,d,by rw[g];exact hww,rfl⟩) t;refine⟨e,w,?_⟩;have h:=kH hg (lt (q e / 256)) (q (e+1) % 256) k l a;rw[<-(b e).2.2]at h;rw[uH h hww];simp only[spread,kR,g]at p;exact p
 refine⟨λt=>⟨(b t).1,(b t).2.1⟩,(hl _).2 v,?_⟩;rw[<-Et hg.wf row _ (by omega)];rfl
theorem Wu{aJ:Nat->Bool}{x:Nat}(h:ng st f aJ x=true):st (x / 256)=true/\f x=true/\aJ (x % 256)=false:=by
 unfold ng at h;simp only[aCH,Bool.not_eq_true']at h;exact⟨h.1,h.2.1,h.2.2⟩
theorem ZK(hg:Good ns)(hl:jf ns (aW ns ns.length) aa)(hn:n<=6)(hlt:∀ i,i<n->lt i<8)(hA:yF lt ed n 0 tl)(hf:∀ x,f x=true↔iQ (Ew n ns tl) (spreads (aW ns ns.length)) x)(hno:∀ x,x<n*256->ng st f (aL ns aa) x=false):rP ns n lt ed st:=by
 intro q d;have u:=hg.le;have p:=hg.pos;apply aCx;intro v;have H:fu (λt=>lt (q t)):=λt=>hlt _ (d.2 t).1;obtain⟨S,w,l⟩:=pq hg.wf (λt=>lt (q t));have m:∀ t,dM (S t) ns.length<256:=λt=>uG _ _ u;have y:f (q 0*256+dM (S 0) ns.length)=true:=by
  rw[hf];refine⟨λt=>q t*256+dM (S t) ns.length,rfl,λt=>?_,qM λc z t=>?_⟩
  ·have A:=m (t+1);have B:(q (t+1)*256+dM (S (t+1)) ns.length) / 256=q (t+1):=by omega
   have o:(q (t+1)*256+dM (S (t+1)) ns.length) % 256=dM (S (t+1)) ns.length:=by omega
   have I:=(d.2 (t+1)).1;refine(aaw hA hn).2 ⟨by show q (t+1)*256+dM (S (t+1)) ns.length<n*256;omega,q t,(d.2 t).1,by rw[B];exact(d.2 t).2,?_⟩;rw[o,Ah hg (l.step t) (jA hg _)]
  ·obtain⟨k,r,C,rfl⟩:=ma.1 z;have b:=l9 (ns:=ns) r;obtain⟨_,J,K⟩:=nR hg.wf b;obtain⟨a,D,s⟩:=l.kept k _ b t;refine⟨a,D,?_⟩;rw[uH (l.step a k _ b) C]at s;have g:=jA hg (S a) k r;have E:iV (au ns k)<ns.length:=by unfold iV;split <;> omega
   have h:=jA hg (S a) _ E;have A:=m a;have o:(q a*256+dM (S a) ns.length) % 256=dM (S a) ns.length:=by omega
   simp only[tb]at g h;simp only[spread,kR,o,g,h];exact s
 have L:=m 0;have F:=(d.2 0).1;have j:=hno (q 0*256+dM (S 0) ns.length) (by omega);unfold ng at j;rw[show (q 0*256+dM (S 0) ns.length) / 256=q 0 by omega,show (q 0*256+dM (S 0) ns.length) % 256=dM (S 0) ns.length by omega,d.1,y]at j;have G:aL ns aa (dM (S 0) ns.length)=false:=by
  unfold aL;have g:(dM (S 0) ns.length).testBit (ns.length - 1)=S 0 (ns.length - 1):=jA hg (S 0) (ns.length - 1) (by omega);have h:S 0 (ns.length - 1)=false:=by
   cases e:S 0 (ns.length - 1) with
   | false=>rfl
   | true=>exact absurd ((w 0 (ns.length - 1)).1 e) v
  rw[g,h];simp
 rw[G]at j;simp at j
structure sS (ns:List Nd) (n:Nat) (lt:Nat->Nat) (ed:Nat->Nat->Bool) (st:Nat->Bool) (SA SB:List Nat):Prop where
 ne:SB≠[]
 lt_:∀ p∈SA++SB,p<n
 begins:st ((SA++SB).headD 0)=true
 go:Goes (λa b=>ed a b=true) (SA++SB) (SB.headD 0)
 akI:¬ d9 (λi=>i+1) (sD (SA.map lt) (SB.map lt)) ns (ns.length - 1) 0
 len:SA.length+SB.length<=20000
theorem UN{E F:Nat->Nat->Prop}{g:Nat->Nat}(h:∀ a b,E a b->F (g a) (g b)):∀ {l:List Nat} {e:Nat},Goes E l e->Goes F (l.map g) (g e)
 | [],e,_=>trivial
 | a::l,e,⟨h1,h2⟩=>by
  refine⟨?_,UN h h2⟩;have:=h _ _ h1;cases l with
  | nil=>exact this
  | cons b l=>exact this
theorem ZB(hg:Good ns)(hl:jf ns (aW ns ns.length) aa)(hn:n<=6)(hlt:∀ i,i<n->lt i<8)(hA:yF lt ed n 0 tl){A B:List Nat}{t:Nat}(hG:Goes (Ew n ns tl) A t)(hP:MW (Ew n ns tl) (spreads (aW ns ns.length)) t B)(hw:ng st f (aL ns aa) ((A++B).headD 0)=true)(hlen:A.length+B.length<=20000)(zT:∀ p∈A++B,p<n*256) :
  sS ns n lt ed st (A.map (· / 256)) (B.map (· / 256)):=by
 have d:0<B.length:=List.length_pos_iff.2 hP.ne;obtain⟨r,s⟩:=Li hG hP;obtain⟨D,m,u⟩:=Y6 hg hl hn hlt hA r s;obtain⟨v,E,e⟩:=Wu hw;have o:rowAt A B 0=(A++B).headD 0:=by
  unfold rowAt;cases A with
  | nil=>
   simp;cases B with
   | nil=>simp at d
   | cons b B=>simp
  | cons a A=>simp
 have w:∀ a b,Ew n ns tl a b->ed (a / 256) (b / 256)=true:=λa b h=>by
  obtain⟨_,i,F,y,z⟩:=(aaw hA hn).1 h;have G:=vR hg.le (lt i) (b % 256);rw[z,show (i*256+gF ns (lt i) (b % 256)) / 256=i by omega];exact y
 have j:B.headD 0=t:=hP.head;have C:(B.map (· / 256)).headD 0=t / 256:=by
  cases B with
  | nil=>simp at d
  | cons b B=>simp at j ⊢;rw[j]
 refine⟨by simpa using hP.ne,λp q=>?_,?_,?_,?_,by simpa using hlen⟩
 ·rw[<-aCM]at q;obtain⟨x,k,rfl⟩:=aCU.1 q;have:=zT x k;omega
 ·rw[<-aCM];have:((A++B).map (· / 256)).headD 0=(A++B).headD 0 / 256:=by
   cases hAB:A++B with
   | nil=>rfl
   | cons a l=>rfl
  rw[this];exact v
 ·rw[<-aCM,C];exact UN (g:=(· / 256)) w (Aa (by rw[show B.headD t=t by cases B with | nil=>simp at d | cons b B=>simpa using j];exact hG) hP.go)
 ·have k:sD ((A.map (· / 256)).map lt) ((B.map (· / 256)).map lt)=λi=>lt (rowAt A B i / 256):=by
   funext i;unfold sD rowAt;simp only[aCO];by_cases c:i<A.length
   ·rw[aC2 c,aC2 c];simp[List.getD,aB3 c]
   ·rw[aC1 c,aC1 c];have c2:(i - A.length) % B.length<B.length:=Nat.mod_lt _ d;simp[List.getD,aB3 c2]
  rw[k,<-u];rw[o];rw[o]at m;unfold aL at e;rw[m,Bool.true_and]at e;rw[e];simp
end
theorem Qn{E:Nat->Nat->Prop}:∀ {l:List Nat} {e:Nat},Goes E l e->∀ i,i<l.length->E (l.getD i 0) (if i+1<l.length then l.getD (i+1) 0 else e)
 | [],e,_,i,hi=>by simp at hi
 | a::l,e,⟨h1,h2⟩,0,hi=>by
  cases l with
  | nil=>simpa using h1
  | cons b l=>simpa using h1
 | a::l,e,⟨h1,h2⟩,i+1,hi=>by
  have h:=Qn h2 i (by simpa using hi);simpa using h
section
variable {ns:List Nd} {n:Nat} {lt:Nat->Nat} {ed:Nat->Nat->Bool} {st:Nat->Bool} {SA SB:List Nat}
theorem aba(h:sS ns n lt ed st SA SB)(i:Nat)(hi:i<(SA++SB).length):ed ((SA++SB).getD i 0) (if i+1<(SA++SB).length then (SA++SB).getD (i+1) 0 else SB.headD 0)=true:=Qn h.go i hi
theorem aiX(h:sS ns n lt ed st SA SB)(i:Nat)(hi:i<(SA++SB).length):(SA++SB).getD i 0<n:=by
 refine h.lt_ _ ?_;rw[List.getD,aB3 hi];exact List.getElem_mem _
theorem JY(h:sS ns n lt ed st SA SB):0<SB.length:=List.length_pos_iff.2 h.ne
theorem aeP(hg:Good ns)(h:sS ns n lt ed st SA SB)(hlt:∀ i,i<n->lt i<8):pW SA.length ns ((SA++SB).map lt)=false:=by
 have c:∀ x∈SA.map lt++SB.map lt,x<8:=λx a=>by
  rw[<-aCM]at a;obtain⟨p,d,rfl⟩:=aCU.1 a;exact hlt p (h.lt_ p d)
 have b:=Z0 (A:=SA.map lt) (B:=SB.map lt) hg (by simpa using JY h) c;rw[aCO,<-aCM]at b;cases e:pW SA.length ns ((SA++SB).map lt) with
 | false=>rfl
 | true=>exact absurd (b.1 e) h.akI
theorem aeO(h:sS ns n lt ed st SA SB):gm n ((SA++SB).map λ(p:Nat)=>(p:Int))=true:=qL.2 λz hz=>by
 obtain⟨p,hp,rfl⟩:=aCU.1 hz;have:=h.lt_ p hp;exact⟨by omega,by omega⟩
end
theorem Zb{ns:List Nd}{n:Nat}{lt:Nat->Nat}{ed:Nat->Nat->Bool}{ss:List Int}{SA SB:List Nat}(h:sS ns n lt ed (wB ss) SA SB):∃ j,j<ss.length/\ss.getD j 0=(((SA++SB).getD 0 0:Nat):Int):=by
 have b:=zm.1 h.begins;obtain⟨j,a,e⟩:=aCK b;refine⟨j,a,?_⟩;rw[List.getD,aB3 a];simp only[Option.getD_some];rw[e];congr 1;cases (SA++SB) <;> rfl
section
variable (ns:List Nd) (vs:List Nat) (lt:Nat->Nat) (ed:Nat->Nat->Bool)
def MG(k i y:Nat):List Nat:=if iR ns (aX vs i) (lt k)=true/\ed k y=true then (toS ns vs i).map (λj=>y*vs.length+j) else []
def pE(k i Y:Nat):List Nat:=(List.range Y).flatMap (MG ns vs lt ed k i)
def uE(n q:Nat):List Nat:=pE ns vs lt ed (q / vs.length) (q % vs.length) n
def agG(k a k':Nat):Prop:=a=lt k/\ed k k'=true
theorem Bp(k i Y:Nat):pE ns vs lt ed k i (Y+1)=pE ns vs lt ed k i Y++MG ns vs lt ed k i Y:=by simp[pE,aCT]
theorem Ht{k i:Nat}(n:Nat)(hi:i<vs.length):uE ns vs lt ed n (k*vs.length+i)=pE ns vs lt ed k i n:=by unfold uE;rw[F9 hi,uV hi]
theorem Vn{k i y:Nat}(h:¬ (iR ns (aX vs i) (lt k)=true/\ed k y=true)):MG ns vs lt ed k i y=[]:=aC1 h
theorem Ov{k i y:Nat}(h:iR ns (aX vs i) (lt k)=true/\ed k y=true):MG ns vs lt ed k i y=(toS ns vs i).map (λj=>y*vs.length+j):=aC2 h
theorem QD{k i:Nat}(h:iR ns (aX vs i) (lt k)=false):∀ Y,pE ns vs lt ed k i Y=[]
 | 0=>rfl
 | Y+1=>by rw[Bp,QD h Y,Vn ns vs lt ed (λc=>by rw[h]at c;exact absurd c.1 (by simp))];rfl
theorem aj7(k i y:Nat):(MG ns vs lt ed k i y).length<=vs.length:=by
 unfold MG
 split
 ·rw[aCO];exact zf ns vs i
 ·simp
theorem Af(k i:Nat):∀ Y,(pE ns vs lt ed k i Y).length<=Y*vs.length
 | 0=>by simp[pE]
 | Y+1=>by
  rw[Bp,aCd,Nat.succ_mul];have h1:=Af k i Y;have h2:=aj7 ns vs lt ed k i Y;omega
theorem adp(k i y b:Nat):(MG ns vs lt ed k i y).count b<=1:=by
 unfold MG
 split
 ·refine Jq ?_ b;rw[List.nodup_iff_pairwise_ne,List.pairwise_map];exact(List.nodup_iff_pairwise_ne.1 (Pe ns vs i)).imp λa e=>a (by omega)
 ·simp
theorem ME(k i b:Nat):∀ Y,(pE ns vs lt ed k i Y).count b<=Y
 | 0=>by simp[pE]
 | Y+1=>by
  rw[Bp,List.count_append];have h1:=ME k i b Y;have h2:=adp ns vs lt ed k i Y b;omega
theorem agF(k i b:Nat):∀ Y,b∈pE ns vs lt ed k i Y↔∃ y,y<Y/\b∈MG ns vs lt ed k i y:=λY=>by
 unfold pE;rw[List.mem_flatMap];simp
theorem Yp{n:Nat}(hlt:∀ i,i<n->lt i<8):MR ns vs n (agG lt ed) (uE ns vs lt ed n) (nz ns vs):=by
 refine⟨λk i g e b=>?_,λp k i r g e=>?_⟩
 ·rw[Ht ns vs lt ed n e,agF];constructor
  ·rintro ⟨y,h,d⟩;by_cases c:iR ns (aX vs i) (lt k)=true/\ed k y=true
   ·rw[Ov ns vs lt ed c]at d;obtain⟨j,f,rfl⟩:=aCU.1 d;exact⟨lt k,y,j,hlt k g,h,⟨rfl,c.2⟩,oM.1 c.1,f,rfl⟩
   ·rw[Vn ns vs lt ed c]at d;simp at d
  ·rintro ⟨a,l,j,s,m,⟨rfl,o⟩,q,f,rfl⟩;refine⟨l,m,?_⟩;rw[Ov ns vs lt ed ⟨oM.2 q,o⟩];exact aCU.2 ⟨j,f,rfl⟩
 ·unfold nz;rw[uV e]
theorem agD{n:Nat}(hlt:∀ i,i<n->lt i<8){st:Nat->Bool}(hd:Bool) :
  (∃ k,k<n/\st k=true/\∃ x sp,fu x/\sp 0=k/\MvP n (agG lt ed) x sp/\(d9 (λi=>i+1) x ns (ns.length - 1) 0↔hd=true))↔∃ q,RH n ed st q/\(d9 (λi=>i+1) (λt=>lt (q t)) ns (ns.length - 1) 0↔hd=true):=by
 constructor
 ·rintro ⟨k,g,b,x,sp,h,e,c,d⟩;have f:x=λt=>lt (sp t):=by funext t;exact(c t).2.1
  refine⟨sp,⟨by rw[e];exact b,λt=>⟨(c t).1,(c t).2.2⟩⟩,?_⟩;rw[<-f];exact d
 ·rintro ⟨q,⟨b,a⟩,d⟩;exact⟨q 0,(a 0).1,b,λt=>lt (q t),q,λt=>hlt _ (a t).1,rfl,λt=>⟨(a t).1,rfl,(a t).2⟩,d⟩
end
theorem agE{ns:List Nd}(hg:Good ns){vs:List Nat}(hL:gB ns vs.length (aX vs)){n:Nat}{lt:Nat->Nat}{ed:Nat->Nat->Bool}{st:Nat->Bool}(hlt:∀ i,i<n->lt i<8){good:Nat->Bool}(nZ:∀ x,good x=true↔∃ c,c<n*vs.length/\reach (Ed (n*vs.length) (uE ns vs lt ed n)) x c/\GN (n*vs.length) (uE ns vs lt ed n) ns.length (nz ns vs) c) :
  (∃ k,k<n/\st k=true/\∃ i,i<vs.length/\aX vs i (ns.length - 1)=false/\good (k*vs.length+i)=true)↔¬ rP ns n lt ed st:=by
 have e:=Yp ns vs lt ed hlt;have f:(∃ k,k<n/\st k=true/\∃ i,i<vs.length/\aX vs i (ns.length - 1)=false/\good (k*vs.length+i)=true)↔∃ k,k<n/\st k=true/\∃ x sp,fu x/\sp 0=k/\MvP n (agG lt ed) x sp/\(d9 (λi=>i+1) x ns (ns.length - 1) 0↔false=true):=by
  constructor
  ·rintro ⟨k,a,d,h⟩;exact⟨k,a,d,(DR hg hL e nZ a false).1 h⟩
  ·rintro ⟨k,a,d,h⟩;exact⟨k,a,d,(DR hg hL e nZ a false).2 h⟩
 rw[f,agD ns lt ed hlt false];constructor
 ·rintro ⟨q,b,g⟩ j;exact absurd (g.1 (j q b)) (by simp)
 ·intro h;have:∃ q,RH n ed st q/\¬ d9 (λi=>i+1) (λt=>lt (q t)) ns (ns.length - 1) 0:=aCx λc=>h λq b=>aCx λc2=>c ⟨q,b,c2⟩;obtain⟨q,b,l⟩:=this;exact⟨q,b,λh=>absurd h l,λh=>by cases h⟩
