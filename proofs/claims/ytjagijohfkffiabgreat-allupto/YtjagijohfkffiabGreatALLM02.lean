import Derived.Test.YtjagijohfkffiabGreatALLM01
set_option maxHeartbeats 16000000
set_option maxRecDepth 100000
set_option linter.unusedSimpArgs false
namespace Go.Proofs.YtjagijohfkffiabGreat
open Go.RowKit
set_option linter.unusedVariables false
structure Lists (w:World) (ao:Option Addr) (len cap:Nat) (aj:List (List Int)):Prop where
 hlen:aj.length=len
 hcap:len<=cap
 hmax:cap<=9223372036854775807
 hnil:ao=none->len=0/\cap=0
 hcell:0<len->∃ b off,ao=some ⟨b,off,none⟩/\b<w.heap.size/\∀ i,i<len->∃ a l c,w.cell? ⟨b,off+i,none⟩=some (.slice a l c)/\Ints w a l c (aj.getD i [])
theorem Lists.below{w w':World}{ao:Option Addr}{len cap:Nat}{aj:List (List Int)}(h:Lists w ao len cap aj)(hb:Below w.heap.size w w'):Lists w' ao len cap aj:=by
 refine⟨h.hlen,h.hcap,h.hmax,h.hnil,λg=>?_⟩;obtain⟨b,d,e,f,j⟩:=h.hcell g;refine⟨b,d,e,aCq f hb.size,λi k=>?_⟩;obtain⟨a,l,c,m,n⟩:=j i k;exact⟨a,l,c,by rw[hb.cell (p:=⟨b,d+i,none⟩) f];exact m,n.below hb⟩
theorem Tryz.PX:(Tryz.prog.info? 119).map (λi=>(i.zero,i.size,i.bytes))=some (some (.agg #[.int .i64 0,.int .i64 0,.int .i64 0,.int .i64 0,.int .i64 0,.int .i64 0,.int .i64 0,.int .i64 0,.int .i64 0]),9,72):=by kernel_rfl
structure OJ (w:World) (b:Nat) (f:Nat->Int):Prop where
 cell:∀ i,i<9->w.cell? ⟨b,i,none⟩=some (.int .i64 (f i))
 free:∀ i,i<9->w.frozen? ⟨b,i,none⟩=false
theorem OJ.set{w:World}{b:Nat}{f:Nat->Int}(h:OJ w b f){k:Nat}(hk:k<9)(z:Int):OJ (w.setCell ⟨b,k,none⟩ (.int .i64 z)) b (λi=>if i=k then z else f i):=by
 refine⟨λi a=>?_,λi a=>by rw[aCm];exact h.free i a⟩;by_cases e:i=k
 ·subst e;simp only[if_true];exact aCz _ _ _ (h.cell i a)
 ·simp only[aC1 e];rw[aB8 _ _ _ _ (λh=>e (by have:=congrArg Addr.off h;simp at this;omega))];exact h.cell i a
theorem PK(w:World)(a0 a1 a2 a3 a4 a5 a6 a7 a8:Int)(t:TypeId):OJ (w.alloc (.cells #[.int .i64 a0,.int .i64 a1,.int .i64 a2,.int .i64 a3,.int .i64 a4,.int .i64 a5,.int .i64 a6,.int .i64 a7,.int .i64 a8] t)) w.heap.size (λi=>[a0,a1,a2,a3,a4,a5,a6,a7,a8].getD i 0):=by
 refine⟨λi a=>?_,λi a=>by simp⟩;rw[aCY]
 match i,a with
 | 0,_ | 1,_ | 2,_ | 3,_ | 4,_ | 5,_ | 6,_ | 7,_ | 8,_=>rfl
theorem jl(w:World)(xs:List Value)(t:TypeId):∀ j u,xs[j]?=some u->(w.alloc (.cells xs.toArray t)).cell? ((⟨w.heap.size,0,none⟩:Addr).add j)=some u:=by
 intro j u a;rw[uK,aCw,aCY];simpa using a
def Ck(os:List Int)(ls:List (List Int))(w:World)(e:Ending)(w':World):Prop:=
 Below w.heap.size w w' /\
 ((eG os ls=false/\e=.returned (.tuple #[.slice none 0 0,.bool false])) \/
 (eG os ls=true/\∃ g cap,e=.returned (.tuple #[.slice (some ⟨g,0,none⟩) os.length cap,.bool true]) /\
  w'.ownsRow w.heap.size 119 9 (.slice (some ⟨g,0,none⟩) os.length cap) os.length (gu (dQ os ls))))
theorem pg{os:List Int}{ls:List (List Int)}(h:eG os ls=true):ls.length=os.length/\(∀ i,i<ls.length->(ls.getD i []).length=8)/\mM (dQ os ls)=true:=by
 unfold eG at h;simp only[aCH,aCZ,List.all_eq_true]at h;refine⟨h.1.1,λi a=>?_,h.2⟩;have:=h.1.2 ls[i] (List.getElem_mem a);simpa [List.getD,aB3 a] using this
theorem xI{os:List Int}{ls:List (List Int)}(h1:ls.length=os.length)(h2:∀ i,i<ls.length->(ls.getD i []).length=8):eG os ls=mM (dQ os ls)/\ku (dQ os ls):=by
 have a:ls.all (λl=>decide (l.length=8))=true:=by
  rw[List.all_eq_true];intro x c;obtain⟨i,b,rfl⟩:=aCK c;have:=h2 i b;simpa [List.getD,aB3 b] using this
 exact⟨by unfold eG;rw[a];simp[h1],aaD a⟩
theorem uD{os:List Int}{ls:List (List Int)}(h:eG os ls=true->False):eG os ls=false:=by
 cases e:eG os ls with
 | false=>rfl
 | true=>exact(h e).elim
section
variable (a1 a2:Option Addr) (l1 c1 l2 c2:Nat) (os:List Int) (ls:List (List Int)) (w:World)
theorem aeH(h1:Ints w a1 l1 c1 os)(h2:Lists w a2 l2 c2 ls)(h:8<l1):Calls Tryz.prog 105 #[.agg #[.slice a1 l1 c1,.slice a2 l2 c2]] w (Ck os ls w):=by
 have E:Hid (eG os ls=false):=hid (uD λe=>by
  have a:=pg e;have b:=(jw.1 a.2.2).2.1;rw[nQ a.1,h1.hlen]at b;omega)
 have m1:=h1.hmax;have m3:=h1.hcap;go_enter Tryz.func105,Tryz.ntmps105;go_wp2_with fail
 go_ret2
 unfold Ck;exact⟨(aB4 _ _).alloc (aB2 _) _,aCa ⟨E.out,rfl⟩⟩
theorem Wz(h1:Ints w a1 l1 c1 os)(h2:Lists w a2 l2 c2 ls)(h:¬ 8<l1)(hd:¬ l2=l1):Calls Tryz.prog 105 #[.agg #[.slice a1 l1 c1,.slice a2 l2 c2]] w (Ck os ls w):=by
 have E:Hid (eG os ls=false):=hid (uD λe=>by
  have a:=(pg e).1;rw[h1.hlen,h2.hlen]at a;exact hd a)
 have k:((l2:Int) !=(l1:Int))=true:=bne_iff_ne.2 (by omega);have m1:=h1.hmax;have m3:=h1.hcap;have b:=h2.hmax;have m4:=h2.hcap;go_enter Tryz.func105,Tryz.ntmps105;go_wp2_with fail
 go_ret2
 unfold Ck;exact⟨(aB4 _ _).alloc (aB2 _) _,aCa ⟨E.out,rfl⟩⟩
theorem aaW(h1:Ints w a1 l1 c1 os)(h2:Lists w a2 l1 c2 ls)(h:¬ 8<l1):Calls Tryz.prog 105 #[.agg #[.slice a1 l1 c1,.slice a2 l1 c2]] w (Ck os ls w):=by
 have m1:=h1.hcap;have m2:=h2.hcap;have L1:=h1.hlen;have L2:=h2.hlen;have ha1:=h1.hmax;have ha2:=h2.hmax;obtain⟨i0,Z,aT,aP,aO⟩:=info_parts Tryz.PX;go_enter Tryz.func105,Tryz.ntmps105;go_wp2_with fail
 go_loopw [26,5] (λi s wr=>∃ (j:Nat) (M:Option Addr) (cap:Nat),j<=l1/\i=.int .i64 j/\s=.slice M j cap/\Hid (∀ m,m<j->(ls.getD m []).length=8)/\Below w.heap.size w wr /\
   wr.cell? ⟨w.heap.size,0,none⟩=some (.slice a1 l1 c1) /\
   Hid (wr.ownsRow (w.heap.size+1) 119 9 (.slice M j cap) j (gu ((dQ os ls).take j)))) (λi _ _=>l1 - (intOf i).toNat)
 case atStart=>exact⟨0,none,0,aCg _,rfl,rfl,hid (λm B=>by omega),(aB4 _ _).alloc (aB2 _) _,by simp,hid (aCp _ _ _ _)⟩
 case round=>
  obtain⟨j,M,cap,hj,rfl,rfl,P,l,A,q⟩:=hrel;by_cases C:j<l1
  ·obtain⟨b2,o2,rfl,iy,qV⟩:=h2.hcell (by omega);obtain⟨ra,rl,rc,cr,D⟩:=qV j C;have Q:=(l.cell (p:=⟨b2,o2+j,none⟩) iy).trans cr;have G:=D.hlen;have qI:=D.hcap;have afc:=D.hmax;by_cases h8:rl=8
   ·subst h8;obtain⟨N,R,rfl,xW,xH⟩:=D.hcell (by omega);obtain⟨b1,o1,rfl,gN,H⟩:=h1.hcell (by omega);have cO:=(l.cell (p:=⟨b1,o1+j,none⟩) gN).trans (H j C);have HR:Hid (∀ m,m<8->wr.cell? ⟨N,R+m,none⟩=some (.int .i64 ((ls.getD j []).getD m 0))):=hid (λm B=>(l.cell (p:=⟨N,R+m,none⟩) xW).trans (xH m B));have S:N<wr.heap.size:=aCq xW l.size;have HZ:Hid ((dQ os ls).take (j+1)=(dQ os ls).take j++[⟨os.getD j 0,ls.getD j []⟩]):=hid (by
     have hz:=nQ (os:=os) (ls:=ls) (by omega);rw[List.take_succ_eq_append_getElem (by omega),<-KQ (os:=os) (ls:=ls) (by omega) (by omega)];simp[bu,List.getD,aB3 (show j<(dQ os ls).length by omega)])
    have I:=hid G;generalize t:ls.getD j []=row at *;have Fy:=hid t;clear t;generalize os.getD j 0=o at *;clear H qV xH cr D;go_wp2_with fail
    go_loopw [42] (λi wq=>∃ (k:Nat) (f:Nat->Int),k<=8/\i=.int .i64 k/\Below wr.heap.size wr wq/\OJ wq wr.heap.size f/\Hid (f 0=o)/\Hid (∀ m,m<k->f (m+1)=row.getD m 0)) (λi _=>8 - (intOf i).toNat)
    case atStart=>exact⟨0,_,aCg _,rfl,(aB4 _ _).alloc (aB2 _) _,PK wr o 0 0 0 0 0 0 0 0 _,hid rfl,hid (λm B=>by omega)⟩
    case round=>
     obtain⟨k,f,hk,rfl,y,b,z,T⟩:=hrel;by_cases U:k<8
     ·have c:=(y.cell (p:=⟨N,R+k,none⟩) S).trans (HR.out k U);have e1:=b.cell (1+k) (by omega);have J:=b.free (1+k) (by omega);have HN:=hid (b.set (k:=1+k) (by omega) (row.getD k 0));clear b;generalize hx:row.getD k 0=x at *;have HX:=hid hx;clear hx;go_wp2_with fail;go_roundw
      case rel=>
       refine⟨k+1,_,by omega,by go_num,y.setCell (p:=⟨_,1+k,none⟩) (aB2 _) _,HN.out,hid ?_,hid (λm B=>?_)⟩
       ·rw[aC1 (by omega)];exact z.out
       ·by_cases e:m<k
        ·rw[aC1 (by omega)];exact T.out m e
        ·rw[aC2 (by omega),show m=k by omega];exact HX.out.symm
      case measure=>simp[intOf];omega
     ·have P7:k=8:=by omega
      subst P7;have e0:=b.cell 0 (by decide);have e1:=b.cell 1 (by decide);have J:=b.cell 2 (by decide);have e3:=b.cell 3 (by decide);have e4:=b.cell 4 (by decide);have e5:=b.cell 5 (by decide);have e6:=b.cell 6 (by decide);have e7:=b.cell 7 (by decide);have e8:=b.cell 8 (by decide);have HS:Hid (iA ⟨o,row⟩=[.int .i64 (f 0),.int .i64 (f 1),.int .i64 (f 2),.int .i64 (f 3),.int .i64 (f 4),.int .i64 (f 5),.int .i64 (f 6),.int .i64 (f 7),.int .i64 (f 8)]):=hid (by
       obtain⟨x0,x1,x2,x3,x4,x5,x6,x7,rfl⟩:=Ce I.out;have:=T.out;rw[z.out,this 0 (by decide),this 1 (by decide),this 2 (by decide),this 3 (by decide),this 4 (by decide),this 5 (by decide),this 6 (by decide),this 7 (by decide)];rfl)
      have own:=ai q.out y;have hsz:=y.size;have qP:=l.size;have NZ:w.heap.size<_:=World.block_lt_of_cell? _ ⟨w.heap.size,0,none⟩ A;have q1:=(y.cell (p:=⟨w.heap.size,0,none⟩) (World.block_lt_of_cell? _ ⟨w.heap.size,0,none⟩ A)).trans A;have JR:=hid y;clear b y z T q;generalize f 0=f0 at *;generalize f 1=f1 at *;generalize f 2=f2 at *;generalize f 3=f3 at *;generalize f 4=f4 at *;generalize f 5=f5 at *;generalize f 6=f6 at *;generalize f 7=f7 at *;generalize f 8=f8 at *;go_wp2_with (at_builtin;go_must (refine wpList_append_own _ rfl (.tmp 52) (.tmp 54) 65 rfl (w.heap.size+1) 119 i0 (.agg #[.int .i64 0,.int .i64 0,.int .i64 0,.int .i64 0,.int .i64 0,.int .i64 0,.int .i64 0,.int .i64 0,.int .i64 0]) 9 72 Tryz.underlying65 Z aT aP aO rfl (by decide) _ _ _ rfl (own.alloc _) ⟨wr.heap.size,0,none⟩ 1 1 [.int .i64 f0,.int .i64 f1,.int .i64 f2,.int .i64 f3,.int .i64 f4,.int .i64 f5,.int .i64 f6,.int .i64 f7,.int .i64 f8] rfl rfl ?c1 ?c2 ?c3 ?c4 ?c5 ?_))
      case c1=>exact jl _ _ _
      case c2=>intro u hu;simp at hu;rcases hu with rfl | rfl | rfl | rfl | rfl | rfl | rfl | rfl | rfl <;> rfl
      case c3=>unfold maxLen;omega
      case c4=>omega
      case c5=>simp;omega
      intro v' w1 d n _;have V:Below (w.heap.size+1) wr w1:=((aB4 _ _).alloc (by omega) _).grown n (by simp;omega) (λk h=>(own.lt k h).1);rw[<-HS.out,<-yR,<-HZ.out]at d;obtain⟨X,a,hv⟩:∃ X a,v'=.slice X (j+1) a:=by
       rcases d.2 with⟨h,h0⟩ | ⟨g,a,_,h,_⟩
       ·omega
       ·exact⟨_,a,h⟩
      subst hv;have B1:=hid ((l.trans (JR.out.mono qP)).trans (V.mono (Nat.le_succ _)));have q2:=(V.cell (p:=⟨w.heap.size,0,none⟩) (aCA _)).trans q1;have O1:=hid d;have Q2:=hid q2;clear d n V own e0 e1 J e3 e4 e5 e6 e7 e8 cO Q A q1 q2;go_wp2_with fail;go_roundw
      case rel=>
       refine⟨j+1,X,a,by omega,by go_num,rfl,hid (λm B=>?_),B1.out,Q2.out,O1⟩;by_cases e:m<j
       ·exact P.out m e
       ·rw[show m=j by omega,Fy.out];exact I.out
      case measure=>simp[intOf];omega
   ·have E:Hid (eG os ls=false):=hid (uD λe=>by
     have J:=(pg e).2.1 j (by omega);rw[G]at J;exact h8 J)
    have k8:((rl:Int) !=8)=true:=bne_iff_ne.2 (by omega);clear q A;go_wp2_with fail
    go_ret2
    unfold Ck;exact⟨l,aCa ⟨E.out,rfl⟩⟩
  ·obtain rfl:j=l1:=by omega
   have Y:=xI (os:=os) (ls:=ls) (by omega) (λi Z=>P.out i (by omega));have hz:=nQ (os:=os) (ls:=ls) (by omega);have O:=q.out;rw[List.take_of_length_le (by omega)]at O;have z:=hid Y.1;have H8:=Y.2;clear Y P A q;by_cases K:1<=j
   ·obtain⟨g,rfl,hg0,L,oO⟩:=eZ O (by omega);have F:=λW (hW:W.ownsRow (w.heap.size+1) 119 9 (.slice (some ⟨g,0,none⟩) j cap) j (gu (dQ os ls))) (hg:g<W.heap.size)=>Xl g j cap (w.heap.size+1) (dQ os ls) W hW H8 (by omega) K (by omega) hg oO;have q:=hid O;clear O;cases ev:mM (dQ os ls) with
    | true=>
     have v:=hid ev;clear ev;go_wp2_with fail;refine(F _ q.out L).mono ?_;rintro e w2 ⟨rfl,r⟩;rw[v.out];have B2:=hid (l.trans (r.mono l.size));have O2:=hid (ai q.out r);clear r F;go_wp2_with fail
     go_ret2
     unfold Ck;rw[L1];exact⟨B2.out,aCb ⟨by rw[z.out];exact v.out,g,cap,rfl,bQ O2.out (Nat.le_succ _)⟩⟩
    | false=>
     have v:=hid ev;clear ev;go_wp2_with fail;refine(F _ q.out L).mono ?_;rintro e w2 ⟨rfl,r⟩;rw[v.out];have B2:=hid (l.trans (r.mono l.size));clear r F;go_wp2_with fail
     go_ret2
     unfold Ck;exact⟨B2.out,aCa ⟨by rw[z.out];exact v.out,rfl⟩⟩
   ·obtain rfl:j=0:=by omega
    have F:=λW=>aaK M 0 cap (dQ os ls) W (by omega) (aCa (by decide)) (by decide);have v:Hid (mM (dQ os ls)=false):=hid (by
     cases e:mM (dQ os ls) with
     | false=>rfl
     | true=>rw[jw]at e;omega)
    clear O;go_wp2_with fail;refine(F _).mono ?_;rintro e w2 ⟨rfl,r⟩;rw[v.out];have B2:=hid (l.trans (r.mono l.size));clear r F;go_wp2_with fail
    go_ret2
    unfold Ck;exact⟨B2.out,aCa ⟨by rw[z.out];exact v.out,rfl⟩⟩
theorem abN(h1:Ints w a1 l1 c1 os)(h2:Lists w a2 l2 c2 ls):Calls Tryz.prog 105 #[.agg #[.slice a1 l1 c1,.slice a2 l2 c2]] w (Ck os ls w):=by
 by_cases h:8<l1
 ·exact aeH a1 a2 l1 c1 l2 c2 os ls w h1 h2 h
 by_cases a:l2=l1
 ·subst a;exact aaW a1 a2 l2 c1 c2 os ls w h1 h2 h
 ·exact Wz a1 a2 l1 c1 l2 c2 os ls w h1 h2 h a
end
theorem Tryz.infoByte:(Tryz.prog.info? 5).map (λi=>(i.zero,i.size,i.bytes))=some (some (.int .u8 0),1,1):=by kernel_rfl
def pX(l:List UInt8):List Value:=l.map λb=>Value.int .u8 (b.toNat:Int)
theorem JD(l:List UInt8)(b:UInt8):pX (l++[b])=pX l++[.int .u8 (b.toNat:Int)]:=by simp[pX]
theorem abF(w:World)(base:Nat)(e:TypeId)(v:Value)(hb:base<=w.heap.size):(w.alloc (.cells #[v] e)).ownsRow base e 1 (.slice (some ⟨w.heap.size,0,none⟩) 1 1) 1 [v]:=
 ⟨rfl,aCb ⟨w.heap.size,1,#[v],rfl,hb,heap_alloc_last w _,aB2 _,by unfold maxLen;omega,rfl,rfl⟩⟩
theorem cell_one_new(w:World)(a:Value)(t:TypeId):∀ j u,[a][j]?=some u->(w.alloc (.cells #[a] t)).cell? ((⟨w.heap.size,0,none⟩:Addr).add j)=some u:=jl w [a] t
theorem wrap_u8{x:Int}(h0:0<=x)(h1:x<256):IntKind.u8.wrap x=x:=by
 rw[IntKind.wrap_u8];omega
def fq(ss:List St)(j:Nat):List UInt8:=xO (ss.length:Int)::(ss.take j).flatMap qf
theorem WE{s:St}(h:s.next.length=8):(qf s).length=9:=by simp[qf,h]
theorem Ci{ss:List St}(h:ku ss){j:Nat}(hj:j<=ss.length):(fq ss j).length=1+j*9:=by
 unfold fq;rw[List.length_cons];have:∀ (l:List St),ku l->(l.flatMap qf).length=l.length*9:=by
  intro l a
  induction l with
  | nil=>rfl
  | cons s l ih=>
   rw[List.flatMap_cons,aCd,ih (λx b=>a x (by simp[b])),WE (a s (by simp)),List.length_cons];omega
 rw[this _ (λs c=>h s (List.mem_of_mem_take c)),List.length_take];omega
theorem Ia{ss:List St}{j:Nat}(hj:j<ss.length):fq ss (j+1)=fq ss j++qf (bu ss j):=by
 unfold fq;rw[List.take_succ_eq_append_getElem hj,List.flatMap_append];simp[bu,List.getD,aB3 hj]
theorem JA(ss:List St):fq ss ss.length=bytesOf ss:=by unfold fq bytesOf;rw[List.take_length]
def iC(s:St)(k:Nat):List UInt8:=xO s.out::(s.next.take k).map xO
theorem Jo{s:St}{k:Nat}(hk:k<s.next.length):iC s (k+1)=iC s k++[xO (s.next.getD k 0)]:=by
 unfold iC;rw[List.take_succ_eq_append_getElem hk,aCM,<-List.cons_append];simp[List.getD,aB3 hk]
theorem K7{s:St}:iC s s.next.length=qf s:=by unfold iC qf;rw[List.take_length]
theorem Y7{s:St}{k:Nat}(hk:k<=s.next.length):(iC s k).length=1+k:=by simp[iC];omega
theorem FL{n i:Nat}{s:St}(h:qo n i s=true):0<=s.out/\s.out<=2/\∀ k,k<s.next.length->0<=s.next.getD k 0/\s.next.getD k 0<n:=by
 unfold qo wR at h;simp only[aCH,aCN,aCZ,List.all_eq_true]at h;refine⟨by omega,by omega,λk a=>?_⟩;have:=lG.1 (h.2 s.next[k] (List.getElem_mem a));simp[List.getD,aB3 a];exact⟨this.1,this.2.1⟩
theorem adv(g n cap B:Nat)(ss:List St)(w:World)(hr:w.ownsRow B 119 9 (.slice (some ⟨g,0,none⟩) n cap) n (gu ss))(h8:ku ss)(hl:ss.length=n)(hw:mM ss=true)(hg:g<w.heap.size)(hcap:n<=cap) :
  Calls Tryz.prog 106 #[.slice (some ⟨g,0,none⟩) n cap] w λe w'=>e=.returned (.string ⟨(bytesOf ss).toArray⟩)/\Below w.heap.size w w':=by
 obtain⟨Uk,Fb,m⟩:=jw.1 hw;rw[hl]at Uk Fb m;have HR:=hid hr;clear hr;obtain⟨i0,Z,aT,aP,aO⟩:=info_parts Tryz.infoByte;have wr0:IntKind.u8.wrap (n:Int)=n:=wrap_u8 (by omega) (by omega);have K:Hid ([Value.int .u8 (n:Int)]=pX (fq ss 0)):=hid (by
  simp[fq,pX];rw[hl,Br (by omega) (by omega)])
 go_enter Tryz.func106,Tryz.ntmps106;go_wp2_with fail
 go_loopw [14,3] (λi s wr=>∃ (j:Nat),j<=n/\i=.int .i64 j/\Below w.heap.size w wr/\Hid (wr.ownsRow w.heap.size 5 1 s (1+j*9) (pX (fq ss j)))) (λi _ _=>n - (intOf i).toNat)
 case atStart=>exact⟨0,aCg _,rfl,(aB4 _ _).alloc (aB2 _) _,hid (by rw[<-K.out];exact abF w w.heap.size 5 _ (aB2 _))⟩
 case round=>
  obtain⟨j,hj,rfl,c,d⟩:=hrel;by_cases t:j<n
  ·have S:=xz HR.out h8 hl t;have L:=rq h8 (i:=j) (by omega);obtain⟨y,z,A,C,D,E,F,G,M,HX⟩:=zA (bu ss j).out L;rw[show (⟨(bu ss j).out,(bu ss j).next⟩:St)=bu ss j from rfl]at M;have ec:iA (bu ss j)=[.int .i64 (bu ss j).out,.int .i64 y,.int .i64 z,.int .i64 A,.int .i64 C,.int .i64 D,.int .i64 E,.int .i64 F,.int .i64 G]:=by
    have:=congrArg Array.toList M;simpa [yI] using this
   rw[ec]at S;have H:=FL (m j t);have nJ:=hid (Ci h8 (j:=j) (by omega));have Na:=hid (Ia (ss:=ss) (j:=j) (by omega));have N:Hid (pX (fq ss j)++[.int .u8 (bu ss j).out]=pX (fq ss j++iC (bu ss j) 0)):=hid (by
    rw[show iC (bu ss j) 0=[xO (bu ss j).out] by simp[iC],JD,Br H.1 (by omega)])
   have O:=hid L;have YD:=hid H.2.2;have s1:=H.1;have s2:=H.2.1;generalize Q:bu ss j=st at *;generalize st.out=o at *;have c0:=(c.cell (p:=⟨g,j*9,none⟩) hg).trans (S 0 (by decide));have c1:=(c.cell (p:=⟨g,j*9+1,none⟩) hg).trans (S 1 (by decide));have c2:=(c.cell (p:=⟨g,j*9+2,none⟩) hg).trans (S 2 (by decide));have c3:=(c.cell (p:=⟨g,j*9+3,none⟩) hg).trans (S 3 (by decide));have c4:=(c.cell (p:=⟨g,j*9+4,none⟩) hg).trans (S 4 (by decide));have c5:=(c.cell (p:=⟨g,j*9+5,none⟩) hg).trans (S 5 (by decide));have c6:=(c.cell (p:=⟨g,j*9+6,none⟩) hg).trans (S 6 (by decide));have c7:=(c.cell (p:=⟨g,j*9+7,none⟩) hg).trans (S 7 (by decide));have c8:=(c.cell (p:=⟨g,j*9+8,none⟩) hg).trans (S 8 (by decide));simp only[List.getElem?_cons_succ,List.getElem?_cons_zero]at c0 c1 c2 c3 c4 c5 c6 c7 c8;clear S M ec L H Q;have wro:IntKind.u8.wrap o=o:=wrap_u8 s1 (by omega);have own:=d.out;have q:=c.size;go_wp2_with (at_builtin;go_must (refine wpList_append_own _ rfl (.tmp 18) (.tmp 22) 188 rfl w.heap.size 5 i0 (.int .u8 0) 1 1 Tryz.underlying188 Z aT aP aO rfl (by decide) _ _ _ rfl ((own.alloc _).alloc _) ⟨wr.heap.size+1,0,none⟩ 1 1 [.int .u8 o] rfl rfl ?c1 ?c2 ?c3 ?c4 ?c5 ?_))
   case c1=>have:=cell_one_new (wr.alloc (.cells #[.int .i64 o,.int .i64 y,.int .i64 z,.int .i64 A,.int .i64 C,.int .i64 D,.int .i64 E,.int .i64 F,.int .i64 G] 119)) (.int .u8 o) 5;simpa using this
   case c2=>intro u I;simp at I;subst I;rfl
   case c3=>unfold maxLen;omega
   case c4=>omega
   case c5=>simp;omega
   intro v1 w1 b a _;have f:∀ i v,((wr.alloc (.cells #[.int .i64 o,.int .i64 y,.int .i64 z,.int .i64 A,.int .i64 C,.int .i64 D,.int .i64 E,.int .i64 F,.int .i64 G] 119)).alloc (.cells #[.int .u8 o] 5)).cell? ⟨wr.heap.size,i,none⟩=some v->w1.cell? ⟨wr.heap.size,i,none⟩=some v:=λi v h=>a.cell h (λe=>by
    have:=(own.lt _ e.symm).2;exact absurd this (Nat.lt_irrefl _))
   have k1:=f 1 (.int .i64 y) (by simp);have k2:=f 2 (.int .i64 z) (by simp);have k3:=f 3 (.int .i64 A) (by simp);have k4:=f 4 (.int .i64 C) (by simp);have k5:=f 5 (.int .i64 D) (by simp);have k6:=f 6 (.int .i64 E) (by simp);have k7:=f 7 (.int .i64 F) (by simp);have k8:=f 8 (.int .i64 G) (by simp);have J:Below w.heap.size wr w1:=(((aB4 _ _).alloc q _).alloc (by simp;omega) _).grown a (by simp;omega) (λk h=>(own.lt k h).1);rw[N.out]at b;have O1:=hid b;have B1:=hid (c.trans J);clear b a J own f c0 c1 c2 c3 c4 c5 c6 c7 c8 d;go_wp2_with fail;generalize (#[Value.int .i64 y,.int .i64 z,.int .i64 A,.int .i64 C,.int .i64 D,.int .i64 E,.int .i64 F,.int .i64 G]:Array Value)=X at *
   go_loopw [26,3] (λi s wr=>∃ (k:Nat),k<=8/\i=.int .i64 k/\Below w.heap.size w wr/\Hid (wr.ownsRow w.heap.size 5 1 s (1+j*9+1+k) (pX (fq ss j++iC st k)))) (λi _ _=>8 - (intOf i).toNat)
   case atStart=>exact⟨0,aCg _,rfl,B1.out,O1⟩
   case round=>
    obtain⟨k,hk,rfl,R,d⟩:=hrel;by_cases l:k<8
    ·have IX:=λW=>jh (P:=Tryz.prog) W Tryz.underlying117 (lC Tryz.underlying3) (by kernel_rfl) l (HX.out k l);have hx:=YD.out k (by rw[O.out];exact l);have T:Hid (pX (fq ss j++iC st k)++[.int .u8 (st.next.getD k 0)]=pX (fq ss j++iC st (k+1))):=hid (by
      rw[Jo (by rw[O.out];exact l),<-List.append_assoc,JD,Br hx.1 (by omega)])
     generalize st.next.getD k 0=x at *;have wrx:IntKind.u8.wrap x=x:=wrap_u8 hx.1 (by omega);have own:=d.out;have q:=R.size;go_wp2_with (at_builtin;go_must (refine wpList_append_own _ rfl (.tmp 29) (.tmp 32) 188 rfl w.heap.size 5 i0 (.int .u8 0) 1 1 Tryz.underlying188 Z aT aP aO rfl (by decide) _ _ _ rfl (own.alloc _) ⟨wr.heap.size,0,none⟩ 1 1 [.int .u8 x] rfl rfl ?c1 ?c2 ?c3 ?c4 ?c5 ?_))
     case c1=>exact cell_one_new _ _ _
     case c2=>intro u I;simp at I;subst I;rfl
     case c3=>unfold maxLen;omega
     case c4=>omega
     case c5=>simp;omega
     intro v2 w2 b a _;have J:Below w.heap.size wr w2:=((aB4 _ _).alloc q _).grown a (by simp;omega) (λk h=>(own.lt k h).1);rw[T.out]at b;have O2:=hid b;have B2:=hid (R.trans J);clear b a J own d IX;go_wp2_with fail;go_roundw
     case rel=>exact⟨k+1,by omega,by go_num,B2.out,O2⟩
     case measure=>simp[intOf];omega
    ·obtain rfl:k=8:=by omega
     have U:=d.out;rw[show iC st 8=qf st by rw[<-O.out];exact K7,<-Na.out,show 1+j*9+1+8=1+(j+1)*9 by omega]at U;have O4:=hid U;clear U d;go_wp2_with fail;go_roundw
     case rel=>exact⟨j+1,by omega,by go_num,R,O4⟩
     case measure=>simp[intOf];omega
  ·obtain rfl:j=n:=by omega
   have own:=d.out;have V:=Ci h8 (j:=j) (by omega);rw[show fq ss j=bytesOf ss by rw[<-hl];exact JA ss]at own V;obtain⟨Y,r,hv,_⟩:∃ Y r,u3=.slice (some ⟨Y,0,none⟩) (1+j*9) r/\True:=by
    rcases own.2 with⟨h,h0⟩ | ⟨g,cap',_,h,_⟩
    ·omega
    ·exact⟨g,cap',h,trivial⟩
   subst hv;have CV:=run_convert_bytes_back (P:=Tryz.prog) wr 188 9 5 ⟨Y,0,none⟩ r (bytesOf ss) Tryz.underlying188 Tryz.underlying5 Tryz.underlying9 (λk hk=>by
    rw[uK,aCw,own.cellAt k (by omega)];simp[pX,aB3 hk])
   rw[V]at CV;clear own d V;go_wp2_with fail;go_ret;exact⟨rfl,c⟩
section
variable (a1 a2:Option Addr) (l1 c1 l2 c2:Nat) (os:List Int) (ls:List (List Int)) (w:World)
theorem aaI(h1:Ints w a1 l1 c1 os)(h2:Lists w a2 l2 c2 ls) :
  Calls Tryz.prog 55 #[.agg #[.slice a1 l1 c1,.slice a2 l2 c2]] w λe w'=>e=.returned (.tuple #[.string (kw os ls),.int .i64 (ky os ls)])/\Below w.heap.size w w':=by
 have T:=λW (b:Below w.heap.size w W)=>abN a1 a2 l1 c1 l2 c2 os ls W (h1.below b) (h2.below b);cases ef:eG os ls with
 | false=>
  have c:Hid (kw os ls=⟨#[]⟩/\ky os ls=8):=hid ⟨by simp[kw,ef],by simp[ky,ef]⟩;have i:=hid ef;clear ef;go_enter Tryz.func55,Tryz.ntmps55;go_wp2_with fail;refine(T _ ((aB4 _ _).alloc (aB2 _) _)).mono ?_;rintro e k ⟨d,⟨_,rfl⟩ | ⟨f,_⟩⟩
  ·have B2:=hid (((aB4 w.heap.size w).alloc (aB2 _) _).trans (d.mono (by simp)));clear d T;go_wp2_with fail
   go_ret2
   exact⟨by rw[c.out.1,c.out.2];rfl,B2.out⟩
  ·rw[i.out]at f;cases f
 | true=>
  have c:Hid (kw os ls=⟨(bytesOf (dQ os ls)).toArray⟩/\ky os ls=0):=hid ⟨by simp[kw,ef],by simp[ky,ef]⟩;have i:=hid ef;have a:=pg ef;have l:=(xI a.1 a.2.1).2;clear ef;go_enter Tryz.func55,Tryz.ntmps55;go_wp2_with fail;refine(T _ ((aB4 _ _).alloc (aB2 _) _)).mono ?_;rintro e k ⟨d,⟨f,_⟩ | ⟨_,g,cap,rfl,own⟩⟩
  ·rw[i.out]at f;cases f
  ·have h:=(jw.1 a.2.2).1;rw[nQ a.1]at h;obtain⟨r,n,o,j,p⟩:=eZ own (by omega);cases n;have F:=adv g os.length cap _ (dQ os ls) k own l (nQ a.1) a.2.2 j p;have B2:=hid (((aB4 w.heap.size w).alloc (aB2 _) _).trans (d.mono (by simp)));clear d T own a l;go_wp2_with fail;refine F.mono ?_;rintro e s ⟨rfl,m⟩;have q:=hid (B2.out.trans (m.mono B2.out.size));clear m F;go_wp2_with fail
   go_ret2
   exact⟨by rw[c.out.1,c.out.2];rfl,q.out⟩
end
def wI(s:ByteArray)(i:Nat):St:=⟨(bt s (1+i*9):Int),(List.range 8).map λa=>(bt s (1+i*9+1+a):Int)⟩
def bI(s:ByteArray)(n:Nat):List St:=(List.range n).map (wI s)
def gW(s:ByteArray):Bool:=decide (0<s.size)&&decide (s.size=1+bt s 0*9)&&mM (bI s (bt s 0))
theorem kS(s:ByteArray)(n:Nat):(bI s n).length=n:=by simp[bI]
theorem Q9(s:ByteArray)(n:Nat):bI s (n+1)=bI s n++[wI s n]:=by simp[bI,aCT]
theorem Dx(s:ByteArray)(i:Nat):(wI s i).next.length=8:=by simp[wI]
theorem aa4(s:ByteArray)(i:Nat){k:Nat}(hk:k<8):(wI s i).next.getD k 0=(bt s (1+i*9+1+k):Int):=by
 simp[wI,List.getD,aCs,aCF hk]
theorem nU(s:ByteArray)(n:Nat):ku (bI s n):=by
 intro x a;simp[bI]at a;obtain⟨i,_,rfl⟩:=a;exact Dx s i
def uf(s:ByteArray)(w:World)(e:Ending)(w':World):Prop:=
 Below w.heap.size w w' /\
 ((gW s=false/\e=.returned (.tuple #[.slice none 0 0,.bool false])) \/
 (gW s=true/\∃ g cap,e=.returned (.tuple #[.slice (some ⟨g,0,none⟩) (bt s 0) cap,.bool true]) /\
  w'.ownsRow w.heap.size 119 9 (.slice (some ⟨g,0,none⟩) (bt s 0) cap) (bt s 0) (gu (bI s (bt s 0)))))
theorem wK{s:ByteArray}(h:gW s=true->False):gW s=false:=by
 cases e:gW s with
 | false=>rfl
 | true=>exact(h e).elim
theorem tN{s:ByteArray}(h:gW s=true):0<s.size/\s.size=1+bt s 0*9/\mM (bI s (bt s 0))=true:=by
 unfold gW at h;simpa [and_assoc] using h
section
variable (s:ByteArray) (w:World)
theorem acV(hm:s.size<=maxLen)(h:s.size=0):Calls Tryz.prog 40 #[.string s] w (uf s w):=by
 have E:Hid (gW s=false):=hid (wK λe=>by have:=(tN e).1;omega);unfold maxLen at hm;have k:((s.size:Int)==0)=true:=beq_iff_eq.2 (by omega);go_enter Tryz.func40,Tryz.ntmps40;go_wp2_with fail
 go_ret2
 exact⟨aB4 _ _,aCa ⟨E.out,rfl⟩⟩
theorem Xc(hm:s.size<=maxLen)(h:0<s.size)(hd:s.size≠1+bt s 0*9):Calls Tryz.prog 40 #[.string s] w (uf s w):=by
 have E:Hid (gW s=false):=hid (wK λe=>hd (tN e).2.1);unfold maxLen at hm;have k:((s.size:Int)==0)=false:=aCe.2 (by omega);have a:(s[0]'h).toNat=bt s 0:=(iB h).symm;have b:=ru s 0;generalize bt s 0=c at *;have d:((s.size:Int) !=1+(c:Int)*9)=true:=bne_iff_ne.2 (by omega);go_enter Tryz.func40,Tryz.ntmps40;go_wp2_with fail
 go_ret2
 exact⟨aB4 _ _,aCa ⟨E.out,rfl⟩⟩
theorem acU(hm:s.size<=maxLen)(h:0<s.size)(n:Nat)(hn:bt s 0=n)(hd:s.size=1+n*9):Calls Tryz.prog 40 #[.string s] w (uf s w):=by
 have k:((s.size:Int)==0)=false:=aCe.2 (by omega);have T:n<256:=by rw[<-hn];exact ru s 0
 have A:(s[0]'h).toNat=n:=by rw[<-iB h];exact hn
 have k2:((s.size:Int) !=1+(n:Int)*9)=false:=by rw[bne_eq_false_iff_eq];omega
 obtain⟨i0,U,V,X,Y⟩:=info_parts Tryz.PX;unfold maxLen at hm;have I:=hid hn;have Z:=hid hd;have hd1:s.size<=1+n*9:=Nat.le_of_eq hd;have Jv:1+n*9<=s.size:=Nat.le_of_eq hd.symm;clear hn hd;go_enter Tryz.func40,Tryz.ntmps40;go_wp2_with fail;clear A
 go_loopw [6,5] (λi sv wr=>∃ (j:Nat) (B:Option Addr) (cap:Nat),j<=n/\i=.int .i64 ((1+j*9:Nat):Int)/\sv=.slice B j cap/\Below w.heap.size w wr /\
   Hid (wr.ownsRow w.heap.size 119 9 (.slice B j cap) j (gu (bI s j)))) (λi _ _=>s.size - (intOf i).toNat)
 case atStart=>exact⟨0,none,0,aCg _,rfl,rfl,aB4 _ _,hid (aCp _ _ _ _)⟩
 case round=>
  obtain⟨j,B,cap,hj,rfl,rfl,q,r⟩:=hrel;by_cases hlt:j<n
  ·have J:1+j*9<s.size:=by omega
   have A:(s[1+j*9]'J).toNat=bt s (1+j*9):=(iB J).symm;have kd:decide (((1+j*9:Nat):Int)+9<=(s.size:Int))=true:=by simp;omega
   have ko:=ru s (1+j*9);have C:Hid ((wI s j).out=(bt s (1+j*9):Int)):=hid rfl;have HZ:=hid (Q9 s j);generalize bt s (1+j*9)=o at *;go_wp2_with fail
   go_loopw [33] (λi K=>∃ (k:Nat) (f:Nat->Int),k<=8/\i=.int .i64 k/\Below wr.heap.size wr K/\OJ K wr.heap.size f/\Hid (f 0=(o:Int))/\Hid (∀ m,m<k->f (m+1)=(bt s (1+j*9+1+m):Int))) (λi _=>8 - (intOf i).toNat)
   case atStart=>exact⟨0,_,aCg _,rfl,(aB4 _ _).alloc (aB2 _) _,PK wr o 0 0 0 0 0 0 0 0 _,hid rfl,hid (λm hm=>by omega)⟩
   case round=>
    obtain⟨k,f,hk,rfl,y,a,D,E⟩:=hrel;by_cases hlk:k<8
    ·have L:1+j*9+1+k<s.size:=by omega
     have IK:(s[1+j*9+1+k]'L).toNat=bt s (1+j*9+1+k):=(iB L).symm;have kx:=ru s (1+j*9+1+k);have M:=a.cell (1+k) (by omega);have N:=a.free (1+k) (by omega);have Nh:=hid (a.set (k:=1+k) (by omega) (bt s (1+j*9+1+k)));clear a;generalize P:bt s (1+j*9+1+k)=x at *;have HX:=hid P;clear P A;go_wp2_with fail;go_roundw
     case rel=>
      refine⟨k+1,_,by omega,by go_num,y.setCell (p:=⟨_,1+k,none⟩) (aB2 _) _,Nh.out,hid ?_,hid (λm hm=>?_)⟩
      ·rw[aC1 (by omega)];exact D.out
      ·by_cases e:m<k
       ·rw[aC1 (by omega)];exact E.out m e
       ·rw[aC2 (by omega),show m=k by omega,HX.out]
     case measure=>simp[intOf];omega
    ·have P7:k=8:=by omega
     subst P7;have e0:=a.cell 0 (by decide);have M:=a.cell 1 (by decide);have N:=a.cell 2 (by decide);have e3:=a.cell 3 (by decide);have e4:=a.cell 4 (by decide);have e5:=a.cell 5 (by decide);have e6:=a.cell 6 (by decide);have e7:=a.cell 7 (by decide);have e8:=a.cell 8 (by decide);have HS:Hid (iA (wI s j)=[.int .i64 (f 0),.int .i64 (f 1),.int .i64 (f 2),.int .i64 (f 3),.int .i64 (f 4),.int .i64 (f 5),.int .i64 (f 6),.int .i64 (f 7),.int .i64 (f 8)]):=hid (by
      have:=E.out;rw[D.out,this 0 (by decide),this 1 (by decide),this 2 (by decide),this 3 (by decide),this 4 (by decide),this 5 (by decide),this 6 (by decide),this 7 (by decide),<-C.out];rfl)
     have own:=ai r.out y;have hsz:=y.size;have qP:=q.size;have JR:=hid y;clear a y D E r A;generalize f 0=f0 at *;generalize f 1=f1 at *;generalize f 2=f2 at *;generalize f 3=f3 at *;generalize f 4=f4 at *;generalize f 5=f5 at *;generalize f 6=f6 at *;generalize f 7=f7 at *;generalize f 8=f8 at *;go_wp2_with (at_builtin;go_must (refine wpList_append_own _ rfl (.tmp 47) (.tmp 49) 65 rfl w.heap.size 119 i0 (.agg #[.int .i64 0,.int .i64 0,.int .i64 0,.int .i64 0,.int .i64 0,.int .i64 0,.int .i64 0,.int .i64 0,.int .i64 0]) 9 72 Tryz.underlying65 U V X Y rfl (by decide) _ _ _ rfl (own.alloc _) ⟨wr.heap.size,0,none⟩ 1 1 [.int .i64 f0,.int .i64 f1,.int .i64 f2,.int .i64 f3,.int .i64 f4,.int .i64 f5,.int .i64 f6,.int .i64 f7,.int .i64 f8] rfl rfl ?c1 ?c2 ?c3 ?c4 ?c5 ?_))
     case c1=>exact jl _ _ _
     case c2=>intro u Q;simp at Q;rcases Q with rfl | rfl | rfl | rfl | rfl | rfl | rfl | rfl | rfl <;> rfl
     case c3=>unfold maxLen;omega
     case c4=>omega
     case c5=>simp;omega
     intro v' w1 c d _;have R:Below w.heap.size wr w1:=((aB4 _ _).alloc (by omega) _).grown d (by simp;omega) (λk h=>(own.lt k h).1);rw[<-HS.out,<-yR,<-HZ.out]at c;obtain⟨G,b,hv⟩:∃ G b,v'=.slice G (j+1) b:=by
      rcases c.2 with⟨h,h0⟩ | ⟨g,b,_,h,_⟩
      ·omega
      ·exact⟨_,b,h⟩
     subst hv;have B1:=hid ((q.trans (JR.out.mono qP)).trans R);have O1:=hid c;clear c d R own e0 M N e3 e4 e5 e6 e7 e8;go_wp2_with fail;go_roundw
     case rel=>exact⟨j+1,G,b,by omega,congrArg (Value.int .i64) (by omega),rfl,B1.out,O1⟩
     case measure=>simp[intOf];omega
  ·obtain rfl:j=n:=by omega
   have kd:decide (((1+j*9:Nat):Int)+9<=(s.size:Int))=false:=by simp;omega
   have H:Hid (gW s=mM (bI s j)):=hid (by unfold gW;rw[I.out,Z.out];simp;intro;omega);have H8:=nU s j;have O:=r.out;clear r;by_cases t:1<=j/\j<=8
   ·obtain⟨g,rfl,hg0,z,oO⟩:=eZ O (by omega);have F:=λW (hW:W.ownsRow w.heap.size 119 9 (.slice (some ⟨g,0,none⟩) j cap) j (gu (bI s j))) (hg:g<W.heap.size)=>Xl g j cap w.heap.size (bI s j) W hW H8 (kS s j) t.1 t.2 hg oO;have r:=hid O;clear O;cases ev:mM (bI s j) with
    | true=>
     have v:=hid ev;clear ev;go_wp2_with fail;refine(F _ r.out z).mono ?_;rintro e S ⟨rfl,l⟩;rw[v.out];have B2:=hid (q.trans (l.mono q.size));have O2:=hid (ai r.out l);clear l F;go_wp2_with fail
     go_ret2
     unfold uf;rw[I.out];exact⟨B2.out,aCb ⟨by rw[H.out];exact v.out,g,cap,rfl,O2.out⟩⟩
    | false=>
     have v:=hid ev;clear ev;go_wp2_with fail;refine(F _ r.out z).mono ?_;rintro e S ⟨rfl,l⟩;rw[v.out];have B2:=hid (q.trans (l.mono q.size));clear l F;go_wp2_with fail
     go_ret2
     exact⟨B2.out,aCa ⟨by rw[H.out];exact v.out,rfl⟩⟩
   ·have F:=λW=>aaK B j cap (bI s j) W (kS s j) (by omega) (by omega);have v:Hid (mM (bI s j)=false):=hid (by
     cases e:mM (bI s j) with
     | false=>rfl
     | true=>rw[jw,kS]at e;omega)
    clear O;go_wp2_with fail;refine(F _).mono ?_;rintro e S ⟨rfl,l⟩;rw[v.out];have B2:=hid (q.trans (l.mono q.size));clear l F;go_wp2_with fail
    go_ret2
    exact⟨B2.out,aCa ⟨by rw[H.out];exact v.out,rfl⟩⟩
theorem UR(hm:s.size<=maxLen):Calls Tryz.prog 40 #[.string s] w (uf s w):=by
 by_cases h:s.size=0
 ·exact acV s w hm h
 by_cases a:s.size=1+bt s 0*9
 ·exact acU s w hm (by omega) _ rfl a
 ·exact Xc s w hm (by omega) a
end
def xg(ss:List St)(k:Nat)(z:Int):Nat:=((bu ss k).next.getD z.toNat 0).toNat
def qi(ss:List St)(u:List Int):Nat:=u.foldl (xg ss) 0
theorem aiV{ss:List St}(hw:mM ss=true){k:Nat}(hk:k<ss.length):qo ss.length k (bu ss k)=true:=(jw.1 hw).2.2 k hk
theorem Sb{ss:List St}(hw:mM ss=true)(h8:ku ss){k:Nat}(hk:k<ss.length){z:Int}(hz:qO z=true):xg ss k z<ss.length/\(bu ss k).next.getD z.toNat 0=(xg ss k z:Int):=by
 have a:=ja.1 hz;have h:=(FL (aiV hw hk)).2.2 z.toNat (by rw[rq h8 hk];omega);unfold xg;omega
theorem Pp{ss:List St}{u:List Int}{j:Nat}(hj:j<u.length):qi ss (u.take (j+1))=xg ss (qi ss (u.take j)) (u.getD j 0):=by
 unfold qi;rw[List.take_succ_eq_append_getElem hj,List.foldl_append];simp[List.getD,aB3 hj]
theorem VF{u:List Int}(hu:dh u=true){j:Nat}(hj:j<u.length):qO (u.getD j 0)=true:=by
 unfold dh at hu;rw[List.all_eq_true]at hu;simpa [List.getD,aB3 hj] using hu _ (List.getElem_mem hj)
theorem afz(g n cap B:Nat)(ss:List St)(a1:Option Addr)(l1 c1:Nat)(u:List Int)(w:World)(hr:w.ownsRow B 119 9 (.slice (some ⟨g,0,none⟩) n cap) n (gu ss))(h8:ku ss)(hl:ss.length=n)(hw:mM ss=true)(hcap:n<=cap)(h1:Ints w a1 l1 c1 u)(hu:dh u=true) :
  Calls Tryz.prog 107 #[.slice (some ⟨g,0,none⟩) n cap,.slice a1 l1 c1] w λe w'=>e=.returned (.int .i64 (bu ss (qi ss u)).out)/\w'=w:=by
 have l:=hid hr;have m1:=h1.hmax;have m3:=h1.hcap;have F:=h1.hlen;obtain⟨t,v,_⟩:=jw.1 hw;rw[hl]at t v;clear hr;go_enter Tryz.func107,Tryz.ntmps107;go_wp2_with fail
 go_loop [10,5] (λi a=>∃ j k:Nat,j<=l1/\i=.int .i64 j/\a=.int .i64 k/\k<n/\Hid (k=qi ss (u.take j))) (λi _=>l1 - (intOf i).toNat)
 case atStart=>exact⟨0,0,aCg _,rfl,rfl,by omega,hid (by simp[qi])⟩
 case round=>
  obtain⟨j,k,G,rfl,rfl,m,p⟩:=hrel;by_cases d:j<l1
  ·obtain⟨H,I,rfl,J,b⟩:=h1.hcell (by omega);have c:=b j d;have q:=VF hu (j:=j) (by omega);have f:=Sb hw h8 (k:=k) (by omega) q;have y:Hid (qi ss (u.take (j+1))=xg ss k (u.getD j 0)):=hid (by rw[p.out];exact Pp (by omega));have z:=ja.1 q;generalize u.getD j 0=x at *;obtain⟨a,rfl⟩:=Int.eq_ofNat_of_zero_le z.1;have h:=xz l.out h8 hl (j:=k) m (1+a) (by omega);have r:(iA (bu ss k))[1+a]?=some (.int .i64 (xg ss k (a:Int):Nat)):=by
    have K:(bu ss k).next.length=8:=rq h8 (by omega);have:a<(bu ss k).next.length:=by omega
    rw[<-f.2,show 1+a=a+1 by omega];simp[iA,List.getD,aB3 this]
   rw[r,<-Nat.add_assoc]at h;clear r b;have s:=f.1;rw[hl]at s;clear f;generalize xg ss k (a:Int)=k2 at *;have A:decide ((k:Int)<0)=false:=by simp
   have C:decide ((n:Int)<=(k:Int))=false:=by simp;omega
   have L:decide ((a:Int)<0)=false:=by simp
   have M:decide (8<=(a:Int))=false:=by simp;omega
   go_wp2_with fail
   go_round
   case rel=>exact⟨j+1,k2,by omega,by go_num,rfl,s,hid y.out.symm⟩
   case measure=>simp[intOf];omega
  ·have D:Hid (k=qi ss u):=hid (by rw[p.out,List.take_of_length_le (by omega)]);have h:=xz l.out h8 hl (j:=k) m 0 (by decide);rw[show (iA (bu ss k))[0]?=some (.int .i64 (bu ss k).out) from rfl,Nat.add_zero]at h;have A:decide ((k:Int)<0)=false:=by simp
   have C:decide ((n:Int)<=(k:Int))=false:=by simp;omega
   have E:Hid ((bu ss (qi ss u)).out=(bu ss k).out):=hid (by rw[D.out]);generalize (bu ss k).out=o at *;go_wp2_with fail;go_ret;exact⟨by rw[E.out];rfl,rfl⟩
def mr(s:ByteArray)(u:List Int):Nat:=if gW s=true then (if dh u=true then 0 else 6) else 9
def mq(s:ByteArray)(u:List Int):Int:=if gW s=true/\dh u=true then (bu (bI s (bt s 0)) (qi (bI s (bt s 0)) u)).out else 0
theorem aev(s:ByteArray)(a1:Option Addr)(l1 c1:Nat)(u:List Int)(w:World)(hm:s.size<=maxLen)(h1:Ints w a1 l1 c1 u) :
  Calls Tryz.prog 57 #[.string s,.slice a1 l1 c1] w λe w'=>e=.returned (.tuple #[.int .i64 (mq s u),.int .i64 (mr s u)])/\Below w.heap.size w w':=by
 have F:=UR s w hm;cases hr:gW s with
 | false=>
  have d:Hid (mq s u=0/\mr s u=9):=hid ⟨by simp[mq,hr],by simp[mr,hr]⟩;have i:=hid hr;clear hr;go_enter Tryz.func57,Tryz.ntmps57;go_wp2_with fail;refine F.mono ?_;rintro e k ⟨c,⟨_,rfl⟩ | ⟨f,_⟩⟩
  ·have B2:=hid c;clear c F;go_wp2_with fail
   go_ret2
   exact⟨by rw[d.out.1,d.out.2];rfl,B2.out⟩
  ·rw[i.out]at f;cases f
 | true=>
  have i:=hid hr;have j:=tN hr;cases hu:dh u with
  | false=>
   have d:Hid (mq s u=0/\mr s u=6):=hid ⟨by simp[mq,hu],by simp[mr,hr,hu]⟩;have A:=λW (b:Below w.heap.size w W)=>jB a1 l1 c1 u W (h1.below b);rw[hu]at A;clear hr hu;go_enter Tryz.func57,Tryz.ntmps57;go_wp2_with fail;refine F.mono ?_;rintro e k ⟨c,⟨f,_⟩ | ⟨_,g,cap,rfl,own⟩⟩
   ·rw[i.out]at f;cases f
   ·have B2:=hid c;clear c F own j;generalize bt s 0=n at *;go_wp2_with fail;refine(A _ B2.out).mono ?_;rintro e m ⟨rfl,rfl⟩;go_wp2_with fail
    go_ret2
    exact⟨by rw[d.out.1,d.out.2];rfl,B2.out⟩
  | true=>
   have d:Hid (mq s u=(bu (bI s (bt s 0)) (qi (bI s (bt s 0)) u)).out/\mr s u=0):=hid ⟨by simp[mq,hu,hr],by simp[mr,hr,hu]⟩;have A:=λW (b:Below w.heap.size w W)=>jB a1 l1 c1 u W (h1.below b);rw[hu]at A;have R:=λW g cap (b:Below w.heap.size w W) own a=>afz g (bt s 0) cap w.heap.size (bI s (bt s 0)) a1 l1 c1 u W own (nU s _) (kS s _) j.2.2 a (h1.below b) hu;have h:=(jw.1 j.2.2).1;rw[kS]at h;clear hr hu j;generalize l:bI s (bt s 0)=ss at *;unfold uf at F;rw[l]at F;generalize bt s 0=n at *;go_enter Tryz.func57,Tryz.ntmps57;go_wp2_with fail;refine F.mono ?_;rintro e k ⟨c,⟨f,_⟩ | ⟨_,g,cap,rfl,own⟩⟩
   ·rw[i.out]at f;cases f
   ·have B2:=hid c;obtain⟨r,p,_,_,a⟩:=eZ own (by omega);cases p;have q:=R k g cap c own a;clear c F own R;generalize (bu ss (qi ss u)).out=o at *;go_wp2_with fail;refine(A _ B2.out).mono ?_;rintro e m ⟨rfl,rfl⟩;go_wp2_with fail;refine q.mono ?_;rintro e t ⟨rfl,rfl⟩;go_wp2_with fail
    go_ret2
    exact⟨by rw[d.out.1,d.out.2];rfl,B2.out⟩
theorem Tryz.Kj:(Tryz.prog.info? 22).map (λi=>(i.zero,i.size,i.bytes))=some (some (.slice none 0 0),1,24):=by kernel_rfl
def ji(l:List Int):List Value:=l.map (Value.int .i64)
def ik(ss:List St)(j:Nat):List Int:=(List.range j).map λi=>(bu ss i).out
theorem Jp(ss:List St)(j:Nat):ji (ik ss (j+1))=ji (ik ss j)++[.int .i64 (bu ss j).out]:=by simp[ik,ji,aCT]
theorem aiL(V:Nat->Value)(j:Nat)(v:Value):(List.range (j+1)).map (λi=>if i=j then v else V i)=(List.range j).map V++[v]:=by
 rw[aCT,aCM];congr 1
 ·apply aCX;intro i a;rw[aCQ]at a;rw[aC1 (by omega)]
 ·simp
structure mU (w:World) (B:Nat) (v1 v2:Value) (V:Nat->Value) (ss:List St) (j:Nat):Prop where
 out:w.ownsRow B 3 1 v1 j (ji (ik ss j))
 pU:w.ownsRow B 22 1 v2 j ((List.range j).map V)
 row:∀ i,i<j->w.ownsRow B 3 1 (V i) 8 (ji (bu ss i).next)
 sep:∀ i k,i<k->k<j->(V i).ownBlock≠(V k).ownBlock
 far:∀ i,i<j->v1.ownBlock≠(V i).ownBlock
theorem PP(w:World)(B:Nat)(V:Nat->Value)(ss:List St):mU w B (.slice none 0 0) (.slice none 0 0) V ss 0:=
 ⟨aCp _ _ _ _,aCp _ _ _ _,λi h=>by omega,λi k _ h=>by omega,λi h=>by omega⟩
theorem mU.keeps{w w':World}{B:Nat}{v1 v2:Value}{V:Nat->Value}{ss:List St}{j:Nat}(h:mU w B v1 v2 V ss j)(hb:Below w.heap.size w w'):mU w' B v1 v2 V ss j:=
 ⟨ai h.out hb,ai h.pU hb,λi hi=>ai (h.row i hi) hb,h.sep,h.far⟩
theorem mU.mono{w:World}{B B':Nat}{v1 v2:Value}{V:Nat->Value}{ss:List St}{j:Nat}(h:mU w B v1 v2 V ss j)(hb:B'<=B):mU w B' v1 v2 V ss j:=
 ⟨bQ h.out hb,bQ h.pU hb,λi hi=>bQ (h.row i hi) hb,h.sep,h.far⟩
theorem mU.set{w:World}{B:Nat}{v1 v2:Value}{V:Nat->Value}{ss:List St}{j:Nat}(h:mU w B v1 v2 V ss j){k:Nat}(hk:k<B)(o:Nat)(u:Value):mU (w.setCell ⟨k,o,none⟩ u) B v1 v2 V ss j:=
 ⟨aB h.out hk o u,aB h.pU hk o u,λi hi=>aB (h.row i hi) hk o u,h.sep,h.far⟩
structure Mid (w:World) (B:Nat) (v1 v2:Value) (V:Nat->Value) (ss:List St) (j:Nat) (v6:Value):Prop where
 out:w.ownsRow B 3 1 v1 (j+1) (ji (ik ss (j+1)))
 pU:w.ownsRow B 22 1 v2 j ((List.range j).map V)
 row:∀ i,i<j->w.ownsRow B 3 1 (V i) 8 (ji (bu ss i).next)
 Zm:w.ownsRow B 3 1 v6 8 (ji (bu ss j).next)
 sep:∀ i k,i<k->k<j->(V i).ownBlock≠(V k).ownBlock
 ae1:∀ i,i<j->(V i).ownBlock≠v6.ownBlock
 far:∀ i,i<j->v1.ownBlock≠(V i).ownBlock
 agw:v1.ownBlock≠v6.ownBlock
theorem Mid.set{w:World}{B:Nat}{v1 v2 v6:Value}{V:Nat->Value}{ss:List St}{j:Nat}(h:Mid w B v1 v2 V ss j v6){k:Nat}(hk:k<B)(o:Nat)(u:Value):Mid (w.setCell ⟨k,o,none⟩ u) B v1 v2 V ss j v6:=
 ⟨aB h.out hk o u,aB h.pU hk o u,λi hi=>aB (h.row i hi) hk o u,aB h.Zm hk o u,h.sep,h.ae1,h.far,h.agw⟩
theorem Mid.alloc{w:World}{B:Nat}{v1 v2 v6:Value}{V:Nat->Value}{ss:List St}{j:Nat}(h:Mid w B v1 v2 V ss j v6)(o:Obj):Mid (w.alloc o) B v1 v2 V ss j v6:=
 ⟨h.out.alloc o,h.pU.alloc o,λi hi=>(h.row i hi).alloc o,h.Zm.alloc o,h.sep,h.ae1,h.far,h.agw⟩
theorem aju{w:World}{B e:Nat}{v:Value}{n:Nat}{xs:List Value}(h:w.ownsRow B e 1 v n xs)(hn:0<n):∃ g,v.ownBlock=some g/\B<=g/\g<w.heap.size:=by
 obtain⟨g,cap,rfl,a,b,_⟩:=Cv h hn;exact⟨g,rfl,a,b⟩
theorem abO{w w1:World}{B:Nat}{v1 v2 v6:Value}{V:Nat->Value}{ss:List St}{j gg cc:Nat}(h:mU w B v1 v2 V ss j)(h6:w.ownsRow B 3 1 v6 8 (ji (bu ss j).next))(vz:∀ i,i<j->(V i).ownBlock≠v6.ownBlock)(Qa:v1.ownBlock≠v6.ownBlock)
  (hgrow:w.grownBy w1 v1.ownBlock) (hown:w1.ownsRow B 3 1 (.slice (some ⟨gg,0,none⟩) (j+1) cc) (j+1) (ji (ik ss (j+1)))) (hat:v1.ownBlock=some gg\/gg=w.heap.size):Mid w1 B (.slice (some ⟨gg,0,none⟩) (j+1) cc) v2 V ss j v6:=by
 have b:∀ v xs,w.ownsRow B 3 1 v 8 xs->v1.ownBlock≠v.ownBlock->(Value.slice (some ⟨gg,0,none⟩) (j+1) cc).ownBlock≠v.ownBlock:=by
  intro v xs d a;obtain⟨g,f,_,k⟩:=aju d (by decide);rw[f]at a ⊢;rcases hat with e | e
  ·rw[e]at a;exact a
  ·intro l;simp[Value.ownBlock]at l;omega
 exact⟨hown,h.pU.kept hgrow (aY h.pU h.out (by decide)),λi c=>(h.row i c).kept hgrow (aCb (h.far i c).symm),h6.kept hgrow (aCb Qa.symm),h.sep,vz,λi c=>b _ _ (h.row i c) (h.far i c),b _ _ h6 Qa⟩
theorem XI{w w1:World}{B:Nat}{v1 v2 v2' v6:Value}{V:Nat->Value}{ss:List St}{j:Nat}(h:Mid w B v1 v2 V ss j v6)(hgrow:w.grownBy w1 v2.ownBlock)
  (hown:w1.ownsRow B 22 1 v2' (j+1) ((List.range j).map V++[v6])):mU w1 B v1 v2' (λi=>if i=j then v6 else V i) ss (j+1):=by
 refine⟨h.out.kept hgrow (aY h.out h.pU (by decide)),by rw[aiL];exact hown,λi b=>?_,λi k a d=>?_,λi b=>?_⟩
 ·by_cases e:i=j
  ·subst e;simp only[if_true];exact h.Zm.kept hgrow (aY h.Zm h.pU (by decide))
  ·simp only[aC1 e];exact(h.row i (by omega)).kept hgrow (aY (h.row i (by omega)) h.pU (by decide))
 ·have c:¬ i=j:=by omega
  simp only[aC1 c];by_cases e:k=j
  ·subst e;simp only[if_true];exact h.ae1 i a
  ·simp only[aC1 e];exact h.sep i k a (by omega)
 ·by_cases e:i=j
  ·subst e;simp only[if_true];exact h.agw
  ·simp only[aC1 e];exact h.far i (by omega)
theorem Pz(g n cap B:Nat)(ss:List St)(w:World)(hr:w.ownsRow B 119 9 (.slice (some ⟨g,0,none⟩) n cap) n (gu ss))(h8:ku ss)(hl:ss.length=n)(hn:n<=1000)(hg:g<w.heap.size)(hcap:n<=cap) :
  Calls Tryz.prog 34 #[.slice (some ⟨g,0,none⟩) n cap] w λe w'=>∃ v1 v2 V,e=.returned (.agg #[v1,v2])/\mU w' w.heap.size v1 v2 V ss n/\Below w.heap.size w w':=by
 have HR:=hid hr;clear hr;obtain⟨i0,K,aT,aP,aO⟩:=info_parts Tryz.uw;obtain⟨i1,jU,gJ,gI,gG⟩:=info_parts Tryz.Kj;go_enter Tryz.func34,Tryz.ntmps34;go_wp2_with fail
 go_loopw [12] (λi wr=>∃ (j:Nat) (v1 v2:Value) (V:Nat->Value),j<=n/\i=.int .i64 j/\Below w.heap.size w wr /\
   Two wr w.heap.size (.slice none 0 0) (.slice none 0 0)/\Two wr (w.heap.size+1) v1 v2/\Hid (mU wr (w.heap.size+2) v1 v2 V ss j)) (λi _=>n - (intOf i).toNat)
 case atStart=>
  refine⟨0,_,_,λ_=>.bool false,aCg _,rfl,((aB4 _ _).alloc (aB2 _) _).alloc (by simp) _,?_,?_,hid (PP _ _ _ _)⟩
  ·exact(bY w _ _ _).below ((aB4 (w.heap.size+1) _).alloc (by simp) _) (aCA _)
  ·have:=bY (w.alloc (.cells #[.slice none 0 0,.slice none 0 0] 37)) (.slice none 0 0) (.slice none 0 0) 37;simpa using this
 case round=>
  obtain⟨j,v1,v2,V,hj,rfl,c,r,C,y⟩:=hrel;rename World=>W0;by_cases hlt:j<n
  ·have S:=xz HR.out h8 hl hlt;have uy:=rq h8 (i:=j) (by omega);obtain⟨a0,a1,a2,a3,a4,a5,a6,a7,ea,HX⟩:=zA (bu ss j).out uy;rw[show (⟨(bu ss j).out,(bu ss j).next⟩:St)=bu ss j from rfl]at ea;have ec:iA (bu ss j)=[.int .i64 (bu ss j).out,.int .i64 a0,.int .i64 a1,.int .i64 a2,.int .i64 a3,.int .i64 a4,.int .i64 a5,.int .i64 a6,.int .i64 a7]:=by
    have:=congrArg Array.toList ea;simpa [yI] using this
   rw[ec]at S;have jg:=hid (Jp ss j);have Ak:=hid uy;have c0:=(c.cell (p:=⟨g,j*9,none⟩) hg).trans (S 0 (by decide));have c1:=(c.cell (p:=⟨g,j*9+1,none⟩) hg).trans (S 1 (by decide));have c2:=(c.cell (p:=⟨g,j*9+2,none⟩) hg).trans (S 2 (by decide));have c3:=(c.cell (p:=⟨g,j*9+3,none⟩) hg).trans (S 3 (by decide));have c4:=(c.cell (p:=⟨g,j*9+4,none⟩) hg).trans (S 4 (by decide));have c5:=(c.cell (p:=⟨g,j*9+5,none⟩) hg).trans (S 5 (by decide));have c6:=(c.cell (p:=⟨g,j*9+6,none⟩) hg).trans (S 6 (by decide));have c7:=(c.cell (p:=⟨g,j*9+7,none⟩) hg).trans (S 7 (by decide));have c8:=(c.cell (p:=⟨g,j*9+8,none⟩) hg).trans (S 8 (by decide));simp only[List.getElem?_cons_succ,List.getElem?_cons_zero]at c0 c1 c2 c3 c4 c5 c6 c7 c8;clear S ea ec uy;generalize (bu ss j).out=o at *;have hM:=C.lt;have D:=hid r;have QT:=hid C;clear r C;go_wp2_with fail;generalize (#[Value.int .i64 a0,.int .i64 a1,.int .i64 a2,.int .i64 a3,.int .i64 a4,.int .i64 a5,.int .i64 a6,.int .i64 a7]:Array Value)=X at *
   go_loopw [18,6] (λi s wq=>∃ (k:Nat),k<=8/\i=.int .i64 k/\Below (W0.heap.size+1) (W0.alloc (.cells #[.int .i64 o,.int .i64 a0,.int .i64 a1,.int .i64 a2,.int .i64 a3,.int .i64 a4,.int .i64 a5,.int .i64 a6,.int .i64 a7] 119)) wq /\
     Hid (wq.ownsRow (W0.heap.size+1) 3 1 s k (ji ((bu ss j).next.take k)))) (λi _ _=>8 - (intOf i).toNat)
   case atStart=>exact⟨0,aCg _,rfl,aB4 _ _,hid (aCp _ _ _ _)⟩
   case round=>
    obtain⟨k,hk,rfl,E,N⟩:=hrel;have F:=E.size;rw[aB7]at F;by_cases z:k<8
    ·have IX:=λW=>jh (P:=Tryz.prog) W Tryz.underlying117 (lC Tryz.underlying3) (by kernel_rfl) z (HX.out k z);have HT:Hid (ji ((bu ss j).next.take k)++[.int .i64 ((bu ss j).next.getD k 0)]=ji ((bu ss j).next.take (k+1))):=hid (by
      have:k<(bu ss j).next.length:=by rw[Ak.out];exact z
      unfold ji;rw[List.take_succ_eq_append_getElem this,aCM];simp[List.getD,aB3 this])
     generalize (bu ss j).next.getD k 0=x at *;have own:=N.out;go_wp2_with (at_builtin;go_must (refine wpList_append_own _ rfl (.tmp 21) (.tmp 23) 22 rfl (_+1) 3 i0 (.int .i64 0) 1 8 Tryz.underlying22 K aT aP aO rfl (by decide) _ _ _ rfl (own.alloc _) ⟨wr.heap.size,0,none⟩ 1 1 [.int .i64 x] rfl rfl ?c1 ?c2 ?c3 ?c4 ?c5 ?_))
     case c1=>exact jl _ [_] _
     case c2=>intro u q;simp at q;subst q;rfl
     case c3=>unfold maxLen;omega
     case c4=>omega
     case c5=>simp;omega
     intro v' G b a _;have B1:=hid ((E.alloc F _).grown a (by simp;omega) (λk h=>(own.lt k h).1));rw[HT.out]at b;have O1:=hid b;clear b a own N IX E;go_wp2_with fail;go_roundw
     case rel=>exact⟨k+1,by omega,by go_num,B1.out,O1⟩
     case measure=>simp[intOf];omega
    ·obtain rfl:k=8:=by omega
     have O:=N.out;rw[List.take_of_length_le (by rw[Ak.out];exact aB2 _)]at O;have Q:Below W0.heap.size W0 wr:=((aB4 _ _).alloc (aB2 _) _).trans (E.mono (Nat.le_succ _));have L:=y.out.keeps Q;obtain⟨A,R,rfl,hg6,atz,hc6⟩:=Cv O (by decide);have h6:=bQ O (B':=w.heap.size+2) (by omega);have vz:∀ i,i<j->(V i).ownBlock≠(Value.slice (some ⟨A,0,none⟩) 8 R).ownBlock:=λi K e=>by
      have:=(((y.out).row i K).lt A e).2;omega
     have Qa:v1.ownBlock≠(Value.slice (some ⟨A,0,none⟩) 8 R).ownBlock:=λe=>by
      have:=((y.out).out.lt A e).2;omega
     have t0:=D.out.below Q (by omega);have t1:=QT.out.below Q hM;have cO:=(E.cell (p:=⟨W0.heap.size,0,none⟩) (aCA _)).trans (aCY W0 _ _ 0);simp at cO;have k0:=t1.c0;have BB:=hid (c.trans (Q.mono c.size));have HL6:=hid h6;have VR:=hid vz;have YL:=hid Qa;have sZ:=hid L;have T0:=hid t0;have T1:=hid t1;have l1:=L.out;clear h6 vz Qa L O N t0 t1 HX D QT y;go_wp2_with (at_builtin;go_must (refine aCE _ rfl (.tmp 27) (.tmp 30) 22 rfl (w.heap.size+2) 3 i0 (.int .i64 0) 1 8 Tryz.underlying22 K aT aP aO rfl (by decide) _ _ _ rfl (l1.alloc _) ⟨wr.heap.size,0,none⟩ 1 1 [.int .i64 o] rfl rfl ?c1 ?c2 (by decide) ?c3 ?c4 ?c5 _ rfl ?_))
     case c1=>exact jl _ [_] _
     case c2=>intro u q;simp at q;subst q;rfl
     case c3=>unfold maxLen;omega
     case c4=>omega
     case c5=>simp;omega
     intro H I G b a d gN;have T:Below (w.heap.size+2) wr G:=((aB4 _ _).alloc (by omega) _).grown a (by simp;omega) (λk h=>(l1.lt k h).1);rw[<-jg.out]at b;have M:=abO (sZ.out.keeps ((aB4 _ _).alloc (aB2 _) _)) (HL6.out.alloc _) VR.out YL.out a b (by rw[aB7];exact d);have J:=T0.out.below T (by omega);have f:=T1.out.below T (by omega);have nD:=a.size;have M2:=hid (M.set (k:=w.heap.size+1) (by omega) 0 (.slice (some ⟨H,0,none⟩) (j+1) I));have U0:=hid (J.other (k:=w.heap.size+1) (o:=0) (by omega) (.slice (some ⟨H,0,none⟩) (j+1) I));have u1:=f.set0 (.slice (some ⟨H,0,none⟩) (j+1) I);have d0:=f.c0;have d1:=f.f0;have U1:=hid u1;have k1:=u1.c1;have BB1:=hid ((BB.out.trans (T.mono (by omega))).setCell (p:=⟨w.heap.size+1,0,none⟩) (by show w.heap.size<=w.heap.size+1;omega) (.slice (some ⟨H,0,none⟩) (j+1) I));have n1:=M2.out.pU;have hws:w.heap.size+2<=G.heap.size:=by rw[aB7]at nD;omega
     clear b a d M J f u1 T l1 k0 cO;go_wp2_with (at_builtin;go_must (refine aCE _ rfl (.tmp 34) (.tmp 36) 23 rfl (w.heap.size+2) 22 i1 (.slice none 0 0) 1 24 Tryz.underlying23 jU gJ gI gG rfl (by decide) _ _ _ rfl (n1.alloc _) ⟨G.heap.size,0,none⟩ 1 1 [.slice (some ⟨A,0,none⟩) 8 R] rfl rfl ?d1 ?d2 (by decide) ?d3 ?d4 ?d5 _ rfl ?_))
     case d1=>exact λm u h=>by have:=jl (G.setCell ⟨w.heap.size+1,0,none⟩ (.slice (some ⟨H,0,none⟩) (j+1) I)) [.slice (some ⟨A,0,none⟩) 8 R] 22 m u h;rw[aCr]at this;exact this
     case d2=>intro u q;simp at q;subst q;rfl
     case d3=>unfold maxLen;omega
     case d4=>omega
     case d5=>simp;omega
     intro U l w2 b a d iy;have Y:=((aB4 (w.heap.size+2) _).alloc (by rw[aCr];exact hws) _).grown a (by rw[aB7,aCr];omega) (λk h=>(n1.lt k h).1);have L2:=XI (M2.out.alloc _) a b;have J:=U0.out.below Y (by omega);have f:=U1.out.below Y (by omega);have L3:=hid (L2.set (k:=w.heap.size+1) (by omega) 1 (.slice (some ⟨U,0,none⟩) (j+1) l));have V0:=hid (J.other (k:=w.heap.size+1) (o:=1) (by omega) (.slice (some ⟨U,0,none⟩) (j+1) l));have V1:=hid (f.set1 (.slice (some ⟨U,0,none⟩) (j+1) l));have e0:=f.c1;have e1:=f.f1;have Ws:=hid ((BB1.out.trans (Y.mono (by omega))).setCell (p:=⟨w.heap.size+1,1,none⟩) (by show w.heap.size<=w.heap.size+1;omega) (.slice (some ⟨U,0,none⟩) (j+1) l));clear b a d L2 J f Y n1 k1 d0 d1;go_wp2_with fail;go_roundw
     case rel=>exact⟨j+1,_,_,_,by omega,by go_num,Ws.out,V0.out,V1.out,L3⟩
     case measure=>simp[intOf];omega
  ·obtain rfl:j=n:=by omega
   obtain⟨Z,lM,rfl⟩:=ak y.out.out;obtain⟨kZ,l,rfl⟩:=ak y.out.pU;have k0:=C.c0;have k1:=C.c1;have r0:=r.c0;have r1:=r.c1;have f0:=r.f0;have f1:=r.f1;have L:=hid ((y.out.set (k:=w.heap.size) (by omega) 0 (.slice Z j lM)).set (k:=w.heap.size) (by omega) 1 (.slice kZ j l));have BB:=hid ((c.setCell (p:=⟨w.heap.size,0,none⟩) (aB2 _) (.slice Z j lM)).setCell (p:=⟨w.heap.size,1,none⟩) (aB2 _) (.slice kZ j l));have t:=(r.set0 (.slice Z j lM)).set1 (.slice kZ j l);have g0:=t.c0;have g1:=t.c1;go_wp2_with fail;refine bodyPost_ret (v:=.agg #[.slice Z j lM,.slice kZ j l]) (by simp[results,Tryz.results34,go_sem,g0,g1]) rfl ?_;exact⟨_,_,V,rfl,L.out.mono (by omega),BB.out⟩
def gZ(s:ByteArray):Nat:=if gW s=true then 0 else 9
def kJ(s:ByteArray)(w:World)(e:Ending)(w':World):Prop:=
 Below w.heap.size w w'/\∃ v1 v2,e=.returned (.tuple #[.agg #[v1,v2],.int .i64 (gZ s)]) /\
 ((gW s=false/\v1=.slice none 0 0/\v2=.slice none 0 0)\/(gW s=true/\∃ V,mU w' w.heap.size v1 v2 V (bI s (bt s 0)) (bt s 0)))
theorem afg(s:ByteArray)(w:World)(hm:s.size<=maxLen):Calls Tryz.prog 13 #[.string s] w (kJ s w):=by
 have F:=UR s (w.alloc (.cells #[.slice none 0 0,.slice none 0 0] 37)) hm;have t:=bY w (.slice none 0 0) (.slice none 0 0) 37;cases hr:gW s with
 | false=>
  have i:Hid (gZ s=9):=hid (by simp[gZ,hr]);have f:=hid hr;clear hr;go_enter Tryz.func13,Tryz.ntmps13;go_wp2_with fail;refine F.mono ?_;rintro e z ⟨d,⟨_,rfl⟩ | ⟨h,_⟩⟩
  ·have a:=t.below d (by simp);have B2:=hid (((aB4 w.heap.size w).alloc (aB2 _) _).trans (d.mono (by simp)));have C:=a.c0;have c1:=a.c1;have D:=a.f0;have E:=a.f1;have b:=(a.set0 (.slice none 0 0)).set1 (.slice none 0 0);have j:=b.c0;have l:=b.c1;clear d F t a b;go_wp2_with fail;refine bodyPost_ret (v:=.tuple #[.agg #[.slice none 0 0,.slice none 0 0],.int .i64 9]) (by simp[results,Tryz.results13,go_sem,j,l]) rfl ?_;unfold kJ;rw[i.out];exact⟨(B2.out.setCell (p:=⟨w.heap.size,0,none⟩) (aB2 _) _).setCell (p:=⟨w.heap.size,1,none⟩) (aB2 _) _,_,_,rfl,aCa ⟨f.out,rfl,rfl⟩⟩
  ·rw[f.out]at h;cases h
 | true=>
  have f:=hid hr;have A:=tN hr;have i:Hid (gZ s=0):=hid (by simp[gZ,hr]);have G:=nU s (bt s 0);have c:=kS s (bt s 0);have H:=A.2.2;have I:=jw.1 H;rw[c]at I;clear hr A;unfold kJ uf at *;generalize bI s (bt s 0)=ss at *;generalize bt s 0=n at *;go_enter Tryz.func13,Tryz.ntmps13;go_wp2_with fail;refine F.mono ?_;rintro e z ⟨d,⟨h,_⟩ | ⟨_,g,cap,rfl,own⟩⟩
  ·rw[f.out]at h;cases h
  ·obtain⟨S,J,K,m,M⟩:=eZ own (by omega);cases J;have P:=Pz g n cap _ ss z own G c (by omega) m M;have a:=t.below d (by simp);have B2:=hid (((aB4 w.heap.size w).alloc (aB2 _) _).trans (d.mono (by simp)));have B:=B2.out.size;clear d F t own;go_wp2_with fail;refine P.mono ?_;rintro e T ⟨U,W,V,rfl,L,o⟩;obtain⟨q,r,N⟩:=ak L.out;obtain⟨u,x,O⟩:=ak L.pU;subst N O;have b:=a.below o a.lt;have C:=b.c0;have c1:=b.c1;have D:=b.f0;have E:=b.f1;have y:=(b.set0 (.slice q n r)).set1 (.slice u n x);have j:=y.c0;have l:=y.c1;have Q:=hid (B2.out.trans (o.mono B));have R:=hid ((L.set (k:=w.heap.size) a.lt 0 (.slice q n r)).set (k:=w.heap.size) a.lt 1 (.slice u n x));clear o P a b y L;go_wp2_with fail;refine bodyPost_ret (v:=.tuple #[.agg #[.slice q n r,.slice u n x],.int .i64 0]) (by simp[results,Tryz.results13,go_sem,j,l]) rfl ?_;rw[i.out];exact⟨(Q.out.setCell (p:=⟨w.heap.size,0,none⟩) (aB2 _) _).setCell (p:=⟨w.heap.size,1,none⟩) (aB2 _) _,_,_,rfl,aCb ⟨f.out,V,R.out.mono B⟩⟩
