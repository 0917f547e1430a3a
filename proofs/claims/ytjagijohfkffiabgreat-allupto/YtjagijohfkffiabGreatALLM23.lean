import Derived.Test.YtjagijohfkffiabGreatALLM22
set_option maxHeartbeats 16000000
set_option maxRecDepth 100000
set_option linter.unusedSimpArgs false
namespace Go.Proofs.YtjagijohfkffiabGreat
open Go.RowKit
set_option linter.unusedVariables false
def strOf(l:List UInt8):ByteArray:=⟨l.toArray⟩
theorem R8(l m:List UInt8):strOf l++strOf m=strOf (l++m):=by
 apply ByteArray.ext;simp[strOf,ByteArray.data_append]
theorem KY(l:List UInt8):(strOf l).size=l.length:=by simp[strOf,ByteArray.size]
theorem Eu(W:World)(x:Int)(h0:0<=x)(h1:x<256):(convert 188 9 (.slice (some ⟨W.heap.size,0,none⟩) 1 1)).run Tryz.prog (W.alloc (.cells #[.int .u8 x] 5))=.ok (.string (strOf [xO x])) (W.alloc (.cells #[.int .u8 x] 5)):=
 run_convert_bytes_back (P:=Tryz.prog) _ 188 9 5 ⟨W.heap.size,0,none⟩ 1 [xO x] Tryz.underlying188 Tryz.underlying5 Tryz.underlying9 (λk hk=>by
  obtain rfl:k=0:=by simp at hk;omega
  rw[uK];simp[Br h0 h1])
theorem Yw(l:List UInt8)(b:UInt8)(hl:l.length<=1000)(W:World):(Op.stringOp .add (strOf l) (strOf [b])).run Tryz.prog W=.ok (.string (strOf (l++[b]))) W:=by
 exact(run_string_add_sum (P:=Tryz.prog) (w:=W) (strOf l) (strOf [b]) (by rw[KY,KY];simp;omega)).trans (by rw[R8])
section
variable (a1 a2:Option Addr) (l1 c1 l2 c2:Nat) (os:List Int) (ls:List (List Int)) (w:World)
theorem El(h1:Ints w a1 l1 c1 os)(h2:Lists w a2 l2 c2 ls):Calls Tryz.prog 41 #[.agg #[.slice a1 l1 c1,.slice a2 l2 c2]] w λe w'=>e=.returned (.bool (eG os ls))/\Below w.heap.size w w':=by
 by_cases h:l1=0\/8<l1\/l2≠l1
 ·exact aah a1 a2 l1 c1 l2 c2 os ls w h1 h2 h
 ·have e:l2=l1:=by omega
  subst e;exact Xe a1 a2 l2 c1 c2 os ls w h1 h2 (by omega) (by omega)
theorem abh(h1:Ints w a1 l1 c1 os)(h2:Lists w a2 l2 c2 ls)(hf:eG os ls=false) :
  Calls Tryz.prog 56 #[.agg #[.slice a1 l1 c1,.slice a2 l2 c2]] w λe w'=>e=.returned (.tuple #[.string (kw os ls),.int .i64 (ky os ls)])/\Below w.heap.size w w':=by
 have T:=λW (b:Below w.heap.size w W)=>El a1 a2 l1 c1 l2 c2 os ls W (h1.below b) (h2.below b);have a:Hid (kw os ls=⟨#[]⟩/\ky os ls=8):=hid ⟨by simp[kw,hf],by simp[ky,hf]⟩;rw[hf]at T;clear hf;go_enter Tryz.func56,Tryz.ntmps56;go_wp2_with fail;refine(T _ ((aB4 _ _).alloc (aB2 _) _)).mono ?_;rintro e d ⟨rfl,c⟩;have B2:=hid (((aB4 w.heap.size w).alloc (aB2 _) _).trans (c.mono (by simp)));clear c T;go_wp2_with fail
 go_ret2
 exact⟨by rw[a.out.1,a.out.2];rfl,B2.out⟩
theorem Zf(h1:Ints w a1 l1 c1 os)(h2:Lists w a2 l2 c2 ls)(hf:eG os ls=true) :
  Calls Tryz.prog 56 #[.agg #[.slice a1 l1 c1,.slice a2 l2 c2]] w λe w'=>e=.returned (.tuple #[.string (kw os ls),.int .i64 (ky os ls)])/\Below w.heap.size w w':=by
 have T:=λW (b:Below w.heap.size w W)=>El a1 a2 l1 c1 l2 c2 os ls W (h1.below b) (h2.below b);have O:Hid (kw os ls=strOf (bytesOf (dQ os ls))/\ky os ls=0):=hid ⟨by simp[kw,hf,strOf],by simp[ky,hf]⟩;have c:=pg hf;have P:=(xI c.1 c.2.1).2;have A:=nQ c.1;obtain⟨Uk,Fb,a⟩:=jw.1 c.2.2;rw[A]at Uk Fb a;have Q:=h1.hlen;have L2:=h2.hlen;have di:=c.1;obtain rfl:l2=l1:=by omega
 rw[hf]at T;have R:=hid (λi (hi:i<os.length)=>KQ c.1 hi);obtain⟨b1,o1,rfl,gN,h⟩:=h1.hcell (by omega);obtain⟨S,U,rfl,V,X⟩:=h2.hcell (by omega);have m1:=h1.hmax;have m3:=h1.hcap;have m2:=h2.hmax;have m4:=h2.hcap;have CV:=λ(W:World) (x:Int)=>Eu W x;have wr0:IntKind.u8.wrap (l2:Int)=l2:=wrap_u8 (by omega) (by omega);have B:=λ(W:World)=>Eu W (l2:Int) (by omega) (by omega);have C:Hid (strOf [xO (l2:Int)]=strOf (fq (dQ os ls) 0)):=hid (by simp[fq,A,Q]);clear hf;go_enter Tryz.func56,Tryz.ntmps56;go_wp2_with fail;refine(T _ ((aB4 _ _).alloc (aB2 _) _)).mono ?_;rintro e l ⟨rfl,n⟩;have u:=(n.cell (p:=⟨w.heap.size,0,none⟩) (by simp)).trans (aCY w _ _ 0);have D:=(n.cell (p:=⟨w.heap.size,1,none⟩) (by simp)).trans (aCY w _ _ 1);simp at u D;have E:=((aB4 w.heap.size w).alloc (aB2 _) _).trans (n.mono (by simp));have v:w.heap.size<l.heap.size:=World.block_lt_of_cell? _ ⟨w.heap.size,0,none⟩ u;have Y:=hid E;have yD:=hid n;clear n T CV;go_wp2_with fail;rw[C.out]
 go_loopw [6,5] (λi s wr=>∃ (j:Nat),j<=l2/\i=.int .i64 j/\s=.string (strOf (fq (dQ os ls) j))/\Below l.heap.size l wr) (λi _ _=>l2 - (intOf i).toNat)
 case atStart=>exact⟨0,aCg _,rfl,rfl,(aB4 _ _).alloc (aB2 _) _⟩
 case round=>
  obtain⟨j,hj,rfl,rfl,q⟩:=hrel;have F:=(q.cell (p:=⟨w.heap.size,0,none⟩) v).trans u;have G:=(q.cell (p:=⟨w.heap.size,1,none⟩) v).trans D;have H:Below w.heap.size w wr:=Y.out.trans (q.mono (by omega));by_cases r:j<l2
  ·obtain⟨ra,rl,rc,I,t⟩:=X j r;have cr':=(H.cell (p:=⟨S,U+j,none⟩) V).trans I;have cO:=(H.cell (p:=⟨b1,o1+j,none⟩) gN).trans (h j r);have J:rl=8:=by rw[<-t.hlen];exact c.2.1 j (by omega)
   subst J;have qI:=t.hcap;have afc:=t.hmax;obtain⟨Z,o3,rfl,xW,xH⟩:=t.hcell (by omega);have f:=FL (a j (by omega));have nJ:=Ci P (j:=j) (by omega);have Na:=hid (Ia (ss:=dQ os ls) (j:=j) (by omega));have y:=rq P (i:=j) (by omega);rw[R.out j (by omega)]at f y Na;have HR:Hid (∀ m,m<8->w.cell? ⟨Z,o3+m,none⟩=some (.int .i64 ((ls.getD j []).getD m 0))):=hid xH;have BH:=hid I;generalize ls.getD j []=row at *;generalize os.getD j 0=o at *;simp only at f y;have s1:=f.1;have s2:=f.2.1;have YD:=hid f.2.2;have z:=hid y;have wro:IntKind.u8.wrap o=o:=wrap_u8 s1 (by omega);have K:=λ(W:World)=>Eu W o s1 (by omega);have AD:=Yw (fq (dQ os ls) j) (xO o) (by omega);have L:Hid (fq (dQ os ls) j++[xO o]=fq (dQ os ls) j++iC ⟨o,row⟩ 0):=hid (by simp[iC]);clear h X xH I f y t R a;generalize fq (dQ os ls) j=bs at *;go_wp2_with fail;rw[L.out]
   go_loopw [7,5] (λi s wq=>∃ (k:Nat),k<=8/\i=.int .i64 k/\s=.string (strOf (bs++iC ⟨o,row⟩ k))/\Below l.heap.size l wq) (λi _ _=>8 - (intOf i).toNat)
   case atStart=>exact⟨0,aCg _,rfl,rfl,q.alloc q.size _⟩
   case round=>
    obtain⟨k,hk,rfl,rfl,g⟩:=hrel;by_cases d:k<8
    ·have F:=(g.cell (p:=⟨w.heap.size,0,none⟩) v).trans u;have G:=(g.cell (p:=⟨w.heap.size,1,none⟩) v).trans D;have tV:Below w.heap.size w wr:=Y.out.trans (g.mono (by omega));have crq:=(tV.cell (p:=⟨S,U+j,none⟩) V).trans BH.out;have cx:=(tV.cell (p:=⟨Z,o3+k,none⟩) xW).trans (HR.out k d);have hx:=YD.out k (by rw[z.out];exact d);have M:Hid (bs++iC ⟨o,row⟩ k++[xO (row.getD k 0)]=bs++iC ⟨o,row⟩ (k+1)):=hid (by
      rw[Jo (by rw[z.out];exact d),List.append_assoc])
     have LU:(iC ⟨o,row⟩ k).length=1+k:=Y7 (by rw[z.out];omega);generalize iC ⟨o,row⟩ k=sp at *;generalize row.getD k 0=x at *;have wrx:IntKind.u8.wrap x=x:=wrap_u8 hx.1 (by omega);have CVx:=λ(W:World)=>Eu W x hx.1 (by omega);have ADx:=Yw (bs++sp) (xO x) (by rw[aCd];omega);clear K AD B;go_wp2_with fail;go_roundw
     case rel=>exact⟨k+1,by omega,by go_num,by rw[<-M.out,List.append_assoc],g.alloc g.size _⟩
     case measure=>simp[intOf];omega
    ·obtain rfl:k=8:=by omega
     have N:Hid (bs++iC ⟨o,row⟩ 8=fq (dQ os ls) (j+1)):=hid (by
      rw[show iC ⟨o,row⟩ 8=qf ⟨o,row⟩ by rw[<-z.out];exact K7];exact Na.out.symm)
     go_wp2_with fail;go_roundw
     case rel=>exact⟨j+1,by omega,by go_num,by rw[N.out],g⟩
     case measure=>simp[intOf];omega
  ·obtain rfl:j=l2:=by omega
   have HA:Hid (fq (dQ os ls) j=bytesOf (dQ os ls)):=hid (by rw[<-JA,A,Q]);go_wp2_with fail
   go_ret2
   exact⟨by rw[O.out.1,O.out.2,HA.out];rfl,H⟩
theorem Zg(h1:Ints w a1 l1 c1 os)(h2:Lists w a2 l2 c2 ls) :
  Calls Tryz.prog 56 #[.agg #[.slice a1 l1 c1,.slice a2 l2 c2]] w λe w'=>e=.returned (.tuple #[.string (kw os ls),.int .i64 (ky os ls)])/\Below w.heap.size w w':=by
 cases hf:eG os ls with
 | false=>exact abh a1 a2 l1 c1 l2 c2 os ls w h1 h2 hf
 | true=>exact Zf a1 a2 l1 c1 l2 c2 os ls w h1 h2 hf
end
end Go.Proofs.YtjagijohfkffiabGreat
namespace Go.Proofs.YtjagijohfkffiabGreat.writes
open Go.ChangeShapes Go.WideShapes Go.ChangeAt Go.RowKit Go.Deep
open Go.ChangeMaps (open_string shut_string)
set_option linter.unusedVariables false
theorem ZR(a1 a2:Option Addr)(l1 c1 l2 c2:Nat)(os:List Int)(ls:List (List Int))(w:World)(h1:Ints w a1 l1 c1 os)(h2:Lists w a2 l2 c2 ls) :
  Calls Tryz.prog 27 #[.agg #[.slice a1 l1 c1,.slice a2 l2 c2]] w λe w'=>e=.returned (.bool true)/\Below w.heap.size w w':=by
 have c:=λW (b:Below w.heap.size w W)=>aaI a1 a2 l1 c1 l2 c2 os ls W (h1.below b) (h2.below b);have d:=λW (b:Below w.heap.size w W)=>Zg a1 a2 l1 c1 l2 c2 os ls W (h1.below b) (h2.below b);generalize kw os ls=v at *;generalize ky os ls=er at *;go_enter Tryz.func27,Tryz.ntmps27;go_wp2_with fail;refine(c _ ((aB4 _ _).alloc (aB2 _) _)).mono ?_;rintro e j ⟨rfl,a⟩;have f:=(a.cell (p:=⟨w.heap.size,0,none⟩) (by simp)).trans (aCY w _ _ 0);have g:=(a.cell (p:=⟨w.heap.size,1,none⟩) (by simp)).trans (aCY w _ _ 1);simp at f g;have h:=((aB4 w.heap.size w).alloc (aB2 _) _).trans (a.mono (by simp));have B1:=hid h;clear a c h;go_wp2_with fail;refine(d _ B1.out).mono ?_;rintro e k ⟨rfl,i⟩;have B:=hid (B1.out.trans (i.mono B1.out.size));clear d i f g;go_wp2
 all_goals go_ret
 all_goals exact⟨rfl,B.out⟩
end Go.Proofs.YtjagijohfkffiabGreat.writes
namespace Go.Proofs.YtjagijohfkffiabGreat
open Go.RowKit
set_option linter.unusedVariables false
attribute [local go_sem ↓] Go.wp_at_zero Go.wp_at_succ
def tail(s:ByteArray)(a:Nat):ByteArray:=s.extract a s.size
theorem tail_size(s:ByteArray)(a:Nat):(tail s a).size=s.size - a:=by simp[tail,ByteArray.size_extract]
theorem aiS(s:ByteArray)(a i:Nat):bt (tail s a) i=bt s (a+i):=by
 by_cases h:a+i<s.size
 ·have b:i<(tail s a).size:=by rw[tail_size];omega
  rw[iB h,iB b];simp[tail,ByteArray.getElem_extract]
 ·have b:¬ i<(tail s a).size:=by rw[tail_size];omega
  rw[Ic h,Ic b]
theorem aaZ(s:ByteArray)(a k:Nat):(tail s a).extract k (tail s a).size=tail s (a+k):=by
 apply ByteArray.ext;rw[tail_size];simp[tail,ByteArray.data_extract,Array.extract_extract];congr 1;have:s.data.size=s.size:=rfl;omega
theorem WF{s:ByteArray}{n i:Nat}(hi:i<n):bu (bI s n) i=wI s i:=by simp[bu,bI,List.getD,aCs,aCF hi]
theorem akp(ss:List St):dQ (ik ss ss.length) (jc ss ss.length)=ss:=by
 apply List.ext_getElem?;intro i;by_cases h:i<ss.length
 ·have a:i<(dQ (ik ss ss.length) (jc ss ss.length)).length:=by simp[dQ,ik,jc];exact h
  rw[aB3 a,aB3 h];simp[dQ,ik,jc,bu,List.getD,aB3 h]
 ·rw[List.getElem?_eq_none (by simp[dQ,ik,jc];omega),List.getElem?_eq_none (by omega)]
theorem acW{ss:List St}(h8:ku ss):eG (ik ss ss.length) (jc ss ss.length)=mM ss:=by
 have:=(xI (os:=ik ss ss.length) (ls:=jc ss ss.length) (by simp[ik,jc]) (λi b=>by
  have a:i<ss.length:=by simpa [jc] using b
  rw[show (jc ss ss.length).getD i []=(bu ss i).next by simp[jc,List.getD,aCs,aCF a]];exact rq h8 a)).1
 rw[this,akp]
theorem Pf{s:ByteArray}(h:0<s.size):(s.toList==[])=false:=by
 rw[ByteArray.toList_eq];have:s.data.toList.length=s.size:=rfl;cases e:s.data.toList with
 | nil=>rw[e]at this;simp at this;omega
 | cons a l=>rfl
theorem aaU{s:ByteArray}(h:s.size=0):(s.toList==[])=true:=by
 rw[ByteArray.toList_eq];have:s.data.toList.length=s.size:=rfl;cases e:s.data.toList with
 | nil=>rfl
 | cons a l=>rw[e]at this;simp at this;omega
theorem aaJ{m:Nat}(h:m<=1000):IntKind.i64.wrap (m:Int)=(m:Int):=by
 have:(m:Int) % 18446744073709551616=m:=by omega
 simp[IntKind.wrap,IntKind.bits,IntKind.signed];omega
def aa0:Value->Nat
 | .string b=>b.size
 | _=>0
section
variable (s:ByteArray) (w:World)
theorem Zk(h:s.size=0):Calls Tryz.prog 14 #[.string s] w (kJ s w):=by
 have E:Hid (gW s=false):=hid (wK λe=>by have:=(tN e).1;omega);have b:Hid (gZ s=9):=hid (by unfold gZ;rw[E.out];rfl);have a:s=⟨#[]⟩:=by
  apply ByteArray.ext;exact Array.eq_empty_of_size_eq_zero h
 have c:=hid a;have t:=bY w (.slice none 0 0) (.slice none 0 0) 37;have d:=t.c0;have c1:=t.c1;subst a;go_enter Tryz.func14,Tryz.ntmps14;go_wp2_with fail;refine bodyPost_ret (v:=.tuple #[.agg #[.slice none 0 0,.slice none 0 0],.int .i64 9]) (by simp[results,Tryz.results14,go_sem]) rfl ?_;unfold kJ;rw[b.out];exact⟨(((aB4 w.heap.size w).alloc (aB2 _) _)),_,_,rfl,aCa ⟨E.out,rfl,rfl⟩⟩
theorem Zj(hm:s.size<=1048576)(h:0<s.size)(N:Nat)(hN1:1+N*9<=s.size)(hN2:s.size<1+N*9+9):Calls Tryz.prog 14 #[.string s] w (kJ s w):=by
 obtain⟨i0,hi,aT,aP,aO⟩:=info_parts Tryz.uw;obtain⟨i1,jU,gJ,gI,gG⟩:=info_parts Tryz.Kj;have l:=Pf h;go_enter Tryz.func14,Tryz.ntmps14;go_wp2_with fail;generalize R:s.extract 1 s.size=S;have uM:Hid (S=tail s (1+0*9)):=hid R.symm;clear R l
 go_loopw [5] (λr wr=>∃ (j:Nat) (T v2:Value) (V:Nat->Value),j<=N/\r=.string (tail s (1+j*9))/\Below w.heap.size w wr /\
   Two wr w.heap.size (.slice none 0 0) (.slice none 0 0)/\Two wr (w.heap.size+1) T v2/\Hid (mU wr (w.heap.size+2) T v2 V (bI s N) j)) (λr _=>aa0 r)
 case atStart=>
  refine⟨0,_,_,λ_=>.bool false,aCg _,by rw[uM.out],((aB4 _ _).alloc (aB2 _) _).alloc (by simp) _,?_,?_,hid (PP _ _ _ _)⟩
  ·exact(bY w _ _ _).below ((aB4 (w.heap.size+1) _).alloc (by simp) _) (aCA _)
  ·have:=bY (w.alloc (.cells #[.slice none 0 0,.slice none 0 0] 37)) (.slice none 0 0) (.slice none 0 0) 37;simpa using this
 case round=>
  obtain⟨j,T,v2,V,hj,rfl,y,g,f,B⟩:=hrel;rename World=>W0;have z:=tail_size s (1+j*9);have lq:=hid (λi=>aiS s (1+j*9) i);have YB:=hid (aaZ s (1+j*9) 9);by_cases hlt:j<N
  ·have U:=WF (s:=s) (n:=N) hlt;have qa:=hid U;have ht9:9<=(tail s (1+j*9)).size:=by rw[z];omega
   have htm:(tail s (1+j*9)).size<=1048576:=by rw[z];omega
   have jg:=hid (Jp (bI s N) j);have hM:=f.lt;have W:=hid g;have QT:=hid f;have M4:Hid ((tail s (1+(j+1)*9)).size<(tail s (1+j*9)).size):=hid (by rw[tail_size,tail_size];omega);have uM:Hid (tail s (1+j*9+9)=tail s (1+(j+1)*9)):=hid (by congr 1;omega);clear z g f U;generalize tail s (1+j*9)=t at *;have kd:decide ((9:Int)<=(t.size:Int))=true:=by simp;omega
   have kd2:decide (9<=t.size)=true:=by simp;omega
   go_wp2_with fail
   go_loopw [7,6] (λi sv wq=>∃ (k:Nat),k<=8/\i=.int .i64 k/\Below W0.heap.size W0 wq /\
     Hid (wq.ownsRow W0.heap.size 3 1 sv k (ji ((wI s j).next.take k)))) (λi _ _=>8 - (intOf i).toNat)
   case atStart=>exact⟨0,aCg _,rfl,aB4 _ _,hid (aCp _ _ _ _)⟩
   case round=>
    obtain⟨k,hk,rfl,E,HO⟩:=hrel;have hsz:=E.size;by_cases X:k<8
    ·have Gt:1+k<t.size:=by omega
     have O:(t[1+k]'Gt).toNat=bt s (1+j*9+(1+k)):=by rw[<-iB Gt];exact lq.out (1+k)
     have kx:=ru s (1+j*9+(1+k));have HT:Hid (ji ((wI s j).next.take k)++[.int .i64 (bt s (1+j*9+(1+k)):Int)]=ji ((wI s j).next.take (k+1))):=hid (by
      have:k<(wI s j).next.length:=by rw[Dx];exact X
      have e:=aa4 s j X;rw[show 1+j*9+1+k=1+j*9+(1+k) by omega]at e;unfold ji;rw[List.take_succ_eq_append_getElem this,aCM,<-e];simp[List.getD,aB3 this])
     generalize bt s (1+j*9+(1+k))=x at *;have own:=HO.out;go_wp2_with (at_builtin;go_must (refine wpList_append_own _ rfl (.tmp 21) (.tmp 27) 22 rfl _ 3 i0 (.int .i64 0) 1 8 Tryz.underlying22 hi aT aP aO rfl (by decide) _ _ _ rfl (own.alloc _) ⟨wr.heap.size,0,none⟩ 1 1 [.int .i64 x] rfl rfl ?c1 ?c2 ?c3 ?c4 ?c5 ?_))
     case c1=>exact jl _ [_] _
     case c2=>intro u Y;simp at Y;subst Y;rfl
     case c3=>unfold maxLen;omega
     case c4=>omega
     case c5=>simp;omega
     intro v' Z b a _;have B1:=hid ((E.alloc hsz _).grown a (by simp;omega) (λk h=>(own.lt k h).1));rw[HT.out]at b;have O1:=hid b;clear b a own HO O E;go_wp2_with fail;go_roundw
     case rel=>exact⟨k+1,by omega,by go_num,B1.out,O1⟩
     case measure=>simp[intOf];omega
    ·obtain rfl:k=8:=by omega
     have O6:=HO.out;rw[List.take_of_length_le (by rw[Dx];exact aB2 _),<-qa.out]at O6;have L:=B.out.keeps E;obtain⟨P,xZ,rfl,hg6,atz,hc6⟩:=Cv O6 (by decide);have h6:=bQ O6 (B':=w.heap.size+2) (by omega);have vz:∀ i,i<j->(V i).ownBlock≠(Value.slice (some ⟨P,0,none⟩) 8 xZ).ownBlock:=λi hi e=>by
      have:=(((B.out).row i hi).lt P e).2;omega
     have Qa:T.ownBlock≠(Value.slice (some ⟨P,0,none⟩) 8 xZ).ownBlock:=λe=>by
      have:=((B.out).out.lt P e).2;omega
     have t0:=W.out.below E (by omega);have t1:=QT.out.below E hM;have h0t:0<t.size:=by omega
     have O:(t[0]'h0t).toNat=bt s (1+j*9):=by rw[<-iB h0t];exact lq.out 0
     have kx:=ru s (1+j*9);have HOO:Hid ((bu (bI s N) j).out=(bt s (1+j*9):Int)):=hid (by rw[qa.out];rfl);rw[HOO.out]at jg;clear HOO;generalize bt s (1+j*9)=o at *;have k0:=t1.c0;have BB:=hid (y.trans (E.mono y.size));have HL6:=hid h6;have VR:=hid vz;have YL:=hid Qa;have sZ:=hid L;have T0:=hid t0;have S:=hid t1;have l1:=L.out;clear h6 vz Qa L O6 HO t0 t1 W QT B lq;go_wp2_with fail;have hMw:w.heap.size+1<wr.heap.size:=by omega
     have wro:IntKind.i64.wrap (o:Int)=(o:Int):=aaJ (by omega)
     go_region_law ((refine aCV _ (by rfl) (.tmp 30) (.tmp 34) 22 (by rfl) (w.heap.size+2) 3 i0 (.int .i64 0) 1 8 Tryz.underlying22 hi aT aP aO rfl (by decide) T j (ji (ik (bI s N) j)) (by rfl) (l1.alloc _).drew ⟨wr.heap.size,0,none⟩ 1 1 [.int .i64 o] (by rfl) (by rfl) (World.news_of_block (cs:=#[.int .i64 o]) (t:=3) (fr:=(0,0)) (heap_alloc_last wr _)) (by simp[Value.oneCell']) (by decide) (by unfold maxLen;omega) (by omega) (by simp;omega) _ rfl ?_;intro gg cc Z b a A gN;have G:Below (w.heap.size+2) wr Z:=(aCl ((aB4 (w.heap.size+2) wr).alloc (by omega) (.cells #[.int .i64 o] 3)) 1).grown a (by show w.heap.size+2<=(wr.alloc (.cells #[.int .i64 o] 3)).heap.size;rw[aB7];omega) (λk h=>(l1.lt k h).1);have d0:=(S.out.below G (by omega)).c0;have d1:=(S.out.below G (by omega)).f0))
     all_goals
      rw[<-jg.out]at b;have M:=abO (sZ.out.keeps (w':=(wr.alloc (.cells #[.int .i64 o] 3)).drew) (aCl ((aB4 _ _).alloc (aB2 _) _) 1)) (HL6.out.alloc _).drew VR.out YL.out a b (by rcases A with e | e;exact aCa e;exact aCb (by rw[e]));have s0:=T0.out.below G (by omega);have H:=S.out.below G (by omega);have nD:=G.size;have M2:=hid (M.set (k:=w.heap.size+1) (by omega) 0 (.slice (some ⟨gg,0,none⟩) (j+1) cc));have U0:=hid (s0.other (k:=w.heap.size+1) (o:=0) (by omega) (.slice (some ⟨gg,0,none⟩) (j+1) cc));have u1:=H.set0 (.slice (some ⟨gg,0,none⟩) (j+1) cc);have U1:=hid u1;have k1:=u1.c1;have BB1:=hid ((BB.out.trans (G.mono (by omega))).setCell (p:=⟨w.heap.size+1,0,none⟩) (by show w.heap.size<=w.heap.size+1;omega) (.slice (some ⟨gg,0,none⟩) (j+1) cc));have n1:=M2.out.pU;have hws:w.heap.size+2<=Z.heap.size:=by omega
      clear b a A M s0 H u1 G l1 k0 d0 d1;go_wp2_with (at_builtin;go_must (refine aCE _ rfl (.tmp 38) (.tmp 40) 23 rfl (w.heap.size+2) 22 i1 (.slice none 0 0) 1 24 Tryz.underlying23 jU gJ gI gG rfl (by decide) _ _ _ rfl (n1.alloc _) ⟨Z.heap.size,0,none⟩ 1 1 [.slice (some ⟨P,0,none⟩) 8 xZ] rfl rfl ?d1 ?d2 (by decide) ?d3 ?d4 ?d5 _ rfl ?_))
      case d1=>exact λm u h=>by have:=jl (Z.setCell ⟨w.heap.size+1,0,none⟩ (.slice (some ⟨gg,0,none⟩) (j+1) cc)) [.slice (some ⟨P,0,none⟩) 8 xZ] 22 m u h;rw[aCr]at this;exact this
      case d2=>intro u Y;simp at Y;subst Y;rfl
      case d3=>unfold maxLen;omega
      case d4=>omega
      case d5=>simp;omega
      intro g2 C Q b a A iy;have dO:=((aB4 (w.heap.size+2) _).alloc (by rw[aCr];exact hws) _).grown a (by rw[aB7,aCr];omega) (λk h=>(n1.lt k h).1);have L2:=XI (M2.out.alloc _) a b;have s0:=U0.out.below dO (by omega);have H:=U1.out.below dO (by omega);have L3:=hid (L2.set (k:=w.heap.size+1) (by omega) 1 (.slice (some ⟨g2,0,none⟩) (j+1) C));have V0:=hid (s0.other (k:=w.heap.size+1) (o:=1) (by omega) (.slice (some ⟨g2,0,none⟩) (j+1) C));have V1:=hid (H.set1 (.slice (some ⟨g2,0,none⟩) (j+1) C));have e0:=H.c1;have e1:=H.f1;have Ws:=hid ((BB1.out.trans (dO.mono (by omega))).setCell (p:=⟨w.heap.size+1,1,none⟩) (by show w.heap.size<=w.heap.size+1;omega) (.slice (some ⟨g2,0,none⟩) (j+1) C));clear b a A L2 s0 H dO n1 k1 O;go_wp2_with fail;go_roundw
      case rel=>exact⟨j+1,_,_,_,by omega,by rw[YB.out,uM.out],Ws.out,V0.out,V1.out,L3⟩
      case measure=>simp[aa0];omega
  ·obtain rfl:j=N:=by omega
   have h8:=nU s j;have hlen:=kS s j;have I:=acW h8;rw[hlen]at I;obtain⟨a1,lM,xD,hI⟩:=B.out.ints;obtain⟨a2,C,EU,hLs⟩:=B.out.lists;subst xD EU;have F:=El a1 a2 j lM j C _ _ W0 hI hLs;rw[I]at F;have O:(s[0]'h).toNat=bt s 0:=(iB h).symm;have kx:=ru s 0;have kd:decide ((9:Int)<=((tail s (1+j*9)).size:Int))=false:=by rw[z];simp;omega
   have kd2:decide (9<=(tail s (1+j*9)).size)=false:=by rw[z];simp;omega
   have htm:(tail s (1+j*9)).size<=1048576:=by rw[z];omega
   have YF:Hid (gW s=true->(tail s (1+j*9)).size=0/\bt s 0=j/\mM (bI s j)=true):=hid (λe=>by
    have e2:=tN e;have e3:bt s 0=j:=by omega
    refine⟨by rw[z];omega,e3,?_⟩;rw[<-e3];exact e2.2.2)
   have HRY:Hid ((tail s (1+j*9)).size=0->bt s 0=j->mM (bI s j)=true->gW s=true):=hid (λe1 e2 e3=>by
    rw[z]at e1;unfold gW;rw[e2,e3];simp;omega)
   have y0:=f.c0;have y1:=f.c1;have sZ:=hid B.out;have hMw:=f.lt;clear z YB lq I hI hLs B;generalize tail s (1+j*9)=t at *;cases ev:mM (bI s j) with
   | false=>
    rw[ev]at F;have D:Hid (gW s=false):=hid (wK λe=>by have:=(YF.out e).2.2;rw[ev]at this;cases this);have J:Hid (gZ s=9):=hid (by unfold gZ;rw[D.out];rfl);clear ev;go_wp2_with fail;refine F.mono ?_;rintro e Q ⟨rfl,d⟩;have B2:=hid (y.trans (d.mono y.size));have c:=g.below d g.lt;have q:=f.below d f.lt;have K:=c.c0;have c1:=c.c1;have f0:=c.f0;have f1:=c.f1;have m0:=q.c0;clear d c q g f;generalize bt s 0=cnt at *;clear F;go_wp2_with fail
    go_quiet (fail)
    go_wp2_with fail;refine bodyPost_ret (v:=.tuple #[.agg #[.slice none 0 0,.slice none 0 0],.int .i64 9]) (by simp[results,Tryz.results14,go_sem,K,c1]) rfl ?_;unfold kJ;rw[J.out];exact⟨((aCl B2.out _).setCell (p:=⟨w.heap.size,0,none⟩) (aB2 _) _).setCell (p:=⟨w.heap.size,1,none⟩) (aB2 _) _,_,_,rfl,aCa ⟨D.out,rfl,rfl⟩⟩
   | true=>
    rw[ev]at F;by_cases Uc:t.size=0
    ·have l:=aaU Uc;by_cases hc:bt s 0=j
     ·have HR:=hid (HRY.out Uc hc ev);have J:Hid (gZ s=0):=hid (by unfold gZ;rw[HR.out];rfl);have HC:=hid hc;have IK2:(s[0]'h).toNat=j:=by rw[O];exact hc
      have hj8:j<256:=by omega
      clear ev Uc O hc;go_wp2_with fail;refine F.mono ?_;rintro e Q ⟨rfl,d⟩;have B2:=hid (y.trans (d.mono y.size));have c:=g.below d g.lt;have q:=f.below d f.lt;have L2:=sZ.out.keeps d;have K:=c.c0;have c1:=c.c1;have f0:=c.f0;have f1:=c.f1;have m0:=q.c0;have m1:=q.c1;have Z5:(t.toList !=[])=false:=by simpa [bne] using l
      have hM2:=q.lt;clear d g f F;have af3:w.heap.size<w.heap.size+2:=by omega
      have rA:=hid (λn=>((L2.keeps (aCl (aB4 Q.heap.size Q) n)).set (k:=w.heap.size) af3 0 (.slice a1 j lM)).set (k:=w.heap.size) af3 1 (.slice a2 j C));clear c q L2;go_wp2_with fail
      go_quiet (fail)
      go_wp2_with fail;refine bodyPost_ret (v:=.tuple #[.agg #[.slice a1 j lM,.slice a2 j C],.int .i64 0]) (by simp[results,Tryz.results14,go_sem,K,c1]) rfl ?_;unfold kJ;rw[J.out,HC.out];exact⟨((aCl B2.out _).setCell (p:=⟨w.heap.size,0,none⟩) (aB2 _) _).setCell (p:=⟨w.heap.size,1,none⟩) (aB2 _) _,_,_,rfl,aCb ⟨HR.out,V,(rA.out _).mono (by omega)⟩⟩
     ·have D:Hid (gW s=false):=hid (wK λe=>hc (YF.out e).2.1);have J:Hid (gZ s=9):=hid (by unfold gZ;rw[D.out];rfl);have Z5:(t.toList !=[])=false:=by simpa [bne] using l
      clear ev Uc;go_wp2_with fail;refine F.mono ?_;rintro e Q ⟨rfl,d⟩;have B2:=hid (y.trans (d.mono y.size));have c:=g.below d g.lt;have q:=f.below d f.lt;have K:=c.c0;have c1:=c.c1;have f0:=c.f0;have f1:=c.f1;have m0:=q.c0;clear d c q g f;generalize bt s 0=cnt at *;have kc:((j:Int) !=(cnt:Int))=true:=bne_iff_ne.2 (by omega);clear F;go_wp2_with fail
      go_quiet (fail)
      go_wp2_with fail;refine bodyPost_ret (v:=.tuple #[.agg #[.slice none 0 0,.slice none 0 0],.int .i64 9]) (by simp[results,Tryz.results14,go_sem,K,c1]) rfl ?_;unfold kJ;rw[J.out];exact⟨((aCl B2.out _).setCell (p:=⟨w.heap.size,0,none⟩) (aB2 _) _).setCell (p:=⟨w.heap.size,1,none⟩) (aB2 _) _,_,_,rfl,aCa ⟨D.out,rfl,rfl⟩⟩
    ·have l:=Pf (s:=t) (by omega);have Z5:(t.toList !=[])=true:=by simpa [bne] using l
     have D:Hid (gW s=false):=hid (wK λe=>Uc (YF.out e).1);have J:Hid (gZ s=9):=hid (by unfold gZ;rw[D.out];rfl);clear ev;go_wp2_with fail;refine F.mono ?_;rintro e Q ⟨rfl,d⟩;have B2:=hid (y.trans (d.mono y.size));have c:=g.below d g.lt;have q:=f.below d f.lt;have K:=c.c0;have c1:=c.c1;have f0:=c.f0;have f1:=c.f1;have m0:=q.c0;clear d c q g f;generalize bt s 0=cnt at *;clear F;go_wp2_with fail
     go_quiet (fail)
     go_wp2_with fail;refine bodyPost_ret (v:=.tuple #[.agg #[.slice none 0 0,.slice none 0 0],.int .i64 9]) (by simp[results,Tryz.results14,go_sem,K,c1]) rfl ?_;unfold kJ;rw[J.out];exact⟨((aCl B2.out _).setCell (p:=⟨w.heap.size,0,none⟩) (aB2 _) _).setCell (p:=⟨w.heap.size,1,none⟩) (aB2 _) _,_,_,rfl,aCa ⟨D.out,rfl,rfl⟩⟩
theorem Ps(hm:s.size<=1048576):Calls Tryz.prog 14 #[.string s] w (kJ s w):=by
 by_cases h:s.size=0
 ·exact Zk s w h
 ·exact Zj s w hm (by omega) ((s.size - 1) / 9) (by omega) (by omega)
end
theorem abK(ss:List St){n k:Nat}(hk:k<n):(jc ss n).getD k []=(bu ss k).next:=by simp[jc,List.getD,aCs,aCF hk]
theorem abG(ss:List St){n k:Nat}(hk:k<n):(ik ss n).getD k 0=(bu ss k).out:=by simp[ik,List.getD,aCs,aCF hk]
theorem ae9(s:ByteArray)(a1:Option Addr)(l1 c1:Nat)(u:List Int)(w:World)(hm:s.size<=1048576)(h1:Ints w a1 l1 c1 u) :
  Calls Tryz.prog 58 #[.string s,.slice a1 l1 c1] w λe w'=>e=.returned (.tuple #[.int .i64 (mq s u),.int .i64 (mr s u)])/\Below w.heap.size w w':=by
 have F:=Ps s w hm;have m1:=h1.hmax;have m3:=h1.hcap;have L1:=h1.hlen;cases c:gW s with
 | false=>
  have l:Hid (mq s u=0/\mr s u=9):=hid ⟨by simp[mq,c],by simp[mr,c]⟩;have C:=hid c;have D:Hid (gZ s=9):=hid (by simp[gZ,c]);clear c;go_enter Tryz.func58,Tryz.ntmps58;go_wp2_with fail;refine F.mono ?_;rintro e h ⟨f,R,S,rfl,⟨_,rfl,rfl⟩ | ⟨d,_⟩⟩
  ·have B2:=hid (f.alloc f.size (.cells #[.slice none 0 0,.slice none 0 0] 37));rw[D.out];clear f F;go_wp2_with fail
   go_ret2
   exact⟨by rw[l.out.1,l.out.2];rfl,B2.out⟩
  ·rw[C.out]at d;cases d
 | true=>
  have C:=hid c;have H:=tN c;have D:Hid (gZ s=0):=hid (by simp[gZ,c]);cases hu:dh u with
  | false=>
   have l:Hid (mq s u=0/\mr s u=6):=hid ⟨by simp[mq,hu],by simp[mr,c,hu]⟩;have A:=λW (b:Below w.heap.size w W)=>ul a1 l1 c1 u W (h1.below b);rw[hu]at A;clear c hu;go_enter Tryz.func58,Tryz.ntmps58;go_wp2_with fail;refine F.mono ?_;rintro e h ⟨f,R,S,rfl,⟨d,_⟩ | ⟨_,V,L⟩⟩
   ·rw[C.out]at d;cases d
   ·obtain⟨q,r,I⟩:=ak L.out;obtain⟨t,v,J⟩:=ak L.pU;subst I J;generalize bt s 0=n at *;have B2:=hid (f.alloc f.size (.cells #[.slice q n r,.slice t n v] 37));rw[D.out];clear f F L H;go_wp2_with fail;refine(A _ B2.out).mono ?_;rintro e w3 ⟨rfl,rfl⟩;go_wp2_with fail
    go_ret2
    exact⟨by rw[l.out.1,l.out.2];rfl,B2.out⟩
  | true=>
   have l:Hid (mq s u=(bu (bI s (bt s 0)) (qi (bI s (bt s 0)) u)).out/\mr s u=0):=hid ⟨by simp[mq,hu,c],by simp[mr,c,hu]⟩;have A:=λW (b:Below w.heap.size w W)=>ul a1 l1 c1 u W (h1.below b);rw[hu]at A;have T:=H.2.2;have U:=nU s (bt s 0);have p:=kS s (bt s 0);obtain⟨Uk,Fb,_⟩:=jw.1 T;rw[p]at Uk Fb;clear c H;unfold kJ at F;generalize bI s (bt s 0)=ss at *;generalize bt s 0=n at *;go_enter Tryz.func58,Tryz.ntmps58;go_wp2_with fail;refine F.mono ?_;rintro e h ⟨f,R,S,rfl,⟨d,_⟩ | ⟨_,V,L⟩⟩
   ·rw[C.out]at d;cases d
   ·obtain⟨q,r,I,X⟩:=L.ints;obtain⟨t,v,J,z⟩:=L.lists;subst I J;rw[D.out];have E:=f.alloc f.size (.cells #[.slice q n r,.slice t n v] 37);have Y:=bY h (.slice q n r) (.slice t n v) 37;have K:=X.below ((aB4 h.heap.size h).alloc (aB2 _) (.cells #[.slice q n r,.slice t n v] 37));have M:=z.below ((aB4 h.heap.size h).alloc (aB2 _) (.cells #[.slice q n r,.slice t n v] 37));have U3:=h1.below E;have Z:=hid E;clear f F L X z E;go_wp2_with fail;refine(A _ Z.out).mono ?_;rintro e w3 ⟨rfl,rfl⟩;generalize X8:h.alloc (.cells #[.slice q n r,.slice t n v] 37)=W3 at *;generalize h.heap.size=b6 at *;clear X8 A;go_wp2_with fail
    go_loopw [10,9] (λi a wr=>∃ j k:Nat,j<=l1/\i=.int .i64 j/\a=.int .i64 k/\k<n/\Hid (k=qi ss (u.take j))/\∃ m,wr=W3.drewN m) (λi _ _=>l1 - (intOf i).toNat)
    case atStart=>exact⟨0,0,aCg _,rfl,rfl,by omega,hid (by simp[qi]),0,rfl⟩
    case round=>
     obtain⟨j,k,hj,rfl,rfl,G,HK,m,rfl⟩:=hrel;by_cases N:j<l1
     ·obtain⟨b1,o1,rfl,gN,g⟩:=U3.hcell (by omega);obtain⟨b2,o2,rfl,iy,qV⟩:=M.hcell (by omega);obtain⟨ra,rl,rc,cr,c⟩:=qV k G;rw[abK ss G]at c;have d:=VF hu (j:=j) (by omega);have y:=Sb T U (k:=k) (by omega) d;have HS:Hid (qi ss (u.take (j+1))=xg ss k (u.getD j 0)):=hid (by rw[HK.out];exact Pp (by omega));have O:rl=8:=by rw[<-c.hlen];exact rq U (by omega)
      subst O;obtain⟨E,o3,rfl,xW,xH⟩:=c.hcell (by omega);have qI:=c.hcap;have afc:=c.hmax;have cu:=g j N;have Bc:=ja.1 d;generalize u.getD j 0=x at *;obtain⟨a,rfl⟩:=Int.eq_ofNat_of_zero_le Bc.1;have ca:=xH a (by omega);have P:=y.2;rw[Int.toNat_natCast]at P;rw[P]at ca;have B:=y.1;rw[p]at B;have t0:=Y.c1;have p1:=M.hcap;have p2:=M.hmax;clear g qV xH y P c d;generalize xg ss k (a:Int)=k2 at *;go_wp2_with fail
      go_quiet (fail)
      go_wp2_with fail;go_roundw
      case rel=>exact⟨j+1,k2,by omega,by go_num,rfl,B,hid HS.out.symm,_,rfl⟩
      case measure=>simp[intOf];omega
     ·have Q:Hid (k=qi ss u):=hid (by rw[HK.out,List.take_of_length_le (by omega)]);obtain⟨b1,o1,rfl,gN,g⟩:=K.hcell (by omega);have co:=g k G;rw[abG ss G]at co;have HO:Hid ((bu ss (qi ss u)).out=(bu ss k).out):=hid (by rw[Q.out]);generalize (bu ss k).out=o at *;have t0:=Y.c0;have p1:=K.hcap;have p2:=K.hmax;clear g;go_wp2_with fail
      go_ret2
      exact⟨by rw[l.out.1,l.out.2,HO.out];rfl,aCl Z.out _⟩
end Go.Proofs.YtjagijohfkffiabGreat
namespace Go.Proofs.YtjagijohfkffiabGreat.reads
open Go.ChangeShapes Go.WideShapes Go.ChangeAt Go.RowKit
open Go.ChangeMaps (open_string shut_string)
set_option linter.unusedVariables false
theorem Ll{s:ByteArray}{w:World}{e:Ending}{w':World}(h:kJ s w e w'):∃ a1 l1 c1 a2 l2 c2 os ls,e=.returned (.tuple #[.agg #[.slice a1 l1 c1,.slice a2 l2 c2],.int .i64 (gZ s)])/\Below w.heap.size w w' /\
  Ints w' a1 l1 c1 os/\Lists w' a2 l2 c2 ls/\l1=(if gW s=true then bt s 0 else 0)/\l2=(if gW s=true then bt s 0 else 0)/\os=(if gW s=true then ik (bI s (bt s 0)) (bt s 0) else [])/\ls=(if gW s=true then jc (bI s (bt s 0)) (bt s 0) else []):=by
 obtain⟨b,g,i,c,⟨a,rfl,rfl⟩ | ⟨a,V,L⟩⟩:=h
 ·refine⟨none,0,0,none,0,0,[],[],c,b,⟨rfl,aB2 _,by omega,λ_=>⟨rfl,rfl⟩,λh=>by omega⟩,⟨rfl,aB2 _,by omega,λ_=>⟨rfl,rfl⟩,λh=>by omega⟩,?_⟩;simp[a]
 ·obtain⟨a1,c1,rfl,d⟩:=L.ints;obtain⟨a2,c2,rfl,f⟩:=L.lists;refine⟨a1,_,c1,a2,_,c2,_,_,c,b,d,f,?_⟩;simp[a]
theorem ab6(s:ByteArray)(a1:Option Addr)(l1 c1:Nat)(u:List Int)(w:World)(hm:s.size<=1048576)(h1:Ints w a1 l1 c1 u) :
  Calls Tryz.prog 28 #[.string s,.slice a1 l1 c1] w λe w'=>e=.returned (.bool true)/\Below w.heap.size w w':=by
 have Z:s.size<=maxLen:=by unfold maxLen;omega
 have C1:=afg s w Z;have C2:=λW=>Ps s W hm;have C3:=λW (b:Below w.heap.size w W)=>aev s a1 l1 c1 u W Z (h1.below b);have C4:=λW (b:Below w.heap.size w W)=>ae9 s a1 l1 c1 u W hm (h1.below b);generalize mq s u=rv at *;generalize mr s u=re at *;go_enter Tryz.func28,Tryz.ntmps28;go_wp2_with fail;refine C1.mono ?_;intro e B f;obtain⟨C,D,E,F,G,H,os,ls,rfl,x,I1,L1,g,h,i,j⟩:=Ll f;clear f C1;have I:=hid g;have J:=hid h;have K:=hid i;have L:=hid j;clear g h i j;generalize k:gZ s=er at *;have M:=hid k;clear k;have tw:=bY B (.slice C D E) (.slice F G H) 37;have y:=(aB4 B.heap.size B).alloc (aB2 _) (.cells #[.slice C D E,.slice F G H] 37);go_wp2_with fail;refine(C2 _).mono ?_;intro e N Jv;obtain⟨O,z,P,Q,A,R,l,m,rfl,n,I2,L2,o,p,q,r⟩:=Ll Jv;obtain rfl:z=D:=by rw[o,I.out]
 obtain rfl:A=G:=by rw[p,J.out]
 obtain rfl:l=os:=by rw[q,K.out]
 obtain rfl:m=ls:=by rw[r,L.out]
 rw[M.out];have a:=tw.below n (by simp);have t:=(I1.below y).below n;have v:=(L1.below y).below n;have T:=x.trans ((y.mono x.size).trans (n.mono (by have:=x.size;simp;omega)));have yD:=hid T;have U:=bY N (.slice O z P) (.slice Q A R) 37;have c:=(aB4 N.heap.size N).alloc (aB2 _) (.cells #[.slice O z P,.slice Q A R] 37);have d:=a.below c a.lt;have S:=Ay C F O Q z E A H P R l m _ (t.below c) (v.below c) (I2.below c) (L2.below c);have p0:=d.c0;have p1:=d.c1;have V:=T.size;clear Jv o p q r n tw a U d I1 L1 t v I2 L2 y x C2 T;go_wp2_with fail;refine S.mono ?_;rintro e w3 ⟨rfl,aA⟩;have X:=hid (yD.out.trans ((c.mono V).trans (aA.mono (by simp;omega))));clear aA S p0 p1 c;go_wp2_with fail;refine(C3 _ X.out).mono ?_;rintro e w4 ⟨rfl,dB⟩;have Y:=hid (X.out.trans (dB.mono X.out.size));clear dB C3;go_wp2_with fail;refine(C4 _ Y.out).mono ?_;rintro e w5 ⟨rfl,bi⟩;have B5:=hid (Y.out.trans (bi.mono Y.out.size));clear bi C4;go_wp2
 all_goals go_ret
 all_goals exact⟨rfl,B5.out⟩
end Go.Proofs.YtjagijohfkffiabGreat.reads
namespace Go.Proofs.YtjagijohfkffiabGreat
open Go.RowKit
set_option linter.unusedVariables false
section
variable (ns:List Nd) (vs:List Nat) (out:Nat->Nat) (nx:Nat->Nat->Nat) (vd:Nat)
def Lc(k i a:Nat):List Nat:=if out k≠vd/\iR ns (aX vs i) a=true/\out (nx k a)≠vd then (toS ns vs i).map (λj=>nx k a*vs.length+j) else []
def nW(k i A:Nat):List Nat:=(List.range A).flatMap (Lc ns vs out nx vd k i)
def rQ(q:Nat):List Nat:=nW ns vs out nx vd (q / vs.length) (q % vs.length) 8
def nz(p q:Nat):Bool:=yn ns vs p (q % vs.length)
theorem Au(k i A:Nat):nW ns vs out nx vd k i (A+1)=nW ns vs out nx vd k i A++Lc ns vs out nx vd k i A:=by simp[nW,aCT]
theorem FP{k i:Nat}(hi:i<vs.length):rQ ns vs out nx vd (k*vs.length+i)=nW ns vs out nx vd k i 8:=by unfold rQ;rw[F9 hi,uV hi]
theorem Sj{k i a:Nat}(h:¬ (out k≠vd/\iR ns (aX vs i) a=true/\out (nx k a)≠vd)):Lc ns vs out nx vd k i a=[]:=aC1 h
theorem Nz{k i a:Nat}(h:out k≠vd/\iR ns (aX vs i) a=true/\out (nx k a)≠vd):Lc ns vs out nx vd k i a=(toS ns vs i).map (λj=>nx k a*vs.length+j):=aC2 h
theorem Pn{k i:Nat}(h:out k=vd):∀ A,nW ns vs out nx vd k i A=[]
 | 0=>rfl
 | A+1=>by rw[Au,Pn h A,Sj ns vs out nx vd (λc=>c.1 h)];rfl
theorem aiW(k i a:Nat):(Lc ns vs out nx vd k i a).length<=vs.length:=by
 unfold Lc
 split
 ·rw[aCO];exact zf ns vs i
 ·simp
theorem zC(k i:Nat):∀ A,(nW ns vs out nx vd k i A).length<=A*vs.length
 | 0=>by simp[nW]
 | A+1=>by
  rw[Au,aCd,Nat.succ_mul];have h1:=zC k i A;have h2:=aiW ns vs out nx vd k i A;omega
theorem Jq{l:List Nat}(h:l.Nodup)(b:Nat):l.count b<=1:=by
 induction l with
 | nil=>simp
 | cons a l ih=>
  rw[List.nodup_cons]at h;rw[List.count_cons];by_cases e:a=b
  ·subst e;rw[List.count_eq_zero.2 h.1];simp
  ·have:=ih h.2;simp[e];exact this
theorem Pe(i:Nat):(toS ns vs i).Nodup:=by
 unfold toS uj;exact List.nodup_range.filter _
theorem aa7(k i a b:Nat):(Lc ns vs out nx vd k i a).count b<=1:=by
 unfold Lc
 split
 ·refine Jq ?_ b;rw[List.nodup_iff_pairwise_ne,List.pairwise_map];exact(List.nodup_iff_pairwise_ne.1 (Pe ns vs i)).imp λc e=>c (by omega)
 ·simp
theorem La(k i b:Nat):∀ A,(nW ns vs out nx vd k i A).count b<=A
 | 0=>by simp[nW]
 | A+1=>by
  rw[Au,List.count_append];have h1:=La k i b A;have h2:=aa7 ns vs out nx vd k i A b;omega
theorem aeM(k i b:Nat):∀ A,b∈nW ns vs out nx vd k i A↔∃ a,a<A/\b∈Lc ns vs out nx vd k i a:=λA=>by
 unfold nW;rw[List.mem_flatMap];simp
theorem Za{K:Nat}(hc:∀ i a,i<K->a<8->nx i a<K):MR ns vs K (akH out nx vd) (rQ ns vs out nx vd) (nz ns vs):=by
 refine⟨λk i h f b=>?_,λp k i o h f=>?_⟩
 ·rw[FP ns vs out nx vd f,aeM];constructor
  ·rintro ⟨a,d,e⟩;by_cases c:out k≠vd/\iR ns (aX vs i) a=true/\out (nx k a)≠vd
   ·rw[Nz ns vs out nx vd c]at e;obtain⟨j,g,rfl⟩:=aCU.1 e;exact⟨a,nx k a,j,d,hc k a h d,⟨c.1,rfl,c.2.2⟩,oM.1 c.2.1,g,rfl⟩
   ·rw[Sj ns vs out nx vd c]at e;simp at e
  ·rintro ⟨a,q,j,d,r,⟨l,rfl,m⟩,n,g,rfl⟩;refine⟨a,d,?_⟩;rw[Nz ns vs out nx vd ⟨l,oM.2 n,m⟩];exact aCU.2 ⟨j,g,rfl⟩
 ·unfold nz;rw[uV f]
end
theorem Tx{ns:List Nd}(hg:Good ns){M:Nat}{m:Nat->Nat->Bool}(hL:gB ns M m):0<M:=by
 obtain⟨S,_,a⟩:=pq hg.wf (λ_=>0);obtain⟨i,b,_⟩:=hL.all (S 0) ⟨λ_=>0,S,λ_=>by show 0<8;omega,a,dU.refl _ _⟩;omega
theorem Lu(f:Nat->Bool)(n:Nat):ax f (n+1) (n+1)=ax f n n++[.bool (f n)]:=by
 unfold ax;rw[aCT,aCM];congr 1
 ·refine aCX λi a=>?_;have:i<n:=by simpa using a
  simp[this,show i<n+1 by omega]
 ·simp
theorem zM(f:Nat->Bool)(n k:Nat):(ax f n k).length=n:=by simp[ax]
theorem Xy{w:World}{B K N:Nat}{v:Value}{V:Nat->Value}{kp:Nat->Nat->Bool}(hN:0<N)(h:fZ w B 132 4 v K V (λq=>ax (kp q) N N)):YS w v K N kp:=by
 rcases h.out.2 with⟨rfl,h0⟩ | ⟨g,cap,cur,rfl,hb,hh,hc,hm,_⟩
 ·exact⟨none,0,by rw[h0],by omega,λh=>by omega⟩
 ·refine⟨_,cap,rfl,hc,λ_=>⟨g,rfl,dC hh,λi f=>?_⟩⟩;have a:=h.row i f;rw[zM]at a;obtain⟨b,c,e,_,d,j⟩:=Cv a hN;refine⟨b,c,?_,j,d,λq k=>?_⟩
  ·rw[h.out.cellAt i (by omega)];simp[aCs,aCF f,e]
  ·rw[e]at a;rw[a.cellAt q (by omega)];exact kV _ _ _ k
