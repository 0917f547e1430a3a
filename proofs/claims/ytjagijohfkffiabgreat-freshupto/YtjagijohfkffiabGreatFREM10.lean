import Derived.Test.YtjagijohfkffiabGreatFREM09
set_option maxHeartbeats 16000000
set_option maxRecDepth 100000
set_option linter.unusedSimpArgs false
namespace Go.Proofs.YtjagijohfkffiabGreat
open Go.RowKit
set_option linter.unusedVariables false
def Ed(N:Nat)(to:Nat->List Nat)(a b:Nat):Prop:=a<N/\b∈to a
theorem zh(f:Nat->Bool)(N b:Nat)(v:Bool):(ay f N N).set b (.bool v)=ay (upd f b v) N N:=by
 unfold ay;apply List.ext_getElem
 ·simp
 ·intro i h1 h2;simp at h1;rw[List.getElem_set];simp only[List.getElem_map,List.getElem_range,upd,h1,if_true];by_cases e:b=i
  ·rw[aBU e,aBU e.symm]
  ·rw[aBT e,aBT (λh=>e h.symm)]
theorem qh{f g:Nat->Bool}{N:Nat}(h:∀ i,i<N->f i=g i):ay f N N=ay g N N:=by
 unfold ay;apply aBP;intro i hi;rw[aBI]at hi;simp[hi,h i hi]
theorem mh{l:List Nat}{i:Nat}(h:i<l.length):df l i∈l:=by simp[df,List.getD,aAV h]
theorem xC{l:List Nat}{x:Nat}(h:x∈l):∃ i,i<l.length/\df l i=x:=by
 obtain⟨i,hi,e⟩:=aBC h;exact⟨i,hi,by simp[df,List.getD,aAV hi,e]⟩
theorem TP{l:List Nat}{i x:Nat}(h:i<l.length):df (l++[x]) i=df l i:=by simp[df,List.getD,aA9 h]
def Done(N:Nat)(to:Nat->List Nat)(todo:List Nat)(seen:Nat->Bool)(i:Nat):Prop:=∀ q,q<i->∀ b,b∈to (df todo q)->seen b=true
theorem abD{N:Nat}{to:Nat->List Nat}{td:List Nat}{sn:Nat->Bool}{q b:Nat}(h:Done N to td sn q)(hq:q<=td.length):Done N to (td++[b]) (upd sn b true) q:=λx hx c hc=>by
 rw[TP (by omega)]at hc;unfold upd;by_cases e:c=b
 ·rw[aBU e]
 ·rw[aBT e];exact h x hx c hc
theorem Jl(P N K lT:Nat)(to:Nat->List Nat)(kp:Nat->Nat->Bool)(w:World)(hn:pq w P N to K kp)(hto:∀ a,a<N->∀ b∈to a,b<N)(hlen:∀ a,a<N->(to a).length<=4398046511104)(ha:lT<N)(hN:N<=1099511627776) :
  Calls Tryz.prog 124 #[.pointer (some ⟨P,0,none⟩),.int .i64 lT] w λe w'=>∃ g seen,e=.returned (.slice (some ⟨g,0,none⟩) N N)/\w.heap.size<=g/\w'.ownsRow w.heap.size 4 1 (.slice (some ⟨g,0,none⟩) N N) N (ay seen N N)/\(∀ b,seen b=true↔reach (Ed N to) lT b)/\Below w.heap.size w w':=by
 obtain⟨v0,c0,ao,cap,rfl,hcap,hrow⟩:=hn.c0;obtain⟨g,rfl,hg,hcell⟩:=hrow (by omega);have hP:=hn.lt;have HC:=hid hcell;obtain⟨i0,hi,aR,aP,aN⟩:=info_parts Tryz.eD;obtain⟨i1,iC,fe,eZ,eY⟩:=info_parts Tryz.lW;have zX:=hid hto;clear hcell hrow hn hto;go_enter Tryz.func124,Tryz.ntmps124;go_wp2_with (at_make;go_must (refine aBA _ rfl (.tmp 14) (.tmp 14) 132 rfl w.heap.size 4 i0 (.bool false) 1 Tryz.underlying132 hi aR aP .i64 .i64 N N N rfl rfl rfl rfl ?m2 ?m3 (aAU _) ?_))
 case m2=>rw[aN];omega
 case m3=>unfold maxLen;omega
 intro w1 aF aZ;have eo:(madeCells #[Value.bool false] N).toList=List.replicate N (.bool false):=aBq _ _;rw[eo,<-dh (λ_=>false),show ay (λ_=>false) N 0=ay (λ_=>false) N N by simp[ay]]at aF;have aM:Below w.heap.size w w1:=(aAW _ _).grown aZ (aAU _) (λk h=>by cases h);have hs1:w.heap.size<w1.heap.size:=(aF.lt _ rfl).2;have O1:=hid aF;have aK:=hid aM;clear aF aZ eo aM;go_wp2_with fail
 go_loopw [7,6] (λi v wr=>∃ (q:Nat) (todo:List Nat) (seen:Nat->Bool),i=.int .i64 q/\q<=todo.length/\Hid (II (Ed N to) N lT todo seen)/\Hid (Done N to todo seen q)/\Hid (wr.ownsRow (w.heap.size+1) 3 1 v todo.length (aD todo)) /\
   Hid (wr.ownsRow w.heap.size 4 1 (.slice (some ⟨w.heap.size,0,none⟩) N N) N (ay seen N N))/\Below w.heap.size w wr) (λi _ _=>N+1 - (intOf i).toNat)
 case atStart=>
  refine⟨0,[lT],λ_=>false,rfl,aA8 _,hid (abT _ _ _),hid (λq hq=>by omega),hid ?_,hid (O1.out.alloc _),aK.out.alloc aK.out.size _⟩;exact⟨rfl,aA3 ⟨w1.heap.size,1,#[.int .i64 lT],rfl,by omega,by show (w1.heap.push _)[w1.heap.size]?=_;simp,aAU _,by unfold maxLen;omega,rfl,rfl⟩⟩
 case round=>
  obtain⟨q,todo,seen,rfl,hq,UH,HD,HT,HS,hb⟩:=hrel;rename World=>W0;obtain⟨aot,bK,hv⟩:=ai HT.out;subst hv;have DJ:=UH.out.len;have c0':=(hb.cell (p:=⟨P,0,none⟩) hP).trans c0;by_cases hlt:q<todo.length
  ·obtain⟨gt,e,ax6,hgt,htc⟩:=dX HT.out (by omega);subst e;have ct:W0.cell? ⟨gt,q,none⟩=some (.int .i64 (df todo q:Nat)):=by
    rw[HT.out.cellAt q (by omega)];simp[aD,df,List.getD,aAV hlt]
   have haN:df todo q<N:=by
    rcases UH.out.mem (mh hlt) with e | e
    ·rw[e];exact ha
    ·exact e.2
   obtain⟨r,cr,Km⟩:=HC.out (df todo q) haN;have cr':=(hb.cell (p:=⟨g,df todo q,none⟩) hg).trans cr;obtain⟨aor,qF,rfl,hrc,rz⟩:=Km;have oh:=hid rz;have HQ:Hid (df todo q∈todo):=hid (mh hlt);have HTA:=hid (zX.out (df todo q) haN);have jW:=hlen (df todo q) haN;generalize hA:df todo q=a at *;have HAQ:=hid hA;generalize oU:(to a).length=ln at *;have bZ:=hid oU;generalize ajP:todo.length=tn at *;have HTN:=hid ajP;clear rz cr oU hA ajP;have kd:decide ((q:Int)<(tn:Int))=true:=by simp;omega
   go_wp2_with fail
   go_quiet (fail)
   have UI:=hid (aBd hb nq);have uf:=hid (ae HT.out (aBd (aAW W0.heap.size W0) nq));have HS2:=hid (ae HS.out (aBd (aAW W0.heap.size W0) nq));clear HT HS c0' cr' ct hgt kd hb;generalize W0.drewN nq=W1 at *;go_wp2_with fail
   go_loopw [9,6] (λi v wr=>∃ (k:Nat) (td:List Nat) (sn:Nat->Bool),k<=ln/\i=.int .i64 k/\Hid (II (Ed N to) N lT td sn)/\Hid (q<td.length/\df td q=a)/\Hid (Done N to td sn q)/\Hid (∀ x,x<k->sn (df (to a) x)=true)/\Hid (wr.ownsRow (w.heap.size+1) 3 1 v td.length (aD td)) /\
     Hid (wr.ownsRow w.heap.size 4 1 (.slice (some ⟨w.heap.size,0,none⟩) N N) N (ay sn N N))/\Below w.heap.size w wr) (λi _ _=>ln - (intOf i).toNat)
   case atStart=>exact⟨0,todo,seen,aA8 _,rfl,UH,hid ⟨by rw[HTN.out];exact hlt,HAQ.out⟩,HD,hid (λx hx=>by omega),by rw[HTN.out];exact uf,HS2,UI.out⟩
   case round=>
    obtain⟨k,td,sn,hk,rfl,UG,BN,Xg,HK,tZ,wR,vI⟩:=hrel;obtain⟨aot,bK,hv⟩:=ai tZ.out;subst hv;have Yp:=UG.out.len;have hsz:=vI.size;by_cases hlk:k<ln
    ·obtain⟨gr,e,hgr,FW⟩:=oh.out (by omega);subst e;have cb:=(vI.cell (p:=⟨gr,k,none⟩) hgr).trans (FW k hlk);have wL:df (to a) k<N:=HTA.out _ (mh (by rw[bZ.out];exact hlk));have Eg:Hid (Ed N to a (df (to a) k)):=hid ⟨haN,mh (by rw[bZ.out];exact hlk)⟩;have sb:wr.cell? ⟨w.heap.size,df (to a) k,none⟩=some (.bool (sn (df (to a) k))):=by
      rw[wR.out.cellAt _ (by omega)];exact jM sn N _ wL
     have sf:=wR.out.frozenAt (df (to a) k);have HKS:Hid (sn (df (to a) k)=true->∀ x,x<k+1->sn (df (to a) x)=true):=hid (λh x hx=>by
      by_cases e:x<k
      ·exact HK.out x e
      ·rw[show x=k by omega];exact h)
     have HKU:Hid (∀ x,x<k+1->upd sn (df (to a) k) true (df (to a) x)=true):=hid (λx hx=>by
      unfold upd;by_cases e:df (to a) x=df (to a) k
      ·rw[aBU e]
      ·rw[aBT e];by_cases e2:x<k
       ·exact HK.out x e2
       ·exact absurd (by rw[show x=k by omega]) e)
     have mI:=hid (wR.out.stored (df (to a) k) (.bool true));generalize hbb:df (to a) k=b at *;have Cb:=hid hbb;clear hbb FW;cases hsv:sn b with
     | true=>
      rw[hsv]at sb;have HSV:=hid hsv;clear hsv;go_wp2_with fail;go_roundw
      case rel=>exact⟨k+1,td,sn,by omega,by go_num,UG,BN,Xg,hid (HKS.out HSV.out),tZ,wR,vI⟩
      case measure=>simp[intOf];omega
     | false=>
      rw[hsv]at sb;have HSV:=hid hsv;clear hsv;have BA:=hid (aiw UG.out (by rw[<-BN.out.2];exact mh BN.out.1) Eg.out wL HSV.out);have hst:=mI.out;rw[zh]at hst;have Lp:=hid hst.1;have iM:=hid (vI.setCell (p:=⟨w.heap.size,b,none⟩) (aAU _) (.bool true));have t5:=ax tZ.out (k:=w.heap.size) (aBs _) b (.bool true);have cb5:(wr.setCell ⟨w.heap.size,b,none⟩ (.bool true)).cell? ⟨gr,k,none⟩=some (.int .i64 (b:Nat)):=by
       rw[aA0 _ _ _ _ (λe=>by have:=congrArg Addr.block e;simp at this;omega)];exact cb
      have tL:(wr.setCell ⟨w.heap.size,b,none⟩ (.bool true)).heap.size=wr.heap.size:=aBj _ _ _;have HDP:=hid (abD (b:=b) Xg.out (by have:=BN.out.1;omega));have HQP:Hid (q<(td++[b]).length/\df (td++[b]) q=a):=hid ⟨by have:=BN.out.1;rw[aA5];omega,by rw[TP BN.out.1];exact BN.out.2⟩;have yK:Hid (aD td++[.int .i64 (b:Nat)]=aD (td++[b])/\td.length+1=(td++[b]).length):=hid ⟨by simp[aD],by simp⟩;clear hst mI wR tZ UG Xg BN;have hl5:td.length<=N+1:=Yp;go_wp2_with (at_builtin;go_must (refine wpList_append_own _ rfl (.tmp 54) (.tmp 59) 22 rfl (w.heap.size+1) 3 i1 (.int .i64 0) 1 8 Tryz.underlying22 iC fe eZ eY rfl (by decide) _ _ _ rfl (t5.alloc _) ⟨wr.heap.size,0,none⟩ 1 1 [.int .i64 b] rfl rfl ?c1 ?c2 ?c3 ?c4 ?c5 ?_))
      case c1=>exact λz u hz=>by have:=World.cell?_alloc_here (wr.setCell ⟨w.heap.size,b,none⟩ (.bool true)) #[.int .i64 (b:Nat)] 3 wr.heap.size z tL.symm;rw[xI,aBo,this];simpa using hz
      case c2=>intro u hu;simp at hu;subst hu;rfl
      case c3=>unfold maxLen;omega
      case c4=>omega
      case c5=>simp;omega
      intro v' w2 hown hgrow _;have B6:=hid ((iM.out.alloc (by rw[tL];exact hsz) _).grown hgrow (by rw[aAZ,tL];omega) (λk h=>aBO (Nat.le_succ _) (t5.lt k h).1));have S6:=hid ((Lp.out.alloc (.cells #[.int .i64 (b:Nat)] 3)).kept hgrow (aC (Lp.out.alloc (.cells #[.int .i64 (b:Nat)] 3)) (t5.alloc (.cells #[.int .i64 (b:Nat)] 3)) (by decide)));rw[yK.out.1,yK.out.2]at hown;have O6:=hid hown;clear hown hgrow t5 cb5 iM Lp sb sf cb;go_wp2_with fail;go_roundw
      case rel=>exact⟨k+1,td++[b],upd sn b true,by omega,by go_num,BA,HQP,HDP,HKU,O6,S6,B6.out⟩
      case measure=>simp[intOf];omega
    ·obtain rfl:k=ln:=by omega
     have HDN:Hid (Done N to td sn (q+1)):=hid (λx hx c hc=>by
      by_cases e:x<q
      ·exact Xg.out x e c hc
      ·rw[show x=q by omega,BN.out.2]at hc;obtain⟨y,hy,rfl⟩:=xC hc;exact HK.out y (by rw[bZ.out]at hy;exact hy))
     have hq1:q+1<=td.length:=BN.out.1;go_wp2_with fail;go_roundw
     case rel=>exact⟨q+1,td,sn,by go_num,hq1,UG,HDN,tZ,wR,vI⟩
     case measure=>simp[intOf];omega
  ·have atp:Hid (∀ b,seen b=true↔reach (Ed N to) lT b):=hid (ae2 UH.out (λa hm b he=>by
    obtain⟨x,hx,rfl⟩:=xC hm;exact HD.out x (by omega) b he.2))
   generalize todo.length=tn at *;have kd:decide ((q:Int)<(tn:Int))=false:=by simp;omega
   go_wp2_with fail;go_ret;exact⟨w.heap.size,seen,rfl,aAU _,HS.out,atp.out,hb⟩
def BO(w:World)(B g N:Nat)(f:Nat->Bool):Prop:=w.ownsRow B 4 1 (.slice (some ⟨g,0,none⟩) N N) N (ay f N N)
theorem BO.get{w:World}{B g N:Nat}{f:Nat->Bool}(h:BO w B g N f){i:Nat}(hi:i<N):w.cell? ⟨g,i,none⟩=some (.bool (f i)):=by
 rw[World.ownsRow.cellAt h i (by omega)];exact jM f N i hi
theorem BO.fz{w:World}{B g N:Nat}{f:Nat->Bool}(h:BO w B g N f)(i:Nat):w.frozen? ⟨g,i,none⟩=false:=World.ownsRow.frozenAt h i
theorem BO.set{w:World}{B g N:Nat}{f:Nat->Bool}(h:BO w B g N f)(b:Nat)(v:Bool):BO (w.setCell ⟨g,b,none⟩ (.bool v)) B g N (upd f b v):=by
 have:=(World.ownsRow.stored h b (.bool v)).1;rw[zh]at this;exact this
theorem BO.other{w:World}{B B2 g g2 N N2:Nat}{f f2:Nat->Bool}(h:BO w B g N f)(h2:BO w B2 g2 N2 f2)(hne:g≠g2)(b:Nat)(u:Value):BO (w.setCell ⟨g2,b,none⟩ u) B g N f:=
 World.ownsRow.kept h (World.ownsRow.stored h2 b u).2 (aA3 (by simpa [Value.ownBlock] using hne))
theorem BO.grown{w w':World}{B g N:Nat}{f:Nat->Bool}(h:BO w B g N f)(hg:w.grownBy w' none):BO w' B g N f:=World.ownsRow.kept h hg (aA3 (by simp[Value.ownBlock]))
theorem BO.blk{w:World}{B g N:Nat}{f:Nat->Bool}(h:BO w B g N f):B<=g/\g<w.heap.size:=World.ownsRow.lt h _ rfl
def cnt(f:Nat->Bool):Nat->Nat
 | 0=>0
 | n+1=>cnt f n+(if f n=true then 1 else 0)
theorem Pb{f g:Nat->Bool}:∀ n,(∀ i,i<n->f i=g i)->cnt f n=cnt g n
 | 0,_=>rfl
 | n+1,h=>by rw[cnt,cnt,Pb n (λi hi=>h i (by omega)),h n (by omega)]
theorem WB{f:Nat->Bool}{b:Nat}(hf:f b=true):∀ n,b<n->cnt (upd f b false) n+1=cnt f n
 | 0,h=>by omega
 | n+1,h=>by
  by_cases e:b=n
  ·subst e;rw[cnt,cnt,Pb (f:=upd f b false) (g:=f) b (λi hi=>by unfold upd;rw[aBT (by omega)])];simp[upd,hf]
  ·rw[cnt,cnt];have:=WB hf n (by omega);have e2:upd f b false n=f n:=by unfold upd;rw[aBT (λh=>e h.symm)]
   rw[e2];omega
def Qe(w:World)(g:Nat):Nat->Nat
 | 0=>0
 | n+1=>Qe w g n+(match w.cell? ⟨g,n,none⟩ with | some (.bool true)=>1 | _=>0)
theorem IL{w:World}{B g N:Nat}{f:Nat->Bool}(h:BO w B g N f):∀ n,n<=N->Qe w g n=cnt f n
 | 0,_=>rfl
 | n+1,hn=>by
  rw[Qe,cnt,IL h n (by omega),h.get (by omega)];cases f n <;> simp
def rZ:Value->Nat
 | .bool true=>1
 | _=>0
def Uh(N:Nat)(to:Nat->List Nat)(out:Nat->Bool):Prop:=∀ c,reach (Ed N to) c c->out c=true
def Le(to:Nat->List Nat)(out lK ah:Nat->Bool)(q k:Nat):Prop:=∀ i x,(i<q/\x<(to i).length\/i=q/\x<k)->out i=true->lK (df (to i) x)=true/\(out (df (to i) x)=true->ah i=true)
theorem ad3(to:Nat->List Nat)(out lK ah:Nat->Bool):Le to out lK ah 0 0:=λi x h=>by omega
theorem Ci{f:Nat->Bool}{b y:Nat}{v:Bool}(h:f y=true)(hv:f b=true->v=true):upd f b v y=true:=by
 unfold upd;by_cases e:y=b
 ·rw[aBU e];exact hv (e ▸ h)
 ·rw[aBT e];exact h
theorem xO(f:Nat->Bool)(b:Nat)(v:Bool):upd f b v b=v:=by simp[upd]
theorem aii{to:Nat->List Nat}{out lK ah:Nat->Bool}{q k:Nat}(h:Le to out lK ah q k):Le to out (upd lK (df (to q) k) true) (upd ah q (ah q||out (df (to q) k))) q (k+1):=λi x hx ho=>by
 by_cases e:i=q/\x=k
 ·obtain⟨rfl,rfl⟩:=e;exact⟨xO _ _ _,λhb=>by rw[xO,hb];simp⟩
 ·obtain⟨h1,h2⟩:=h i x (by omega) ho;exact⟨Ci h1 (λ_=>rfl),λhb=>Ci (h2 hb) (λh=>by rw[h];rfl)⟩
theorem VW{to:Nat->List Nat}{out lK ah:Nat->Bool}{q k:Nat}(h:Le to out lK ah q k)(hk:k=(to q).length\/out q=false):Le to out lK ah (q+1) 0:=λi x hx ho=>by
 rcases hk with hk | hk
 ·by_cases e:i=q
  ·subst e;exact h i x (by omega) ho
  ·exact h i x (by omega) ho
 ·by_cases e:i=q
  ·subst e;rw[hk]at ho;cases ho
  ·exact h i x (by omega) ho
theorem ajF{N:Nat}{to:Nat->List Nat}{out lK ah:Nat->Bool}(h:Le to out lK ah N 0)(hl:Uh N to out){c:Nat}(hc:reach (Ed N to) c c):lK c=true/\ah c=true:=by
 obtain⟨⟨d,hd,hdd⟩,e,he,hee⟩:=ZP hc;obtain⟨x,hx,ex⟩:=xC hd.2;obtain⟨y,hy,ey⟩:=xC he.2;have a1:=h c x (aA2 ⟨hd.1,hx⟩) (hl c hc);have a2:=h e y (aA2 ⟨he.1,hy⟩) (hl e hee);rw[ex]at a1;rw[ey]at a2;exact⟨a2.1,a1.2 (hl d hdd)⟩
theorem ah6{N:Nat}{to:Nat->List Nat}{out lK ah o2:Nat->Bool}(h:Le to out lK ah N 0)(hl:Uh N to out)(h2:Uh N to o2){q:Nat}(hq:lK q=false\/ah q=false):Uh N to (upd o2 q false):=λc hc=>by
 unfold upd;by_cases e:c=q
 ·subst e;obtain⟨h3,h4⟩:=ajF h hl hc;rcases hq with hq | hq
  ·rw[hq]at h3;cases h3
  ·rw[hq]at h4;cases h4
 ·rw[aBT e];exact h2 c hc
theorem adR(P N K:Nat)(to:Nat->List Nat)(kp:Nat->Nat->Bool)(w:World)(hn:pq w P N to K kp)(hto:∀ a,a<N->∀ b∈to a,b<N)(hlen:∀ a,a<N->(to a).length<=4398046511104)(hN:N<=1099511627776) :
  Calls Tryz.prog 144 #[.pointer (some ⟨P,0,none⟩)] w λe w'=>∃ g out,e=.returned (.slice (some ⟨g,0,none⟩) N N)/\w.heap.size<=g/\BO w' w.heap.size g N out/\Uh N to out/\Below w.heap.size w w':=by
 obtain⟨v0,c0,ao,cap,rfl,hcap,hrow⟩:=hn.c0;have hP:=hn.lt;have Gs:=hid hrow;obtain⟨i0,hi,aR,aP,aN⟩:=info_parts Tryz.eD;have zX:=hid hto;have Ls:=hid hlen;clear hrow hn hto hlen;go_enter Tryz.func144,Tryz.ntmps144;go_wp2_with (at_make;go_must (refine aBA _ rfl (.tmp 18) (.tmp 18) 132 rfl w.heap.size 4 i0 (.bool false) 1 Tryz.underlying132 hi aR aP .i64 .i64 N N N rfl rfl rfl rfl ?m2 ?m3 (aAU _) ?_))
 case m2=>rw[aN];omega
 case m3=>unfold maxLen;omega
 intro w1 aF aZ;have eo:(madeCells #[Value.bool false] N).toList=List.replicate N (.bool false):=aBq _ _;rw[eo,<-dh (λ_=>true)]at aF;have aM:Below w.heap.size w w1:=(aAW _ _).grown aZ (aAU _) (λk h=>by cases h);have OS:=hid aF;have aK:=hid aM;clear aF aZ eo aM;go_wp2_with fail
 go_loopw [5] (λi wq=>∃ k:Nat,k<=N/\i=.int .i64 k/\Hid (wq.ownsRow w.heap.size 4 1 (.slice (some ⟨w.heap.size,0,none⟩) N N) N (ay (λ_=>true) N k))/\Below w.heap.size w wq) (λi _=>N - (intOf i).toNat)
 case atStart=>exact⟨0,aA8 _,rfl,OS,aK.out⟩
 case round=>
  obtain⟨k,hk,rfl,HO,dm⟩:=hrel;rename World=>Wa;by_cases hlk:k<N
  ·have own:=HO.out;have q0:=own.frozenAt k;have q1:(Wa.cell? ⟨w.heap.size,k,none⟩).isSome=true:=by
    rw[own.cellAt k (by omega)];simp[ay,hlk]
   obtain⟨qv,q2⟩:=aBD.1 q1;have hO:=own.stored k (.bool true);rw[fB (λ_=>true)]at hO;have jy:=hid hO.1;have aW:=hid (dm.setCell (p:=⟨w.heap.size,k,none⟩) (aAU _) (.bool true));clear hO q1 own HO;go_wp2_with fail;go_roundw
   case rel=>exact⟨k+1,by omega,by go_num,jy,aW.out⟩
   case measure=>simp[intOf];omega
  ·obtain rfl:k=N:=by omega
   have iQ:Hid (BO Wa w.heap.size w.heap.size k (λ_=>true)):=HO;clear HO OS;go_wp2_with fail
   go_loopw [6] (λm wq=>∃ (mb:Bool) (out:Nat->Bool),m=.bool mb/\Hid (Uh k to out)/\Hid (BO wq w.heap.size w.heap.size k out)/\Below w.heap.size w wq) (λm wq=>Qe wq w.heap.size k+rZ m)
   case atStart=>exact⟨true,λ_=>true,rfl,hid (λ_ _=>rfl),iQ,dm⟩
   case round=>
    obtain⟨mb,out,rfl,HL,HO,hb⟩:=hrel;rename World=>W0;cases mb with
    | false=>
     go_wp2_with fail;go_ret;exact⟨w.heap.size,out,rfl,aAU _,HO.out,HL.out,hb⟩
    | true=>
     have hsz:=hb.size;go_wp2_with (at_make;go_must (refine aBA _ rfl (.tmp 29) (.tmp 29) 132 rfl w.heap.size 4 i0 (.bool false) 1 Tryz.underlying132 hi aR aP .i64 .i64 k k k rfl rfl rfl rfl ?m2 ?m3 hsz ?_))
     case m2=>rw[aN];omega
     case m3=>unfold maxLen;omega
     intro w2 dR lM;have eo:(madeCells #[Value.bool false] k).toList=List.replicate k (.bool false):=aBq _ _;rw[eo,<-dh (λ_=>false),show ay (λ_=>false) k 0=ay (λ_=>false) k k by simp[ay]]at dR;have ak:Below w.heap.size w w2:=hb.grown lM hsz (λk h=>by cases h);have OI:Hid (BO w2 w.heap.size W0.heap.size k (λ_=>false)):=hid dR;have OO:=hid (HO.out.grown lM);have aW:=hid ak;have oO:=ak.size;have gu:=OI.out.blk.2;have aeh:=HO.out.blk.2;clear dR lM eo ak;go_wp2_with (at_make;go_must (refine aBA _ rfl (.tmp 31) (.tmp 31) 132 rfl w.heap.size 4 i0 (.bool false) 1 Tryz.underlying132 hi aR aP .i64 .i64 k k k rfl rfl rfl rfl ?m2 ?m3 oO ?_))
     case m2=>rw[aN];omega
     case m3=>unfold maxLen;omega
     intro w3 ku sK;have eo:(madeCells #[Value.bool false] k).toList=List.replicate k (.bool false):=aBq _ _;rw[eo,<-dh (λ_=>false),show ay (λ_=>false) k 0=ay (λ_=>false) k k by simp[ay]]at ku;have OA:Hid (BO w3 w.heap.size w2.heap.size k (λ_=>false)):=hid ku;have OI3:=hid (OI.out.grown sK);have OO3:=hid (OO.out.grown sK);have cu:=hid (aW.out.grown sK oO (λk h=>by cases h));have Um:=hid (IL HO.out k (aAU _));clear ku sK eo OI OO HO iQ;generalize zD:W0.heap.size=gi at *;generalize hga:w2.heap.size=ga at *;go_wp2_with fail
     go_loopw [9] (λi wq=>∃ (q:Nat) (lK ah:Nat->Bool),q<=k/\i=.int .i64 q/\Hid (Le to out lK ah q 0)/\Hid (BO wq w.heap.size w.heap.size k out)/\Hid (BO wq w.heap.size gi k lK)/\Hid (BO wq w.heap.size ga k ah)/\Below w.heap.size w wq) (λi _=>k - (intOf i).toNat)
     case atStart=>exact⟨0,_,_,aA8 _,rfl,hid (ad3 _ _ _ _),OO3,OI3,OA,cu.out⟩
     case round=>
      obtain⟨q,lK,ah,hq,rfl,HI,vZ,jy,yJ,eH⟩:=hrel;rename World=>W4;by_cases zx:q<k
      ·obtain⟨g,e,hg,hcell⟩:=Gs.out (by omega);subst e;obtain⟨r,cr,aor,qF,rfl,hrc,rz⟩:=hcell q zx;have oh:=hid rz;have Eh:=hid cr;have jW:=Ls.out q zx;have HTQ:=hid (zX.out q zx);generalize oU:(to q).length=ln at *;have bZ:=hid oU;clear rz oU cr hcell;go_wp2_with fail
       go_loopw [10] (λi wq=>∃ (y:Nat) (lK ah:Nat->Bool),y<=ln/\i=.int .i64 y/\Hid (Le to out lK ah q y)/\Hid (BO wq w.heap.size w.heap.size k out)/\Hid (BO wq w.heap.size gi k lK)/\Hid (BO wq w.heap.size ga k ah)/\Below w.heap.size w wq) (λi _=>ln - (intOf i).toNat)
       case atStart=>exact⟨0,lK,ah,aA8 _,rfl,HI,vZ,jy,yJ,eH⟩
       case round=>
        obtain⟨y,lK,ah,hy,rfl,HI,vZ,jy,yJ,bV⟩:=hrel;have c05:=(bV.cell (p:=⟨P,0,none⟩) hP).trans c0;have cr5:=(bV.cell (p:=⟨g,q,none⟩) hg).trans Eh.out;by_cases hly:y<ln
        ·have co:=vZ.out.get zx;cases hoq:out q with
         | false=>
          rw[hoq]at co;have Ef:=hid (VW HI.out (aA3 hoq));clear hoq;go_wp2_with fail;go_roundw
          case rel=>exact⟨q+1,lK,ah,by omega,by go_num,Ef,vZ,jy,yJ,bV⟩
          case measure=>simp[intOf];omega
         | true=>
          rw[hoq]at co;obtain⟨gr,e,hgr,FW⟩:=oh.out (by omega);subst e;have cb:=(bV.cell (p:=⟨gr,y,none⟩) hgr).trans (FW y hly);have wL:df (to q) y<k:=HTQ.out _ (mh (by rw[bZ.out];exact hly));have mI:=hid (aii HI.out);have n1:w.heap.size≠gi:=by omega
          have n2:w.heap.size≠ga:=by omega
          have n3:ga≠gi:=by omega
          generalize df (to q) y=b at *;have s1:=jy.out.fz b;have s2:=jy.out.get wL;have A1:=vZ.out.other jy.out n1 b (.bool true);have A2:=jy.out.set b true;have A3:=yJ.out.other jy.out n3 b (.bool true);have t1:=A3.fz q;have t2:=A3.get zx;have t3:=A1.get wL;have D1:=hid (A1.other A3 n2 q (.bool (ah q||out b)));have D2:=hid (A2.other A3 n3.symm q (.bool (ah q||out b)));have D3:=hid (A3.set q (ah q||out b));have kG:=hid ((bV.setCell (p:=⟨gi,b,none⟩) (by show w.heap.size<=gi;omega) (.bool true)).setCell (p:=⟨ga,q,none⟩) (by show w.heap.size<=ga;omega) (.bool (ah q||out b)));clear A1 A2 A3 FW hoq vZ jy yJ HI;generalize lK b=iv at *;generalize hav:ah q=av at *;generalize hov:out b=ov at *;clear hav hov;cases av with
          | true=>
           go_wp2_with fail;go_roundw
           case rel=>exact⟨y+1,_,_,by omega,by go_num,mI,D1,D2,D3,kG.out⟩
           case measure=>simp[intOf];omega
          | false=>
           rw[Bool.false_or]at mI D1 D2 D3 kG;go_wp2_with fail;go_roundw
           case rel=>exact⟨y+1,_,_,by omega,by go_num,mI,D1,D2,D3,kG.out⟩
           case measure=>simp[intOf];omega
        ·obtain rfl:y=ln:=by omega
         have Ef:=hid (VW HI.out (aA2 bZ.out.symm));go_wp2_with fail;go_roundw
         case rel=>exact⟨q+1,lK,ah,by omega,by go_num,Ef,vZ,jy,yJ,bV⟩
         case measure=>simp[intOf];omega
      ·obtain rfl:q=k:=by omega
       go_wp2_with fail
       go_loopw [12,6] (λi m wq=>∃ (x:Nat) (mb:Bool) (o2:Nat->Bool),x<=q/\i=.int .i64 x/\m=.bool mb/\Hid (Uh q to o2)/\Hid (cnt o2 q+rZ (.bool mb)<=cnt out q)/\Hid (BO wq w.heap.size w.heap.size q o2)/\Hid (BO wq w.heap.size gi q lK)/\Hid (BO wq w.heap.size ga q ah)/\Below w.heap.size w wq) (λi _ _=>q - (intOf i).toNat)
       case atStart=>exact⟨0,false,out,aA8 _,rfl,rfl,HL,hid (by simp[rZ]),vZ,jy,yJ,eH⟩
       case round=>
        obtain⟨x,mb,o2,hx,rfl,rfl,oo,HC,zY,Ll,Eb,bV⟩:=hrel;by_cases fZ:x<q
        ·have s1:=zY.out.get fZ;have s2:=Ll.out.get fZ;have s3:=Eb.out.get fZ;have s4:=zY.out.fz x;have n1:gi≠w.heap.size:=by omega
         have n2:ga≠w.heap.size:=by omega
         have D1:=hid (zY.out.set x false);have D2:=hid (Ll.out.other zY.out n1 x (.bool false));have D3:=hid (Eb.out.other zY.out n2 x (.bool false));have kG:=hid (bV.setCell (p:=⟨w.heap.size,x,none⟩) (aAU _) (.bool false));have HDR:=hid (λh=>ah6 HI.out HL.out oo.out (q:=x) h);have HCU:Hid (o2 x=true->cnt (upd o2 x false) q+rZ (.bool true)<=cnt out q):=hid (λh=>by have:=WB h q fZ;have:=HC.out;simp[rZ]at *;omega);generalize o2 x=ov at *;generalize lK x=iv at *;generalize ah x=av at *;cases ov with
         | false=>
          go_wp2_with fail;go_roundw
          case rel=>exact⟨x+1,mb,o2,by omega,by go_num,rfl,oo,HC,zY,Ll,Eb,bV⟩
          case measure=>simp[intOf];omega
         | true=>
          have UE:=hid (HCU.out rfl);clear HCU;cases iv with
          | false=>
           have rO:=hid (HDR.out (aA2 rfl));clear HDR;go_wp2_with fail;go_roundw
           case rel=>exact⟨x+1,true,_,by omega,by go_num,rfl,rO,UE,D1,D2,D3,kG.out⟩
           case measure=>simp[intOf];omega
          | true=>
           cases av with
           | false=>
            have rO:=hid (HDR.out (aA3 rfl));clear HDR;go_wp2_with fail;go_roundw
            case rel=>exact⟨x+1,true,_,by omega,by go_num,rfl,rO,UE,D1,D2,D3,kG.out⟩
            case measure=>simp[intOf];omega
           | true=>
            clear HDR;go_wp2_with fail;go_roundw
            case rel=>exact⟨x+1,mb,o2,by omega,by go_num,rfl,oo,HC,zY,Ll,Eb,bV⟩
            case measure=>simp[intOf];omega
        ·obtain rfl:x=q:=by omega
         go_wp2_with fail;go_roundw
         case rel=>exact⟨mb,o2,rfl,oo,zY,bV⟩
         case measure=>
          have h1:=IL zY.out x (aAU _);have h2:=HC.out;have h3:=Um.out;simp only[rZ]at *;omega
