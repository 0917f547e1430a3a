import Derived.Test.YtjagijohfkffiabGreatFREM11
set_option maxHeartbeats 16000000
set_option maxRecDepth 100000
set_option linter.unusedSimpArgs false
namespace Go.Proofs.YtjagijohfkffiabGreat
open Go.RowKit
set_option linter.unusedVariables false
theorem J6{w:World}{B e g n m cap:Nat}{xs ys:List Value}(h:w.ownsRow B e 1 (.slice (some ⟨g,0,none⟩) (n+m) cap) (n+m) (xs++ys))(hl:xs.length=n):w.ownsRow B e 1 (.slice (some ⟨g,0,none⟩) n cap) n xs:=by
 refine⟨by simp[hl],?_⟩;rcases h.2 with⟨e1,_⟩ | ⟨g',cap',cur,e1,hb,hh,hc,hm,hs,ht⟩
 ·simp at e1
 ·cases e1;refine .inr ⟨g,cap,cur,rfl,hb,hh,by omega,hm,hs,?_⟩;have h2:(cur.toList.take ((n+m)*1)).take n=(xs++ys).take n:=by rw[ht]
  rw[List.take_take,show min n ((n+m)*1)=n by omega,List.take_left' hl]at h2;rw[Nat.mul_one];exact h2
def Qm(w w':World)(v v':Value)(n m:Nat):Prop:=(∃ g cap,v=.slice (some ⟨g,0,none⟩) n cap/\v'=.slice (some ⟨g,0,none⟩) (n+m) cap)\/((∃ g',v'.ownBlock=some g'/\w.heap.size<=g')/\w.grownBy w' none)
theorem gQ{P:Program}(w:World){ops:Array Oper}{rest:List Oper}{o:Oper}{a:Act}{Q:Exit->Act->World->Prop}(lX:o.guard=none)(s x:Operand)(t:TypeId)
  (ho:o.op=.call { callee:=.builtin .append,args:=#[s,x],argTypes:=#[t,t] })
  (base:Nat) (e:TypeId) (i:TypeInfo) (z:Value) (bytes:Nat) (ht:P.underlying t=some (.slice e)) (hi:P.info? e=some i) (hz:i.zero=some z)
  (hsize:i.size=1) (hby:i.bytes=bytes) (hzs:z.cells.size=1)
  (v:Value) (n:Nat) (xs:List Value) (hs:a.eval s=v) (hown:w.ownsRow base e 1 v n xs)
  (ad:Addr) (m c:Nat) (news:List Value) (hx:a.eval x=.slice (some ad) m c) (hl:news.length=m) (hm0:0<m) (Qh:∀ j u,news[j]?=some u->w.cell? (ad.add j)=some u) (h1:∀ u∈news,u.oneCell'=true)
  (h63:n+m<=maxLen) (Sd:(n+m)*bytes<=140737488355328) (hbase:base<=w.heap.size)
  (h:∀ v' w',w'.ownsRow base e 1 v n xs->w'.ownsRow base e 1 v' (n+m) (xs++news)->Qm w w' v v' n m->w.grownBy w' v.ownBlock->wpList P ops Q rest (a.put o.dst v') w'):wpList P ops Q (o::rest) a w:=by
 have grow:∀ (ao:Option Addr) (cap:Nat),v=.slice ao n cap->(ao=none->n=0/\cap=0)->(∀ b,ao=some b->∀ j u,xs[j]?=some u->w.cell? (b.add j)=some u)->cap<n+m->wpList P ops Q (o::rest) a w:=by
  intro ao cap ev hno hcells hfull;have fZ:xs.length=n*1:=hown.1;refine wpList_append_grows w lX s x t ho e i z 1 bytes ht hi hz hsize hby hzs (by decide) ao n cap xs (by rw[hs,ev]) hno fZ hcells ad m c news hx (by omega) Qh h1 hfull h63 Sd ?_;intro v' w' Q3 hg;have hgv:w.grownBy w' v.ownBlock:=⟨hg.os,hg.tape,hg.output,hg.size,λk hk _=>hg.block k hk (by simp)⟩;refine h v' w' (hown.kept hg (by cases hb:v.ownBlock <;> simp)) (bJ Q3 hbase) (aA3 ⟨?_,hg⟩) hgv
  rcases Q3.2 with⟨_,h0⟩ | ⟨g',cap',cur,e1,hb,_⟩
  ·omega
  ·exact⟨g',by rw[e1];rfl,hb⟩
 rcases hown.2 with⟨ev,h0⟩ | ⟨g,cap,cur,ev,hb,hh,hc,hmx,hsz,Ob⟩
 ·exact grow none 0 (by rw[ev,h0]) (λ_=>⟨h0,rfl⟩) (λb hb=>by cases hb) (by omega)
 ·by_cases hr:n+m<=cap
  ·subst ev;refine wpList_append_fits w lX s x t ho base e i 1 ht hi hsize g n cap xs hs hown ad m c news hx (by omega) Qh h1 hr ?_;intro w' Q3 hg;exact h _ w' (J6 Q3 (by have:=hown.1;omega)) Q3 (aA2 ⟨g,cap,rfl,rfl⟩) hg
  ·refine grow (some ⟨g,0,none⟩) cap ev (λe=>by cases e) (λb hb j u hj=>?_) (by omega);cases hb;rw[Addr.add_lit,aBo];rw[ev]at hown;rw[hown.cellAt j (by have:=(aA1.1 hj).1;have:=hown.1;omega)];exact hj
def Beside(v X:Value)(n nX N:Nat):Prop:=(X.ownBlock=none\/X.ownBlock≠v.ownBlock)\/∃ g cap,X=.slice (some ⟨g,0,none⟩) nX cap/\v=.slice (some ⟨g,0,none⟩) n cap/\nX<=N
theorem Beside.more{v X:Value}{n nX N N':Nat}(h:Beside v X n nX N)(hN:N<=N'):Beside v X n nX N':=by
 rcases h with h | ⟨g,cap,h1,h2,h3⟩
 ·exact aA2 h
 ·exact aA3 ⟨g,cap,h1,h2,by omega⟩
theorem rq{w w':World}{B e n m nX:Nat}{v v' X kv:Value}(D:Qm w w' v v' n m)(hg:w.grownBy w' v.ownBlock)(hv:w'.ownsRow B e 1 v' (n+m) (List.replicate (n+m) kv))(hX:w.ownsRow B e 1 X nX (List.replicate nX kv))(hr:Beside v X n nX (n+m)):w'.ownsRow B e 1 X nX (List.replicate nX kv):=by
 rcases D with⟨g,cap,rfl,rfl⟩ | ⟨_,h0⟩
 ·rcases hr with h | ⟨g2,p9,rfl,e2,dw⟩
  ·exact hX.kept hg h
  ·cases e2;obtain⟨j,hj⟩:∃ j,n+m=nX+j:=⟨n+m - nX,by omega⟩;rw[hj,show List.replicate (nX+j) kv=List.replicate nX kv++List.replicate j kv from (List.replicate_append_replicate).symm]at hv;exact J6 hv (by simp)
 ·exact hX.kept h0 (by cases hb:X.ownBlock <;> simp)
theorem nL{w w':World}{B e n m:Nat}{v v':Value}{xs:List Value}(D:Qm w w' v v' n m)(hv:w.ownsRow B e 1 v n xs):Beside v v' n (n+m) (n+m):=by
 rcases D with⟨g,cap,h1,h2⟩ | ⟨⟨g',h1,h2⟩,_⟩
 ·exact aA3 ⟨g,cap,h2,h1,aAU _⟩
 ·refine aA2 (aA3 λe=>?_);rw[h1]at e;have:=(hv.lt g' e.symm).2;omega
theorem mQ{w w':World}{n m:Nat}{v v':Value}(D:Qm w w' v v' n m):v'.ownBlock=v.ownBlock\/∃ g',v'.ownBlock=some g'/\w.heap.size<=g':=by
 rcases D with⟨g,cap,h1,h2⟩ | ⟨h,_⟩
 ·exact aA2 (by rw[h1,h2];rfl)
 ·exact aA3 h
theorem Te{xs:List Value}{kv:Value}{j:Nat}(hj:j<xs.length):(List.replicate j kv++xs.drop j).set j kv=List.replicate (j+1) kv++xs.drop (j+1):=by
 rw[List.set_append_right _ _ (by simp),List.replicate_succ',List.append_assoc];congr 1;rw[List.length_replicate,Nat.sub_self,List.drop_eq_getElem_cons hj];rfl
theorem aaE(n:Nat)(k:Int):gJ (List.replicate n k)=List.replicate n (.int .i64 k):=by simp[gJ]
theorem adV(a:Option Addr)(l c k:Nat)(w:World)(h:Ints w a l c (List.replicate l (k:Int))) :
  Calls Tryz.prog 47 #[.slice a l c,.int .i64 (k:Nat)] w λe w'=>e=.returned (.bool true)/\w'=w:=by
 have hcap:=h.hcap;have hmax:=h.hmax;have HI:=hid h;clear h;go_enter Tryz.func47,Tryz.ntmps47;go_wp2_with fail
 go_loop [5] (λi=>∃ j:Nat,j<=l/\i=.int .i64 j) (λi=>l - (intOf i).toNat)
 case atStart=>exact⟨0,aA8 _,rfl⟩
 case round=>
  obtain⟨j,hj,rfl⟩:=hrel;by_cases eQ:j<l
  ·obtain⟨b,o,e,hb,hc⟩:=HI.out.hcell (by omega);subst e;have ck:=hc j eQ;rw[show (List.replicate l (k:Int)).getD j 0=(k:Int) by simp[List.getD,eQ]]at ck;have i1:(0:Int)<=(j:Int):=by omega
   have i2:(j:Int)<(l:Int):=by omega
   have i3:((k:Int) !=(k:Int))=false:=by simp
   clear hc;go_wp2_with fail
   go_round
   case rel=>exact⟨j+1,by omega,by go_num⟩
   case measure=>simp[intOf] <;> omega
  ·obtain rfl:j=l:=by omega
   go_wp2_with fail;go_ret;exact⟨rfl,rfl⟩
theorem aax(a:Option Addr)(l c k:Nat)(w:World)(h:Lists w a l c (List.replicate l [(k:Int)])) :
  Calls Tryz.prog 48 #[.slice a l c,.int .i64 (k:Nat)] w λe w'=>e=.returned (.bool true)/\w'=w:=by
 have hcap:=h.hcap;have hmax:=h.hmax;have HI:=hid h;clear h;go_enter Tryz.func48,Tryz.ntmps48;go_wp2_with fail
 go_loop [5] (λi=>∃ j:Nat,j<=l/\i=.int .i64 j) (λi=>l - (intOf i).toNat)
 case atStart=>exact⟨0,aA8 _,rfl⟩
 case round=>
  obtain⟨j,hj,rfl⟩:=hrel;by_cases eQ:j<l
  ·obtain⟨b,o,e,hb,hc⟩:=HI.out.hcell (by omega);subst e;obtain⟨ra,rl,rc,ck,hr⟩:=hc j eQ;rw[show (List.replicate l [(k:Int)]).getD j []=[(k:Int)] by simp[List.getD,eQ]]at hr;have vG:=hr.hlen;simp at vG;subst vG;obtain⟨b',o',e,hb',oW⟩:=hr.hcell (by omega);subst e;have ck2:=oW 0 (by omega);rw[Nat.add_zero,show ([(k:Int)]:List Int).getD 0 0=(k:Int) from rfl]at ck2;have i1:(0:Int)<=(j:Int):=by omega
   have i2:(j:Int)<(l:Int):=by omega
   have i3:((k:Int) !=(k:Int))=false:=by simp
   clear hc oW hr;go_wp2_with fail
   go_round
   case rel=>exact⟨j+1,by omega,by go_num⟩
   case measure=>simp[intOf] <;> omega
  ·obtain rfl:j=l:=by omega
   go_wp2_with fail;go_ret;exact⟨rfl,rfl⟩
theorem Tryz.ad2:(Tryz.prog.info? 3).map (λi=>(i.zero,i.size,i.bytes))=some (some (.int .i64 0),1,8):=by kernel_rfl
theorem Tryz.NZ:(Tryz.prog.info? 22).map (λi=>(i.zero,i.size,i.bytes))=some (some (.slice none 0 0),1,24):=by kernel_rfl
def Pt(w:World)(v:Value)(n k:Nat):Prop:=w.ownsRow 0 3 1 v n (List.replicate n (.int .i64 (k:Nat)))
def Listed(M:Nat)(v vL vO:Value)(n c q:Nat)(es:List Value)(w:World)(e:Ending)(w':World):Prop:=
 e=.returned (.tuple #[])/\∃ o1 o2 o3 fC,w'.heap[M]?=some (.cells #[fC,vO] 32 (0,0))/\w'.ownsRow 0 22 1 fC (c+4) (es++[v,o1,o2,o3]) /\
  Pt w' v n (77+q)/\Pt w' o1 (n+1) (77+q)/\Pt w' o2 (n+2) (77+q)/\Pt w' o3 (n+3) (77+q) /\
  (∀ o,o=o1\/o=o2\/o=o3->o.ownBlock=v.ownBlock\/∃ g',o.ownBlock=some g'/\w.heap.size<=g')/\(fC.ownBlock=vL.ownBlock\/∃ g',fC.ownBlock=some g'/\w.heap.size<=g')/\KB w w' M v.ownBlock vL.ownBlock
theorem bE{w:World}{B e n M:Nat}{v:Value}{xs:List Value}{cs:Array Value}{t:TypeId}(h:w.ownsRow B e 1 v n xs)(hM:w.heap[M]?=some (.cells cs t (0,0)))(hne:e≠t):v.ownBlock≠some M:=λe1=>by
 rcases h.2 with⟨rfl,_⟩ | ⟨g,cap,cur,rfl,_,hh,_⟩
 ·simp[Value.ownBlock]at e1
 ·simp[Value.ownBlock]at e1;subst e1;rw[hM]at hh;simp at hh;exact hne hh.2.symm
theorem zk(M n c q cap:Nat)(ao:Option Addr)(vL vO:Value)(xs es:List Value)(w:World)(hM:w.heap[M]?=some (.cells #[vL,vO] 32 (0,0)))(hL:w.ownsRow 0 22 1 vL c es)(hv:w.ownsRow 0 3 1 (.slice ao n cap) n xs)(hn:n<=1048576)(hc:c=4*q)(hq:q<=1048576) :
  Calls Tryz.prog 19 #[.pointer (some ⟨M,0,none⟩),.slice ao n cap] w (Listed M (.slice ao n cap) vL vO n c q es w):=by
 obtain⟨i0,hi,aR,aP,aN⟩:=info_parts Tryz.ad2;obtain⟨i1,iC,fe,eZ,eY⟩:=info_parts Tryz.NZ;obtain⟨aL,qL,eL⟩:=ai hL;subst eL;have YE:(c:Int) / 4=(q:Int):=by omega
 have afR:(c:Int).tdiv 4=(q:Int):=by rw[Int.tdiv_eq_ediv_of_nonneg (by omega)];exact YE
 have m0:w.cell? ⟨M,0,none⟩=some (.slice aL c qL):=by rw[aBJ w M 0 _ _ _ hM];rfl
 have axG:n<=cap/\cap<=9223372036854775807:=by
  rcases hv.2 with⟨e,h0⟩ | ⟨g,cap',cur,e,_,_,h1,h2,_⟩
  ·cases e;omega
  ·cases e;unfold maxLen at h2;omega
 have axH:c<=qL/\qL<=9223372036854775807:=by
  rcases hL.2 with⟨e,h0⟩ | ⟨g,cap',cur,e,_,_,h1,h2,_⟩
  ·cases e;omega
  ·cases e;unfold maxLen at h2;omega
 have zo:xs.length=n:=by have:=hv.1;omega
 have HXL:=hid zo;have HM:=hid hM;have HL:=hid hL;have HV:=hid hv;have HC:=hid hc;have akc:(77:Int)+(q:Int)=((77+q:Nat):Int):=by omega
 have ayx:=hid akc;clear hM hL hv hc akc zo;obtain⟨k,hk⟩:∃ k:Nat,(77:Int)+(q:Int)=(k:Int):=⟨77+q,by omega⟩;have HK:Hid (k=77+q):=hid (by omega);go_enter Tryz.func19,Tryz.ntmps19;go_wp2_with fail;clear hk
 go_loopw [5] (λi wq=>∃ j:Nat,j<=n/\i=.int .i64 j/\Hid (wq.ownsRow 0 3 1 (.slice ao n cap) n (List.replicate j (.int .i64 (k:Nat))++xs.drop j))/\Hid (w.grownBy wq (Value.slice ao n cap).ownBlock)) (λi _=>n - (intOf i).toNat)
 case atStart=>exact⟨0,aA8 _,rfl,hid (by simpa using HV.out),hid (World.grownBy.refl _ _)⟩
 case round=>
  obtain⟨j,hj,rfl,HO,HG⟩:=hrel;rename World=>W0;by_cases eQ:j<n
  ·obtain⟨g,eg,hBg,hg,_⟩:=dX HO.out (by omega);subst eg;have cj:∃ u,W0.cell? ⟨g,j,none⟩=some u:=⟨_,by rw[HO.out.cellAt j (by omega)];exact aAV (by simp;have:=HXL.out;omega)⟩;obtain⟨u,cj⟩:=cj;have fj:W0.frozen? ⟨g,j,none⟩=false:=by
    rcases HO.out.2 with⟨e,_⟩ | ⟨g',cap',cur,e,_,hh,_⟩
    ·cases e
    ·cases e;simp[World.frozen?,hh]
   have st:=HO.out.stored j (.int .i64 (k:Nat));have jy:Hid ((W0.setCell ⟨g,j,none⟩ (.int .i64 (k:Nat))).ownsRow 0 3 1 (.slice (some ⟨g,0,none⟩) n cap) n (List.replicate (j+1) (.int .i64 (k:Nat))++xs.drop (j+1))):=hid (by
    have h9:=st.1;rw[Te (by have:=HXL.out;omega)]at h9;exact h9)
   have Xd:Hid (w.grownBy (W0.setCell ⟨g,j,none⟩ (.int .i64 (k:Nat))) (Value.slice (some ⟨g,0,none⟩) n cap).ownBlock):=hid ⟨st.2.os.trans HG.out.os,st.2.tape.trans HG.out.tape,st.2.output.trans HG.out.output,aBO HG.out.size st.2.size,λq h1 h2=>(st.2.block q (aBi h1 HG.out.size) h2).trans (HG.out.block q h1 h2)⟩;have i1:(0:Int)<=(j:Int):=by omega
   have i2:(j:Int)<(n:Int):=by omega
   clear st HO HG;go_wp2_with fail;go_roundw
   case rel=>exact⟨j+1,by omega,by go_num,jy,Xd⟩
   case measure=>simp[intOf];omega
  ·obtain rfl:n=j:=by omega
   have qG:=HO.out;rw[List.drop_of_length_le (by have:=HXL.out;omega),List.append_nil]at qG;have HL0:=hid (HL.out.kept HG.out (aC HL.out HV.out (by decide)));have dP:=hid ((HG.out.block M (aBm.1 HM.out).1 (λe=>bE HV.out HM.out (by decide) e.symm)).trans HM.out);have hsz0:=HG.out.size;have WZ:Hid (∀ q,q<w.heap.size->some q≠(Value.slice ao n cap).ownBlock->W0.heap[q]?=w.heap[q]?):=hid (λq h1 h2=>HG.out.block q h1 h2);have kF:=hid (⟨HG.out.os,HG.out.tape,HG.out.output⟩:W0.os=w.os/\W0.tape=w.tape/\W0.output=w.output);clear HO HG;go_wp2_with (at_builtin;go_must (refine gQ _ rfl (.tmp 26) (.tmp 28) 22 rfl 0 3 i0 (.int .i64 0) 8 Tryz.underlying22 hi aR aP aN rfl (.slice ao n cap) n _ rfl (qG.alloc _) ⟨W0.heap.size,0,none⟩ 1 1 [Value.int .i64 (k:Nat)] rfl rfl (by decide) ?a11 ?a12 ?a13 ?a14 (aA8 _) ?_))
   case a11=>exact eu _ [Value.int .i64 (k:Nat)] _
   case a12=>intro u hu;simp at hu;subst hu;rfl
   case a13=>unfold maxLen;omega
   case a14=>omega
   intro o1 w1 pI aF D1 g1;have e1:List.replicate n (Value.int .i64 (k:Nat))++[Value.int .i64 (k:Nat)]=List.replicate (n+1) (Value.int .i64 (k:Nat)):=by
    rw[show [Value.int .i64 (k:Nat)]=List.replicate 1 (Value.int .i64 (k:Nat)) from rfl,List.replicate_append_replicate]
   rw[e1]at aF;have lS:=nL D1 (qG.alloc (.cells #[Value.int .i64 (k:Nat)] 3));have aK:=hid (mQ D1);have uC:=g1.size;rw[aAZ]at uC;have z8:=hid ((HL0.out.alloc (.cells #[Value.int .i64 (k:Nat)] 3)).kept g1 (aC HL0.out qG (by decide)));have akH:=(aBm.1 dP.out).1;have BR:=hid (((g1.block M (by rw[aAZ];omega) (λe=>bE qG dP.out (by decide) e.symm)).trans (aBl _ _ _ akH)).trans dP.out);have BV:Hid (∀ q,q<w.heap.size->some q≠(Value.slice ao n cap).ownBlock->w1.heap[q]?=w.heap[q]?):=hid (λq h1 h2=>((g1.block q (by rw[aAZ];omega) h2).trans (aBl _ _ _ (by omega))).trans (WZ.out q h1 h2));have kF:=hid (⟨g1.os.trans kF.out.1,g1.tape.trans kF.out.2.1,g1.output.trans kF.out.2.2⟩:w1.os=w.os/\w1.tape=w.tape/\w1.output=w.output);clear D1 g1 e1 akH;go_wp2_with (at_builtin;go_must (refine gQ _ rfl (.tmp 30) (.tmp 33) 22 rfl 0 3 i0 (.int .i64 0) 8 Tryz.underlying22 hi aR aP aN rfl (.slice ao n cap) n _ rfl (pI.alloc _) ⟨w1.heap.size,0,none⟩ 2 2 [Value.int .i64 (k:Nat),Value.int .i64 (k:Nat)] rfl rfl (by decide) ?a21 ?a22 ?a23 ?a24 (aA8 _) ?_))
   case a21=>exact eu _ [Value.int .i64 (k:Nat),Value.int .i64 (k:Nat)] _
   case a22=>intro u hu;simp at hu;subst hu;rfl
   case a23=>unfold maxLen;omega
   case a24=>omega
   intro o2 w2 pG dR D2 g2;have e2:List.replicate n (Value.int .i64 (k:Nat))++[Value.int .i64 (k:Nat),Value.int .i64 (k:Nat)]=List.replicate (n+2) (Value.int .i64 (k:Nat)):=by
    rw[show [Value.int .i64 (k:Nat),Value.int .i64 (k:Nat)]=List.replicate 2 (Value.int .i64 (k:Nat)) from rfl,List.replicate_append_replicate]
   rw[e2]at dR;have Pi:=nL D2 (pI.alloc (.cells #[Value.int .i64 (k:Nat),Value.int .i64 (k:Nat)] 3));have aW:=hid (mQ D2);have oO:=g2.size;rw[aAZ]at oO;have oo:=hid ((z8.out.alloc (.cells #[Value.int .i64 (k:Nat),Value.int .i64 (k:Nat)] 3)).kept g2 (aC z8.out pI (by decide)));have akG:=(aBm.1 BR.out).1;have uh:=hid (((g2.block M (by rw[aAZ];omega) (λe=>bE pI BR.out (by decide) e.symm)).trans (aBl _ _ _ akG)).trans BR.out);have BU:Hid (∀ q,q<w.heap.size->some q≠(Value.slice ao n cap).ownBlock->w2.heap[q]?=w.heap[q]?):=hid (λq h1 h2=>((g2.block q (by rw[aAZ];omega) h2).trans (aBl _ _ _ (by omega))).trans (BV.out q h1 h2));have kF:=hid (⟨g2.os.trans kF.out.1,g2.tape.trans kF.out.2.1,g2.output.trans kF.out.2.2⟩:w2.os=w.os/\w2.tape=w.tape/\w2.output=w.output);have aF:=rq D2 g2 dR (aF.alloc (.cells #[Value.int .i64 (k:Nat),Value.int .i64 (k:Nat)] 3)) (lS.more (by omega));clear D2 g2 e2 akG;go_wp2_with (at_builtin;go_must (refine gQ _ rfl (.tmp 35) (.tmp 39) 22 rfl 0 3 i0 (.int .i64 0) 8 Tryz.underlying22 hi aR aP aN rfl (.slice ao n cap) n _ rfl (pG.alloc _) ⟨w2.heap.size,0,none⟩ 3 3 [Value.int .i64 (k:Nat),Value.int .i64 (k:Nat),Value.int .i64 (k:Nat)] rfl rfl (by decide) ?a31 ?a32 ?a33 ?a34 (aA8 _) ?_))
   case a31=>exact eu _ [Value.int .i64 (k:Nat),Value.int .i64 (k:Nat),Value.int .i64 (k:Nat)] _
   case a32=>intro u hu;simp at hu;subst hu;rfl
   case a33=>unfold maxLen;omega
   case a34=>omega
   intro o3 w3 J7 ku D3 g3;have e3:List.replicate n (Value.int .i64 (k:Nat))++[Value.int .i64 (k:Nat),Value.int .i64 (k:Nat),Value.int .i64 (k:Nat)]=List.replicate (n+3) (Value.int .i64 (k:Nat)):=by
    rw[show [Value.int .i64 (k:Nat),Value.int .i64 (k:Nat),Value.int .i64 (k:Nat)]=List.replicate 3 (Value.int .i64 (k:Nat)) from rfl,List.replicate_append_replicate]
   rw[e3]at ku;have bs3:=nL D3 (pG.alloc (.cells #[Value.int .i64 (k:Nat),Value.int .i64 (k:Nat),Value.int .i64 (k:Nat)] 3));have cu:=hid (mQ D3);have ER:=g3.size;rw[aAZ]at ER;have rO:=hid ((oo.out.alloc (.cells #[Value.int .i64 (k:Nat),Value.int .i64 (k:Nat),Value.int .i64 (k:Nat)] 3)).kept g3 (aC oo.out pG (by decide)));have akF:=(aBm.1 uh.out).1;have qp:=hid (((g3.block M (by rw[aAZ];omega) (λe=>bE pG uh.out (by decide) e.symm)).trans (aBl _ _ _ akF)).trans uh.out);have Lt:Hid (∀ q,q<w.heap.size->some q≠(Value.slice ao n cap).ownBlock->w3.heap[q]?=w.heap[q]?):=hid (λq h1 h2=>((g3.block q (by rw[aAZ];omega) h2).trans (aBl _ _ _ (by omega))).trans (BU.out q h1 h2));have kF:=hid (⟨g3.os.trans kF.out.1,g3.tape.trans kF.out.2.1,g3.output.trans kF.out.2.2⟩:w3.os=w.os/\w3.tape=w.tape/\w3.output=w.output);have aF:=rq D3 g3 ku (aF.alloc (.cells #[Value.int .i64 (k:Nat),Value.int .i64 (k:Nat),Value.int .i64 (k:Nat)] 3)) (lS.more (by omega));have dR:=rq D3 g3 ku (dR.alloc (.cells #[Value.int .i64 (k:Nat),Value.int .i64 (k:Nat),Value.int .i64 (k:Nat)] 3)) (Pi.more (by omega));clear D3 g3 e3 akF;obtain⟨x1,y1,ex1⟩:=ai aF;obtain⟨x2,y2,ex2⟩:=ai dR;obtain⟨x3,y3,ex3⟩:=ai ku;subst ex1;subst ex2;subst ex3;have mm:w3.cell? ⟨M,0,none⟩=some (.slice aL c qL):=by rw[aBJ w3 M 0 _ _ _ qp.out];rfl
   have vZ:=hid aF;have jy:=hid dR;have yJ:=hid ku;have HOV:=hid J7;have rY:=rO.out;have aer:=(aBm.1 qp.out).1;clear aF dR ku J7 pG pI qG lS Pi bs3 m0;go_wp2_with (at_builtin;go_must (refine gQ _ rfl (.tmp 45) (.tmp 50) 23 rfl 0 22 i1 (.slice none 0 0) 24 Tryz.underlying23 iC fe eZ eY rfl (.slice aL c qL) c _ rfl (rY.alloc _) ⟨w3.heap.size,0,none⟩ 4 4 [.slice ao n cap,.slice x1 (n+1) y1,.slice x2 (n+2) y2,.slice x3 (n+3) y3] rfl rfl (by decide) ?b1 ?b2 ?b3 ?b4 (aA8 _) ?_))
   case b1=>exact eu _ [.slice ao n cap,.slice x1 (n+1) y1,.slice x2 (n+2) y2,.slice x3 (n+3) y3] _
   case b2=>intro u hu;simp at hu;rcases hu with rfl | rfl | rfl | rfl <;> rfl
   case b3=>unfold maxLen;have:=HC.out;omega
   case b4=>have:=HC.out;omega
   intro fC w4 ang X7 D4 g4;obtain⟨x4,y4,ex4⟩:=ai X7;subst ex4;have A4:Obj:=.cells #[] 0;clear A4;have ajT:=g4.size;rw[aAZ]at ajT;have PH:=hid (((g4.block M (by rw[aAZ];omega) (λe=>bE rY qp.out (by decide) e.symm)).trans (aBl _ _ _ aer)).trans qp.out);have mm4:w4.cell? ⟨M,0,none⟩=some (.slice aL c qL):=by rw[aBJ w4 M 0 _ _ _ PH.out];rfl
   have fm4:w4.frozen? ⟨M,0,none⟩=false:=by simp[World.frozen?,PH.out]
   have kp:∀ (X:Value) (nX:Nat),w3.ownsRow 0 3 1 X nX (List.replicate nX (Value.int .i64 (k:Nat)))->Pt (w4.setCell ⟨M,0,none⟩ (.slice x4 (c+4) y4)) X nX (77+q):=λX nX hX=>by
    have h1:=(hX.alloc (.cells #[.slice ao n cap,.slice x1 (n+1) y1,.slice x2 (n+2) y2,.slice x3 (n+3) y3] 22)).kept g4 (aC hX rY (by decide));unfold Pt;rw[<-HK.out];exact bz h1 ⟨M,0,none⟩ _ (bE hX qp.out (by decide))
   have HR1:=hid (kp _ _ vZ.out);have jR:=hid (kp _ _ jy.out);have HR3:=hid (kp _ _ yJ.out);have HRV:=hid (kp _ _ HOV.out);have rM:=hid (bz X7 ⟨M,0,none⟩ (.slice x4 (c+4) y4) (bE X7 PH.out (by decide)));have Pz:Hid ((w4.setCell ⟨M,0,none⟩ (.slice x4 (c+4) y4)).heap[M]?=some (.cells #[.slice x4 (c+4) y4,vO] 32 (0,0))):=hid (by
    simp[World.setCell,Array.getElem?_modify,PH.out])
   have HKB:Hid (KB w (w4.setCell ⟨M,0,none⟩ (.slice x4 (c+4) y4)) M (Value.slice ao n cap).ownBlock (Value.slice aL c qL).ownBlock):=hid ⟨g4.os.trans kF.out.1,g4.tape.trans kF.out.2.1,g4.output.trans kF.out.2.2,by rw[aBj];omega,λq h1 h2 h3 h4=>by
    rw[aBv _ _ _ _ h2,g4.block q (by rw[aAZ];omega) h4,aBl _ _ _ (by omega)];exact Lt.out q h1 h3⟩
   have wh:=hid (mQ D4);have wz:∀ (o:Value) (N:Nat),w.heap.size<=N->(o.ownBlock=(Value.slice ao n cap).ownBlock\/∃ g',o.ownBlock=some g'/\N<=g')->(o.ownBlock=(Value.slice ao n cap).ownBlock\/∃ g',o.ownBlock=some g'/\w.heap.size<=g'):=λo N hN h=>by
    rcases h with h | ⟨g',h1,h2⟩
    ·exact aA2 h
    ·exact aA3 ⟨g',h1,by omega⟩
   have Gx:Hid (Listed M (.slice ao n cap) (.slice aL c qL) vO n c q es w (.returned (.tuple #[])) (w4.setCell ⟨M,0,none⟩ (.slice x4 (c+4) y4))):=hid (by
    refine⟨rfl,_,_,_,_,Pz.out,rM.out,HRV.out,HR1.out,jR.out,HR3.out,λo ho=>?_,?_,HKB.out⟩
    ·rcases ho with rfl | rfl | rfl
     ·exact wz _ _ (by rw[aAZ];omega) aK.out
     ·exact wz _ _ (by rw[aAZ];omega) aW.out
     ·exact wz _ _ (by rw[aAZ];omega) cu.out
    ·rcases wh.out with h | ⟨g',h1,h2⟩
     ·exact aA2 h
     ·exact aA3 ⟨g',h1,by rw[aAZ]at h2;omega⟩)
   clear kp wz D4 g4 rY ang X7 mm;go_wp2_with fail
   go_end0
   exact Gx.out
structure Uj (w:World) (v:Value) (n p k:Nat):Prop where
 row:w.ownsRow 0 22 1 v n (List.replicate n (.slice (some ⟨p,0,none⟩) 1 1))
 cell:w.heap[p]?=some (.cells #[.int .i64 (k:Nat)] 3 (0,0))
structure Book (w:World) (M:Nat) (vL vO:Value) (q r:Nat) (ES:List (Value × Nat)) (OS:List (Value × Nat × Nat)):Prop where
 hM:w.heap[M]?=some (.cells #[vL,vO] 32 (0,0))
 hL:w.ownsRow 0 22 1 vL (4*q) (ES.map λe=>e.1)
 hO:w.ownsRow 0 23 1 vO (4*r) (OS.map λe=>e.1)
 ent:∀ i e,ES[i]?=some e->Pt w e.1 e.2 (77+i / 4)
 FQ:∀ i e,OS[i]?=some e->Uj w e.1 e.2.1 e.2.2 (77+i / 4)
 sep:∀ e∈OS,e.1.ownBlock=none\/e.1.ownBlock≠vL.ownBlock
def qO(ES:List (Value × Nat))(OS:List (Value × Nat × Nat))(g:Nat):Prop:=(∃ e∈ES,e.1.ownBlock=some g)\/(∃ e∈OS,e.1.ownBlock=some g)\/∃ e∈OS,e.2.2=g
theorem aeZ(w:World)(M:Nat)(hM:w.heap[M]?=some (.cells #[.slice none 0 0,.slice none 0 0] 32 (0,0))):Book w M (.slice none 0 0) (.slice none 0 0) 0 0 [] []:=
 ⟨hM,aBh _ _ _ _,aBh _ _ _ _,λi e h=>by simp at h,λi e h=>by simp at h,λe h=>by cases h⟩
theorem Book.below{w w':World}{M:Nat}{vL vO:Value}{q r:Nat}{ES:List (Value × Nat)}{OS:List (Value × Nat × Nat)}(h:Book w M vL vO q r ES OS)(hb:Below w.heap.size w w'):Book w' M vL vO q r ES OS:=
 ⟨(hb.block M (aBm.1 h.hM).1).trans h.hM,ae h.hL hb,ae h.hO hb,λi e he=>ae (h.ent i e he) hb,λi e he=>⟨ae (h.FQ i e he).row hb,(hb.block _ (aBm.1 (h.FQ i e he).cell).1).trans (h.FQ i e he).cell⟩,h.sep⟩
theorem Book.XY{w:World}{M:Nat}{vL vO:Value}{q r:Nat}{ES:List (Value × Nat)}{OS:List (Value × Nat × Nat)}(h:Book w M vL vO q r ES OS):ES.length=4*q:=by have:=h.hL.1;simpa using this
theorem Book.IR{w:World}{M:Nat}{vL vO:Value}{q r:Nat}{ES:List (Value × Nat)}{OS:List (Value × Nat × Nat)}(h:Book w M vL vO q r ES OS):OS.length=4*r:=by have:=h.hO.1;simpa using this
theorem Vx{w:World}{M:Nat}{vL vO:Value}{q r:Nat}{ES:List (Value × Nat)}{OS:List (Value × Nat × Nat)}(h:Book w M vL vO q r ES OS){g:Nat}(hu:qO ES OS g):g<w.heap.size:=by
 rcases hu with⟨e,he,hg⟩ | ⟨e,he,hg⟩ | ⟨e,he,hg⟩
 ·obtain⟨i,hi,e2⟩:=aBC he;exact((h.ent i e (by rw[aAV hi,e2])).lt g hg).2
 ·obtain⟨i,hi,e2⟩:=aBC he;exact((h.FQ i e (by rw[aAV hi,e2])).row.lt g hg).2
 ·obtain⟨i,hi,e2⟩:=aBC he;rw[<-hg];exact(aBm.1 (h.FQ i e (by rw[aAV hi,e2])).cell).1
theorem zP{w w':World}{M n q r:Nat}{v vL vO:Value}{ES:List (Value × Nat)}{OS:List (Value × Nat × Nat)}{xs:List Value}{e:Ending}(h:Book w M vL vO q r ES OS)(hv:w.ownsRow 0 3 1 v n xs)(hu:∀ g,v.ownBlock=some g->¬ qO ES OS g)
  (hd:Listed M v vL vO n (4*q) q (ES.map λe=>e.1) w e w'):e=.returned (.tuple #[])/\∃ fC o1 o2 o3,Book w' M fC vO (q+1) r (ES++[(v,n),(o1,n+1),(o2,n+2),(o3,n+3)]) OS/\(∀ g,qO (ES++[(v,n),(o1,n+1),(o2,n+2),(o3,n+3)]) OS g->qO ES OS g\/v.ownBlock=some g\/w.heap.size<=g) /\
   (fC.ownBlock=vL.ownBlock\/∃ g',fC.ownBlock=some g'/\w.heap.size<=g')/\KB w w' M v.ownBlock vL.ownBlock:=by
 obtain⟨rfl,o1,o2,o3,fC,Sk,hL',kv,k1,k2,k3,hb,hbL,kb⟩:=hd;refine⟨rfl,fC,o1,o2,o3,⟨Sk,?_,?_,?_,?_,?_⟩,?_,hbL,kb⟩
 ·have e1:(ES++[(v,n),(o1,n+1),(o2,n+2),(o3,n+3)]).map (λe=>e.1)=ES.map (λe=>e.1)++[v,o1,o2,o3]:=by simp
  rw[e1,show 4*(q+1)=4*q+4 by omega];exact hL'
 ·exact dI h.hO kb (bE h.hO h.hM (by decide)) (aC h.hO hv (by decide)) (aC h.hO h.hL (by decide))
 ·intro i e he;by_cases c:i<ES.length
  ·rw[aA9 c]at he;have hk:=h.ent i e he;refine dI hk kb (bE hk h.hM (by decide)) ?_ (aC hk h.hL (by decide));cases aM:e.1.ownBlock with
   | none=>exact aA2 rfl
   | some g=>exact aA3 λe2=>hu g e2.symm (aA2 ⟨e,aBB he,aM⟩)
  ·rw[aBa (by omega)]at he;have Kl:=h.XY;have hd:i / 4=q:=by
    have:=(aA1.1 he).1;simp at this;omega
   rw[hd];have h4:i - ES.length<4:=by
    have:=(aA1.1 he).1;simpa using this
   have:i - ES.length=0\/i - ES.length=1\/i - ES.length=2\/i - ES.length=3:=by omega
   rcases this with h0 | h0 | h0 | h0 <;> rw[h0]at he <;> simp at he <;> subst he
   ·exact kv
   ·exact k1
   ·exact k2
   ·exact k3
 ·intro i e he;have hk:=h.FQ i e he;have hmem:=aBB he;refine⟨dI hk.row kb (bE hk.row h.hM (by decide)) (aC hk.row hv (by decide)) (h.sep e hmem),?_⟩;rw[kb.block _ (aBm.1 hk.cell).1 (λe2=>by have h9:=h.hM;rw[<-e2,hk.cell]at h9;simp at h9) (λe2=>hu _ e2.symm (aA3 (aA3 ⟨e,hmem,rfl⟩))) (λe2=>bE h.hL hk.cell (by decide) e2.symm)];exact hk.cell
 ·intro e he;rcases hbL with h1 | ⟨g',h1,h2⟩
  ·rw[h1];exact h.sep e he
  ·cases aM:e.1.ownBlock with
   | none=>exact aA2 rfl
   | some g=>
    refine aA3 λe2=>?_;rw[h1]at e2;cases e2;have:=Vx h (aA3 (aA2 ⟨e,he,aM⟩));omega
 ·intro g hg;rcases hg with⟨e,he,hg⟩ | hg
  ·rcases aBy.1 he with he | he
   ·exact aA2 (aA2 ⟨e,he,hg⟩)
   ·simp at he;rcases he with rfl | rfl | rfl | rfl
    ·exact aA3 (aA2 hg)
    ·rcases hb o1 (aA2 rfl) with h1 | ⟨g',h1,h2⟩
     ·exact aA3 (aA2 (h1.symm.trans hg))
     ·rw[hg]at h1;cases h1;exact aA3 (aA3 h2)
    ·rcases hb o2 (aA3 (aA2 rfl)) with h1 | ⟨g',h1,h2⟩
     ·exact aA3 (aA2 (h1.symm.trans hg))
     ·rw[hg]at h1;cases h1;exact aA3 (aA3 h2)
    ·rcases hb o3 (aA3 (aA3 rfl)) with h1 | ⟨g',h1,h2⟩
     ·exact aA3 (aA2 (h1.symm.trans hg))
     ·rw[hg]at h1;cases h1;exact aA3 (aA3 h2)
  ·exact aA2 (aA3 hg)
theorem AZ{w:World}{B e n cap:Nat}{ao:Option Addr}{xs:List Value}(h:w.ownsRow B e 1 (.slice ao n cap) n xs):n<=cap/\cap<=9223372036854775807:=by
 rcases h.2 with⟨e,h0⟩ | ⟨g,cap',cur,e,_,_,h1,h2,_⟩
 ·cases e;omega
 ·cases e;unfold maxLen at h2;omega
theorem aie{w:World}{v:Value}{n k:Nat}(h:Pt w v n k):∃ a c,v=.slice a n c/\Ints w a n c (List.replicate n (k:Int)):=by
 have h2:w.ownsRow 0 3 1 v n (gJ (List.replicate n (k:Int))):=by rw[aaE];exact h
 exact rX h2
theorem aay{w:World}{v:Value}{n p k:Nat}(h:Uj w v n p k):∃ a c,v=.slice a n c/\Lists w a n c (List.replicate n [(k:Int)]):=by
 have hl:(List.replicate n [(k:Int)]).length=n:=by simp
 rcases h.row.2 with⟨rfl,rfl⟩ | ⟨g,cap,cur,rfl,hb,hh,hc,hm,_⟩
 ·exact⟨none,0,rfl,hl,aAU _,by omega,λ_=>⟨rfl,rfl⟩,λh=>by omega⟩
 ·refine⟨_,cap,rfl,hl,hc,by unfold maxLen at hm;omega,λh=>by simp at h,λ_=>⟨g,0,rfl,(aBm.1 hh).1,λi hi=>⟨some ⟨p,0,none⟩,1,1,?_,?_⟩⟩⟩
  ·rw[aBo,h.row.cellAt i (by omega)];simp[hi]
  ·rw[show (List.replicate n [(k:Int)]).getD i []=[(k:Int)] by simp[List.getD,hi]];refine⟨rfl,aAU _,by omega,λh=>by simp at h,λ_=>⟨p,0,rfl,(aBm.1 h.cell).1,λj hj=>?_⟩⟩;obtain rfl:j=0:=by omega
   rw[aBJ w p (0+0) _ _ _ h.cell];rfl
theorem Yd(M q r:Nat)(vL vO:Value)(ES:List (Value × Nat))(OS:List (Value × Nat × Nat))(w:World)(h:Book w M vL vO q r ES OS)(hq:q<=1048576)(hr:r<=1048576) :
  Calls Tryz.prog 20 #[.pointer (some ⟨M,0,none⟩)] w λe w'=>e=.returned (.bool true)/\w'=w:=by
 obtain⟨aL,cL,eL⟩:=ai h.hL;obtain⟨aO,cO,eO⟩:=ai h.hO;subst eL;subst eO;have m0:w.cell? ⟨M,0,none⟩=some (.slice aL (4*q) cL):=by rw[aBJ w M 0 _ _ _ h.hM];rfl
 have m1:w.cell? ⟨M,1,none⟩=some (.slice aO (4*r) cO):=by rw[aBJ w M 1 _ _ _ h.hM];rfl
 have hcL:=AZ h.hL;have hcO:=AZ h.hO;have HB:=hid h;have Kl:=h.XY;have vG:=h.IR;have HQ:=hid Kl;have HR:=hid vG;clear h Kl vG;generalize hN:4*q=N at *;generalize hN2:4*r=N2 at *;clear hN hN2;have hN1:N<=4194304:=by have:=HQ.out;have:=HB.out.XY;omega
 have hN3:N2<=4194304:=by have:=HR.out;have:=HB.out.IR;omega
 go_enter Tryz.func20,Tryz.ntmps20;go_wp2_with fail
 go_loopw [3] (λi wq=>∃ j:Nat,j<=N/\i=.int .i64 j/\wq=w) (λi _=>N - (intOf i).toNat)
 case atStart=>exact⟨0,aA8 _,rfl,rfl⟩
 case round=>
  obtain⟨j,hj,rfl,rfl⟩:=hrel;rename World=>W0;by_cases eQ:j<N
  ·have RV:ES[j]?=some (ES[j]'(by rw[HQ.out];exact eQ)):=aAV _;have hk:=HB.out.ent j _ RV;have hrow:=HB.out.hL;rw[show 4*q=N by have:=HB.out.XY;have:=HQ.out;omega]at hrow;obtain⟨g,eg,_,hg,_⟩:=dX hrow (by omega);subst eg;have cj:W0.cell? ⟨g,j,none⟩=some (ES[j]'(by rw[HQ.out];exact eQ)).1:=by
    rw[hrow.cellAt j (by omega),aBk,RV];rfl
   obtain⟨a,c,ev,hI⟩:=aie hk;rw[ev]at cj;have AL:=hid (adV a _ c _ W0 hI);have i1:(0:Int)<=(j:Int):=by omega
   have i2:(j:Int)<(N:Int):=by omega
   have Oj:j / 4<=j:=Nat.div_le_self _ _;have Wh:(j:Int) / 4=((j / 4:Nat):Int):=by omega
   have hx1:=hI.hcap;have hx2:=hI.hmax;clear hk hrow hI ev RV;generalize (ES[j]'(by rw[HQ.out];exact eQ)).2=ln at *;generalize j / 4=d at *;have hdt:(j:Int).tdiv 4=(d:Int):=by rw[Int.tdiv_eq_ediv_of_nonneg (by omega)];exact Wh
   go_wp2_with fail;refine AL.out.mono ?_;rintro e w1 ⟨rfl,rfl⟩;go_wp2_with fail;go_roundw
   case rel=>exact⟨j+1,by omega,by go_num,by first | rfl | trivial⟩
   case measure=>simp[intOf];omega
  ·obtain rfl:N=j:=by omega
   go_wp2_with fail
   go_loopw [5] (λi wq=>∃ j:Nat,j<=N2/\i=.int .i64 j/\wq=W0) (λi _=>N2 - (intOf i).toNat)
   case atStart=>exact⟨0,aA8 _,rfl,rfl⟩
   case round=>
    obtain⟨j,hj,rfl,rfl⟩:=hrel;rename World=>W1;by_cases eQ:j<N2
    ·have RV:OS[j]?=some (OS[j]'(by rw[HR.out];exact eQ)):=aAV _;have hk:=HB.out.FQ j _ RV;have hrow:=HB.out.hO;rw[show 4*r=N2 by have:=HB.out.IR;have:=HR.out;omega]at hrow;obtain⟨g,eg,_,hg,_⟩:=dX hrow (by omega);subst eg;have cj:W1.cell? ⟨g,j,none⟩=some (OS[j]'(by rw[HR.out];exact eQ)).1:=by
      rw[hrow.cellAt j (by omega),aBk,RV];rfl
     obtain⟨a,c,ev,hI⟩:=aay hk;rw[ev]at cj;have AL:=hid (aax a _ c _ W1 hI);have i1:(0:Int)<=(j:Int):=by omega
     have i2:(j:Int)<(N2:Int):=by omega
     have Oj:j / 4<=j:=Nat.div_le_self _ _;have Wh:(j:Int) / 4=((j / 4:Nat):Int):=by omega
     have hx1:=hI.hcap;have hx2:=hI.hmax;clear hk hrow hI ev RV;generalize (OS[j]'(by rw[HR.out];exact eQ)).2.1=ln at *;generalize j / 4=d at *;have hdt:(j:Int).tdiv 4=(d:Int):=by rw[Int.tdiv_eq_ediv_of_nonneg (by omega)];exact Wh
     go_wp2_with fail;refine AL.out.mono ?_;rintro e w1 ⟨rfl,rfl⟩;go_wp2_with fail;go_roundw
     case rel=>exact⟨j+1,by omega,by go_num,by first | rfl | trivial⟩
     case measure=>simp[intOf];omega
    ·obtain rfl:N2=j:=by omega
     go_wp2_with fail;go_ret;exact⟨rfl,rfl⟩
