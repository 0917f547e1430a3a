import Derived.Test.YtjagijohfkffiabGreatALLM24
set_option maxHeartbeats 16000000
set_option maxRecDepth 100000
set_option linter.unusedSimpArgs false
namespace Go.Proofs.YtjagijohfkffiabGreat
open Go.RowKit
set_option linter.unusedVariables false
theorem aaR(T g2 n fr l to:Nat)(V:Nat->Value)(tl:Nat->List (Nat × Nat))(w:World)(hm:oU w T g2 n V tl)(hn:n<=1099511627776)(zX:fr<n)(hl:l<8)(hto:to<n)(hlen:(tl to).length<=1099511627776) :
  Calls Tryz.prog 130 #[.pointer (some ⟨T,0,none⟩),.int .i64 fr,.int .i64 l,.int .i64 to] w λe w'=>e=.returned (.tuple #[])/\(∃ V',oU w' T g2 n V' (xU tl to (tl to++[(fr,l)]))/\∀ NB,NB<w.heap.size->NB≠g2->(∀ j,j<n->(V j).ownBlock≠some NB)->(∀ o,w'.cell? ⟨NB,o,none⟩=w.cell? ⟨NB,o,none⟩)/\∀ j,j<n->(V' j).ownBlock≠some NB)/\Below g2 w w':=by
 obtain⟨i0,N,O,P,Q⟩:=info_parts Tryz.TN;have G:=hm.cell;have hT:=hm.Yx;have R:=hm.lt;have own:=hm.row to hto;have U:w.cell? ⟨g2,to,none⟩=some (V to):=(hm.out.cellAt to (by omega)).trans (by simp[aCs,aCF hto]);have W:=hid hm;have oO:g2<w.heap.size:=by omega
 obtain⟨ao,cp,r⟩:=ak own;have u:=hid r;rw[r]at U own;generalize H:(tl to).length=ln at *;have I:=hid H;have J:=hid own;clear hm r H own;go_enter Tryz.func130,Tryz.ntmps130;go_wp2_with fail;refine wp_region_held_drew (S:=λw'=>w'.cell? ⟨T,0,none⟩=some (.slice (some ⟨g2,0,none⟩) n n)) (by kernel_rfl) G (λf=>?_);refine aCc (i:=0) (oi:={ dst:=some 36,op:=Op.move (.tmp 0),type:=_,pos:=_,after:=_,guard:=none }) (v:=(Value.pointer (some ⟨T,0,none⟩))) rfl (by kernel_rfl) (by kernel_rfl) (by kernel_rfl) (λ_ _ _ h=>h) (aCa ⟨by rfl,by intro w' a;(try dsimp only at a);go_simp⟩) (by assumption) ?_
 simp only[Act.put,aB1,aB5,aB6];refine aCc (i:=1) (oi:={ dst:=some 37,op:=Op.nilCheck (.tmp 36),type:=_,pos:=_,after:=_,guard:=none }) (v:=(Value.pointer (some ⟨T,0,none⟩))) rfl (by kernel_rfl) (by kernel_rfl) (by kernel_rfl) (λ_ _ _ h=>h) (aCa ⟨by rfl,by intro w' a;(try dsimp only at a);go_simp⟩) (by assumption) ?_
 simp only[Act.put,aB1,aB5,aB6];refine aCc (i:=2) (oi:={ dst:=some 38,op:=Op.fieldAddr _ (.tmp 37) 0,type:=_,pos:=_,after:=_,guard:=none }) (v:=(Value.pointer (some ⟨T,0,none⟩))) rfl (by kernel_rfl) (by kernel_rfl) (by kernel_rfl) (λ_ _ _ h=>h) (aCa ⟨by rfl,by intro w' a;(try dsimp only at a);go_simp⟩) (by assumption) ?_
 simp only[Act.put,aB1,aB5,aB6];refine aCc (i:=3) (oi:={ dst:=some 39,op:=Op.load _ (.tmp 38),type:=_,pos:=_,after:=_,guard:=none }) (v:=(Value.slice (some ⟨g2,0,none⟩) n n)) rfl (by kernel_rfl) (by kernel_rfl) (by kernel_rfl) (λ_ _ _ h=>h) (aCa ⟨by rfl,by intro w' a;(try dsimp only at a);go_simp⟩) (by assumption) ?_
 simp only[Act.put,aB1,aB5,aB6];refine aCc (i:=4) (oi:={ dst:=some 40,op:=Op.move (.tmp 3),type:=_,pos:=_,after:=_,guard:=none }) (v:=(Value.int .i64 (to:Nat))) rfl (by kernel_rfl) (by kernel_rfl) (by kernel_rfl) (λ_ _ _ h=>h) (aCa ⟨by rfl,by intro w' a;(try dsimp only at a);go_simp⟩) (by assumption) ?_
 simp only[Act.put,aB1,aB5,aB6];refine aCc (i:=5) (oi:={ dst:=some 41,op:=Op.move (.tmp 0),type:=_,pos:=_,after:=_,guard:=none }) (v:=(Value.pointer (some ⟨T,0,none⟩))) rfl (by kernel_rfl) (by kernel_rfl) (by kernel_rfl) (λ_ _ _ h=>h) (aCa ⟨by rfl,by intro w' a;(try dsimp only at a);go_simp⟩) (by assumption) ?_
 simp only[Act.put,aB1,aB5,aB6];refine aCc (i:=6) (oi:={ dst:=some 42,op:=Op.nilCheck (.tmp 41),type:=_,pos:=_,after:=_,guard:=none }) (v:=(Value.pointer (some ⟨T,0,none⟩))) rfl (by kernel_rfl) (by kernel_rfl) (by kernel_rfl) (λ_ _ _ h=>h) (aCa ⟨by rfl,by intro w' a;(try dsimp only at a);go_simp⟩) (by assumption) ?_
 simp only[Act.put,aB1,aB5,aB6];refine aCc (i:=7) (oi:={ dst:=some 43,op:=Op.fieldAddr _ (.tmp 42) 0,type:=_,pos:=_,after:=_,guard:=none }) (v:=(Value.pointer (some ⟨T,0,none⟩))) rfl (by kernel_rfl) (by kernel_rfl) (by kernel_rfl) (λ_ _ _ h=>h) (aCa ⟨by rfl,by intro w' a;(try dsimp only at a);go_simp⟩) (by assumption) ?_
 simp only[Act.put,aB1,aB5,aB6];refine aCc (i:=8) (oi:={ dst:=some 44,op:=Op.load _ (.tmp 43),type:=_,pos:=_,after:=_,guard:=none }) (v:=(Value.slice (some ⟨g2,0,none⟩) n n)) rfl (by kernel_rfl) (by kernel_rfl) (by kernel_rfl) (λ_ _ _ h=>h) (aCa ⟨by rfl,by intro w' a;(try dsimp only at a);go_simp⟩) (by assumption) ?_
 simp only[Act.put,aB1,aB5,aB6];refine aCc (i:=9) (oi:={ dst:=some 45,op:=Op.move (.tmp 3),type:=_,pos:=_,after:=_,guard:=none }) (v:=(Value.int .i64 (to:Nat))) rfl (by kernel_rfl) (by kernel_rfl) (by kernel_rfl) (λ_ _ _ h=>h) (aCa ⟨by rfl,by intro w' a;(try dsimp only at a);go_simp⟩) (by assumption) ?_
 simp only[Act.put,aB1,aB5,aB6];refine aCc (i:=10) (oi:={ dst:=some 46,op:=Op.indexAddr _ (.tmp 44) (.tmp 45),type:=_,pos:=_,after:=_,guard:=none }) (v:=(Value.pointer (some ⟨g2,to,none⟩))) rfl (by kernel_rfl) (by kernel_rfl) (by kernel_rfl) (λ_ _ _ h=>h) (aCa ⟨by rfl,by intro w' a;(try dsimp only at a);go_simp⟩) (by assumption) ?_
 simp only[Act.put,aB1,aB5,aB6];refine aCc (i:=12) (oi:={ dst:=some 48,op:=Op.move (.tmp 1),type:=_,pos:=_,after:=_,guard:=none }) (v:=(Value.int .i64 (fr:Nat))) rfl (by kernel_rfl) (by kernel_rfl) (by kernel_rfl) (λ_ _ _ h=>h) (aCa ⟨by rfl,by intro w' a;(try dsimp only at a);go_simp⟩) (by assumption) ?_
 simp only[Act.put,aB1,aB5,aB6];refine aCc (i:=13) (oi:={ dst:=some 49,op:=Op.move (.tmp 2),type:=_,pos:=_,after:=_,guard:=none }) (v:=(Value.int .i64 (l:Nat))) rfl (by kernel_rfl) (by kernel_rfl) (by kernel_rfl) (λ_ _ _ h=>h) (aCa ⟨by rfl,by intro w' a;(try dsimp only at a);go_simp⟩) (by assumption) ?_
 simp only[Act.put,aB1,aB5,aB6];refine aCc (i:=14) (oi:={ dst:=some 50,op:=Op.build _ #[(0,.tmp 48),(1,.tmp 49)],type:=_,pos:=_,after:=_,guard:=none }) (v:=(Value.agg #[Value.int .i64 (fr:Nat),Value.int .i64 (l:Nat)])) rfl (by kernel_rfl) (by kernel_rfl) (by kernel_rfl) (λ_ _ _ h=>h) (aCa ⟨by rfl,by intro w' a;(try dsimp only at a);go_simp⟩) (by assumption) ?_
 simp only[Act.put,aB1,aB5,aB6];refine aCk (rs:=[11,15]) (by kernel_rfl) (by simp) ?_;refine aCf rfl (λK b=>?_) (aCf rfl (λK b=>?_) aCj)
 focus
  go_simp
  refine b.out _ _ (by assumption) (λf=>?_);clear b K;refine aCk (rs:=[15]) (by kernel_rfl) (by simp) ?_;refine aCf rfl (λK b=>?_) aCj
  go_simp
  refine b.out _ _ ?hs (λf=>?_)
  case hs=>first | go_keep | simp[*]
 rotate_left
 focus
  go_simp
  refine b.out _ _ ?hs (λf=>?_)
  case hs=>first | go_keep | simp[*]
  clear b K;refine aCk (rs:=[11]) (by kernel_rfl) (by simp) ?_;refine aCf rfl (λK b=>?_) aCj
  go_simp
  refine b.out _ _ (by assumption) (λf=>?_)
 all_goals
  clear b K;refine aCk (rs:=[16]) (by kernel_rfl) (by simp) ?_;refine aCf rfl (λK b=>?_) aCj;refine aCV _ (by rfl) (.tmp 47) (.tmp 51) 222 (by rfl) (T+1) 224 i0 (.agg #[.int .i64 0,.int .i64 0]) 2 16 Tryz.underlying222 N O P Q rfl (by decide) _ ln (rJ (tl to)) (by rfl) ((J.out.alloc _).drew) ⟨w.heap.size,0,none⟩ 1 1 [.int .i64 (fr:Nat),.int .i64 (l:Nat)] (by rfl) (by rfl) (World.news_of_block (cs:=#[.int .i64 (fr:Nat),.int .i64 (l:Nat)]) (t:=224) (fr:=(0,0)) (heap_alloc_new w _)) (by simp[Value.oneCell']) (by decide) (by unfold maxLen;omega) (by omega) (by simp;omega) (w.heap.size+1) (by simp) ?_;intro y z k d c g iy;have m:oU (w.alloc (.cells #[.int .i64 (fr:Nat),.int .i64 (l:Nat)] 224)).drew T g2 n V tl:=W.out.keeps (aCl ((aB4 w.heap.size w).alloc (aB2 _) (.cells #[.int .i64 (fr:Nat),.int .i64 (l:Nat)] 224)) 1);have q:(w.alloc (.cells #[.int .i64 (fr:Nat),.int .i64 (l:Nat)] 224)).drew.grownBy k (V to).ownBlock:=by rw[u.out];exact c
  have A:=m.out.kept q (aY m.out (m.row to hto) (by decide));have X:=A.frozenAt to;have Y:k.cell? ⟨g2,to,none⟩=some (V to):=(A.cellAt to (by omega)).trans (by simp[aCs,aCF hto]);have B:Below (T+1) w k:=(aCl ((aB4 (T+1) w).alloc (by omega) (.cells #[.int .i64 (fr:Nat),.int .i64 (l:Nat)] 224)) 1).grown c (by show T+1<=(w.alloc (.cells #[.int .i64 (fr:Nat),.int .i64 (l:Nat)] 224)).heap.size;rw[aB7];omega) (λx h=>(J.out.lt x h).1);have C:=hid (RI m hto (s:=(fr,l)) q (by rw[I.out];exact d) (by rw[u.out];rcases g with h | h;exact aCa h;exact aCb (by rw[h];exact(aB7 ..).symm)));rw[I.out]at C;have Z:=hid ((B.mono (by omega:g2<=T+1)).setCell (p:=⟨g2,to,none⟩) (aB2 _) (.slice (some ⟨y,0,none⟩) (ln+1) z));have D:Hid (∀ NB,NB<w.heap.size->NB≠g2->(∀ j,j<n->(V j).ownBlock≠some NB)->(∀ o,(k.setCell ⟨g2,to,none⟩ (.slice (some ⟨y,0,none⟩) (ln+1) z)).cell? ⟨NB,o,none⟩=w.cell? ⟨NB,o,none⟩)/\∀ j,j<n->((λi=>if i=to then Value.slice (some ⟨y,0,none⟩) (ln+1) z else V i) j).ownBlock≠some NB):=hid (λNB h1 h2 E=>by
   refine⟨λo=>?_,λj hj=>?_⟩
   ·rw[aB8 _ _ _ _ (λe=>h2 (by have:=congrArg Addr.block e;simpa using this.symm))];rw[q.cell_far ⟨NB,o,none⟩ (by show NB<(w.alloc (.cells #[.int .i64 (fr:Nat),.int .i64 (l:Nat)] 224)).heap.size;rw[aB7];omega) (λe=>E to hto e.symm)];show (w.alloc (.cells #[.int .i64 (fr:Nat),.int .i64 (l:Nat)] 224)).cell? ⟨NB,o,none⟩=_;rw[aCB _ _ _ h1]
   ·by_cases e:j=to
    ·simp only[e,if_true];rcases g with h | h
     ·intro F;have L:=E to hto;rw[u.out,h]at L;exact L F
     ·intro F;simp[Value.ownBlock]at F;omega
    ·simp only[e,if_false];exact E j hj)
  have M:k.cell? ⟨T,0,none⟩=some (.slice (some ⟨g2,0,none⟩) n n):=(B.cell (p:=⟨T,0,none⟩) (aCA _)).trans G;have wE:=hid (C.out.cell);refine b.out _ _ M (λf=>?_);clear b K A m B d c q g;simp only[Act.put,aB1];refine aCc (i:=17) (oi:={ dst:=some 53,op:=Op.indexAddr _ (.tmp 39) (.tmp 40),type:=_,pos:=_,after:=_,guard:=none }) (v:=(Value.pointer (some ⟨g2,to,none⟩))) rfl (by kernel_rfl) (by kernel_rfl) (by kernel_rfl) (λ_ _ _ h=>h) (aCa ⟨by rfl,by intro w' a;(try dsimp only at a);go_simp⟩) (by assumption) ?_
  simp only[Act.put];refine aCk (rs:=[18]) (by kernel_rfl) (by simp) ?_;refine aCf rfl (λK b=>?_) aCj
  go_simp
  refine b.out _ _ wE.out (λf=>?_);clear b K;refine aC0 (by kernel_rfl) ?_ _;clear f M Y X;go_wp2_with fail
  go_end0
  exact⟨rfl,⟨_,C.out,D.out⟩,Z.out⟩
structure Bv (w:World) (g n:Nat) (lt:Nat->Nat) (ed:Nat->Nat->Bool) (st:Nat->Bool):Prop where
 blk:g<w.heap.size
 l:∀ i,i<n->w.cell? ⟨g,i*8,none⟩=some (.int .i64 (lt i:Nat))
 e:∀ i j,i<n->j<6->w.cell? ⟨g,i*8+(1+j),none⟩=some (.bool (ed i j))
 s:∀ i,i<n->w.cell? ⟨g,i*8+7,none⟩=some (.bool (st i))
theorem Bv.below{w w':World}{g n:Nat}{lt:Nat->Nat}{ed:Nat->Nat->Bool}{st:Nat->Bool}(h:Bv w g n lt ed st){B:Nat}(hb:Below B w w')(hB:B<=w.heap.size)(hg:g<B):Bv w' g n lt ed st:=
 ⟨aCq h.blk hb.size,λi hi=>(hb.cell (p:=⟨g,i*8,none⟩) hg).trans (h.l i hi),λi j hi hj=>(hb.cell (p:=⟨g,i*8+(1+j),none⟩) hg).trans (h.e i j hi hj),λi hi=>(hb.cell (p:=⟨g,i*8+7,none⟩) hg).trans (h.s i hi)⟩
structure yF (lt:Nat->Nat) (ed:Nat->Nat->Bool) (k l:Nat) (tl:Nat->List (Nat × Nat)):Prop where
 mem:∀ (t:Nat) (s:Nat × Nat),s∈tl t↔(s.1<k/\t<6\/s.1=k/\t<l)/\ed s.1 t=true/\s.2=lt s.1
 len:∀ t,(tl t).length<=6*k+l
theorem agQ(lt:Nat->Nat)(ed:Nat->Nat->Bool):yF lt ed 0 0 (λ_=>[]):=⟨λt s=>by simp,λt=>by simp⟩
theorem akl{lt:Nat->Nat}{ed:Nat->Nat->Bool}{k:Nat}{tl:Nat->List (Nat × Nat)}(h:yF lt ed k 6 tl):yF lt ed (k+1) 0 tl:=
 ⟨λt s=>by rw[h.mem];constructor <;> rintro ⟨a,b⟩ <;> exact⟨by omega,b⟩,λt=>by have:=h.len t;omega⟩
theorem akk{lt:Nat->Nat}{ed:Nat->Nat->Bool}{k l:Nat}{tl:Nat->List (Nat × Nat)}(h:yF lt ed k l tl)(he:ed k l=false):yF lt ed k (l+1) tl:=by
 refine⟨λt s=>?_,λt=>by have:=h.len t;omega⟩;rw[h.mem];constructor
 ·rintro ⟨a,b⟩;exact⟨by omega,b⟩
 ·rintro ⟨a,b,c⟩;refine⟨?_,b,c⟩;rcases a with a | ⟨a1,a2⟩
  ·exact aCa a
  ·by_cases e:t=l
   ·subst e;rw[a1,he]at b;cases b
   ·exact aCb ⟨a1,by omega⟩
theorem amY{lt:Nat->Nat}{ed:Nat->Nat->Bool}{k l:Nat}{tl:Nat->List (Nat × Nat)}(h:yF lt ed k l tl)(he:ed k l=true):yF lt ed k (l+1) (xU tl l (tl l++[(k,lt k)])):=by
 refine⟨λt s=>?_,λt=>?_⟩
 ·unfold xU;by_cases e:t=l
  ·subst e;rw[aC2 rfl,aCG,h.mem];constructor
   ·rintro (⟨a,b⟩ | a)
    ·exact⟨by omega,b⟩
    ·simp at a;subst a;exact⟨aCb ⟨rfl,by omega⟩,he,rfl⟩
   ·rintro ⟨a,b,c⟩;rcases a with a | ⟨a1,a2⟩
    ·exact aCa ⟨aCa a,b,c⟩
    ·right
     simp;exact Prod.ext a1 (by rw[c,a1])
  ·rw[aC1 e,h.mem];constructor
   ·rintro ⟨a,b⟩;exact⟨by omega,b⟩
   ·rintro ⟨a,b⟩;exact⟨by omega,b⟩
 ·unfold xU;by_cases e:t=l
  ·rw[aC2 e,aCd];have:=h.len l;simp;omega
  ·rw[aC1 e];have:=h.len t;omega
theorem akj{lt:Nat->Nat}{ed:Nat->Nat->Bool}{n:Nat}{tl:Nat->List (Nat × Nat)}(h:yF lt ed n 0 tl)(hn:n<=6)(hlt:∀ i,i<n->lt i<8):vW n tl:=
 ⟨by omega,λt ht s hs=>by
  obtain⟨a,b,c⟩:=(h.mem t s).1 hs;have:s.1<n:=by omega
  exact⟨this,by rw[c];exact hlt _ this⟩,λt ht=>by have:=h.len t;omega⟩
theorem aaw{ns:List Nd}{lt:Nat->Nat}{ed:Nat->Nat->Bool}{n:Nat}{tl:Nat->List (Nat × Nat)}(h:yF lt ed n 0 tl)(hn:n<=6){y a:Nat}:Ew n ns tl y a↔a<n*256/\∃ i,i<n/\ed i (a / 256)=true/\y=i*256+gF ns (lt i) (a % 256):=by
 unfold Ew;constructor
 ·rintro ⟨b,s,e,rfl⟩;obtain⟨d,c,f⟩:=(h.mem _ _).1 e;exact⟨b,s.1,by omega,c,by rw[f]⟩
 ·rintro ⟨b,i,d,c,rfl⟩;exact⟨b,(i,lt i),(h.mem _ _).2 ⟨aCa ⟨d,by omega⟩,c,rfl⟩,rfl⟩
theorem WK(e:Nat->Bool){l:Nat}(hl:l<6)(W:World):(Instr.index 151 (.agg #[.bool (e 0),.bool (e 1),.bool (e 2),.bool (e 3),.bool (e 4),.bool (e 5)]) (.int .i64 (l:Nat))).run Tryz.prog W=.ok (.bool (e l)) W:=by
 refine jh W Tryz.underlying151 (λw=>Cu Tryz.underlying4 w) Tryz.Ie hl ?_;have:l=0\/l=1\/l=2\/l=3\/l=4\/l=5:=by omega
 rcases this with rfl | rfl | rfl | rfl | rfl | rfl <;> rfl
theorem adF(g n cap:Nat)(lt:Nat->Nat)(ed:Nat->Nat->Bool)(st:Nat->Bool)(w:World)(h0:0<n)(hn:n<=6)(h:Bv w g n lt ed st)(hlt:∀ i,i<n->lt i<8)(hed:∀ i j,i<n->ed i j=true->j<n) :
  Calls Tryz.prog 89 #[.slice (some ⟨g,0,none⟩) n cap] w λe w'=>∃ g2 tl,e=.returned (.agg #[.slice (some ⟨g2,0,none⟩) n n])/\pF w' g2 n tl/\yF lt ed n 0 tl/\Below w.heap.size w w':=by
 have HR:=hid h;have hg:=h.blk;have Al:=hid hlt;have FC:=hid hed;clear h hlt hed;obtain⟨i0,Q,aT,aP,aO⟩:=info_parts Tryz.Gj;go_enter Tryz.func89,Tryz.ntmps89;go_wp2_with (at_make;go_must (refine aCI _ rfl (.tmp 9) (.tmp 9) 157 rfl (w.heap.size+1) 222 i0 (.slice none 0 0) 1 Tryz.underlying157 Q aT aP .i64 .i64 n n n rfl rfl rfl rfl ?m2 ?m3 (by simp) ?_))
 case m2=>rw[aO];omega
 case m3=>unfold maxLen;omega
 intro c R S;have U:(madeCells #[Value.slice none 0 0] n).toList=(List.range n).map (λ_=>Value.slice none 0 0):=by
  rw[aCy];exact(List.eq_replicate_iff.2 ⟨by simp,λb hb=>by obtain⟨_,_,rfl⟩:=aCU.1 hb;rfl⟩).symm
 have t:c.ownsRow (w.heap.size+1) 222 1 (.slice (some ⟨w.heap.size+1,0,none⟩) n n) n ((List.range n).map (λ_=>Value.slice none 0 0)):=by
  rw[<-U];exact R
 have hlt:w.heap.size+1<c.heap.size:=(t.lt _ rfl).2;have D:=((aB4 (w.heap.size+1) (w.alloc (.cells #[.slice none 0 0] 159))).grown S (by simp) (λk h=>by cases h));have X:c.cell? ⟨w.heap.size,0,none⟩=some (.slice none 0 0):=(D.cell (p:=⟨w.heap.size,0,none⟩) (by show w.heap.size<w.heap.size+1;omega)).trans (by simp);have Y:c.frozen? ⟨w.heap.size,0,none⟩=false:=(D.frozen (p:=⟨w.heap.size,0,none⟩) (by show w.heap.size<w.heap.size+1;omega)).trans (by simp);have Z:Hid (Below w.heap.size w c):=hid (((aB4 w.heap.size w).alloc (aB2 _) (.cells #[.slice none 0 0] 159)).trans (D.mono (by omega)));have M1:Hid (oU (c.alloc (.cells #[.slice (some ⟨w.heap.size+1,0,none⟩) n n] 159)) c.heap.size (w.heap.size+1) n (λ_=>.slice none 0 0) (λ_=>[])):=hid ⟨hlt,by simp,t.alloc _,λj E=>aCp _ _ _ _,λi j Q E h=>aCa rfl⟩;have QS:Hid ((c.alloc (.cells #[.slice (some ⟨w.heap.size+1,0,none⟩) n n] 159)).cell? ⟨w.heap.size,0,none⟩=some (.slice none 0 0)/\(c.alloc (.cells #[.slice (some ⟨w.heap.size+1,0,none⟩) n n] 159)).frozen? ⟨w.heap.size,0,none⟩=false):=hid ⟨by rw[aCB _ _ _ (by show w.heap.size<c.heap.size;omega)];exact X,by rw[aCS _ _ _ (by show w.heap.size<c.heap.size;omega)];exact Y⟩;have aM:=hid (Z.out.alloc (by omega) (.cells #[.slice (some ⟨w.heap.size+1,0,none⟩) n n] 159));clear R S U t D X Y Z;go_wp2_with fail;generalize c.heap.size=T at *
 go_loopw [14] (λi f=>∃ (k:Nat) (V:Nat->Value) (tl:Nat->List (Nat × Nat)),k<=n/\i=.int .i64 k/\Hid (yF lt ed k 0 tl)/\Hid (oU f T (w.heap.size+1) n V tl)/\Hid (f.cell? ⟨w.heap.size,0,none⟩=some (.slice none 0 0)/\f.frozen? ⟨w.heap.size,0,none⟩=false)/\Hid (Below w.heap.size w f)) (λi _=>n - (intOf i).toNat)
 case atStart=>exact⟨0,_,_,by omega,rfl,hid (agQ lt ed),M1,QS,aM⟩
 case round=>
  obtain⟨k,V,tl,hk,rfl,q,d,m,o⟩:=hrel;rename World=>W0;have CR:=d.out.Yx;have UE:=d.out.lt;by_cases a:k<n
  ·have r:=HR.out.below o.out (aB2 _) hg;have q0:=r.l k a;have q1:W0.cell? ⟨g,k*8+1,none⟩=some (.bool (ed k 0)):=r.e k 0 a (by omega);have q2:W0.cell? ⟨g,k*8+2,none⟩=some (.bool (ed k 1)):=r.e k 1 a (by omega);have q3:W0.cell? ⟨g,k*8+3,none⟩=some (.bool (ed k 2)):=r.e k 2 a (by omega);have q4:W0.cell? ⟨g,k*8+4,none⟩=some (.bool (ed k 3)):=r.e k 3 a (by omega);have q5:W0.cell? ⟨g,k*8+5,none⟩=some (.bool (ed k 4)):=r.e k 4 a (by omega);have q6:W0.cell? ⟨g,k*8+6,none⟩=some (.bool (ed k 5)):=r.e k 5 a (by omega);have q7:=r.s k a;have hs:=o.out.size;clear r;have u:=hid ((aB4 W0.heap.size W0).alloc (aB2 _) (.cells #[.int .i64 (lt k:Nat),.bool (ed k 0),.bool (ed k 1),.bool (ed k 2),.bool (ed k 3),.bool (ed k 4),.bool (ed k 5),.bool (st k)] 156));have JP:=hid (d.out.keeps u.out);have jD:=hid (And.intro ((u.out.cell (p:=⟨w.heap.size,0,none⟩) (by show w.heap.size<W0.heap.size;omega)).trans m.out.1) ((u.out.frozen (p:=⟨w.heap.size,0,none⟩) (by show w.heap.size<W0.heap.size;omega)).trans m.out.2));have bF:=hid (o.out.trans (u.out.mono hs));have v:Hid (∀ j,j<n->(V j).ownBlock≠some W0.heap.size):=hid (λj E e=>by have:=((d.out.row j E).lt _ e).2;omega);have x:Hid ((W0.alloc (.cells #[.int .i64 (lt k:Nat),.bool (ed k 0),.bool (ed k 1),.bool (ed k 2),.bool (ed k 3),.bool (ed k 4),.bool (ed k 5),.bool (st k)] 156)).cell? ⟨W0.heap.size,0,none⟩=some (.int .i64 (lt k:Nat))):=hid (by simp);have F:=Al.out k a;have y:W0.heap.size<(W0.alloc (.cells #[.int .i64 (lt k:Nat),.bool (ed k 0),.bool (ed k 1),.bool (ed k 2),.bool (ed k 3),.bool (ed k 4),.bool (ed k 5),.bool (st k)] 156)).heap.size:=by simp
   clear u d m;go_wp2_with fail;clear q0 q1 q2 q3 q4 q5 q6 q7
   go_loopw [21] (λi f=>∃ (l:Nat) (V:Nat->Value) (tl:Nat->List (Nat × Nat)),l<=6/\i=.int .i64 l/\Hid (yF lt ed k l tl)/\Hid (oU f T (w.heap.size+1) n V tl)/\Hid (f.cell? ⟨w.heap.size,0,none⟩=some (.slice none 0 0)/\f.frozen? ⟨w.heap.size,0,none⟩=false)/\Hid (Below w.heap.size w f)/\Hid (∀ j,j<n->(V j).ownBlock≠some W0.heap.size)/\Hid (f.cell? ⟨W0.heap.size,0,none⟩=some (.int .i64 (lt k:Nat)))/\W0.heap.size<f.heap.size) (λi _=>6 - (intOf i).toNat)
   case atStart=>exact⟨0,V,tl,by omega,rfl,q,JP,jD,bF,v,x,y⟩
   case round=>
    obtain⟨l,V,tl,hl,rfl,q,d,m,o,z,G,A⟩:=hrel;rename World=>W3;clear v x y JP jD bF;by_cases jI:l<6
    ·have ix:=λW=>WK (ed k) jI W;have H:=hid (q.out.len l);have nc:=G.out;have I:=hid (FC.out k l a);cases he:ed k l with
     | false=>
      have qb:=hid (akk q.out he);rw[he]at ix;clear he;go_wp2_with fail;go_roundw
      case rel=>exact⟨l+1,V,tl,by omega,by go_num,qb,d,m,o,z,G,A⟩
      case measure=>simp[intOf] <;> omega
     | true=>
      have J:=I.out he;have Q7:=hid (amY q.out he);have AW:=hid (aaR T (w.heap.size+1) n k (lt k) l V tl W3 d.out (by omega) a F J (by have:=H.out;omega));rw[he]at ix;clear he;generalize lt k=lk at *;go_wp2_with fail;refine AW.out.mono ?_;rintro e w5 ⟨rfl,⟨V5,B,LX⟩,C⟩;obtain⟨t,o2⟩:=LX W0.heap.size A (by omega) z.out;have K:=hid B;have L:=hid o2;have M:=hid ((t 0).trans G.out);have N:=hid (And.intro ((C.cell (p:=⟨w.heap.size,0,none⟩) (by show w.heap.size<w.heap.size+1;omega)).trans m.out.1) ((C.frozen (p:=⟨w.heap.size,0,none⟩) (by show w.heap.size<w.heap.size+1;omega)).trans m.out.2));have fH:=hid (o.out.trans (C.mono (by omega)));have vB:=C.size;clear B C AW d m o LX t o2 nc;go_wp2_with fail;go_roundw
      case rel=>exact⟨l+1,V5,_,by omega,by go_num,Q7,K,N,fH,L,M,by omega⟩
      case measure=>simp[intOf] <;> omega
    ·obtain rfl:l=6:=by omega
     have O:=hid (akl q.out);go_wp2_with fail;go_roundw
     case rel=>exact⟨k+1,V,tl,by omega,by go_num,O,d,m,o⟩
     case measure=>simp[intOf] <;> omega
  ·obtain rfl:k=n:=by omega
   have c1:=d.out.cell;have r0:=m.out.1;have r1:=m.out.2;have P:=hid (d.out.abe (b:=w.heap.size) (by omega) 0 (.slice (some ⟨w.heap.size+1,0,none⟩) k k)).ways;have dW:=hid (o.out.setCell (p:=⟨w.heap.size,0,none⟩) (aB2 _) (.slice (some ⟨w.heap.size+1,0,none⟩) k k));have IL:Hid ((W0.setCell ⟨w.heap.size,0,none⟩ (.slice (some ⟨w.heap.size+1,0,none⟩) k k)).cell? ⟨w.heap.size,0,none⟩=some (.slice (some ⟨w.heap.size+1,0,none⟩) k k)):=hid (aCz _ _ _ r0);go_wp2_with fail;refine J7 Tryz.results89 ?_ ?_ IL.out ?_
   ·rfl
   ·rfl
   ·exact⟨_,tl,rfl,P.out,q.out,dW.out⟩
def kN(n:Nat)(aj:List (List Int))(k:Nat):Bool:=(List.range k).all λi=>gm n (aj.getD i [])
theorem Lh(n:Nat)(aj:List (List Int))(k:Nat):kN n aj (k+1)=(kN n aj k&&gm n (aj.getD k [])):=by
 unfold kN;rw[aCT,List.all_append];simp
def bO(zs:List Int)(aj:List (List Int))(ss:List Int):Bool:=decide (1<=zs.length)&&decide (zs.length<=6)&&decide (aj.length=zs.length)&&dh zs&&decide (ss.length≠0)&&gm zs.length ss&&kN zs.length aj zs.length
theorem Tg{n i:Nat}(hi:i<n)(zs:List Int):gm n (r9 i zs)=gm n zs:=by
 unfold r9;by_cases h:zs.length=0
 ·rw[aC2 h,List.length_eq_zero_iff.1 h];have a:decide ((0:Int)<=(i:Int))=true:=by simp
  have b:decide ((i:Int)<(n:Int))=true:=by simp;omega
  simp[gm,hi]
 ·rw[aC1 h]
def dJ(zs:List Int)(i:Nat):Nat:=(zs.getD i 0).toNat
def eT(aj:List (List Int))(i j:Nat):Bool:=pV (r9 i (aj.getD i [])) j
def wB(ss:List Int)(i:Nat):Bool:=pV ss i
def ndC(lt:Nat->Nat)(ed:Nat->Nat->Bool)(st:Nat->Bool)(i:Nat):List Value:=[.int .i64 (lt i:Nat),.bool (ed i 0),.bool (ed i 1),.bool (ed i 2),.bool (ed i 3),.bool (ed i 4),.bool (ed i 5),.bool (st i)]
def vP(lt:Nat->Nat)(ed:Nat->Nat->Bool)(st:Nat->Bool)(k:Nat):List Value:=(List.range k).flatMap (ndC lt ed st)
theorem Ca(lt:Nat->Nat)(ed:Nat->Nat->Bool)(st:Nat->Bool)(k:Nat):vP lt ed st (k+1)=vP lt ed st k++ndC lt ed st k:=by simp[vP,aCT]
theorem yU(lt:Nat->Nat)(ed:Nat->Nat->Bool)(st:Nat->Bool):∀ k,(vP lt ed st k).length=k*8
 | 0=>rfl
 | k+1=>by rw[Ca,aCd,yU lt ed st k];simp[ndC];omega
theorem yV(lt:Nat->Nat)(ed:Nat->Nat->Bool)(st:Nat->Bool){j:Nat}(hj:j<8):∀ {k i:Nat},i<k->(vP lt ed st k)[i*8+j]?=(ndC lt ed st i)[j]?
 | 0,i,hi=>by omega
 | k+1,i,hi=>by
  rw[Ca];by_cases h:i<k
  ·rw[aCh (by rw[yU];omega)];exact yV lt ed st hj h
  ·obtain rfl:i=k:=by omega
   rw[aCi (by rw[yU];omega),yU];congr 1;omega
theorem afy{w:World}{B g n cap:Nat}{lt:Nat->Nat}{ed:Nat->Nat->Bool}{st:Nat->Bool}(h:w.ownsRow B 156 8 (.slice (some ⟨g,0,none⟩) n cap) n (vP lt ed st n)):Bv w g n lt ed st:=by
 refine⟨(h.lt g rfl).2,λi a=>?_,λi j a b=>?_,λi a=>?_⟩
 ·rw[h.cellAt (i*8) (by omega)];have:=yV lt ed st (j:=0) (by omega) a;exact this
 ·rw[h.cellAt (i*8+(1+j)) (by omega),yV lt ed st (by omega) a];have:j=0\/j=1\/j=2\/j=3\/j=4\/j=5:=by omega
  rcases this with rfl | rfl | rfl | rfl | rfl | rfl <;> rfl
 ·rw[h.cellAt (i*8+7) (by omega),yV lt ed st (by omega) a];rfl
theorem Tryz.acm:(Tryz.prog.info? 156).map (λi=>(i.zero,i.size,i.bytes))=some (some (.agg #[.int .i64 0,.bool false,.bool false,.bool false,.bool false,.bool false,.bool false,.bool false]),8,16):=by kernel_rfl
def pY(zs:List Int)(aj:List (List Int))(ss:List Int)(w:World)(e:Ending)(w':World):Prop:=
 Below w.heap.size w w'/\((bO zs aj ss=false/\e=.returned (.tuple #[.slice none 0 0,.bool false])) \/
  (bO zs aj ss=true/\∃ g cap,e=.returned (.tuple #[.slice (some ⟨g,0,none⟩) zs.length cap,.bool true])/\Bv w' g zs.length (dJ zs) (eT aj) (wB ss)))
section
variable (a1 a2 a3:Option Addr) (l1 c1 l2 c2 l3 c3:Nat) (zs:List Int) (aj:List (List Int)) (ss:List Int) (w:World)
theorem aaX(h1:Ints w a1 l1 c1 zs)(h2:Lists w a2 l2 c2 aj)(h3:Ints w a3 l3 c3 ss)(hb:l1=0\/6<l1\/l2≠l1) :
  Calls Tryz.prog 45 #[.agg #[.slice a1 l1 c1,.slice a2 l2 c2,.slice a3 l3 c3]] w (pY zs aj ss w):=by
 have m1:=h1.hcap;have g:=h1.hmax;have h:=h1.hlen;have i:=h2.hlen;have j:=h2.hcap;have k:=h2.hmax;have a:Hid (bO zs aj ss=false):=hid (by
  cases e:bO zs aj ss with
  | false=>rfl
  | true=>
   unfold bO at e;simp only[aCH,aCZ]at e;omega)
 have b:=hid ((aB4 w.heap.size w).alloc (aB2 _) (.cells #[.slice a1 l1 c1,.slice a2 l2 c2,.slice a3 l3 c3] 25));have c:=dx w (.slice a1 l1 c1) (.slice a2 l2 c2) (.slice a3 l3 c3) 25;have l:=c.c0;have m:=c.c1;clear h1 h2 h3 c;by_cases d:l1=0
 ·subst d;go_enter Tryz.func45,Tryz.ntmps45;go_wp2_with fail
  go_ret2
  unfold pY;exact⟨b.out,aCa ⟨a.out,rfl⟩⟩
 have n:decide ((l1:Int)<1)=false:=by simp;omega
 by_cases o:6<l1
 ·have f:(6:Int)<(l1:Int):=by omega
  go_enter Tryz.func45,Tryz.ntmps45;go_wp2_with fail
  go_ret2
  unfold pY;exact⟨b.out,aCa ⟨a.out,rfl⟩⟩
 have f:decide ((6:Int)<(l1:Int))=false:=by simp;omega
 have p:((l2:Int) !=(l1:Int))=true:=bne_iff_ne.2 (by omega);go_enter Tryz.func45,Tryz.ntmps45;go_wp2_with fail
 go_ret2
 unfold pY;exact⟨b.out,aCa ⟨a.out,rfl⟩⟩
theorem aeI(h1:Ints w a1 l1 c1 zs)(h2:Lists w a2 l1 c2 aj)(h3:Ints w a3 l3 c3 ss)(hp:1<=l1)(h6:l1<=6) :
  Calls Tryz.prog 45 #[.agg #[.slice a1 l1 c1,.slice a2 l1 c2,.slice a3 l3 c3]] w (pY zs aj ss w):=by
 have m1:=h1.hcap;have m2:=h1.hmax;have L1:=h1.hlen;have L2:=h2.hlen;have L3:=h3.hlen;have n1:=h2.hcap;have n2:=h2.hmax;have o1:=h3.hcap;have o2:=h3.hmax;have q1:decide ((l1:Int)<1)=false:=by simp;omega
 have q2:decide ((6:Int)<(l1:Int))=false:=by simp;omega
 have q3:((l1:Int) !=(l1:Int))=false:=by simp
 have J:Hid (bO zs aj ss=(dh zs&&decide (ss.length≠0)&&gm l1 ss&&kN l1 aj l1)):=hid (by
  unfold bO;rw[L1,show decide (1<=l1)=true by simp;omega,show decide (l1<=6)=true by simp;omega,show decide (aj.length=l1)=true by simp;omega];simp)
 have L:=hid (λW (b:Below w.heap.size w W)=>h1.below b);have Dk:=hid (λW (b:Below w.heap.size w W)=>h2.below b);have HI3:=hid (λW (b:Below w.heap.size w W)=>h3.below b);have D:=hid ((aB4 w.heap.size w).alloc (aB2 _) (.cells #[.slice a1 l1 c1,.slice a2 l1 c2,.slice a3 l3 c3] 25));have M:=hid (dx w (.slice a1 l1 c1) (.slice a2 l1 c2) (.slice a3 l3 c3) 25);obtain⟨i0,xE,aT,aP,aO⟩:=info_parts Tryz.acm;have E:=M.out.c0;have F:=M.out.c1;have x2:=M.out.c2;have AL:=hid (jB a1 l1 c1 zs _ (L.out _ D.out));clear h1 h2 h3;go_enter Tryz.func45,Tryz.ntmps45;go_wp2_with fail;refine AL.out.mono ?_;rintro e w1 ⟨rfl,rfl⟩;cases hal:dh zs with
 | false=>
  have u:Hid (bO zs aj ss=false):=hid (by rw[J.out,hal];rfl);clear hal;go_wp2_with fail
  go_ret2
  unfold pY;exact⟨D.out,aCa ⟨u.out,rfl⟩⟩
 | true=>
  have uO:=hid hal;clear hal;by_cases P5:l3=0
  ·subst P5;have u:Hid (bO zs aj ss=false):=hid (by rw[J.out,L3];simp);go_wp2_with fail
   go_ret2
   unfold pY;exact⟨D.out,aCa ⟨u.out,rfl⟩⟩
  ·have LK:((l3:Int)==0)=false:=aCe.2 (by omega);have AM:=hid (Ij a3 l3 c3 l1 ss _ (HI3.out _ D.out) h6);go_wp2_with fail;generalize hW:(w.alloc (.cells #[.slice a1 l1 c1,.slice a2 l1 c2,.slice a3 l3 c3] 25))=W at *;have Me:W.heap.size=w.heap.size+1:=by rw[<-hW];simp
   clear hW;refine AM.out.mono ?_;intro e g N;unfold oK at N;obtain⟨d,rfl,O,P⟩:=N;have Q:=hid O;have T2:=hid (M.out.below P (by omega));have aM:=hid (D.out.trans (P.mono (by omega)));have kX:=P.size;clear O P AM E F x2 M D AL;have B:=(aB4 g.heap.size g).alloc (aB2 _) (.cells (six d) 151);have RS:=hid (mW g (λi=>Value.bool (d i)) 6 151);have T3:=hid (T2.out.below B (by omega));have bF:=hid (aM.out.trans (B.mono (by omega)));clear B T2 aM;unfold six;cases yt:gm l1 ss with
   | false=>
    have u:Hid (bO zs aj ss=false):=hid (by rw[J.out,yt];simp);clear yt;go_wp2_with fail
    go_ret2
    unfold pY;exact⟨bF.out,aCa ⟨u.out,rfl⟩⟩
   | true=>
    have JN:=hid yt;have auC:=hid (Q.out yt);clear yt Q;have E:=T3.out.c0;have F:=T3.out.c1;have hw3:(g.alloc (.cells (six d) 151)).heap.size=g.heap.size+1:=by simp
    have RS3:Hid (dK (g.alloc (.cells #[.bool (d 0),.bool (d 1),.bool (d 2),.bool (d 3),.bool (d 4),.bool (d 5)] 151)) g.heap.size 6 (λi=>Value.bool (d i))):=RS;unfold six at T3 bF hw3 E F;clear RS;go_wp2_with fail;clear E F;generalize X8:(g.alloc (.cells #[.bool (d 0),.bool (d 1),.bool (d 2),.bool (d 3),.bool (d 4),.bool (d 5)] 151))=W3 at *;clear X8
    go_loopw [7,50] (λv i wq=>∃ k:Nat,k<=l1/\i=.int .i64 k/\Hid (kN l1 aj k=true)/\Hid (wq.ownsRow (g.heap.size+1) 156 8 v k (vP (dJ zs) (eT aj) (wB ss) k))/\Hid (Below (g.heap.size+1) W3 wq)) (λ_ i _=>l1 - (intOf i).toNat)
    case atStart=>exact⟨0,aCg _,rfl,hid (by simp[kN]),hid (aCp _ _ _ _),hid (aB4 _ _)⟩
    case round=>
     obtain⟨k,hk,rfl,JK,G,HX⟩:=hrel;rename World=>W4;obtain⟨aV,R,rfl⟩:=ak G.out;have Bd:=HX.out.size;have dW:=hid (bF.out.trans (HX.out.mono (by omega)));by_cases x:k<l1
     ·have T4:=T3.out.below HX.out (by omega);have E:=T4.c0;have F:=T4.c1;obtain⟨b1,o1',e1,aC,T⟩:=(L.out W4 dW.out).hcell (by omega);obtain⟨b2,o2',e2,P,qV⟩:=(Dk.out W4 dW.out).hcell (by omega);subst e1;subst e2;have cz:=T k x;obtain⟨ra,rl,rc,cr,hr⟩:=qV k x;have U:qO (zs.getD k 0)=true:=by
       have y:=uO.out;unfold dh at y;rw[List.all_eq_true]at y;refine y _ ?_;rw[List.getD,aB3 (by omega)];exact List.getElem_mem _
      have asY:=ja.1 U;have V6:Hid (zs.getD k 0=((dJ zs k:Nat):Int)):=hid (by unfold dJ;omega);rw[V6.out]at cz;have H:Hid (∀ j,eT aj k j=pV (r9 k (aj.getD k [])) j):=hid (λj=>rfl);have oI:=hid (Tg x (aj.getD k []));have YE:=hid (Lh l1 aj k);have We:Hid (kN l1 aj l1=true->gm l1 (aj.getD k [])=true):=hid (λy=>by
       unfold kN at y;rw[List.all_eq_true]at y;exact y k (by simpa using x))
      have ED:=hid (adc ra rl rc k l1 (aj.getD k []) W4 hr h6);have V:=hid (Ca (dJ zs) (eT aj) (wB ss) k);unfold ndC at V;have lq:=hid (λq h=>(G.out.lt q h).1);have i1:(0:Int)<=(k:Int):=by omega
      have i2:(k:Int)<(l1:Int):=by omega
      clear T qV hr U asY T4;generalize aj.getD k []=row at *;generalize dJ zs k=m at *;go_wp2_with fail;refine ED.out.mono ?_;intro e a N;unfold oK at N;obtain⟨f,rfl,hf,bi⟩:=N;have HF:=hid hf;have X:=hid (HX.out.trans (bi.mono (by omega)));have O5:=hid (ai G.out bi);have vB:=bi.size;clear hf bi ED E F cz cr;have B:=(aB4 a.heap.size a).alloc (aB2 _) (.cells (six f) 151);have Ip:=hid (X.out.trans (B.mono (by omega)));have O6:=hid (ai O5.out B);have jV:=hid (bF.out.trans (Ip.out.mono (by omega)));clear B X O5;unfold six;unfold six at Ip O6 jV;cases LV:gm l1 (r9 k row) with
      | false=>
       have u:Hid (bO zs aj ss=false):=hid (by
        rw[J.out];have y:kN l1 aj l1=false:=by
         cases e:kN l1 aj l1 with
         | false=>rfl
         | true=>
          have Y:=We.out e;rw[<-oI.out,LV]at Y;cases Y
        rw[y];simp)
       clear LV;go_wp2_with fail
       go_ret2
       unfold pY;exact⟨jV.out,aCa ⟨u.out,rfl⟩⟩
      | true=>
       have HRK:Hid (kN l1 aj (k+1)=true):=hid (by rw[YE.out,JK.out,<-oI.out,LV];rfl);have I:=hid (HF.out LV);clear LV HF;have f0:(a.alloc (.cells #[.bool (f 0),.bool (f 1),.bool (f 2),.bool (f 3),.bool (f 4),.bool (f 5)] 151)).cell? ⟨a.heap.size,0,none⟩=some (.bool (f 0)):=by simp
       have f1:(a.alloc (.cells #[.bool (f 0),.bool (f 1),.bool (f 2),.bool (f 3),.bool (f 4),.bool (f 5)] 151)).cell? ⟨a.heap.size,1,none⟩=some (.bool (f 1)):=by simp
       have f2:(a.alloc (.cells #[.bool (f 0),.bool (f 1),.bool (f 2),.bool (f 3),.bool (f 4),.bool (f 5)] 151)).cell? ⟨a.heap.size,2,none⟩=some (.bool (f 2)):=by simp
       have f3:(a.alloc (.cells #[.bool (f 0),.bool (f 1),.bool (f 2),.bool (f 3),.bool (f 4),.bool (f 5)] 151)).cell? ⟨a.heap.size,3,none⟩=some (.bool (f 3)):=by simp
       have f4:(a.alloc (.cells #[.bool (f 0),.bool (f 1),.bool (f 2),.bool (f 3),.bool (f 4),.bool (f 5)] 151)).cell? ⟨a.heap.size,4,none⟩=some (.bool (f 4)):=by simp
       have f5:(a.alloc (.cells #[.bool (f 0),.bool (f 1),.bool (f 2),.bool (f 3),.bool (f 4),.bool (f 5)] 151)).cell? ⟨a.heap.size,5,none⟩=some (.bool (f 5)):=by simp
       have sk:=((RS3.out.below Ip.out (by omega)).c k (by omega));have as0:(a.alloc (.cells #[.bool (f 0),.bool (f 1),.bool (f 2),.bool (f 3),.bool (f 4),.bool (f 5)] 151)).heap.size=a.heap.size+1:=by simp
       have KN:Hid (([.int .i64 (m:Nat),.bool (eT aj k 0),.bool (eT aj k 1),.bool (eT aj k 2),.bool (eT aj k 3),.bool (eT aj k 4),.bool (eT aj k 5),.bool (wB ss k)]:List Value)=[.int .i64 (m:Nat),.bool (f 0),.bool (f 1),.bool (f 2),.bool (f 3),.bool (f 4),.bool (f 5),.bool (d k)]):=hid (by
        rw[H.out 0,H.out 1,H.out 2,H.out 3,H.out 4,H.out 5,<-I.out 0 (by omega),<-I.out 1 (by omega),<-I.out 2 (by omega),<-I.out 3 (by omega),<-I.out 4 (by omega),<-I.out 5 (by omega),auC.out k (by omega)];rfl)
       have i3:(k:Int)<6:=by omega
       go_wp2_with fail;generalize hW6:(a.alloc (.cells #[.bool (f 0),.bool (f 1),.bool (f 2),.bool (f 3),.bool (f 4),.bool (f 5)] 151))=W6 at *;clear hW6;have r:a.heap.size<W6.heap.size:=by omega
       have yS:g.heap.size<W6.heap.size:=by omega
       have yB:g.heap.size+1<=W6.heap.size:=by omega
       clear as0;refine wp_region_held_drew (S:=λw'=>w'.cell? ⟨a.heap.size,0,none⟩=some (.bool (f 0))/\w'.cell? ⟨a.heap.size,1,none⟩=some (.bool (f 1))/\w'.cell? ⟨a.heap.size,2,none⟩=some (.bool (f 2))/\w'.cell? ⟨a.heap.size,3,none⟩=some (.bool (f 3))/\w'.cell? ⟨a.heap.size,4,none⟩=some (.bool (f 4))/\w'.cell? ⟨a.heap.size,5,none⟩=some (.bool (f 5))/\w'.cell? ⟨g.heap.size,k,none⟩=some (.bool (d k))) (by kernel_rfl) ⟨f0,f1,f2,f3,f4,f5,sk⟩ (λaD=>?_);refine aCc (i:=0) (oi:={ dst:=some 68,op:=Op.move (.tmp 7),type:=_,pos:=_,after:=_,guard:=none }) (v:=(Value.slice aV k R)) rfl (by kernel_rfl) (by kernel_rfl) (by kernel_rfl) (λ_ _ _ h=>h) (aCa ⟨by rfl,by intro w' l;(try dsimp only at l);go_simp⟩) (by assumption) ?_
       simp only[Act.put,aB1,aB5,aB6];refine aCc (i:=1) (oi:={ dst:=some 69,op:=Op.move (.tmp 9),type:=_,pos:=_,after:=_,guard:=none }) (v:=(Value.int .i64 (m:Nat))) rfl (by kernel_rfl) (by kernel_rfl) (by kernel_rfl) (λ_ _ _ h=>h) (aCa ⟨by rfl,by intro w' l;(try dsimp only at l);go_simp⟩) (by assumption) ?_
       simp only[Act.put,aB1,aB5,aB6];refine aCc (i:=2) (oi:={ dst:=some 70,op:=Op.load _ (.tmp 10),type:=_,pos:=_,after:=_,guard:=none }) (v:=(Value.agg #[.bool (f 0),.bool (f 1),.bool (f 2),.bool (f 3),.bool (f 4),.bool (f 5)])) rfl (by kernel_rfl) (by kernel_rfl) (by kernel_rfl) (λ_ _ _ h=>h) (aCa ⟨by rfl,by intro w' l;(try dsimp only at l);go_simp⟩) (by assumption) ?_
       simp only[Act.put,aB1,aB5,aB6];refine aCc (i:=3) (oi:={ dst:=some 71,op:=Op.move (.tmp 8),type:=_,pos:=_,after:=_,guard:=none }) (v:=(Value.int .i64 (k:Nat))) rfl (by kernel_rfl) (by kernel_rfl) (by kernel_rfl) (λ_ _ _ h=>h) (aCa ⟨by rfl,by intro w' l;(try dsimp only at l);go_simp⟩) (by assumption) ?_
       simp only[Act.put,aB1,aB5,aB6];refine aCc (i:=4) (oi:={ dst:=some 72,op:=Op.indexAddr _ (.tmp 5) (.tmp 71),type:=_,pos:=_,after:=_,guard:=none }) (v:=(Value.pointer (some ⟨g.heap.size,k,none⟩))) rfl (by kernel_rfl) (by kernel_rfl) (by kernel_rfl) (λ_ _ _ h=>h) (aCa ⟨by rfl,by intro w' l;(try dsimp only at l);go_simp⟩) (by assumption) ?_
       simp only[Act.put,aB1,aB5,aB6];refine aCc (i:=5) (oi:={ dst:=some 73,op:=Op.load _ (.tmp 72),type:=_,pos:=_,after:=_,guard:=none }) (v:=(Value.bool (d k))) rfl (by kernel_rfl) (by kernel_rfl) (by kernel_rfl) (λ_ _ _ h=>h) (aCa ⟨by rfl,by intro w' l;(try dsimp only at l);go_simp⟩) (by assumption) ?_
       simp only[Act.put,aB1,aB5,aB6];refine aCc (i:=6) (oi:={ dst:=some 74,op:=Op.build _ #[(0,.tmp 69),(1,.tmp 70),(2,.tmp 73)],type:=_,pos:=_,after:=_,guard:=none }) (v:=(Value.agg #[.int .i64 (m:Nat),.bool (f 0),.bool (f 1),.bool (f 2),.bool (f 3),.bool (f 4),.bool (f 5),.bool (d k)])) rfl (by kernel_rfl) (by kernel_rfl) (by kernel_rfl) (λ_ _ _ h=>h) (aCa ⟨by rfl,by intro w' l;(try dsimp only at l);go_simp⟩) (by assumption) ?_
       simp only[Act.put,aB1,aB5,aB6];refine aCk (rs:=[7]) (by kernel_rfl) (by simp) ?_;refine aCf rfl (λK Z=>?_) aCj
       go_simp
       have s:Below W6.heap.size W6 (W6.alloc (.cells #[.int .i64 (m:Nat),.bool (f 0),.bool (f 1),.bool (f 2),.bool (f 3),.bool (f 4),.bool (f 5),.bool (d k)] 156)):=(aB4 W6.heap.size W6).alloc (aB2 _) _;refine Z.out _ _ ⟨(s.cell (p:=⟨a.heap.size,0,none⟩) r).trans f0,(s.cell (p:=⟨a.heap.size,1,none⟩) r).trans f1,(s.cell (p:=⟨a.heap.size,2,none⟩) r).trans f2,(s.cell (p:=⟨a.heap.size,3,none⟩) r).trans f3,(s.cell (p:=⟨a.heap.size,4,none⟩) r).trans f4,(s.cell (p:=⟨a.heap.size,5,none⟩) r).trans f5,(s.cell (p:=⟨g.heap.size,k,none⟩) yS).trans sk⟩ (λaD=>?_);clear Z K;refine aCk (rs:=[8]) (by kernel_rfl) (by simp) ?_;refine aCf rfl (λK Z=>?_) aCj;refine aCV _ (by rfl) (.tmp 68) (.tmp 75) 88 (by rfl) (g.heap.size+1) 156 i0 (.agg #[.int .i64 0,.bool false,.bool false,.bool false,.bool false,.bool false,.bool false,.bool false]) 8 16 Tryz.underlying88 xE aT aP aO rfl (by decide) _ k (vP (dJ zs) (eT aj) (wB ss) k) (by rfl) ((O6.out.alloc _).drew) ⟨W6.heap.size,0,none⟩ 1 1 [.int .i64 (m:Nat),.bool (f 0),.bool (f 1),.bool (f 2),.bool (f 3),.bool (f 4),.bool (f 5),.bool (d k)] (by rfl) (by rfl) (World.news_of_block (cs:=#[.int .i64 (m:Nat),.bool (f 0),.bool (f 1),.bool (f 2),.bool (f 3),.bool (f 4),.bool (f 5),.bool (d k)]) (t:=156) (fr:=(0,0)) (heap_alloc_new W6 _)) (by simp[Value.oneCell']) (by decide) (by unfold maxLen;omega) (by omega) (by simp;omega) (W6.heap.size+1) (by simp) ?_;intro gg cc w7 z n hat qj;have QO:=hid ((Ip.out.trans ((aCl s 1).mono (by omega))).grown n (by show g.heap.size+1<=(W6.alloc (.cells #[.int .i64 (m:Nat),.bool (f 0),.bool (f 1),.bool (f 2),.bool (f 3),.bool (f 4),.bool (f 5),.bool (d k)] 156)).heap.size;rw[aB7];omega) (λq h=>lq.out q h));have O7:Hid (w7.ownsRow (g.heap.size+1) 156 8 (.slice (some ⟨gg,0,none⟩) (k+1) cc) (k+1) (vP (dJ zs) (eT aj) (wB ss) (k+1))):=hid (by rw[V.out,KN.out];exact z);have A:∀ (b o:Nat) {v:Value},b<W6.heap.size->some b≠(Value.slice aV k R).ownBlock->W6.cell? ⟨b,o,none⟩=some v->w7.cell? ⟨b,o,none⟩=some v:=λb o v hb hne hv=>n.cell ((s.cell (p:=⟨b,o,none⟩) hb).trans hv) hne;have C:some a.heap.size≠(Value.slice aV k R).ownBlock:=λh=>by have:=(G.out.lt _ h.symm).2;omega
       have neS:some g.heap.size≠(Value.slice aV k R).ownBlock:=λh=>by have:=lq.out _ h.symm;omega
       refine Z.out _ _ ⟨A _ _ r C f0,A _ _ r C f1,A _ _ r C f2,A _ _ r C f3,A _ _ r C f4,A _ _ r C f5,A _ _ yS neS sk⟩ (λaD=>?_);clear Z K z n hat A C neS s
       (try simp only[Act.put,aB1])
       refine aCc (i:=9) (oi:={ dst:=some 7,op:=Op.assign (.tmp 76),type:=_,pos:=_,after:=_,guard:=none }) (v:=(Value.slice (some ⟨gg,0,none⟩) (k+1) cc)) rfl (by kernel_rfl) (by kernel_rfl) (by kernel_rfl) (λ_ _ _ h=>h) (aCa ⟨by rfl,by intro w' l;(try dsimp only at l);go_simp⟩) (by assumption) ?_
       simp only[Act.put];refine aC0 (by kernel_rfl) ?_ _;clear aD f0 f1 f2 f3 f4 f5 sk;go_wp2_with fail;go_roundw
       case rel=>exact⟨k+1,by omega,by go_num,HRK,O7,QO⟩
       case measure=>simp[intOf] <;> omega
     ·obtain rfl:k=l1:=by omega
      have u:Hid (bO zs aj ss=true):=hid (by rw[J.out,uO.out,JN.out,JK.out];simp;intro h;rw[h]at L3;simp at L3;omega);obtain⟨gV,eV,_,_,_⟩:=eZ G.out (by omega);subst eV;have JO:=hid (afy G.out);go_wp2_with fail
      go_ret2
      unfold pY;exact⟨dW.out,aCb ⟨u.out,gV,R,(by rw[L1];rfl),(by rw[L1];exact JO.out)⟩⟩
theorem aaY(h1:Ints w a1 l1 c1 zs)(h2:Lists w a2 l2 c2 aj)(h3:Ints w a3 l3 c3 ss):Calls Tryz.prog 45 #[.agg #[.slice a1 l1 c1,.slice a2 l2 c2,.slice a3 l3 c3]] w (pY zs aj ss w):=by
 by_cases h:l1=0\/6<l1\/l2≠l1
 ·exact aaX a1 a2 a3 l1 c1 l2 c2 l3 c3 zs aj ss w h1 h2 h3 h
 ·obtain rfl:l2=l1:=by omega
  exact aeI a1 a2 a3 l2 c1 c2 l3 c3 zs aj ss w h1 h2 h3 (by omega) (by omega)
end
theorem zH(a:Option Addr)(l c n:Nat)(zs:List Int)(w:World)(h:Ints w a l c zs) :
  Calls Tryz.prog 84 #[.slice a l c,.int .i64 (n:Nat)] w λe w'=>e=.returned (.bool (gm n zs))/\w'=w:=by
 have C:=h.hlen;have m:=h.hcap;have p:=h.hmax;have t:=hid h;clear h;go_enter Tryz.func84,Tryz.ntmps84;go_wp2_with fail
 go_loop [5] (λi=>∃ j:Nat,j<=l/\i=.int .i64 j/\Hid (∀ k,k<j->0<=zs.getD k 0/\zs.getD k 0<(n:Int))) (λi=>l - (intOf i).toNat)
 case atStart=>exact⟨0,aCg _,rfl,hid (λk f=>by omega)⟩
 case round=>
  obtain⟨j,D,rfl,q⟩:=hrel;by_cases g:j<l
  ·obtain⟨b,o,e,E,r⟩:=t.out.hcell (by omega);subst e;have F:=r j g;have u:Hid (zs.getD j 0∈zs):=hid (by rw[List.getD,aB3 (by omega)];exact List.getElem_mem _);have v:Hid (0<=zs.getD j 0/\zs.getD j 0<(n:Int)->∀ k,k<j+1->0<=zs.getD k 0/\zs.getD k 0<(n:Int)):=hid (λh k f=>by
    by_cases e:k=j
    ·subst e;exact h
    ·exact q.out k (by omega))
   have s:Hid (¬ (0<=zs.getD j 0/\zs.getD j 0<(n:Int))->gm n zs=false):=hid (λh=>by
    cases e:gm n zs with
    | false=>rfl
    | true=>exact absurd (qL.1 e _ u.out) h)
   clear r;generalize zs.getD j 0=z at *;have G:(0:Int)<=(j:Int):=by omega
   have H:(j:Int)<(l:Int):=by omega
   by_cases I:z<0
   ·have d:=hid (s.out (by omega));go_wp2_with fail;go_ret;exact⟨by rw[d.out];rfl,rfl⟩
   ·have x:decide (z<0)=false:=by simp;omega
    by_cases J:(n:Int)<=z
    ·have d:=hid (s.out (by omega));go_wp2_with fail;go_ret;exact⟨by rw[d.out];rfl,rfl⟩
    ·have y:decide ((n:Int)<=z)=false:=by simp;omega
     have A:=hid (v.out (by omega));go_wp2_with fail
     go_round
     case rel=>exact⟨j+1,by omega,by go_num,A⟩
     case measure=>simp[intOf] <;> omega
  ·obtain rfl:j=l:=by omega
   have d:Hid (gm n zs=true):=hid (qL.2 (λz B=>by
    obtain⟨k,f,e⟩:=aCK B;have:=q.out k (by omega);rw[List.getD,aB3 f]at this;simpa [e] using this))
   go_wp2_with fail;go_ret;exact⟨by rw[d.out];rfl,rfl⟩
section
variable (a1 a2 a3:Option Addr) (l1 c1 l2 c2 l3 c3:Nat) (zs:List Int) (aj:List (List Int)) (ss:List Int) (w:World)
theorem BU(h1:Ints w a1 l1 c1 zs)(h2:Lists w a2 l2 c2 aj)(h3:Ints w a3 l3 c3 ss) :
  Calls Tryz.prog 80 #[.agg #[.slice a1 l1 c1,.slice a2 l2 c2,.slice a3 l3 c3]] w λe w'=>e=.returned (.bool (bO zs aj ss))/\Below w.heap.size w w':=by
 have m1:=h1.hcap;have Q:=h1.hmax;have u:=h1.hlen;have v:=h2.hlen;have x:=h3.hlen;have R:=h2.hcap;have S:=h2.hmax;have T:=h3.hcap;have U:=h3.hmax;have d:Hid (bO zs aj ss=(decide (1<=l1)&&decide (l1<=6)&&decide (l2=l1)&&dh zs&&decide (l3≠0)&&gm l1 ss&&kN l1 aj l1)):=hid (by unfold bO;rw[u,v,x]);have f:=(aB4 w.heap.size w).alloc (aB2 _) (.cells #[.slice a1 l1 c1,.slice a2 l2 c2,.slice a3 l3 c3] 25);have j:=dx w (.slice a1 l1 c1) (.slice a2 l2 c2) (.slice a3 l3 c3) 25;have V:=j.c0;have X:=j.c1;have Y:=j.c2;have y:=hid (ul a1 l1 c1 zs _ (h1.below f));have z:=hid (zH a3 l3 c3 l1 ss _ (h3.below f));have A:=hid (h2.below f);have c:=hid f;clear h1 h2 h3 f j;generalize B:dh zs=sl at *;generalize C:gm l1 ss=sn at *;go_enter Tryz.func80,Tryz.ntmps80;go_wp2_with fail;refine y.out.mono ?_;rintro e Z ⟨rfl,rfl⟩;go_wp2_with fail;refine z.out.mono ?_;rintro e w2 ⟨rfl,rfl⟩;by_cases m:l1=0
 ·have a:Hid (bO zs aj ss=false):=hid (by rw[d.out,m];simp);have D:((l1:Int)==0)=true:=by simp[m]
  clear m;go_wp2_with fail;go_ret;exact⟨by rw[a.out];rfl,c.out⟩
 have D:((l1:Int)==0)=false:=aCe.2 (by omega);by_cases k2:6<l1
 ·have a:Hid (bO zs aj ss=false):=hid (by rw[d.out,show decide (l1<=6)=false by simp;omega];simp);have E:(6:Int)<(l1:Int):=by omega
  go_wp2_with fail;go_ret;exact⟨by rw[a.out];rfl,c.out⟩
 have E:decide ((6:Int)<(l1:Int))=false:=by simp;omega
 have F:decide (6<l1)=false:=by simp;omega
 by_cases q:l2=l1
 ·subst q;have G:((l2:Int) !=(l2:Int))=false:=by simp
  cases sl with
  | false=>
   have a:Hid (bO zs aj ss=false):=hid (by rw[d.out];simp);go_wp2_with fail;go_ret;exact⟨by rw[a.out];rfl,c.out⟩
  | true=>
   cases sn with
   | false=>
    have a:Hid (bO zs aj ss=false):=hid (by rw[d.out];simp);go_wp2_with fail;go_ret;exact⟨by rw[a.out];rfl,c.out⟩
   | true=>
    by_cases l:l3=0
    ·have a:Hid (bO zs aj ss=false):=hid (by rw[d.out,l];simp);have H:((l3:Int)==0)=true:=by simp[l]
     clear l;go_wp2_with fail;go_ret;exact⟨by rw[a.out];rfl,c.out⟩
    ·have H:((l3:Int)==0)=false:=aCe.2 (by omega);have g:Hid (bO zs aj ss=kN l2 aj l2):=hid (by rw[d.out,show decide (1<=l2)=true by simp;omega,show decide (l2<=6)=true by simp;omega,show decide (l3≠0)=true by simpa using l];simp);go_wp2_with fail;generalize I:(w.alloc (.cells #[.slice a1 l2 c1,.slice a2 l2 c2,.slice a3 l3 c3] 25))=W at *;clear I
     go_loopw [6] (λi J=>∃ k:Nat,k<=l2/\i=.int .i64 k/\J=W/\Hid (kN l2 aj k=true)) (λi _=>l2 - (intOf i).toNat)
     case atStart=>exact⟨0,aCg _,rfl,rfl,hid (by simp[kN])⟩
     case round=>
      obtain⟨k,hk,rfl,rfl,r⟩:=hrel;by_cases h:k<l2
      ·obtain⟨b,o,e,hb,s⟩:=A.out.hcell (by omega);subst e;obtain⟨K,L,M,cr,t⟩:=s k h;have N:=hid (Lh l2 aj k);have O:Hid (kN l2 aj l2=true->gm l2 (aj.getD k [])=true):=hid (λn=>by
        unfold kN at n;rw[List.all_eq_true]at n;exact n k (by simpa using h))
       have P:=hid (zH K L M l2 (aj.getD k []) _ t);generalize gm l2 (aj.getD k [])=nk at *;have i1:(0:Int)<=(k:Int):=by omega
       have i2:(k:Int)<(l2:Int):=by omega
       clear s t;go_wp2_with fail;refine P.out.mono ?_;rintro e w3 ⟨rfl,rfl⟩;cases nk with
       | false=>
        have a:Hid (bO zs aj ss=false):=hid (by
         rw[g.out];cases e:kN l2 aj l2 with
         | false=>rfl
         | true=>exact absurd (O.out e) (by simp))
        go_wp2_with fail;go_ret;exact⟨by rw[a.out];rfl,c.out⟩
       | true=>
        have p:Hid (kN l2 aj (k+1)=true):=hid (by rw[N.out,r.out];rfl);go_wp2_with fail;go_roundw
        case rel=>exact⟨k+1,by omega,by go_num,by first | rfl | trivial,p⟩
        case measure=>simp[intOf] <;> omega
      ·obtain rfl:k=l2:=by omega
       have a:Hid (bO zs aj ss=true):=hid (by rw[g.out];exact r.out);go_wp2_with fail;go_ret;exact⟨by rw[a.out];rfl,c.out⟩
 ·have a:Hid (bO zs aj ss=false):=hid (by rw[d.out,show decide (l2=l1)=false by simpa using q];simp);have G:((l2:Int) !=(l1:Int))=true:=bne_iff_ne.2 (by omega);go_wp2_with fail;go_ret;exact⟨by rw[a.out];rfl,c.out⟩
theorem FX(i j:Nat)(h2:Lists w a2 l2 c2 aj)(hi:i<l2) :
  Calls Tryz.prog 82 #[.agg #[.slice a1 l1 c1,.slice a2 l2 c2,.slice a3 l3 c3],.int .i64 (i:Nat),.int .i64 (j:Nat)] w λe w'=>e=.returned (.bool (eT aj i j))/\Below w.heap.size w w':=by
 have O:=h2.hcap;have P:=h2.hmax;have g:=(aB4 w.heap.size w).alloc (aB2 _) (.cells #[.slice a1 l1 c1,.slice a2 l2 c2,.slice a3 l3 c3] 25);have s:=dx w (.slice a1 l1 c1) (.slice a2 l2 c2) (.slice a3 l3 c3) 25;have Q:=s.c1;obtain⟨b,o,e,R,t⟩:=(h2.below g).hcell (by omega);subst e;obtain⟨S,a,T,U,d⟩:=t i hi;have A:=hid d;have V:=d.hmax;have B:=d.hcap;have l:=d.hlen;have n:=hid g;have X:(0:Int)<=(i:Int):=by omega
 have Y:(i:Int)<(l2:Int):=by omega
 have C:Hid (eT aj i j=pV (r9 i (aj.getD i [])) j):=hid rfl;rw[C.out];clear h2 t d g s;generalize aj.getD i []=row at *;by_cases D:a=0
 ·subst D;have f:Hid (pV (r9 i row) j=((i:Int)==(j:Int))):=hid (by unfold r9;rw[aC2 l];simp[pV]);have E:((0:Int)==0)=true:=rfl;generalize pV (r9 i row) j=bv at *;have F:=f.out;go_enter Tryz.func82,Tryz.ntmps82;go_wp2_with fail;go_ret;exact⟨by rw[f.out];first | rfl | simp,n.out⟩
 ·have E:((a:Int)==0)=false:=aCe.2 (by omega);have f:Hid (r9 i row=row):=hid (by unfold r9;rw[aC1 (by omega)]);rw[f.out];go_enter Tryz.func82,Tryz.ntmps82;go_wp2_with fail;generalize G:(w.alloc (.cells #[.slice a1 l1 c1,.slice (some ⟨b,o,none⟩) l2 c2,.slice a3 l3 c3] 25))=W at *;clear G
  go_loopw [7] (λx H=>∃ k:Nat,k<=a/\x=.int .i64 k/\H=W/\Hid (∀ m,m<k->row.getD m 0≠(j:Int))) (λx _=>a - (intOf x).toNat)
  case atStart=>exact⟨0,aCg _,rfl,rfl,hid (λm p=>by omega)⟩
  case round=>
   obtain⟨k,Z,rfl,rfl,u⟩:=hrel;by_cases q:k<a
   ·obtain⟨b',o',e,I,v⟩:=A.out.hcell (by omega);subst e;have ck:=v k q;have y:Hid (row.getD k 0∈row):=hid (by rw[List.getD,aB3 (by omega)];exact List.getElem_mem _);have J:Hid (row.getD k 0≠(j:Int)->∀ m,m<k+1->row.getD m 0≠(j:Int)):=hid (λh m p=>by
     by_cases e:m=k
     ·subst e;exact h
     ·exact u.out m (by omega))
    have K:Hid (row.getD k 0=(j:Int)->pV row j=true):=hid (λh=>zm.2 (by rw[<-h];exact y.out));have j1:(0:Int)<=(k:Int):=by omega
    have j2:(k:Int)<(a:Int):=by omega
    clear v y;generalize row.getD k 0=z at *;by_cases c:z=(j:Int)
    ·have r:=hid (K.out c);have L:(z==(j:Int))=true:=by simp[c]
     clear c;go_wp2_with fail;go_ret;exact⟨by rw[r.out];rfl,n.out⟩
    ·have M:=hid (J.out c);have L:(z==(j:Int))=false:=aCe.2 c;clear c;go_wp2_with fail;go_roundw
     case rel=>exact⟨k+1,by omega,by go_num,by first | rfl | trivial,M⟩
     case measure=>simp[intOf] <;> omega
   ·obtain rfl:k=a:=by omega
    have r:Hid (pV row j=false):=hid (by
     cases e:pV row j with
     | false=>rfl
     | true=>
      obtain⟨m,p,N⟩:=aCK (zm.1 e);have:=u.out m (by omega);rw[List.getD,aB3 p]at this;simp[N]at this)
    go_wp2_with fail;go_ret;exact⟨by rw[r.out];rfl,n.out⟩
end
