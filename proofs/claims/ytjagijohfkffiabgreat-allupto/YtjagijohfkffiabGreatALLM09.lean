import Derived.Test.YtjagijohfkffiabGreatALLM08
set_option maxHeartbeats 16000000
set_option maxRecDepth 1000000
set_option linter.unusedSimpArgs false
namespace Go.Proofs.YtjagijohfkffiabGreat
open Go.RowKit
set_option linter.unusedVariables false
def kg(F g ay n j:Nat)(u:Nat->Value):Act:=⟨#[.pointer (some ⟨F,0,none⟩),.slice (some ⟨g,0,none⟩) n ay,u 2,u 3,u 4,.int .i64 (j:Nat),u 6,u 7,u 8,u 9,u 10,u 11,u 12,u 13,u 14,u 15,u 16,u 17,u 18,u 19,u 20,u 21,u 22,u 23,u 24,u 25,u 26,u 27,u 28,u 29,u 30,u 31,u 32,u 33,u 34,u 35,u 36,u 37,u 38,u 39,u 40,u 41,u 42,u 43,u 44,u 45,u 46,u 47,u 48,u 49,u 50,u 51,u 52,u 53,u 54,u 55,u 56,u 57,u 58,u 59,u 60,u 61,u 62,u 63,u 64,u 65,u 66,u 67,u 68,u 69,u 70,u 71,u 72,u 73,u 74,u 75,u 76,u 77,u 78,u 79,u 80,u 81,u 82,u 83,u 84,u 85,u 86,u 87,u 88,u 89,u 90,u 91,u 92,u 93,u 94,u 95,u 96,u 97,u 98,u 99,u 100,u 101,u 102,u 103,u 104,u 105,u 106,u 107,u 108,u 109,u 110,u 111,u 112,u 113,u 114,u 115,u 116,u 117,u 118,u 119,u 120,u 121,u 122,u 123,u 124,u 125,u 126,u 127,u 128,u 129,u 130,u 131,u 132,u 133,u 134,u 135,u 136,u 137,u 138,u 139,u 140,u 141,u 142,u 143,u 144,u 145,u 146,u 147,u 148,u 149,u 150,u 151,u 152,u 153,u 154,u 155,u 156,u 157,u 158,u 159,u 160,u 161,u 162,u 163,u 164,u 165,u 166,u 167,u 168,u 169,u 170,u 171,u 172,u 173,u 174,u 175,u 176,u 177,u 178,u 179,u 180,u 181,u 182,u 183,u 184,u 185,u 186,u 187,u 188,u 189,u 190,u 191,u 192,u 193,u 194,u 195,u 196,u 197,u 198,u 199,u 200,u 201,u 202,u 203,u 204,u 205,u 206,u 207,u 208,u 209,u 210,u 211,u 212,u 213,u 214,u 215,u 216,u 217,u 218,u 219,u 220,u 221,u 222,u 223,u 224,u 225,u 226,u 227,u 228,u 229,u 230,u 231,u 232,u 233,u 234,u 235,u 236,u 237,u 238,u 239,u 240,u 241,u 242,u 243,u 244,u 245,u 246,u 247,u 248,u 249,u 250,u 251,u 252,u 253,u 254,u 255,u 256],[]⟩
theorem Rq(F gp cap g ay n j b:Nat)(va:Bool)(u:Nat->Value)(P:Nat->Prop)(Q0:Exit->Act->World->Prop)(w:World)(m:Nat)
  (hc:n<=ay) (di:n<=8) (kc:n<=cap) (hlt:j<n)
  (k0:w.cell? ⟨F,0,none⟩=some (.slice (some ⟨gp,0,none⟩) n cap)) (c1:w.cell? ⟨gp,j,none⟩=some (.pointer (some ⟨b,0,none⟩))) (c2:w.cell? ⟨b,0,none⟩=some (.int .u8 48)) (sj:w.cell? ⟨g,j,none⟩=some (.bool va))
  (hy:Hid ((!va)=true->P (j+1))) (hn:Hid ((!va)=false->∀ a' w'',a'.defers=[]->a'.tmps.size=257->a'.tmps.getD 4 undef=.bool false->(∃ m,w''=w.drewN m)->Q0 .ret a' w'')) :
  Code.wp Tryz.prog (eX Tryz.f120) (Exit.then (λa' w''=>GI 257 [(0,.pointer (some ⟨F,0,none⟩)),(1,.slice (some ⟨g,0,none⟩) n ay)] 5 n P w a' w''/\GM 5 n a' w''<n - j) Q0)
   (kg F g ay n j u) (w.drewN m):=by
 unfold kg
 conv=>arg 2;whnf
 go_wp2_with fail
 all_goals
  first
  | exact⟨⟨rfl,rfl,by simp,j+1,by omega,by go_num,hy.out (by cases va <;> first | rfl | contradiction),_,rfl⟩,by simp[GM,intOf];omega⟩
  | exact hn.out (by cases va <;> first | rfl | contradiction) _ _ rfl rfl rfl ⟨_,rfl⟩
theorem Rp(F gp cap g ay n j b:Nat)(va:Bool)(u:Nat->Value)(P:Nat->Prop)(Q0:Exit->Act->World->Prop)(w:World)(m:Nat)
  (hc:n<=ay) (di:n<=8) (kc:n<=cap) (hlt:j<n)
  (k0:w.cell? ⟨F,0,none⟩=some (.slice (some ⟨gp,0,none⟩) n cap)) (c1:w.cell? ⟨gp,j,none⟩=some (.pointer (some ⟨b,0,none⟩))) (c2:w.cell? ⟨b,0,none⟩=some (.int .u8 49)) (sj:w.cell? ⟨g,j,none⟩=some (.bool va))
  (hy:Hid ((va)=true->P (j+1))) (hn:Hid ((va)=false->∀ a' w'',a'.defers=[]->a'.tmps.size=257->a'.tmps.getD 4 undef=.bool false->(∃ m,w''=w.drewN m)->Q0 .ret a' w'')) :
  Code.wp Tryz.prog (eX Tryz.f120) (Exit.then (λa' w''=>GI 257 [(0,.pointer (some ⟨F,0,none⟩)),(1,.slice (some ⟨g,0,none⟩) n ay)] 5 n P w a' w''/\GM 5 n a' w''<n - j) Q0)
   (kg F g ay n j u) (w.drewN m):=by
 unfold kg
 conv=>arg 2;whnf
 go_wp2_with fail
 all_goals
  first
  | exact⟨⟨rfl,rfl,by simp,j+1,by omega,by go_num,hy.out (by cases va <;> first | rfl | contradiction),_,rfl⟩,by simp[GM,intOf];omega⟩
  | exact hn.out (by cases va <;> first | rfl | contradiction) _ _ rfl rfl rfl ⟨_,rfl⟩
theorem Ol(F gp cap g ay n j b:Nat)(va:Bool)(u:Nat->Value)(P:Nat->Prop)(Q0:Exit->Act->World->Prop)(w:World)(m:Nat)
  (hc:n<=ay) (di:n<=8) (kc:n<=cap) (hlt:j<n)
  (k0:w.cell? ⟨F,0,none⟩=some (.slice (some ⟨gp,0,none⟩) n cap)) (c1:w.cell? ⟨gp,j,none⟩=some (.pointer (some ⟨b,0,none⟩))) (c2:w.cell? ⟨b,0,none⟩=some (.int .u8 112)) (sj:w.cell? ⟨g,j,none⟩=some (.bool va))
  (hy:Hid (P (j+1))) :
  Code.wp Tryz.prog (eX Tryz.f120) (Exit.then (λa' w''=>GI 257 [(0,.pointer (some ⟨F,0,none⟩)),(1,.slice (some ⟨g,0,none⟩) n ay)] 5 n P w a' w''/\GM 5 n a' w''<n - j) Q0)
   (kg F g ay n j u) (w.drewN m):=by
 unfold kg
 conv=>arg 2;whnf
 go_wp2_with fail;exact⟨⟨rfl,rfl,by simp,j+1,by omega,by go_num,hy.out,_,rfl⟩,by simp[GM,intOf];omega⟩
theorem Oj(F gp cap g ay n j b:Nat)(va:Bool)(u:Nat->Value)(P:Nat->Prop)(Q0:Exit->Act->World->Prop)(w:World)(m:Nat)
  (hc:n<=ay) (di:n<=8) (kc:n<=cap) (hlt:j<n)
  (k0:w.cell? ⟨F,0,none⟩=some (.slice (some ⟨gp,0,none⟩) n cap)) (c1:w.cell? ⟨gp,j,none⟩=some (.pointer (some ⟨b,0,none⟩))) (c2:w.cell? ⟨b,0,none⟩=some (.int .u8 113)) (sj:w.cell? ⟨g,j,none⟩=some (.bool va))
  (hy:Hid (P (j+1))) :
  Code.wp Tryz.prog (eX Tryz.f120) (Exit.then (λa' w''=>GI 257 [(0,.pointer (some ⟨F,0,none⟩)),(1,.slice (some ⟨g,0,none⟩) n ay)] 5 n P w a' w''/\GM 5 n a' w''<n - j) Q0)
   (kg F g ay n j u) (w.drewN m):=by
 unfold kg
 conv=>arg 2;whnf
 go_wp2_with fail;exact⟨⟨rfl,rfl,by simp,j+1,by omega,by go_num,hy.out,_,rfl⟩,by simp[GM,intOf];omega⟩
theorem Oi(F gp cap g ay n j b:Nat)(va:Bool)(u:Nat->Value)(P:Nat->Prop)(Q0:Exit->Act->World->Prop)(w:World)(m:Nat)
  (hc:n<=ay) (di:n<=8) (kc:n<=cap) (hlt:j<n)
  (k0:w.cell? ⟨F,0,none⟩=some (.slice (some ⟨gp,0,none⟩) n cap)) (c1:w.cell? ⟨gp,j,none⟩=some (.pointer (some ⟨b,0,none⟩))) (c2:w.cell? ⟨b,0,none⟩=some (.int .u8 114)) (sj:w.cell? ⟨g,j,none⟩=some (.bool va))
  (hy:Hid (P (j+1))) :
  Code.wp Tryz.prog (eX Tryz.f120) (Exit.then (λa' w''=>GI 257 [(0,.pointer (some ⟨F,0,none⟩)),(1,.slice (some ⟨g,0,none⟩) n ay)] 5 n P w a' w''/\GM 5 n a' w''<n - j) Q0)
   (kg F g ay n j u) (w.drewN m):=by
 unfold kg
 conv=>arg 2;whnf
 go_wp2_with fail;exact⟨⟨rfl,rfl,by simp,j+1,by omega,by go_num,hy.out,_,rfl⟩,by simp[GM,intOf];omega⟩
theorem Rt(F gp cap g ay n j b l bl:Nat)(va vl:Bool)(u:Nat->Value)(P:Nat->Prop)(Q0:Exit->Act->World->Prop)(w:World)(m:Nat)
  (hc:n<=ay) (di:n<=8) (kc:n<=cap) (hlt:j<n) (hl:l<j)
  (k0:w.cell? ⟨F,0,none⟩=some (.slice (some ⟨gp,0,none⟩) n cap)) (c1:w.cell? ⟨gp,j,none⟩=some (.pointer (some ⟨b,0,none⟩))) (c2:w.cell? ⟨b,0,none⟩=some (.int .u8 33)) (sj:w.cell? ⟨g,j,none⟩=some (.bool va))
  (lp:w.cell? ⟨b,1,none⟩=some (.pointer (some ⟨bl,0,none⟩))) (ln:w.cell? ⟨bl,3,none⟩=some (.int .i64 l)) (ls:w.cell? ⟨g,l,none⟩=some (.bool vl))
  (hy:Hid ((va !=vl)=true->P (j+1))) (hn:Hid ((va !=vl)=false->∀ a' w'',a'.defers=[]->a'.tmps.size=257->a'.tmps.getD 4 undef=.bool false->(∃ m,w''=w.drewN m)->Q0 .ret a' w'')) :
  Code.wp Tryz.prog (eX Tryz.f120) (Exit.then (λa' w''=>GI 257 [(0,.pointer (some ⟨F,0,none⟩)),(1,.slice (some ⟨g,0,none⟩) n ay)] 5 n P w a' w''/\GM 5 n a' w''<n - j) Q0)
   (kg F g ay n j u) (w.drewN m):=by
 unfold kg
 conv=>arg 2;whnf
 go_wp2_with fail
 go_quiet (fail)
 go_wp2_with fail
 all_goals
  first
  | exact⟨⟨rfl,rfl,by simp,j+1,by omega,by go_num,hy.out (by cases va <;> cases vl <;> first | rfl | contradiction),_,rfl⟩,by simp[GM,intOf];omega⟩
  | exact hn.out (by cases va <;> cases vl <;> first | rfl | contradiction) _ _ rfl rfl rfl ⟨_,rfl⟩
theorem Rk(F gp cap g ay n j b l bl:Nat)(va vl:Bool)(u:Nat->Value)(P:Nat->Prop)(Q0:Exit->Act->World->Prop)(w:World)(m:Nat)
  (hc:n<=ay) (di:n<=8) (kc:n<=cap) (hlt:j<n) (hl:l<j)
  (k0:w.cell? ⟨F,0,none⟩=some (.slice (some ⟨gp,0,none⟩) n cap)) (c1:w.cell? ⟨gp,j,none⟩=some (.pointer (some ⟨b,0,none⟩))) (c2:w.cell? ⟨b,0,none⟩=some (.int .u8 88)) (sj:w.cell? ⟨g,j,none⟩=some (.bool va))
  (lp:w.cell? ⟨b,1,none⟩=some (.pointer (some ⟨bl,0,none⟩))) (ln:w.cell? ⟨bl,3,none⟩=some (.int .i64 l)) (ls:w.cell? ⟨g,l,none⟩=some (.bool vl))
  (hy:Hid (P (j+1))) :
  Code.wp Tryz.prog (eX Tryz.f120) (Exit.then (λa' w''=>GI 257 [(0,.pointer (some ⟨F,0,none⟩)),(1,.slice (some ⟨g,0,none⟩) n ay)] 5 n P w a' w''/\GM 5 n a' w''<n - j) Q0)
   (kg F g ay n j u) (w.drewN m):=by
 unfold kg
 conv=>arg 2;whnf
 go_wp2_with fail;exact⟨⟨rfl,rfl,by simp,j+1,by omega,by go_num,hy.out,_,rfl⟩,by simp[GM,intOf];omega⟩
theorem Ro(F gp cap g ay n j b l bl:Nat)(va vl:Bool)(u:Nat->Value)(P:Nat->Prop)(Q0:Exit->Act->World->Prop)(w:World)(m:Nat)
  (hc:n<=ay) (di:n<=8) (kc:n<=cap) (hlt:j<n) (hl:l<j)
  (k0:w.cell? ⟨F,0,none⟩=some (.slice (some ⟨gp,0,none⟩) n cap)) (c1:w.cell? ⟨gp,j,none⟩=some (.pointer (some ⟨b,0,none⟩))) (c2:w.cell? ⟨b,0,none⟩=some (.int .u8 70)) (sj:w.cell? ⟨g,j,none⟩=some (.bool va))
  (lp:w.cell? ⟨b,1,none⟩=some (.pointer (some ⟨bl,0,none⟩))) (ln:w.cell? ⟨bl,3,none⟩=some (.int .i64 l)) (ls:w.cell? ⟨g,l,none⟩=some (.bool vl))
  (hy:Hid ((va||!vl)=true->P (j+1))) (hn:Hid ((va||!vl)=false->∀ a' w'',a'.defers=[]->a'.tmps.size=257->a'.tmps.getD 4 undef=.bool false->(∃ m,w''=w.drewN m)->Q0 .ret a' w'')) :
  Code.wp Tryz.prog (eX Tryz.f120) (Exit.then (λa' w''=>GI 257 [(0,.pointer (some ⟨F,0,none⟩)),(1,.slice (some ⟨g,0,none⟩) n ay)] 5 n P w a' w''/\GM 5 n a' w''<n - j) Q0)
   (kg F g ay n j u) (w.drewN m):=by
 unfold kg
 conv=>arg 2;whnf
 go_wp2_with fail
 all_goals
  first
  | exact⟨⟨rfl,rfl,by simp,j+1,by omega,by go_num,hy.out (by cases va <;> cases vl <;> first | rfl | contradiction),_,rfl⟩,by simp[GM,intOf];omega⟩
  | exact hn.out (by cases va <;> cases vl <;> first | rfl | contradiction) _ _ rfl rfl rfl ⟨_,rfl⟩
theorem Rn(F gp cap g ay n j b l bl:Nat)(va vl:Bool)(u:Nat->Value)(P:Nat->Prop)(Q0:Exit->Act->World->Prop)(w:World)(m:Nat)
  (hc:n<=ay) (di:n<=8) (kc:n<=cap) (hlt:j<n) (hl:l<j)
  (k0:w.cell? ⟨F,0,none⟩=some (.slice (some ⟨gp,0,none⟩) n cap)) (c1:w.cell? ⟨gp,j,none⟩=some (.pointer (some ⟨b,0,none⟩))) (c2:w.cell? ⟨b,0,none⟩=some (.int .u8 71)) (sj:w.cell? ⟨g,j,none⟩=some (.bool va))
  (lp:w.cell? ⟨b,1,none⟩=some (.pointer (some ⟨bl,0,none⟩))) (ln:w.cell? ⟨bl,3,none⟩=some (.int .i64 l)) (ls:w.cell? ⟨g,l,none⟩=some (.bool vl))
  (hy:Hid ((!va||vl)=true->P (j+1))) (hn:Hid ((!va||vl)=false->∀ a' w'',a'.defers=[]->a'.tmps.size=257->a'.tmps.getD 4 undef=.bool false->(∃ m,w''=w.drewN m)->Q0 .ret a' w'')) :
  Code.wp Tryz.prog (eX Tryz.f120) (Exit.then (λa' w''=>GI 257 [(0,.pointer (some ⟨F,0,none⟩)),(1,.slice (some ⟨g,0,none⟩) n ay)] 5 n P w a' w''/\GM 5 n a' w''<n - j) Q0)
   (kg F g ay n j u) (w.drewN m):=by
 unfold kg
 conv=>arg 2;whnf
 go_wp2_with fail
 all_goals
  first
  | exact⟨⟨rfl,rfl,by simp,j+1,by omega,by go_num,hy.out (by cases va <;> cases vl <;> first | rfl | contradiction),_,rfl⟩,by simp[GM,intOf];omega⟩
  | exact hn.out (by cases va <;> cases vl <;> first | rfl | contradiction) _ _ rfl rfl rfl ⟨_,rfl⟩
theorem agn(F gp cap g ay n:Nat)(u:Nat->Value)(Z:Act->World->Prop)(Q0:Exit->Act->World->Prop)(w:World)(m:Nat)(di:n<=8)(kc:n<=cap)
  (k0:w.cell? ⟨F,0,none⟩=some (.slice (some ⟨gp,0,none⟩) n cap)) (hx:∀ a' w'',a'.defers=[]->a'.tmps.size=257->(∃ m,w''=w.drewN m)->Q0 (.exit 0) a' w'') :
  Code.wp Tryz.prog (eX Tryz.f120) (Exit.then Z Q0) (kg F g ay n n u) (w.drewN m):=by
 unfold kg
 conv=>arg 2;whnf
 go_wp2_with fail;exact hx _ _ rfl rfl ⟨_,rfl⟩
theorem Rs(F gp cap g ay n j b l bl r br:Nat)(va vl vr:Bool)(u:Nat->Value)(P:Nat->Prop)(Q0:Exit->Act->World->Prop)(w:World)(m:Nat)
  (hc:n<=ay) (di:n<=8) (kc:n<=cap) (hlt:j<n) (hl:l<j) (hr:r<j)
  (k0:w.cell? ⟨F,0,none⟩=some (.slice (some ⟨gp,0,none⟩) n cap)) (c1:w.cell? ⟨gp,j,none⟩=some (.pointer (some ⟨b,0,none⟩))) (c2:w.cell? ⟨b,0,none⟩=some (.int .u8 38)) (sj:w.cell? ⟨g,j,none⟩=some (.bool va))
  (lp:w.cell? ⟨b,1,none⟩=some (.pointer (some ⟨bl,0,none⟩))) (ln:w.cell? ⟨bl,3,none⟩=some (.int .i64 l)) (ls:w.cell? ⟨g,l,none⟩=some (.bool vl))
  (rp:w.cell? ⟨b,2,none⟩=some (.pointer (some ⟨br,0,none⟩))) (rn:w.cell? ⟨br,3,none⟩=some (.int .i64 r)) (rs:w.cell? ⟨g,r,none⟩=some (.bool vr))
  (hy:Hid ((va==(vl&&vr))=true->P (j+1))) (hn:Hid ((va==(vl&&vr))=false->∀ a' w'',a'.defers=[]->a'.tmps.size=257->a'.tmps.getD 4 undef=.bool false->(∃ m,w''=w.drewN m)->Q0 .ret a' w'')) :
  Code.wp Tryz.prog (eX Tryz.f120) (Exit.then (λa' w''=>GI 257 [(0,.pointer (some ⟨F,0,none⟩)),(1,.slice (some ⟨g,0,none⟩) n ay)] 5 n P w a' w''/\GM 5 n a' w''<n - j) Q0)
   (kg F g ay n j u) (w.drewN m):=by
 unfold kg
 conv=>arg 2;whnf
 go_wp2_with fail;cases vl
 all_goals go_quiet (fail)
 all_goals go_wp2_with fail
 all_goals
  first
  | exact⟨⟨rfl,rfl,by simp,j+1,by omega,by go_num,hy.out (by cases va <;> cases vr <;> first | rfl | contradiction),_,rfl⟩,by simp[GM,intOf];omega⟩
  | exact hn.out (by cases va <;> cases vr <;> first | rfl | contradiction) _ _ rfl rfl rfl ⟨_,rfl⟩
theorem Oh(F gp cap g ay n j b l bl r br:Nat)(va vl vr:Bool)(u:Nat->Value)(P:Nat->Prop)(Q0:Exit->Act->World->Prop)(w:World)(m:Nat)
  (hc:n<=ay) (di:n<=8) (kc:n<=cap) (hlt:j<n) (hl:l<j) (hr:r<j)
  (k0:w.cell? ⟨F,0,none⟩=some (.slice (some ⟨gp,0,none⟩) n cap)) (c1:w.cell? ⟨gp,j,none⟩=some (.pointer (some ⟨b,0,none⟩))) (c2:w.cell? ⟨b,0,none⟩=some (.int .u8 124)) (sj:w.cell? ⟨g,j,none⟩=some (.bool va))
  (lp:w.cell? ⟨b,1,none⟩=some (.pointer (some ⟨bl,0,none⟩))) (ln:w.cell? ⟨bl,3,none⟩=some (.int .i64 l)) (ls:w.cell? ⟨g,l,none⟩=some (.bool vl))
  (rp:w.cell? ⟨b,2,none⟩=some (.pointer (some ⟨br,0,none⟩))) (rn:w.cell? ⟨br,3,none⟩=some (.int .i64 r)) (rs:w.cell? ⟨g,r,none⟩=some (.bool vr))
  (hy:Hid ((va==(vl||vr))=true->P (j+1))) (hn:Hid ((va==(vl||vr))=false->∀ a' w'',a'.defers=[]->a'.tmps.size=257->a'.tmps.getD 4 undef=.bool false->(∃ m,w''=w.drewN m)->Q0 .ret a' w'')) :
  Code.wp Tryz.prog (eX Tryz.f120) (Exit.then (λa' w''=>GI 257 [(0,.pointer (some ⟨F,0,none⟩)),(1,.slice (some ⟨g,0,none⟩) n ay)] 5 n P w a' w''/\GM 5 n a' w''<n - j) Q0)
   (kg F g ay n j u) (w.drewN m):=by
 unfold kg
 conv=>arg 2;whnf
 go_wp2_with fail;cases vl
 all_goals go_quiet (fail)
 all_goals go_wp2_with fail
 all_goals
  first
  | exact⟨⟨rfl,rfl,by simp,j+1,by omega,by go_num,hy.out (by cases va <;> cases vr <;> first | rfl | contradiction),_,rfl⟩,by simp[GM,intOf];omega⟩
  | exact hn.out (by cases va <;> cases vr <;> first | rfl | contradiction) _ _ rfl rfl rfl ⟨_,rfl⟩
theorem Rl(F gp cap g ay n j b l bl r br:Nat)(va vl vr:Bool)(u:Nat->Value)(P:Nat->Prop)(Q0:Exit->Act->World->Prop)(w:World)(m:Nat)
  (hc:n<=ay) (di:n<=8) (kc:n<=cap) (hlt:j<n) (hl:l<j) (hr:r<j)
  (k0:w.cell? ⟨F,0,none⟩=some (.slice (some ⟨gp,0,none⟩) n cap)) (c1:w.cell? ⟨gp,j,none⟩=some (.pointer (some ⟨b,0,none⟩))) (c2:w.cell? ⟨b,0,none⟩=some (.int .u8 85)) (sj:w.cell? ⟨g,j,none⟩=some (.bool va))
  (lp:w.cell? ⟨b,1,none⟩=some (.pointer (some ⟨bl,0,none⟩))) (ln:w.cell? ⟨bl,3,none⟩=some (.int .i64 l)) (ls:w.cell? ⟨g,l,none⟩=some (.bool vl))
  (rp:w.cell? ⟨b,2,none⟩=some (.pointer (some ⟨br,0,none⟩))) (rn:w.cell? ⟨br,3,none⟩=some (.int .i64 r)) (rs:w.cell? ⟨g,r,none⟩=some (.bool vr))
  (hy:Hid (((va||!vr)&&(!va||vl||vr))=true->P (j+1))) (hn:Hid (((va||!vr)&&(!va||vl||vr))=false->∀ a' w'',a'.defers=[]->a'.tmps.size=257->a'.tmps.getD 4 undef=.bool false->(∃ m,w''=w.drewN m)->Q0 .ret a' w'')) :
  Code.wp Tryz.prog (eX Tryz.f120) (Exit.then (λa' w''=>GI 257 [(0,.pointer (some ⟨F,0,none⟩)),(1,.slice (some ⟨g,0,none⟩) n ay)] 5 n P w a' w''/\GM 5 n a' w''<n - j) Q0)
   (kg F g ay n j u) (w.drewN m):=by
 unfold kg
 conv=>arg 2;whnf
 go_wp2_with fail
 all_goals
  first
  | exact⟨⟨rfl,rfl,by simp,j+1,by omega,by go_num,hy.out (by cases va <;> cases vl <;> cases vr <;> first | rfl | contradiction),_,rfl⟩,by simp[GM,intOf];omega⟩
  | exact hn.out (by cases va <;> cases vl <;> cases vr <;> first | rfl | contradiction) _ _ rfl rfl rfl ⟨_,rfl⟩
theorem Rm(F gp cap g ay n j b l bl r br:Nat)(va vl vr:Bool)(u:Nat->Value)(P:Nat->Prop)(Q0:Exit->Act->World->Prop)(w:World)(m:Nat)
  (hc:n<=ay) (di:n<=8) (kc:n<=cap) (hlt:j<n) (hl:l<j) (hr:r<j)
  (k0:w.cell? ⟨F,0,none⟩=some (.slice (some ⟨gp,0,none⟩) n cap)) (c1:w.cell? ⟨gp,j,none⟩=some (.pointer (some ⟨b,0,none⟩))) (c2:w.cell? ⟨b,0,none⟩=some (.int .u8 82)) (sj:w.cell? ⟨g,j,none⟩=some (.bool va))
  (lp:w.cell? ⟨b,1,none⟩=some (.pointer (some ⟨bl,0,none⟩))) (ln:w.cell? ⟨bl,3,none⟩=some (.int .i64 l)) (ls:w.cell? ⟨g,l,none⟩=some (.bool vl))
  (rp:w.cell? ⟨b,2,none⟩=some (.pointer (some ⟨br,0,none⟩))) (rn:w.cell? ⟨br,3,none⟩=some (.int .i64 r)) (rs:w.cell? ⟨g,r,none⟩=some (.bool vr))
  (hy:Hid (((!va||vr)&&(va||!vl||!vr))=true->P (j+1))) (hn:Hid (((!va||vr)&&(va||!vl||!vr))=false->∀ a' w'',a'.defers=[]->a'.tmps.size=257->a'.tmps.getD 4 undef=.bool false->(∃ m,w''=w.drewN m)->Q0 .ret a' w'')) :
  Code.wp Tryz.prog (eX Tryz.f120) (Exit.then (λa' w''=>GI 257 [(0,.pointer (some ⟨F,0,none⟩)),(1,.slice (some ⟨g,0,none⟩) n ay)] 5 n P w a' w''/\GM 5 n a' w''<n - j) Q0)
   (kg F g ay n j u) (w.drewN m):=by
 unfold kg
 conv=>arg 2;whnf
 go_wp2_with fail
 all_goals
  first
  | exact⟨⟨rfl,rfl,by simp,j+1,by omega,by go_num,hy.out (by cases va <;> cases vl <;> cases vr <;> first | rfl | contradiction),_,rfl⟩,by simp[GM,intOf];omega⟩
  | exact hn.out (by cases va <;> cases vl <;> cases vr <;> first | rfl | contradiction) _ _ rfl rfl rfl ⟨_,rfl⟩
theorem ajd(S:Nat->Bool){k:Nat}{nd:Nd}(h:nd.op=48):iP nd k S=(!S k):=by simp[iP,h]
theorem ajc(S:Nat->Bool){k:Nat}{nd:Nd}(h:nd.op=49):iP nd k S=S k:=by simp[iP,h]
theorem aeX(S:Nat->Bool){k:Nat}{nd:Nd}(h:nd.op=112):iP nd k S=true:=by simp[iP,h]
theorem aeW(S:Nat->Bool){k:Nat}{nd:Nd}(h:nd.op=113):iP nd k S=true:=by simp[iP,h]
theorem aeV(S:Nat->Bool){k:Nat}{nd:Nd}(h:nd.op=114):iP nd k S=true:=by simp[iP,h]
theorem ajf(S:Nat->Bool){k:Nat}{nd:Nd}(h:nd.op=33):iP nd k S=(S k !=S nd.l):=by simp[iP,h]
theorem ai7(S:Nat->Bool){k:Nat}{nd:Nd}(h:nd.op=88):iP nd k S=true:=by simp[iP,h]
theorem ajb(S:Nat->Bool){k:Nat}{nd:Nd}(h:nd.op=70):iP nd k S=(S k||!S nd.l):=by simp[iP,h]
theorem aja(S:Nat->Bool){k:Nat}{nd:Nd}(h:nd.op=71):iP nd k S=(!S k||S nd.l):=by simp[iP,h]
theorem aje(S:Nat->Bool){k:Nat}{nd:Nd}(h:nd.op=38):iP nd k S=(S k==(S nd.l&&S nd.r)):=by simp[iP,h]
theorem aeU(S:Nat->Bool){k:Nat}{nd:Nd}(h:nd.op=124):iP nd k S=(S k==(S nd.l||S nd.r)):=by simp[iP,h]
theorem ai8(S:Nat->Bool){k:Nat}{nd:Nd}(h:nd.op=85):iP nd k S=((S k||!S nd.r)&&(!S k||S nd.l||S nd.r)):=by simp[iP,h]
theorem ai9(S:Nat->Bool){k:Nat}{nd:Nd}(h:nd.op=82):iP nd k S=((!S k||S nd.r)&&(S k||!S nd.l||!S nd.r)):=by simp[iP,h]
theorem Er{a:Act}(h0:a.defers=[])(h1:a.tmps.size=257):∃ u:Nat->Value,(∀ i,u i=a.tmps.getD i undef)/\a=⟨#[u 0,u 1,u 2,u 3,u 4,u 5,u 6,u 7,u 8,u 9,u 10,u 11,u 12,u 13,u 14,u 15,u 16,u 17,u 18,u 19,u 20,u 21,u 22,u 23,u 24,u 25,u 26,u 27,u 28,u 29,u 30,u 31,u 32,u 33,u 34,u 35,u 36,u 37,u 38,u 39,u 40,u 41,u 42,u 43,u 44,u 45,u 46,u 47,u 48,u 49,u 50,u 51,u 52,u 53,u 54,u 55,u 56,u 57,u 58,u 59,u 60,u 61,u 62,u 63,u 64,u 65,u 66,u 67,u 68,u 69,u 70,u 71,u 72,u 73,u 74,u 75,u 76,u 77,u 78,u 79,u 80,u 81,u 82,u 83,u 84,u 85,u 86,u 87,u 88,u 89,u 90,u 91,u 92,u 93,u 94,u 95,u 96,u 97,u 98,u 99,u 100,u 101,u 102,u 103,u 104,u 105,u 106,u 107,u 108,u 109,u 110,u 111,u 112,u 113,u 114,u 115,u 116,u 117,u 118,u 119,u 120,u 121,u 122,u 123,u 124,u 125,u 126,u 127,u 128,u 129,u 130,u 131,u 132,u 133,u 134,u 135,u 136,u 137,u 138,u 139,u 140,u 141,u 142,u 143,u 144,u 145,u 146,u 147,u 148,u 149,u 150,u 151,u 152,u 153,u 154,u 155,u 156,u 157,u 158,u 159,u 160,u 161,u 162,u 163,u 164,u 165,u 166,u 167,u 168,u 169,u 170,u 171,u 172,u 173,u 174,u 175,u 176,u 177,u 178,u 179,u 180,u 181,u 182,u 183,u 184,u 185,u 186,u 187,u 188,u 189,u 190,u 191,u 192,u 193,u 194,u 195,u 196,u 197,u 198,u 199,u 200,u 201,u 202,u 203,u 204,u 205,u 206,u 207,u 208,u 209,u 210,u 211,u 212,u 213,u 214,u 215,u 216,u 217,u 218,u 219,u 220,u 221,u 222,u 223,u 224,u 225,u 226,u 227,u 228,u 229,u 230,u 231,u 232,u 233,u 234,u 235,u 236,u 237,u 238,u 239,u 240,u 241,u 242,u 243,u 244,u 245,u 246,u 247,u 248,u 249,u 250,u 251,u 252,u 253,u 254,u 255,u 256],[]⟩:=by
 refine⟨λi=>a.tmps.getD i undef,λ_=>rfl,?_⟩;obtain⟨t,d⟩:=a;simp only at h0 h1;subst h0;have:=QH h1;exact congrArg (λx=>(⟨x,[]⟩:Act)) this
section
variable (F gp cap g ay:Nat) (ns:List Nd) (bs:List Nat) (S:Nat->Bool) (w:World)
def sw(j:Nat):Prop:=∀ k,k<j->iP (au ns k) k S=true
theorem ac4(hf:FR w F gp cap ns bs)(hs:Rb w g ns.length S)(hg:Good ns)(hc:ns.length<=ay)(Q0:Exit->Act->World->Prop)
  (hx:Bo ns S=true->∀ a' w'',a'.defers=[]->a'.tmps.size=257->(∃ m,w''=w.drewN m)->Q0 (.exit 0) a' w'')
  (hr:Bo ns S=false->∀ a' w'',a'.defers=[]->a'.tmps.size=257->a'.tmps.getD 4 undef=.bool false->(∃ m,w''=w.drewN m)->Q0 .ret a' w'')
  (a:Act) (w':World) (hI:GI 257 [(0,.pointer (some ⟨F,0,none⟩)),(1,.slice (some ⟨g,0,none⟩) ns.length ay)] 5 ns.length (sw ns S) w a w'):Code.wp Tryz.prog (Code.loop (eX Tryz.f120)) Q0 a w':=by
 refine wp_loop (GI 257 [(0,.pointer (some ⟨F,0,none⟩)),(1,.slice (some ⟨g,0,none⟩) ns.length ay)] 5 ns.length (sw ns S) w) (GM 5 ns.length) hI ?_;intro a I hI;obtain⟨B,C,z,j,J,t,A,m,rfl⟩:=hI;have v:=z _ (List.mem_cons_self ..);have x:=z _ (List.mem_cons_of_mem _ (List.mem_cons_self ..));have D:GM 5 ns.length a (w.drewN m)=ns.length - j:=by unfold GM;rw[t];simp[intOf]
 rw[D];obtain⟨u,E,G⟩:=Er B C;simp only at v x;rw[<-E]at v x t;rw[G,v,x,t];have i:=hg.le;have n:=hf.c0;have o:=hf.hcap;by_cases b:j<ns.length
 ·have c1:=hf.ptr j b;have c2:=hf.op j b;have p:=hs.cell j b;have y:=hg.wf j _ (jS b);have d:∀ k,k<j->w.cell? ⟨dP bs k,3,none⟩=some (.int .i64 k)/\w.cell? ⟨g,k,none⟩=some (.bool (S k)):=λk H=>⟨hf.nn k (by omega),hs.cell k (by omega)⟩;have c:iP (au ns j) j S=true->sw ns S (j+1):=λh k H=>by
   by_cases e:k<j
   ·exact A k e
   ·rw[show k=j by omega];exact h
  have f:iP (au ns j) j S=false->∀ a' w'',a'.defers=[]->a'.tmps.size=257->a'.tmps.getD 4 undef=.bool false->(∃ m,w''=w.drewN m)->Q0 .ret a' w'':=λh=>hr (Oz b h);have q:=hf.lp j b;have s:=hf.rp j b;rcases y with⟨hop,_,_⟩ | ⟨hop,hl,_⟩ | ⟨hop,hl,fV⟩
  ·rcases mZ hop with e | e | e | e | e
   ·rw[ajd S e]at c f;rw[e]at c2;exact Rq F gp cap g ay ns.length j (dP bs j) (S j) u (sw ns S) Q0 w m hc i o b n c1 c2 p (hid c) (hid f)
   ·rw[ajc S e]at c f;rw[e]at c2;exact Rp F gp cap g ay ns.length j (dP bs j) (S j) u (sw ns S) Q0 w m hc i o b n c1 c2 p (hid c) (hid f)
   ·rw[aeX S e]at c f;rw[e]at c2;exact Ol F gp cap g ay ns.length j (dP bs j) (S j) u (sw ns S) Q0 w m hc i o b n c1 c2 p (hid (c rfl))
   ·rw[aeW S e]at c f;rw[e]at c2;exact Oj F gp cap g ay ns.length j (dP bs j) (S j) u (sw ns S) Q0 w m hc i o b n c1 c2 p (hid (c rfl))
   ·rw[aeV S e]at c f;rw[e]at c2;exact Oi F gp cap g ay ns.length j (dP bs j) (S j) u (sw ns S) Q0 w m hc i o b n c1 c2 p (hid (c rfl))
  ·rcases pQ hop with e | e | e | e
   ·rw[ajf S e]at c f;rw[e]at c2;exact Rt F gp cap g ay ns.length j (dP bs j) (au ns j).l (dP bs (au ns j).l) (S j) (S (au ns j).l) u (sw ns S) Q0 w m hc i o b hl n c1 c2 p (q (by rw[e];rfl)) (d _ hl).1 (d _ hl).2 (hid c) (hid f)
   ·rw[ai7 S e]at c f;rw[e]at c2;exact Rk F gp cap g ay ns.length j (dP bs j) (au ns j).l (dP bs (au ns j).l) (S j) (S (au ns j).l) u (sw ns S) Q0 w m hc i o b hl n c1 c2 p (q (by rw[e];rfl)) (d _ hl).1 (d _ hl).2 (hid (c rfl))
   ·rw[ajb S e]at c f;rw[e]at c2;exact Ro F gp cap g ay ns.length j (dP bs j) (au ns j).l (dP bs (au ns j).l) (S j) (S (au ns j).l) u (sw ns S) Q0 w m hc i o b hl n c1 c2 p (q (by rw[e];rfl)) (d _ hl).1 (d _ hl).2 (hid c) (hid f)
   ·rw[aja S e]at c f;rw[e]at c2;exact Rn F gp cap g ay ns.length j (dP bs j) (au ns j).l (dP bs (au ns j).l) (S j) (S (au ns j).l) u (sw ns S) Q0 w m hc i o b hl n c1 c2 p (q (by rw[e];rfl)) (d _ hl).1 (d _ hl).2 (hid c) (hid f)
  ·rcases lJ hop with e | e | e | e
   ·rw[aje S e]at c f;rw[e]at c2;exact Rs F gp cap g ay ns.length j (dP bs j) (au ns j).l (dP bs (au ns j).l) (au ns j).r (dP bs (au ns j).r) (S j) (S (au ns j).l) (S (au ns j).r) u (sw ns S) Q0 w m hc i o b hl fV n c1 c2 p (q (by rw[e];rfl)) (d _ hl).1 (d _ hl).2 (s (by rw[e];rfl)) (d _ fV).1 (d _ fV).2 (hid c) (hid f)
   ·rw[aeU S e]at c f;rw[e]at c2;exact Oh F gp cap g ay ns.length j (dP bs j) (au ns j).l (dP bs (au ns j).l) (au ns j).r (dP bs (au ns j).r) (S j) (S (au ns j).l) (S (au ns j).r) u (sw ns S) Q0 w m hc i o b hl fV n c1 c2 p (q (by rw[e];rfl)) (d _ hl).1 (d _ hl).2 (s (by rw[e];rfl)) (d _ fV).1 (d _ fV).2 (hid c) (hid f)
   ·rw[ai8 S e]at c f;rw[e]at c2;exact Rl F gp cap g ay ns.length j (dP bs j) (au ns j).l (dP bs (au ns j).l) (au ns j).r (dP bs (au ns j).r) (S j) (S (au ns j).l) (S (au ns j).r) u (sw ns S) Q0 w m hc i o b hl fV n c1 c2 p (q (by rw[e];rfl)) (d _ hl).1 (d _ hl).2 (s (by rw[e];rfl)) (d _ fV).1 (d _ fV).2 (hid c) (hid f)
   ·rw[ai9 S e]at c f;rw[e]at c2;exact Rm F gp cap g ay ns.length j (dP bs j) (au ns j).l (dP bs (au ns j).l) (au ns j).r (dP bs (au ns j).r) (S j) (S (au ns j).l) (S (au ns j).r) u (sw ns S) Q0 w m hc i o b hl fV n c1 c2 p (q (by rw[e];rfl)) (d _ hl).1 (d _ hl).2 (s (by rw[e];rfl)) (d _ fV).1 (d _ fV).2 (hid c) (hid f)
 ·obtain rfl:j=ns.length:=by omega
  exact agn F gp cap g ay ns.length u _ Q0 w m i o n (hx (tY.2 A))
theorem agl(hf:FR w F gp cap ns bs)(hs:Rb w g ns.length S)(hg:Good ns)(hc:ns.length<=ay) :
  Calls Tryz.prog 120 #[.pointer (some ⟨F,0,none⟩),.slice (some ⟨g,0,none⟩) ns.length ay] w λe w'=>e=.returned (.bool (Bo ns S))/\∃ m,w'=w.drewN m:=by
 have L:=ac4 F gp cap g ay ns bs S w hf hs hg hc;have c:=hid L;clear L hf hs hg hc;generalize ns.length=n at *;go_enter Tryz.func120,Tryz.ntmps120;go_wp2_with fail;refine c.out _ ?_ ?_ _ _ ?_
 ·intro h l d a b f;obtain⟨m,rfl⟩:=f;obtain⟨u,_,rfl⟩:=Er a b;have H:=hid h;clear h c a b;go_wp2_with fail;go_ret;exact⟨by rw[H.out];rfl,m,rfl⟩
 ·intro h l d a b i f;obtain⟨m,rfl⟩:=f;obtain⟨u,_,rfl⟩:=Er a b;have H:=hid h;have j:u 4=.bool false:=i;have o:=hid j;clear h c a b i j;go_wp2_with fail;go_ret;exact⟨by rw[H.out];exact congrArg Ending.returned o.out,m,rfl⟩
 ·exact⟨rfl,rfl,by simp,0,aCg _,rfl,λk p=>by omega,0,rfl⟩
end
section
variable (F gp cap g ay:Nat) (ns:List Nd) (bs:List Nat) (S:Nat->Bool) (w:World)
theorem DJ(x:Nat)(hx:x<8)(hf:FR w F gp cap ns bs)(hs:Rb w g ns.length S)(hg:Good ns)(hc:ns.length<=ay) :
  Calls Tryz.prog 81 #[.pointer (some ⟨F,0,none⟩),.slice (some ⟨g,0,none⟩) ns.length ay,.int .i64 x] w λe w'=>e=.returned (.bool (iR ns S x))/\w'=w:=by
 have z:=hg.le;have A:=hf.c0;have B:=hf.hcap;have C:=hid (λk c h=>Oz (ns:=ns) (p:=λd k=>qp d k S x) (k:=k) c h);have D:=hid (tY (ns:=ns) (p:=λd k=>qp d k S x)).2;have s:=hid hf;have E:=hid hs;have G:=hid hg.wf;unfold iR;generalize Ik ns (λd k=>qp d k S x)=V at *;have f:∃ n,n=ns.length:=⟨_,rfl⟩;obtain⟨n,q⟩:=f;rw[<-q]at A B z hc ⊢;have t:=hid q;clear q hf hs hg;go_enter Tryz.func81,Tryz.ntmps81;go_wp2_with fail
 go_loop [7] (λi=>∃ j:Nat,j<=n/\i=.int .i64 j/\Hid (∀ k,k<j->qp (au ns k) k S x=true)) (λi=>n - (intOf i).toNat)
 case atStart=>exact⟨0,aCg _,rfl,hid (λk c=>by omega)⟩
 case round=>
  obtain⟨j,L,rfl,u⟩:=hrel;by_cases r:j<n
  ·have a:j<ns.length:=by rw[<-t.out];exact r
   have c1:=s.out.ptr j a;have c2:=s.out.op j a;have M:=E.out.cell j a;have l:=dZ G.out (jS a);have H:Hid (qp (au ns j) j S x=false->V=false):=hid (λh=>C.out j a h);have v:Hid (qp (au ns j) j S x=true->∀ k,k<j+1->qp (au ns k) k S x=true):=hid (λh k c=>by
    by_cases e:k<j
    ·exact u.out k e
    ·rw[show k=j by omega];exact h)
   have I:(au ns j).op<256:=by
    rcases l.1 with h | h | h
    ·rcases mZ h with e | e | e | e | e <;> omega
    ·rcases pQ h with e | e | e | e <;> omega
    ·rcases lJ h with e | e | e | e <;> omega
   have y:Hid (qp (au ns j) j S x=if (au ns j).op=112\/(au ns j).op=113\/(au ns j).op=114 then lh x (au ns j).op==S j else true):=hid rfl;generalize qp (au ns j) j S x=rv at *;generalize (au ns j).op=op at *;generalize dP bs j=b at *;clear l;generalize S j=va at *;by_cases m:op=112\/op=113\/op=114
   ·have J:=Dy x op w hx m;have o:Hid (rv=(lh x op==va)):=hid (by rw[y.out,aC2 m]);generalize lh x op=sv at *;rcases m with rfl | rfl | rfl
    all_goals
     go_wp2_with fail;refine J.mono ?_;rintro e w' ⟨rfl,rfl⟩;go_wp2_with fail
     all_goals
      first
      | (
        go_round
        case rel=>exact⟨j+1,by omega,by go_num,hid (v.out (by rw[o.out];cases sv <;> cases va <;> first | rfl | contradiction))⟩
        case measure=>simp[intOf];omega)
      | (
        go_ret;exact⟨by rw[H.out (by rw[o.out];cases sv <;> cases va <;> first | rfl | contradiction)];rfl,rfl⟩)
   ·have o:Hid (rv=true):=hid (by rw[y.out,aC1 m]);have N:((op:Int)==112)=false:=aCe.2 (by omega);have O:((op:Int)==113)=false:=aCe.2 (by omega);have P:((op:Int)==114)=false:=aCe.2 (by omega);clear m;go_wp2_with fail
    go_round
    case rel=>exact⟨j+1,by omega,by go_num,hid (v.out o.out)⟩
    case measure=>simp[intOf];omega
  ·have K:Hid (V=true):=hid (D.out (λk c=>u.out k (by rw[<-t.out]at c;omega)));go_wp2_with fail;go_ret;exact⟨by rw[K.out];rfl,rfl⟩
theorem Ki(k:Nat)(hk:k<ns.length)(hf:FR w F gp cap ns bs)(hs:Rb w g ns.length S)(hg:Good ns)(hc:ns.length<=ay) :
  Calls Tryz.prog 83 #[.pointer (some ⟨F,0,none⟩),.slice (some ⟨g,0,none⟩) ns.length ay,.int .i64 k] w λe w'=>e=.returned (.bool (iq (au ns k) k S))/\w'=w:=by
 have x:=hg.le;have A:=hf.c0;have B:=hf.hcap;have c1:=hf.ptr k hk;have c2:=hf.op k hk;have C:=hs.cell k hk;have a:=dZ hg.wf (jS hk);have q:=hid (λi (hi:i<k)=>(⟨hf.nn i (by omega),hs.cell i (by omega)⟩:w.cell? ⟨dP bs i,3,none⟩=some (.int .i64 i)/\w.cell? ⟨g,i,none⟩=some (.bool (S i))));have o:=hid (hf.lp k hk);have p:=hid (hf.rp k hk);clear hf hs hg;have f:Hid (iq (au ns k) k S=if (au ns k).op=70 then S (au ns k).l||!S k else if (au ns k).op=85 then S (au ns k).r||!S k else if (au ns k).op=71 then S k||!S (au ns k).l else if (au ns k).op=82 then S k||!S (au ns k).r else true):=hid rfl;generalize iq (au ns k) k S=V at *;generalize au ns k=nd at *;generalize dP bs k=b at *;have D:ns.length<=8:=x;generalize ns.length=n at *;by_cases c:nd.op=70
 ·have s:=o.out (by rw[c];rfl);obtain⟨y,ls⟩:=q.out nd.l (a.2.1 (by rw[c];rfl));have t:=a.2.1 (by rw[c];rfl);have j:Hid (V=(S nd.l||!S k)):=hid (by rw[f.out,aC2 c]);rw[c]at c2;clear f c o p a;generalize nd.l=l at *;generalize dP bs l=bl at *;generalize S l=vl at *;generalize S k=vk at *;cases vl <;> cases vk
  all_goals
   go_enter Tryz.func83,Tryz.ntmps83;go_wp2_with fail;go_ret;exact⟨by rw[j.out];rfl,rfl⟩
 by_cases d:nd.op=85
 ·have u:=p.out (by rw[d];rfl);obtain⟨z,rs⟩:=q.out nd.r (a.2.2 (by rw[d];rfl));have v:=a.2.2 (by rw[d];rfl);have j:Hid (V=(S nd.r||!S k)):=hid (by rw[f.out,aC1 c,aC2 d]);rw[d]at c2;clear f c d o p a;generalize nd.r=r at *;generalize dP bs r=br at *;generalize S r=vl at *;generalize S k=vk at *;cases vl <;> cases vk
  all_goals
   go_enter Tryz.func83,Tryz.ntmps83;go_wp2_with fail;go_ret;exact⟨by rw[j.out];rfl,rfl⟩
 by_cases h:nd.op=71
 ·have s:=o.out (by rw[h];rfl);obtain⟨y,ls⟩:=q.out nd.l (a.2.1 (by rw[h];rfl));have t:=a.2.1 (by rw[h];rfl);have j:Hid (V=(S k||!S nd.l)):=hid (by rw[f.out,aC1 c,aC1 d,aC2 h]);rw[h]at c2;clear f c d h o p a;generalize nd.l=l at *;generalize dP bs l=bl at *;generalize S l=vl at *;generalize S k=vk at *;cases vl <;> cases vk
  all_goals
   go_enter Tryz.func83,Tryz.ntmps83;go_wp2_with fail;go_ret;exact⟨by rw[j.out];rfl,rfl⟩
 by_cases m:nd.op=82
 ·have u:=p.out (by rw[m];rfl);obtain⟨z,rs⟩:=q.out nd.r (a.2.2 (by rw[m];rfl));have v:=a.2.2 (by rw[m];rfl);have j:Hid (V=(S k||!S nd.r)):=hid (by rw[f.out,aC1 c,aC1 d,aC1 h,aC2 m]);rw[m]at c2;clear f c d h m o p a;generalize nd.r=r at *;generalize dP bs r=br at *;generalize S r=vl at *;generalize S k=vk at *;cases vl <;> cases vk
  all_goals
   go_enter Tryz.func83,Tryz.ntmps83;go_wp2_with fail;go_ret;exact⟨by rw[j.out];rfl,rfl⟩
 have j:Hid (V=true):=hid (by rw[f.out,aC1 c,aC1 d,aC1 h,aC1 m]);generalize nd.op=op at *;have E:((op:Int)==70)=false:=aCe.2 (by omega);have G:((op:Int)==85)=false:=aCe.2 (by omega);have H:((op:Int)==71)=false:=aCe.2 (by omega);have I:((op:Int)==82)=false:=aCe.2 (by omega);clear f c d h m o p a;go_enter Tryz.func83,Tryz.ntmps83;go_wp2_with fail;go_ret;exact⟨by rw[j.out];rfl,rfl⟩
end
theorem Tryz.XN:(Tryz.prog.info? 138).map (λi=>(i.zero,i.size,i.bytes))=some (some (.slice none 0 0),1,24):=by kernel_rfl
def lY(v:Nat):Nat->Bool:=λk=>v.testBit k
def yO(ns:List Nd)(v:Nat):Bool:=Bo ns (lY v)&&(List.range 8).any λa=>iR ns (lY v) a
def dX(ns:List Nd)(j:Nat):List Nat:=(List.range j).filter (yO ns)
def iD(n:Nat)(b:Nat):Value:=.slice (some ⟨b,0,none⟩) n n
def bZ(vs:List Nat)(i:Nat):Nat:=vs.getD i 0
def yc(w:World)(B:Nat)(v:Value)(n:Nat)(vs:List Nat):Prop:=
 ∃ b:Nat->Nat,w.ownsRow B 138 1 v vs.length ((List.range vs.length).map λi=>iD n (b i))/\∀ i,i<vs.length->w.ownsRow B 4 1 (iD n (b i)) n (ax (lY (bZ vs i)) n n)
theorem yc.keeps{w w':World}{B:Nat}{v:Value}{n:Nat}{vs:List Nat}(h:yc w B v n vs)(hb:Below w.heap.size w w'):yc w' B v n vs:=by
 obtain⟨b,a,c⟩:=h;exact⟨b,ai a hb,λi d=>ai (c i d) hb⟩
theorem Sl{w:World}{B n b:Nat}{f:Nat->Bool}(hn:0<n)(h:w.ownsRow B 4 1 (iD n b) n (ax f n n)):Rb w b n f:=by
 unfold iD at h;refine⟨?_,λi a=>?_⟩
 ·rcases h.2 with⟨e,h0⟩ | ⟨g,cap,cur,e,_,hg,_⟩
  ·omega
  ·cases e;exact dC hg
 ·rw[h.cellAt i (by omega)];exact kV f n i a
theorem aeu{ns:List Nd}{j:Nat}(h:yO ns j=true):dX ns (j+1)=dX ns j++[j]:=by simp[dX,aCT,List.filter_append,h]
theorem Xm{ns:List Nd}{j:Nat}(h:yO ns j=false):dX ns (j+1)=dX ns j:=by simp[dX,aCT,List.filter_append,h]
theorem RQ(ns:List Nd)(j:Nat):(dX ns j).length<=j:=by
 have:=List.length_filter_le (yO ns) (List.range j);simpa [dX] using this
theorem NQ{f:Nat->Value}{l:List Nat}{x:Value}:(List.range (l.length+1)).map (λi=>if i=l.length then x else f i)=(List.range l.length).map f++[x]:=by
 rw[aCT,aCM];congr 1
 ·apply aCX;intro i a;rw[aCQ]at a;rw[aC1 (by omega)]
 ·simp
theorem abb{w w0 w1:World}{B:Nat}{v:Value}{n:Nat}{vs:List Nat}{b:Nat->Nat}{j g gg cc:Nat}(h1:w.ownsRow B 138 1 v vs.length ((List.range vs.length).map λi=>iD n (b i)))
  (h2:∀ i,i<vs.length->w.ownsRow B 4 1 (iD n (b i)) n (ax (lY (bZ vs i)) n n)) (hs:w.ownsRow B 4 1 (iD n g) n (ax (lY j) n n)) (hb:Below w.heap.size w w0) (hgrow:w0.grownBy w1 v.ownBlock)
  (hown:w1.ownsRow B 138 1 (.slice (some ⟨gg,0,none⟩) (vs.length+1) cc) (vs.length+1) (((List.range vs.length).map λi=>iD n (b i))++[iD n g])) :
  yc w1 B (.slice (some ⟨gg,0,none⟩) (vs.length+1) cc) n (vs++[j]):=by
 refine⟨λi=>if i=vs.length then g else b i,?_,λi a=>?_⟩
 ·rw[aCd,aCv];have this:=hown;rw[<-NQ (f:=λi=>iD n (b i))]at this;have e:(List.range (vs.length+1)).map (λi=>iD n (if i=vs.length then g else b i))=(List.range (vs.length+1)).map (λi=>if i=vs.length then iD n g else iD n (b i)):=by
   apply aCX;intro i _;by_cases e:i=vs.length <;> simp[e]
  rw[e];exact this
 ·rw[aCd,aCv]at a;by_cases e:i=vs.length
  ·subst e;simp only[if_true];rw[show bZ (vs++[j]) vs.length=j by simp[bZ,List.getD]];exact(ai hs hb).kept hgrow (aY (ai hs hb) (ai h1 hb) (by decide))
  ·simp only[aC1 e];rw[show bZ (vs++[j]) i=bZ vs i by simp[bZ,List.getD,aCh (show i<vs.length by omega)]];exact(ai (h2 i (by omega)) hb).kept hgrow (aY (ai (h2 i (by omega)) hb) (ai h1 hb) (by decide))
theorem Py{k:Nat}(hk:k<=8):wrap64 (2 ^ k)=((2 ^ k:Nat):Int)/\2 ^ k<=256:=by
 have h:∀ k:Fin 9,(2:Int) ^ k.val<=256/\0<=(2:Int) ^ k.val/\((2 ^ k.val:Nat):Int)=2 ^ k.val/\2 ^ k.val<=256:=by decide
 have:=h ⟨k,by omega⟩;simp only at this;exact⟨by rw[this.2.2.1];exact IntWalk.wrap64_in _ ⟨by omega,by omega⟩,this.2.2.2⟩
theorem agP{p:Nat->Bool}{a:Nat}:(List.range (a+1)).any p=((List.range a).any p||p a):=by simp[aCT]
theorem aeY(F gp cap:Nat)(ns:List Nd)(bs:List Nat)(w:World)(hf:FR w F gp cap ns bs)(hg:Good ns) :
  Calls Tryz.prog 73 #[.pointer (some ⟨F,0,none⟩)] w λe w'=>∃ v,e=.returned v/\yc w' w.heap.size v ns.length (dX ns (2 ^ ns.length))/\Below w.heap.size w w':=by
 have di:=hg.le;have r:=hg.pos;have k0:=hf.c0;have kc:=hf.hcap;have hF:=hf.PM;have hgp:=hf.ltp;obtain⟨i0,K,aT,aP,aO⟩:=info_parts Tryz.dY;obtain⟨i1,jU,gJ,gI,gG⟩:=info_parts Tryz.XN;have FT:=hid (λ(W:World) (b:Nat) S (h1:Below w.heap.size w W) (h2:Rb W b ns.length S)=>agl F gp cap b ns.length ns bs S W (hf.below h1) h2 hg (aB2 _));have RD:=hid (λ(W:World) (b:Nat) S (a:Nat) (L:a<8) (h1:Below w.heap.size w W) (h2:Rb W b ns.length S)=>DJ F gp cap b ns.length ns bs S W a L (hf.below h1) h2 hg (aB2 _));have N:Hid (∀ v,yO ns v=(Bo ns (lY v)&&(List.range 8).any λa=>iR ns (lY v) a)):=hid (λv=>rfl);clear hf hg;generalize ns.length=n at *;obtain⟨M,E⟩:∃ M,M=2 ^ n:=⟨_,rfl⟩;have pw:wrap64 (2 ^ n)=(M:Int):=by rw[E];exact(Py di).1
 have pm:M<=256:=by rw[E];exact(Py di).2
 rw[<-E];clear E;go_enter Tryz.func73,Tryz.ntmps73;go_wp2_with fail
 go_loopw [5,3] (λi s wr=>∃ j:Nat,j<=M/\i=.int .i64 j/\Hid (yc wr w.heap.size s n (dX ns j))/\Below w.heap.size w wr) (λi _ _=>M - (intOf i).toNat)
 case atStart=>exact⟨0,aCg _,rfl,hid ⟨λ_=>0,by simpa [dX] using aCp _ _ _ _,λi K=>by simp[dX]at K⟩,aB4 _ _⟩
 case round=>
  obtain⟨j,hj,rfl,O,P⟩:=hrel;rename World=>W0;have t:=P.size;by_cases hlt:j<M
  ·have kd:decide ((j:Int)<(M:Int))=true:=by simp;omega
   go_wp2_with (at_make;go_must (refine aCI _ rfl (.tmp 23) (.tmp 23) 138 rfl w.heap.size 4 i0 (.bool false) 1 Tryz.underlying138 K aT aP .i64 .i64 n n n rfl rfl rfl rfl ?m2 ?m3 t ?_))
   case m2=>rw[aO];omega
   case m3=>unfold maxLen;omega
   intro w1 G aQ;have eo:(madeCells #[Value.bool false] n).toList=List.replicate n (.bool false):=aCy _ _;rw[eo,<-dm (lY j)]at G;have aC:Below W0.heap.size W0 w1:=(aB4 _ _).grown aQ (aB2 _) (λk h=>by cases h);have hs1:W0.heap.size<w1.heap.size:=(G.lt _ rfl).2;have OS:=hid G;have aK:=hid aC;clear G aQ eo aC pw kd;go_wp2_with fail
   go_loopw [7] (λi wq=>∃ k:Nat,k<=n/\i=.int .i64 k/\Hid (wq.ownsRow w.heap.size 4 1 (.slice (some ⟨W0.heap.size,0,none⟩) n n) n (ax (lY j) n k))/\Below W0.heap.size W0 wq) (λi _=>n - (intOf i).toNat)
   case atStart=>exact⟨0,aCg _,rfl,OS,aK.out⟩
   case round=>
    obtain⟨k,hk,rfl,H,y⟩:=hrel;by_cases Q:k<n
    ·have own:=H.out;have q0:=own.frozenAt k;have q1:(wr.cell? ⟨W0.heap.size,k,none⟩).isSome=true:=by
      rw[own.cellAt k (by omega)];simp[ax,Q]
     obtain⟨qv,q2⟩:=aCL.1 q1;have T:=own.stored k (.bool (lY j k));rw[fJ]at T;have nI:=hid T.1;have aM:=hid (y.setCell (p:=⟨W0.heap.size,k,none⟩) (aB2 _) (.bool (lY j k)));have U:Hid ((bits BinOp.and IntKind.i64 ((j:Int) / 2 ^ k) 1==1)=lY j k):=hid (X7 ⟨j,by omega⟩ ⟨k,by omega⟩);clear T q1 own H;go_wp2_with fail;go_roundw
     case rel=>
      have o:=nI.out;have g:=aM.out;rw[<-U.out]at o g;exact⟨k+1,by omega,by go_num,hid o,g⟩
     case measure=>simp[intOf];omega
    ·obtain rfl:k=n:=by omega
     rename World=>W1;have own:=H.out;have V:Rb W1 W0.heap.size k (lY j):=Sl r own;have X:Below w.heap.size w W1:=P.trans (y.mono t);have C:=FT.out W1 W0.heap.size (lY j) X V;obtain⟨d,l⟩:∃ d:Nat->Bool,d=λa=>iR ns (lY j) a:=⟨_,rfl⟩;have q:Hid (yO ns j=(Bo ns (lY j)&&(List.range 8).any d)):=hid (by rw[l];exact N.out j);have z:Hid (∀ a,iR ns (lY j) a=d a):=hid (λa=>by rw[l]);clear l;have Fz:=hid own;have JK:=hid V;have A:=hid X;have I:=hid (O.out.keeps y);have tT:=y.size;clear own V X y H O OS aK;generalize Bo ns (lY j)=fv at *;go_wp2_with fail;refine C.mono ?_;rintro e w2 ⟨rfl,m,rfl⟩;clear C;have B:=hid (λa L=>RD.out (W1.drewN m) W0.heap.size (lY j) a L (aCl A.out m) (JK.out.drewN m));go_wp2_with fail
     go_loop [10,9] (λa s=>∃ x:Nat,x<=8/\a=.int .i64 x/\s=.bool ((List.range x).any d)) (λa _=>8 - (intOf a).toNat)
     case atStart=>exact⟨0,aCg _,rfl,rfl⟩
     case round=>
      obtain⟨x,hx,rfl,rfl⟩:=hrel;by_cases ET:x<8
      ·have R:=B.out x ET;rw[z.out x]at R;have Y:Hid ((List.range (x+1)).any d=((List.range x).any d||d x)):=hid agP;generalize d x=rv at *;generalize (List.range x).any d=cur at *;cases cur
       rotate_left
       all_goals
        go_wp2_with fail;refine R.mono ?_;rintro e w3 ⟨rfl,rfl⟩;go_wp2_with fail
        go_round
        case rel=>exact⟨x+1,by omega,by go_num,by rw[Y.out];rfl⟩
        case measure=>simp[intOf];omega
      ·obtain rfl:x=8:=by omega
       generalize (List.range 8).any d=sv at *;cases fv
       ·have D:=hid (Xm (by rw[q.out];rfl):dX ns (j+1)=dX ns j);go_wp2_with fail;go_roundw
        case rel=>exact⟨j+1,by omega,by go_num,by rw[D.out];exact hid (I.out.keeps (aCl (aB4 _ _) m)),aCl A.out m⟩
        case measure=>simp[intOf];omega
       ·cases sv
        ·have D:=hid (Xm (by rw[q.out];rfl):dX ns (j+1)=dX ns j);go_wp2_with fail;go_roundw
         case rel=>exact⟨j+1,by omega,by go_num,by rw[D.out];exact hid (I.out.keeps (aCl (aB4 _ _) m)),aCl A.out m⟩
         case measure=>simp[intOf];omega
        ·have D:=hid (aeu (by rw[q.out];rfl):dX ns (j+1)=dX ns j++[j]);have hvl:=RQ ns j;have rA:=hid (I.out.keeps (aCl (aB4 W1.heap.size W1) m));have Z:=hid (ai Fz.out (aCl (aB4 W1.heap.size W1) m));obtain⟨bb,J,sr⟩:=rA.out;have QQ:=hid sr;have UD:Below w.heap.size w (W1.drewN m):=aCl A.out m;have Wn:=hid UD;have hsd:=UD.size;clear sr rA UD B z I Fz A JK;generalize dX ns j=vs at *;have hsl:vs.length<=300:=by omega
         generalize W1.drewN m=W2 at *;go_wp2_with (at_builtin;go_must (refine aCE _ rfl (.tmp 57) (.tmp 59) 130 rfl w.heap.size 138 i1 (.slice none 0 0) 1 24 Tryz.underlying130 jU gJ gI gG rfl (by decide) _ _ _ rfl (J.alloc _) ⟨W2.heap.size,0,none⟩ 1 1 [.slice (some ⟨W0.heap.size,0,none⟩) k k] rfl rfl ?e1 ?c2 (by decide) ?c3 ?c4 ?c5 _ rfl ?_))
         case c2=>first | (intro u hu;simp at hu;subst hu;rfl) | rfl | (simp[Value.oneCell'];done) | (go_simp;done) | trace_state
         case c3=>first | (unfold maxLen;omega) | omega
         case c4=>omega
         case c5=>first | omega | (simp;omega)
         intro gg cc w3 f c hat xW;have PU:=hid (abb (j:=j) J QQ.out Z.out ((aB4 _ _).alloc (aB2 _) _) c f);have B3:=hid ((Wn.out.alloc hsd _).grown c (by simp;omega) (λk h=>(J.lt k h).1));clear f c hat J;go_wp2_with fail;go_roundw
         case rel=>exact⟨j+1,by omega,by go_num,by rw[D.out];exact PU,B3.out⟩
         case measure=>simp[intOf];omega
  ·obtain rfl:j=M:=by omega
   have kd:decide ((j:Int)<(j:Int))=false:=by simp
   go_wp2_with fail;go_ret;exact⟨_,rfl,O.out,P⟩
