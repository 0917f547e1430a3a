import Derived.Test.YtjagijohfkffiabGreatFREM06
set_option maxHeartbeats 16000000
set_option maxRecDepth 1000000
set_option linter.unusedSimpArgs false
namespace Go.Proofs.YtjagijohfkffiabGreat
open Go.RowKit
set_option linter.unusedVariables false
def jr(F g az n j:Nat)(u:Nat->Value):Act:=⟨#[.pointer (some ⟨F,0,none⟩),.slice (some ⟨g,0,none⟩) n az,u 2,u 3,u 4,.int .i64 (j:Nat),u 6,u 7,u 8,u 9,u 10,u 11,u 12,u 13,u 14,u 15,u 16,u 17,u 18,u 19,u 20,u 21,u 22,u 23,u 24,u 25,u 26,u 27,u 28,u 29,u 30,u 31,u 32,u 33,u 34,u 35,u 36,u 37,u 38,u 39,u 40,u 41,u 42,u 43,u 44,u 45,u 46,u 47,u 48,u 49,u 50,u 51,u 52,u 53,u 54,u 55,u 56,u 57,u 58,u 59,u 60,u 61,u 62,u 63,u 64,u 65,u 66,u 67,u 68,u 69,u 70,u 71,u 72,u 73,u 74,u 75,u 76,u 77,u 78,u 79,u 80,u 81,u 82,u 83,u 84,u 85,u 86,u 87,u 88,u 89,u 90,u 91,u 92,u 93,u 94,u 95,u 96,u 97,u 98,u 99,u 100,u 101,u 102,u 103,u 104,u 105,u 106,u 107,u 108,u 109,u 110,u 111,u 112,u 113,u 114,u 115,u 116,u 117,u 118,u 119,u 120,u 121,u 122,u 123,u 124,u 125,u 126,u 127,u 128,u 129,u 130,u 131,u 132,u 133,u 134,u 135,u 136,u 137,u 138,u 139,u 140,u 141,u 142,u 143,u 144,u 145,u 146,u 147,u 148,u 149,u 150,u 151,u 152,u 153,u 154,u 155,u 156,u 157,u 158,u 159,u 160,u 161,u 162,u 163,u 164,u 165,u 166,u 167,u 168,u 169,u 170,u 171,u 172,u 173,u 174,u 175,u 176,u 177,u 178,u 179,u 180,u 181,u 182,u 183,u 184,u 185,u 186,u 187,u 188,u 189,u 190,u 191,u 192,u 193,u 194,u 195,u 196,u 197,u 198,u 199,u 200,u 201,u 202,u 203,u 204,u 205,u 206,u 207,u 208,u 209,u 210,u 211,u 212,u 213,u 214,u 215,u 216,u 217,u 218,u 219,u 220,u 221,u 222,u 223,u 224,u 225,u 226,u 227,u 228,u 229,u 230,u 231,u 232,u 233,u 234,u 235,u 236,u 237,u 238,u 239,u 240,u 241,u 242,u 243,u 244,u 245,u 246,u 247,u 248,u 249,u 250,u 251,u 252,u 253,u 254,u 255,u 256],[]⟩
theorem Qa(F gp cap g az n j b:Nat)(va:Bool)(u:Nat->Value)(P:Nat->Prop)(Q0:Exit->Act->World->Prop)(w:World)(m:Nat)
  (hc:n<=az) (dw:n<=8) (kc:n<=cap) (hlt:j<n)
  (k0:w.cell? ⟨F,0,none⟩=some (.slice (some ⟨gp,0,none⟩) n cap)) (c1:w.cell? ⟨gp,j,none⟩=some (.pointer (some ⟨b,0,none⟩))) (c2:w.cell? ⟨b,0,none⟩=some (.int .u8 48)) (sj:w.cell? ⟨g,j,none⟩=some (.bool va))
  (hy:Hid ((!va)=true->P (j+1))) (hn:Hid ((!va)=false->∀ a' w'',a'.defers=[]->a'.tmps.size=257->a'.tmps.getD 4 undef=.bool false->(∃ m,w''=w.drewN m)->Q0 .ret a' w'')) :
  Code.wp Tryz.prog (eT Tryz.f120) (Exit.then (λa' w''=>GI 257 [(0,.pointer (some ⟨F,0,none⟩)),(1,.slice (some ⟨g,0,none⟩) n az)] 5 n P w a' w''/\GM 5 n a' w''<n - j) Q0)
   (jr F g az n j u) (w.drewN m):=by
 unfold jr
 conv=>arg 2;whnf
 go_wp2_with fail
 all_goals
  first
  | exact⟨⟨rfl,rfl,by simp,j+1,by omega,by go_num,hy.out (by cases va <;> first | rfl | contradiction),_,rfl⟩,by simp[GM,intOf];omega⟩
  | exact hn.out (by cases va <;> first | rfl | contradiction) _ _ rfl rfl rfl ⟨_,rfl⟩
theorem P9(F gp cap g az n j b:Nat)(va:Bool)(u:Nat->Value)(P:Nat->Prop)(Q0:Exit->Act->World->Prop)(w:World)(m:Nat)
  (hc:n<=az) (dw:n<=8) (kc:n<=cap) (hlt:j<n)
  (k0:w.cell? ⟨F,0,none⟩=some (.slice (some ⟨gp,0,none⟩) n cap)) (c1:w.cell? ⟨gp,j,none⟩=some (.pointer (some ⟨b,0,none⟩))) (c2:w.cell? ⟨b,0,none⟩=some (.int .u8 49)) (sj:w.cell? ⟨g,j,none⟩=some (.bool va))
  (hy:Hid ((va)=true->P (j+1))) (hn:Hid ((va)=false->∀ a' w'',a'.defers=[]->a'.tmps.size=257->a'.tmps.getD 4 undef=.bool false->(∃ m,w''=w.drewN m)->Q0 .ret a' w'')) :
  Code.wp Tryz.prog (eT Tryz.f120) (Exit.then (λa' w''=>GI 257 [(0,.pointer (some ⟨F,0,none⟩)),(1,.slice (some ⟨g,0,none⟩) n az)] 5 n P w a' w''/\GM 5 n a' w''<n - j) Q0)
   (jr F g az n j u) (w.drewN m):=by
 unfold jr
 conv=>arg 2;whnf
 go_wp2_with fail
 all_goals
  first
  | exact⟨⟨rfl,rfl,by simp,j+1,by omega,by go_num,hy.out (by cases va <;> first | rfl | contradiction),_,rfl⟩,by simp[GM,intOf];omega⟩
  | exact hn.out (by cases va <;> first | rfl | contradiction) _ _ rfl rfl rfl ⟨_,rfl⟩
theorem MF(F gp cap g az n j b:Nat)(va:Bool)(u:Nat->Value)(P:Nat->Prop)(Q0:Exit->Act->World->Prop)(w:World)(m:Nat)
  (hc:n<=az) (dw:n<=8) (kc:n<=cap) (hlt:j<n)
  (k0:w.cell? ⟨F,0,none⟩=some (.slice (some ⟨gp,0,none⟩) n cap)) (c1:w.cell? ⟨gp,j,none⟩=some (.pointer (some ⟨b,0,none⟩))) (c2:w.cell? ⟨b,0,none⟩=some (.int .u8 112)) (sj:w.cell? ⟨g,j,none⟩=some (.bool va))
  (hy:Hid (P (j+1))) :
  Code.wp Tryz.prog (eT Tryz.f120) (Exit.then (λa' w''=>GI 257 [(0,.pointer (some ⟨F,0,none⟩)),(1,.slice (some ⟨g,0,none⟩) n az)] 5 n P w a' w''/\GM 5 n a' w''<n - j) Q0)
   (jr F g az n j u) (w.drewN m):=by
 unfold jr
 conv=>arg 2;whnf
 go_wp2_with fail;exact⟨⟨rfl,rfl,by simp,j+1,by omega,by go_num,hy.out,_,rfl⟩,by simp[GM,intOf];omega⟩
theorem ME(F gp cap g az n j b:Nat)(va:Bool)(u:Nat->Value)(P:Nat->Prop)(Q0:Exit->Act->World->Prop)(w:World)(m:Nat)
  (hc:n<=az) (dw:n<=8) (kc:n<=cap) (hlt:j<n)
  (k0:w.cell? ⟨F,0,none⟩=some (.slice (some ⟨gp,0,none⟩) n cap)) (c1:w.cell? ⟨gp,j,none⟩=some (.pointer (some ⟨b,0,none⟩))) (c2:w.cell? ⟨b,0,none⟩=some (.int .u8 113)) (sj:w.cell? ⟨g,j,none⟩=some (.bool va))
  (hy:Hid (P (j+1))) :
  Code.wp Tryz.prog (eT Tryz.f120) (Exit.then (λa' w''=>GI 257 [(0,.pointer (some ⟨F,0,none⟩)),(1,.slice (some ⟨g,0,none⟩) n az)] 5 n P w a' w''/\GM 5 n a' w''<n - j) Q0)
   (jr F g az n j u) (w.drewN m):=by
 unfold jr
 conv=>arg 2;whnf
 go_wp2_with fail;exact⟨⟨rfl,rfl,by simp,j+1,by omega,by go_num,hy.out,_,rfl⟩,by simp[GM,intOf];omega⟩
theorem MB(F gp cap g az n j b:Nat)(va:Bool)(u:Nat->Value)(P:Nat->Prop)(Q0:Exit->Act->World->Prop)(w:World)(m:Nat)
  (hc:n<=az) (dw:n<=8) (kc:n<=cap) (hlt:j<n)
  (k0:w.cell? ⟨F,0,none⟩=some (.slice (some ⟨gp,0,none⟩) n cap)) (c1:w.cell? ⟨gp,j,none⟩=some (.pointer (some ⟨b,0,none⟩))) (c2:w.cell? ⟨b,0,none⟩=some (.int .u8 114)) (sj:w.cell? ⟨g,j,none⟩=some (.bool va))
  (hy:Hid (P (j+1))) :
  Code.wp Tryz.prog (eT Tryz.f120) (Exit.then (λa' w''=>GI 257 [(0,.pointer (some ⟨F,0,none⟩)),(1,.slice (some ⟨g,0,none⟩) n az)] 5 n P w a' w''/\GM 5 n a' w''<n - j) Q0)
   (jr F g az n j u) (w.drewN m):=by
 unfold jr
 conv=>arg 2;whnf
 go_wp2_with fail;exact⟨⟨rfl,rfl,by simp,j+1,by omega,by go_num,hy.out,_,rfl⟩,by simp[GM,intOf];omega⟩
theorem Qc(F gp cap g az n j b l bl:Nat)(va vl:Bool)(u:Nat->Value)(P:Nat->Prop)(Q0:Exit->Act->World->Prop)(w:World)(m:Nat)
  (hc:n<=az) (dw:n<=8) (kc:n<=cap) (hlt:j<n) (hl:l<j)
  (k0:w.cell? ⟨F,0,none⟩=some (.slice (some ⟨gp,0,none⟩) n cap)) (c1:w.cell? ⟨gp,j,none⟩=some (.pointer (some ⟨b,0,none⟩))) (c2:w.cell? ⟨b,0,none⟩=some (.int .u8 33)) (sj:w.cell? ⟨g,j,none⟩=some (.bool va))
  (lp:w.cell? ⟨b,1,none⟩=some (.pointer (some ⟨bl,0,none⟩))) (ln:w.cell? ⟨bl,3,none⟩=some (.int .i64 l)) (ls:w.cell? ⟨g,l,none⟩=some (.bool vl))
  (hy:Hid ((va !=vl)=true->P (j+1))) (hn:Hid ((va !=vl)=false->∀ a' w'',a'.defers=[]->a'.tmps.size=257->a'.tmps.getD 4 undef=.bool false->(∃ m,w''=w.drewN m)->Q0 .ret a' w'')) :
  Code.wp Tryz.prog (eT Tryz.f120) (Exit.then (λa' w''=>GI 257 [(0,.pointer (some ⟨F,0,none⟩)),(1,.slice (some ⟨g,0,none⟩) n az)] 5 n P w a' w''/\GM 5 n a' w''<n - j) Q0)
   (jr F g az n j u) (w.drewN m):=by
 unfold jr
 conv=>arg 2;whnf
 go_wp2_with fail
 go_quiet (fail)
 go_wp2_with fail
 all_goals
  first
  | exact⟨⟨rfl,rfl,by simp,j+1,by omega,by go_num,hy.out (by cases va <;> cases vl <;> first | rfl | contradiction),_,rfl⟩,by simp[GM,intOf];omega⟩
  | exact hn.out (by cases va <;> cases vl <;> first | rfl | contradiction) _ _ rfl rfl rfl ⟨_,rfl⟩
theorem PZ(F gp cap g az n j b l bl:Nat)(va vl:Bool)(u:Nat->Value)(P:Nat->Prop)(Q0:Exit->Act->World->Prop)(w:World)(m:Nat)
  (hc:n<=az) (dw:n<=8) (kc:n<=cap) (hlt:j<n) (hl:l<j)
  (k0:w.cell? ⟨F,0,none⟩=some (.slice (some ⟨gp,0,none⟩) n cap)) (c1:w.cell? ⟨gp,j,none⟩=some (.pointer (some ⟨b,0,none⟩))) (c2:w.cell? ⟨b,0,none⟩=some (.int .u8 88)) (sj:w.cell? ⟨g,j,none⟩=some (.bool va))
  (lp:w.cell? ⟨b,1,none⟩=some (.pointer (some ⟨bl,0,none⟩))) (ln:w.cell? ⟨bl,3,none⟩=some (.int .i64 l)) (ls:w.cell? ⟨g,l,none⟩=some (.bool vl))
  (hy:Hid (P (j+1))) :
  Code.wp Tryz.prog (eT Tryz.f120) (Exit.then (λa' w''=>GI 257 [(0,.pointer (some ⟨F,0,none⟩)),(1,.slice (some ⟨g,0,none⟩) n az)] 5 n P w a' w''/\GM 5 n a' w''<n - j) Q0)
   (jr F g az n j u) (w.drewN m):=by
 unfold jr
 conv=>arg 2;whnf
 go_wp2_with fail;exact⟨⟨rfl,rfl,by simp,j+1,by omega,by go_num,hy.out,_,rfl⟩,by simp[GM,intOf];omega⟩
theorem P8(F gp cap g az n j b l bl:Nat)(va vl:Bool)(u:Nat->Value)(P:Nat->Prop)(Q0:Exit->Act->World->Prop)(w:World)(m:Nat)
  (hc:n<=az) (dw:n<=8) (kc:n<=cap) (hlt:j<n) (hl:l<j)
  (k0:w.cell? ⟨F,0,none⟩=some (.slice (some ⟨gp,0,none⟩) n cap)) (c1:w.cell? ⟨gp,j,none⟩=some (.pointer (some ⟨b,0,none⟩))) (c2:w.cell? ⟨b,0,none⟩=some (.int .u8 70)) (sj:w.cell? ⟨g,j,none⟩=some (.bool va))
  (lp:w.cell? ⟨b,1,none⟩=some (.pointer (some ⟨bl,0,none⟩))) (ln:w.cell? ⟨bl,3,none⟩=some (.int .i64 l)) (ls:w.cell? ⟨g,l,none⟩=some (.bool vl))
  (hy:Hid ((va||!vl)=true->P (j+1))) (hn:Hid ((va||!vl)=false->∀ a' w'',a'.defers=[]->a'.tmps.size=257->a'.tmps.getD 4 undef=.bool false->(∃ m,w''=w.drewN m)->Q0 .ret a' w'')) :
  Code.wp Tryz.prog (eT Tryz.f120) (Exit.then (λa' w''=>GI 257 [(0,.pointer (some ⟨F,0,none⟩)),(1,.slice (some ⟨g,0,none⟩) n az)] 5 n P w a' w''/\GM 5 n a' w''<n - j) Q0)
   (jr F g az n j u) (w.drewN m):=by
 unfold jr
 conv=>arg 2;whnf
 go_wp2_with fail
 all_goals
  first
  | exact⟨⟨rfl,rfl,by simp,j+1,by omega,by go_num,hy.out (by cases va <;> cases vl <;> first | rfl | contradiction),_,rfl⟩,by simp[GM,intOf];omega⟩
  | exact hn.out (by cases va <;> cases vl <;> first | rfl | contradiction) _ _ rfl rfl rfl ⟨_,rfl⟩
theorem P7(F gp cap g az n j b l bl:Nat)(va vl:Bool)(u:Nat->Value)(P:Nat->Prop)(Q0:Exit->Act->World->Prop)(w:World)(m:Nat)
  (hc:n<=az) (dw:n<=8) (kc:n<=cap) (hlt:j<n) (hl:l<j)
  (k0:w.cell? ⟨F,0,none⟩=some (.slice (some ⟨gp,0,none⟩) n cap)) (c1:w.cell? ⟨gp,j,none⟩=some (.pointer (some ⟨b,0,none⟩))) (c2:w.cell? ⟨b,0,none⟩=some (.int .u8 71)) (sj:w.cell? ⟨g,j,none⟩=some (.bool va))
  (lp:w.cell? ⟨b,1,none⟩=some (.pointer (some ⟨bl,0,none⟩))) (ln:w.cell? ⟨bl,3,none⟩=some (.int .i64 l)) (ls:w.cell? ⟨g,l,none⟩=some (.bool vl))
  (hy:Hid ((!va||vl)=true->P (j+1))) (hn:Hid ((!va||vl)=false->∀ a' w'',a'.defers=[]->a'.tmps.size=257->a'.tmps.getD 4 undef=.bool false->(∃ m,w''=w.drewN m)->Q0 .ret a' w'')) :
  Code.wp Tryz.prog (eT Tryz.f120) (Exit.then (λa' w''=>GI 257 [(0,.pointer (some ⟨F,0,none⟩)),(1,.slice (some ⟨g,0,none⟩) n az)] 5 n P w a' w''/\GM 5 n a' w''<n - j) Q0)
   (jr F g az n j u) (w.drewN m):=by
 unfold jr
 conv=>arg 2;whnf
 go_wp2_with fail
 all_goals
  first
  | exact⟨⟨rfl,rfl,by simp,j+1,by omega,by go_num,hy.out (by cases va <;> cases vl <;> first | rfl | contradiction),_,rfl⟩,by simp[GM,intOf];omega⟩
  | exact hn.out (by cases va <;> cases vl <;> first | rfl | contradiction) _ _ rfl rfl rfl ⟨_,rfl⟩
theorem aeD(F gp cap g az n:Nat)(u:Nat->Value)(Z:Act->World->Prop)(Q0:Exit->Act->World->Prop)(w:World)(m:Nat)(dw:n<=8)(kc:n<=cap)
  (k0:w.cell? ⟨F,0,none⟩=some (.slice (some ⟨gp,0,none⟩) n cap)) (hx:∀ a' w'',a'.defers=[]->a'.tmps.size=257->(∃ m,w''=w.drewN m)->Q0 (.exit 0) a' w'') :
  Code.wp Tryz.prog (eT Tryz.f120) (Exit.then Z Q0) (jr F g az n n u) (w.drewN m):=by
 unfold jr
 conv=>arg 2;whnf
 go_wp2_with fail;exact hx _ _ rfl rfl ⟨_,rfl⟩
theorem Qb(F gp cap g az n j b l bl r br:Nat)(va vl vr:Bool)(u:Nat->Value)(P:Nat->Prop)(Q0:Exit->Act->World->Prop)(w:World)(m:Nat)
  (hc:n<=az) (dw:n<=8) (kc:n<=cap) (hlt:j<n) (hl:l<j) (hr:r<j)
  (k0:w.cell? ⟨F,0,none⟩=some (.slice (some ⟨gp,0,none⟩) n cap)) (c1:w.cell? ⟨gp,j,none⟩=some (.pointer (some ⟨b,0,none⟩))) (c2:w.cell? ⟨b,0,none⟩=some (.int .u8 38)) (sj:w.cell? ⟨g,j,none⟩=some (.bool va))
  (lp:w.cell? ⟨b,1,none⟩=some (.pointer (some ⟨bl,0,none⟩))) (ln:w.cell? ⟨bl,3,none⟩=some (.int .i64 l)) (ls:w.cell? ⟨g,l,none⟩=some (.bool vl))
  (rp:w.cell? ⟨b,2,none⟩=some (.pointer (some ⟨br,0,none⟩))) (rn:w.cell? ⟨br,3,none⟩=some (.int .i64 r)) (rs:w.cell? ⟨g,r,none⟩=some (.bool vr))
  (hy:Hid ((va==(vl&&vr))=true->P (j+1))) (hn:Hid ((va==(vl&&vr))=false->∀ a' w'',a'.defers=[]->a'.tmps.size=257->a'.tmps.getD 4 undef=.bool false->(∃ m,w''=w.drewN m)->Q0 .ret a' w'')) :
  Code.wp Tryz.prog (eT Tryz.f120) (Exit.then (λa' w''=>GI 257 [(0,.pointer (some ⟨F,0,none⟩)),(1,.slice (some ⟨g,0,none⟩) n az)] 5 n P w a' w''/\GM 5 n a' w''<n - j) Q0)
   (jr F g az n j u) (w.drewN m):=by
 unfold jr
 conv=>arg 2;whnf
 go_wp2_with fail;cases vl
 all_goals go_quiet (fail)
 all_goals go_wp2_with fail
 all_goals
  first
  | exact⟨⟨rfl,rfl,by simp,j+1,by omega,by go_num,hy.out (by cases va <;> cases vr <;> first | rfl | contradiction),_,rfl⟩,by simp[GM,intOf];omega⟩
  | exact hn.out (by cases va <;> cases vr <;> first | rfl | contradiction) _ _ rfl rfl rfl ⟨_,rfl⟩
theorem Mx(F gp cap g az n j b l bl r br:Nat)(va vl vr:Bool)(u:Nat->Value)(P:Nat->Prop)(Q0:Exit->Act->World->Prop)(w:World)(m:Nat)
  (hc:n<=az) (dw:n<=8) (kc:n<=cap) (hlt:j<n) (hl:l<j) (hr:r<j)
  (k0:w.cell? ⟨F,0,none⟩=some (.slice (some ⟨gp,0,none⟩) n cap)) (c1:w.cell? ⟨gp,j,none⟩=some (.pointer (some ⟨b,0,none⟩))) (c2:w.cell? ⟨b,0,none⟩=some (.int .u8 124)) (sj:w.cell? ⟨g,j,none⟩=some (.bool va))
  (lp:w.cell? ⟨b,1,none⟩=some (.pointer (some ⟨bl,0,none⟩))) (ln:w.cell? ⟨bl,3,none⟩=some (.int .i64 l)) (ls:w.cell? ⟨g,l,none⟩=some (.bool vl))
  (rp:w.cell? ⟨b,2,none⟩=some (.pointer (some ⟨br,0,none⟩))) (rn:w.cell? ⟨br,3,none⟩=some (.int .i64 r)) (rs:w.cell? ⟨g,r,none⟩=some (.bool vr))
  (hy:Hid ((va==(vl||vr))=true->P (j+1))) (hn:Hid ((va==(vl||vr))=false->∀ a' w'',a'.defers=[]->a'.tmps.size=257->a'.tmps.getD 4 undef=.bool false->(∃ m,w''=w.drewN m)->Q0 .ret a' w'')) :
  Code.wp Tryz.prog (eT Tryz.f120) (Exit.then (λa' w''=>GI 257 [(0,.pointer (some ⟨F,0,none⟩)),(1,.slice (some ⟨g,0,none⟩) n az)] 5 n P w a' w''/\GM 5 n a' w''<n - j) Q0)
   (jr F g az n j u) (w.drewN m):=by
 unfold jr
 conv=>arg 2;whnf
 go_wp2_with fail;cases vl
 all_goals go_quiet (fail)
 all_goals go_wp2_with fail
 all_goals
  first
  | exact⟨⟨rfl,rfl,by simp,j+1,by omega,by go_num,hy.out (by cases va <;> cases vr <;> first | rfl | contradiction),_,rfl⟩,by simp[GM,intOf];omega⟩
  | exact hn.out (by cases va <;> cases vr <;> first | rfl | contradiction) _ _ rfl rfl rfl ⟨_,rfl⟩
theorem P5(F gp cap g az n j b l bl r br:Nat)(va vl vr:Bool)(u:Nat->Value)(P:Nat->Prop)(Q0:Exit->Act->World->Prop)(w:World)(m:Nat)
  (hc:n<=az) (dw:n<=8) (kc:n<=cap) (hlt:j<n) (hl:l<j) (hr:r<j)
  (k0:w.cell? ⟨F,0,none⟩=some (.slice (some ⟨gp,0,none⟩) n cap)) (c1:w.cell? ⟨gp,j,none⟩=some (.pointer (some ⟨b,0,none⟩))) (c2:w.cell? ⟨b,0,none⟩=some (.int .u8 85)) (sj:w.cell? ⟨g,j,none⟩=some (.bool va))
  (lp:w.cell? ⟨b,1,none⟩=some (.pointer (some ⟨bl,0,none⟩))) (ln:w.cell? ⟨bl,3,none⟩=some (.int .i64 l)) (ls:w.cell? ⟨g,l,none⟩=some (.bool vl))
  (rp:w.cell? ⟨b,2,none⟩=some (.pointer (some ⟨br,0,none⟩))) (rn:w.cell? ⟨br,3,none⟩=some (.int .i64 r)) (rs:w.cell? ⟨g,r,none⟩=some (.bool vr))
  (hy:Hid (((va||!vr)&&(!va||vl||vr))=true->P (j+1))) (hn:Hid (((va||!vr)&&(!va||vl||vr))=false->∀ a' w'',a'.defers=[]->a'.tmps.size=257->a'.tmps.getD 4 undef=.bool false->(∃ m,w''=w.drewN m)->Q0 .ret a' w'')) :
  Code.wp Tryz.prog (eT Tryz.f120) (Exit.then (λa' w''=>GI 257 [(0,.pointer (some ⟨F,0,none⟩)),(1,.slice (some ⟨g,0,none⟩) n az)] 5 n P w a' w''/\GM 5 n a' w''<n - j) Q0)
   (jr F g az n j u) (w.drewN m):=by
 unfold jr
 conv=>arg 2;whnf
 go_wp2_with fail
 all_goals
  first
  | exact⟨⟨rfl,rfl,by simp,j+1,by omega,by go_num,hy.out (by cases va <;> cases vl <;> cases vr <;> first | rfl | contradiction),_,rfl⟩,by simp[GM,intOf];omega⟩
  | exact hn.out (by cases va <;> cases vl <;> cases vr <;> first | rfl | contradiction) _ _ rfl rfl rfl ⟨_,rfl⟩
theorem P6(F gp cap g az n j b l bl r br:Nat)(va vl vr:Bool)(u:Nat->Value)(P:Nat->Prop)(Q0:Exit->Act->World->Prop)(w:World)(m:Nat)
  (hc:n<=az) (dw:n<=8) (kc:n<=cap) (hlt:j<n) (hl:l<j) (hr:r<j)
  (k0:w.cell? ⟨F,0,none⟩=some (.slice (some ⟨gp,0,none⟩) n cap)) (c1:w.cell? ⟨gp,j,none⟩=some (.pointer (some ⟨b,0,none⟩))) (c2:w.cell? ⟨b,0,none⟩=some (.int .u8 82)) (sj:w.cell? ⟨g,j,none⟩=some (.bool va))
  (lp:w.cell? ⟨b,1,none⟩=some (.pointer (some ⟨bl,0,none⟩))) (ln:w.cell? ⟨bl,3,none⟩=some (.int .i64 l)) (ls:w.cell? ⟨g,l,none⟩=some (.bool vl))
  (rp:w.cell? ⟨b,2,none⟩=some (.pointer (some ⟨br,0,none⟩))) (rn:w.cell? ⟨br,3,none⟩=some (.int .i64 r)) (rs:w.cell? ⟨g,r,none⟩=some (.bool vr))
  (hy:Hid (((!va||vr)&&(va||!vl||!vr))=true->P (j+1))) (hn:Hid (((!va||vr)&&(va||!vl||!vr))=false->∀ a' w'',a'.defers=[]->a'.tmps.size=257->a'.tmps.getD 4 undef=.bool false->(∃ m,w''=w.drewN m)->Q0 .ret a' w'')) :
  Code.wp Tryz.prog (eT Tryz.f120) (Exit.then (λa' w''=>GI 257 [(0,.pointer (some ⟨F,0,none⟩)),(1,.slice (some ⟨g,0,none⟩) n az)] 5 n P w a' w''/\GM 5 n a' w''<n - j) Q0)
   (jr F g az n j u) (w.drewN m):=by
 unfold jr
 conv=>arg 2;whnf
 go_wp2_with fail
 all_goals
  first
  | exact⟨⟨rfl,rfl,by simp,j+1,by omega,by go_num,hy.out (by cases va <;> cases vl <;> cases vr <;> first | rfl | contradiction),_,rfl⟩,by simp[GM,intOf];omega⟩
  | exact hn.out (by cases va <;> cases vl <;> cases vr <;> first | rfl | contradiction) _ _ rfl rfl rfl ⟨_,rfl⟩
theorem ahB(S:Nat->Bool){k:Nat}{nd:Nd}(h:nd.op=48):iq nd k S=(!S k):=by simp[iq,h]
theorem ahA(S:Nat->Bool){k:Nat}{nd:Nd}(h:nd.op=49):iq nd k S=S k:=by simp[iq,h]
theorem adc(S:Nat->Bool){k:Nat}{nd:Nd}(h:nd.op=112):iq nd k S=true:=by simp[iq,h]
theorem adb(S:Nat->Bool){k:Nat}{nd:Nd}(h:nd.op=113):iq nd k S=true:=by simp[iq,h]
theorem ada(S:Nat->Bool){k:Nat}{nd:Nd}(h:nd.op=114):iq nd k S=true:=by simp[iq,h]
theorem ahD(S:Nat->Bool){k:Nat}{nd:Nd}(h:nd.op=33):iq nd k S=(S k !=S nd.l):=by simp[iq,h]
theorem ahv(S:Nat->Bool){k:Nat}{nd:Nd}(h:nd.op=88):iq nd k S=true:=by simp[iq,h]
theorem ahz(S:Nat->Bool){k:Nat}{nd:Nd}(h:nd.op=70):iq nd k S=(S k||!S nd.l):=by simp[iq,h]
theorem ahy(S:Nat->Bool){k:Nat}{nd:Nd}(h:nd.op=71):iq nd k S=(!S k||S nd.l):=by simp[iq,h]
theorem ahC(S:Nat->Bool){k:Nat}{nd:Nd}(h:nd.op=38):iq nd k S=(S k==(S nd.l&&S nd.r)):=by simp[iq,h]
theorem ac9(S:Nat->Bool){k:Nat}{nd:Nd}(h:nd.op=124):iq nd k S=(S k==(S nd.l||S nd.r)):=by simp[iq,h]
theorem ahw(S:Nat->Bool){k:Nat}{nd:Nd}(h:nd.op=85):iq nd k S=((S k||!S nd.r)&&(!S k||S nd.l||S nd.r)):=by simp[iq,h]
theorem ahx(S:Nat->Bool){k:Nat}{nd:Nd}(h:nd.op=82):iq nd k S=((!S k||S nd.r)&&(S k||!S nd.l||!S nd.r)):=by simp[iq,h]
theorem Db{a:Act}(h0:a.defers=[])(h1:a.tmps.size=257):∃ u:Nat->Value,(∀ i,u i=a.tmps.getD i undef)/\a=⟨#[u 0,u 1,u 2,u 3,u 4,u 5,u 6,u 7,u 8,u 9,u 10,u 11,u 12,u 13,u 14,u 15,u 16,u 17,u 18,u 19,u 20,u 21,u 22,u 23,u 24,u 25,u 26,u 27,u 28,u 29,u 30,u 31,u 32,u 33,u 34,u 35,u 36,u 37,u 38,u 39,u 40,u 41,u 42,u 43,u 44,u 45,u 46,u 47,u 48,u 49,u 50,u 51,u 52,u 53,u 54,u 55,u 56,u 57,u 58,u 59,u 60,u 61,u 62,u 63,u 64,u 65,u 66,u 67,u 68,u 69,u 70,u 71,u 72,u 73,u 74,u 75,u 76,u 77,u 78,u 79,u 80,u 81,u 82,u 83,u 84,u 85,u 86,u 87,u 88,u 89,u 90,u 91,u 92,u 93,u 94,u 95,u 96,u 97,u 98,u 99,u 100,u 101,u 102,u 103,u 104,u 105,u 106,u 107,u 108,u 109,u 110,u 111,u 112,u 113,u 114,u 115,u 116,u 117,u 118,u 119,u 120,u 121,u 122,u 123,u 124,u 125,u 126,u 127,u 128,u 129,u 130,u 131,u 132,u 133,u 134,u 135,u 136,u 137,u 138,u 139,u 140,u 141,u 142,u 143,u 144,u 145,u 146,u 147,u 148,u 149,u 150,u 151,u 152,u 153,u 154,u 155,u 156,u 157,u 158,u 159,u 160,u 161,u 162,u 163,u 164,u 165,u 166,u 167,u 168,u 169,u 170,u 171,u 172,u 173,u 174,u 175,u 176,u 177,u 178,u 179,u 180,u 181,u 182,u 183,u 184,u 185,u 186,u 187,u 188,u 189,u 190,u 191,u 192,u 193,u 194,u 195,u 196,u 197,u 198,u 199,u 200,u 201,u 202,u 203,u 204,u 205,u 206,u 207,u 208,u 209,u 210,u 211,u 212,u 213,u 214,u 215,u 216,u 217,u 218,u 219,u 220,u 221,u 222,u 223,u 224,u 225,u 226,u 227,u 228,u 229,u 230,u 231,u 232,u 233,u 234,u 235,u 236,u 237,u 238,u 239,u 240,u 241,u 242,u 243,u 244,u 245,u 246,u 247,u 248,u 249,u 250,u 251,u 252,u 253,u 254,u 255,u 256],[]⟩:=by
 refine⟨λi=>a.tmps.getD i undef,λ_=>rfl,?_⟩;obtain⟨t,d⟩:=a;simp only at h0 h1;subst h0;have:=Pm h1;exact congrArg (λx=>(⟨x,[]⟩:Act)) this
section
variable (F gp cap g az:Nat) (ns:List Nd) (bs:List Nat) (S:Nat->Bool) (w:World)
def qb(j:Nat):Prop:=∀ k,k<j->iq (aA ns k) k S=true
theorem abp(hf:FR w F gp cap ns bs)(hs:Rb w g ns.length S)(hg:Good ns)(hc:ns.length<=az)(Q0:Exit->Act->World->Prop)
  (hx:zK ns S=true->∀ a' w'',a'.defers=[]->a'.tmps.size=257->(∃ m,w''=w.drewN m)->Q0 (.exit 0) a' w'')
  (hr:zK ns S=false->∀ a' w'',a'.defers=[]->a'.tmps.size=257->a'.tmps.getD 4 undef=.bool false->(∃ m,w''=w.drewN m)->Q0 .ret a' w'')
  (a:Act) (w':World) (hI:GI 257 [(0,.pointer (some ⟨F,0,none⟩)),(1,.slice (some ⟨g,0,none⟩) ns.length az)] 5 ns.length (qb ns S) w a w'):Code.wp Tryz.prog (Code.loop (eT Tryz.f120)) Q0 a w':=by
 refine wp_loop (GI 257 [(0,.pointer (some ⟨F,0,none⟩)),(1,.slice (some ⟨g,0,none⟩) ns.length az)] 5 ns.length (qb ns S) w) (GM 5 ns.length) hI ?_;intro a w1 hI;obtain⟨d0,d1,d2,j,hj,d5,hP,m,rfl⟩:=hI;have e0:=d2 _ (List.mem_cons_self ..);have e1:=d2 _ (List.mem_cons_of_mem _ (List.mem_cons_self ..));have hM:GM 5 ns.length a (w.drewN m)=ns.length - j:=by unfold GM;rw[d5];simp[intOf]
 rw[hM];obtain⟨u,hu,ea⟩:=Db d0 d1;simp only at e0 e1;rw[<-hu]at e0 e1 d5;rw[ea,e0,e1,d5];have dw:=hg.le;have k0:=hf.c0;have kc:=hf.hcap;by_cases hlt:j<ns.length
 ·have c1:=hf.ptr j hlt;have c2:=hf.op j hlt;have sj:=hs.cell j hlt;have hcl:=hg.wf j _ (jo hlt);have bZ:∀ k,k<j->w.cell? ⟨dG bs k,3,none⟩=some (.int .i64 k)/\w.cell? ⟨g,k,none⟩=some (.bool (S k)):=λk hk=>⟨hf.nn k (by omega),hs.cell k (by omega)⟩;have HY:iq (aA ns j) j S=true->qb ns S (j+1):=λh k hk=>by
   by_cases e:k<j
   ·exact hP k e
   ·rw[show k=j by omega];exact h
  have HN:iq (aA ns j) j S=false->∀ a' w'',a'.defers=[]->a'.tmps.size=257->a'.tmps.getD 4 undef=.bool false->(∃ m,w''=w.drewN m)->Q0 .ret a' w'':=λh=>hr (MP hlt h);have lp:=hf.lp j hlt;have rp:=hf.rp j hlt;rcases hcl with⟨hop,_,_⟩ | ⟨hop,hl,_⟩ | ⟨hop,hl,fF⟩
  ·rcases lD hop with e | e | e | e | e
   ·rw[ahB S e]at HY HN;rw[e]at c2;exact Qa F gp cap g az ns.length j (dG bs j) (S j) u (qb ns S) Q0 w m hc dw kc hlt k0 c1 c2 sj (hid HY) (hid HN)
   ·rw[ahA S e]at HY HN;rw[e]at c2;exact P9 F gp cap g az ns.length j (dG bs j) (S j) u (qb ns S) Q0 w m hc dw kc hlt k0 c1 c2 sj (hid HY) (hid HN)
   ·rw[adc S e]at HY HN;rw[e]at c2;exact MF F gp cap g az ns.length j (dG bs j) (S j) u (qb ns S) Q0 w m hc dw kc hlt k0 c1 c2 sj (hid (HY rfl))
   ·rw[adb S e]at HY HN;rw[e]at c2;exact ME F gp cap g az ns.length j (dG bs j) (S j) u (qb ns S) Q0 w m hc dw kc hlt k0 c1 c2 sj (hid (HY rfl))
   ·rw[ada S e]at HY HN;rw[e]at c2;exact MB F gp cap g az ns.length j (dG bs j) (S j) u (qb ns S) Q0 w m hc dw kc hlt k0 c1 c2 sj (hid (HY rfl))
  ·rcases nu hop with e | e | e | e
   ·rw[ahD S e]at HY HN;rw[e]at c2;exact Qc F gp cap g az ns.length j (dG bs j) (aA ns j).l (dG bs (aA ns j).l) (S j) (S (aA ns j).l) u (qb ns S) Q0 w m hc dw kc hlt hl k0 c1 c2 sj (lp (by rw[e];rfl)) (bZ _ hl).1 (bZ _ hl).2 (hid HY) (hid HN)
   ·rw[ahv S e]at HY HN;rw[e]at c2;exact PZ F gp cap g az ns.length j (dG bs j) (aA ns j).l (dG bs (aA ns j).l) (S j) (S (aA ns j).l) u (qb ns S) Q0 w m hc dw kc hlt hl k0 c1 c2 sj (lp (by rw[e];rfl)) (bZ _ hl).1 (bZ _ hl).2 (hid (HY rfl))
   ·rw[ahz S e]at HY HN;rw[e]at c2;exact P8 F gp cap g az ns.length j (dG bs j) (aA ns j).l (dG bs (aA ns j).l) (S j) (S (aA ns j).l) u (qb ns S) Q0 w m hc dw kc hlt hl k0 c1 c2 sj (lp (by rw[e];rfl)) (bZ _ hl).1 (bZ _ hl).2 (hid HY) (hid HN)
   ·rw[ahy S e]at HY HN;rw[e]at c2;exact P7 F gp cap g az ns.length j (dG bs j) (aA ns j).l (dG bs (aA ns j).l) (S j) (S (aA ns j).l) u (qb ns S) Q0 w m hc dw kc hlt hl k0 c1 c2 sj (lp (by rw[e];rfl)) (bZ _ hl).1 (bZ _ hl).2 (hid HY) (hid HN)
  ·rcases ky hop with e | e | e | e
   ·rw[ahC S e]at HY HN;rw[e]at c2;exact Qb F gp cap g az ns.length j (dG bs j) (aA ns j).l (dG bs (aA ns j).l) (aA ns j).r (dG bs (aA ns j).r) (S j) (S (aA ns j).l) (S (aA ns j).r) u (qb ns S) Q0 w m hc dw kc hlt hl fF k0 c1 c2 sj (lp (by rw[e];rfl)) (bZ _ hl).1 (bZ _ hl).2 (rp (by rw[e];rfl)) (bZ _ fF).1 (bZ _ fF).2 (hid HY) (hid HN)
   ·rw[ac9 S e]at HY HN;rw[e]at c2;exact Mx F gp cap g az ns.length j (dG bs j) (aA ns j).l (dG bs (aA ns j).l) (aA ns j).r (dG bs (aA ns j).r) (S j) (S (aA ns j).l) (S (aA ns j).r) u (qb ns S) Q0 w m hc dw kc hlt hl fF k0 c1 c2 sj (lp (by rw[e];rfl)) (bZ _ hl).1 (bZ _ hl).2 (rp (by rw[e];rfl)) (bZ _ fF).1 (bZ _ fF).2 (hid HY) (hid HN)
   ·rw[ahw S e]at HY HN;rw[e]at c2;exact P5 F gp cap g az ns.length j (dG bs j) (aA ns j).l (dG bs (aA ns j).l) (aA ns j).r (dG bs (aA ns j).r) (S j) (S (aA ns j).l) (S (aA ns j).r) u (qb ns S) Q0 w m hc dw kc hlt hl fF k0 c1 c2 sj (lp (by rw[e];rfl)) (bZ _ hl).1 (bZ _ hl).2 (rp (by rw[e];rfl)) (bZ _ fF).1 (bZ _ fF).2 (hid HY) (hid HN)
   ·rw[ahx S e]at HY HN;rw[e]at c2;exact P6 F gp cap g az ns.length j (dG bs j) (aA ns j).l (dG bs (aA ns j).l) (aA ns j).r (dG bs (aA ns j).r) (S j) (S (aA ns j).l) (S (aA ns j).r) u (qb ns S) Q0 w m hc dw kc hlt hl fF k0 c1 c2 sj (lp (by rw[e];rfl)) (bZ _ hl).1 (bZ _ hl).2 (rp (by rw[e];rfl)) (bZ _ fF).1 (bZ _ fF).2 (hid HY) (hid HN)
 ·obtain rfl:j=ns.length:=by omega
  exact aeD F gp cap g az ns.length u _ Q0 w m dw kc k0 (hx (qN.2 hP))
theorem aeB(hf:FR w F gp cap ns bs)(hs:Rb w g ns.length S)(hg:Good ns)(hc:ns.length<=az) :
  Calls Tryz.prog 120 #[.pointer (some ⟨F,0,none⟩),.slice (some ⟨g,0,none⟩) ns.length az] w λe w'=>e=.returned (.bool (zK ns S))/\∃ m,w'=w.drewN m:=by
 have L:=abp F gp cap g az ns bs S w hf hs hg hc;have HL:=hid L;clear L hf hs hg hc;generalize ns.length=n at *;go_enter Tryz.func120,Tryz.ntmps120;go_wp2_with fail;refine HL.out _ ?_ ?_ _ _ ?_
 ·intro h a' w'' d0 d1 hm;obtain⟨m,rfl⟩:=hm;obtain⟨u,_,rfl⟩:=Db d0 d1;have H:=hid h;clear h HL d0 d1;go_wp2_with fail;go_ret;exact⟨by rw[H.out];rfl,m,rfl⟩
 ·intro h a' w'' d0 d1 h4 hm;obtain⟨m,rfl⟩:=hm;obtain⟨u,_,rfl⟩:=Db d0 d1;have H:=hid h;have h5:u 4=.bool false:=h4;have H5:=hid h5;clear h HL d0 d1 h4 h5;go_wp2_with fail;go_ret;exact⟨by rw[H.out];exact congrArg Ending.returned H5.out,m,rfl⟩
 ·exact⟨rfl,rfl,by simp,0,aA8 _,rfl,λk hk=>by omega,0,rfl⟩
end
section
variable (F gp cap g az:Nat) (ns:List Nd) (bs:List Nat) (S:Nat->Bool) (w:World)
theorem IV(x:Nat)(hx:x<8)(hf:FR w F gp cap ns bs)(hs:Rb w g ns.length S)(hg:Good ns)(hc:ns.length<=az) :
  Calls Tryz.prog 81 #[.pointer (some ⟨F,0,none⟩),.slice (some ⟨g,0,none⟩) ns.length az,.int .i64 x] w λe w'=>e=.returned (.bool (jL ns S x))/\w'=w:=by
 have dw:=hg.le;have k0:=hf.c0;have kc:=hf.hcap;have HN:=hid (λk hk h=>MP (ns:=ns) (p:=λnd k=>nR nd k S x) (k:=k) hk h);have HY:=hid (qN (ns:=ns) (p:=λnd k=>nR nd k S x)).2;have HF:=hid hf;have HS:=hid hs;have HW:=hid hg.wf;unfold jL;generalize Gh ns (λnd k=>nR nd k S x)=V at *;have hlen:∃ n,n=ns.length:=⟨_,rfl⟩;obtain⟨n,hn⟩:=hlen;rw[<-hn]at k0 kc dw hc ⊢;have HNN:=hid hn;clear hn hf hs hg;go_enter Tryz.func81,Tryz.ntmps81;go_wp2_with fail
 go_loop [7] (λi=>∃ j:Nat,j<=n/\i=.int .i64 j/\Hid (∀ k,k<j->nR (aA ns k) k S x=true)) (λi=>n - (intOf i).toNat)
 case atStart=>exact⟨0,aA8 _,rfl,hid (λk hk=>by omega)⟩
 case round=>
  obtain⟨j,hj,rfl,HI⟩:=hrel;by_cases hlt:j<n
  ·have hjn:j<ns.length:=by rw[<-HNN.out];exact hlt
   have c1:=HF.out.ptr j hjn;have c2:=HF.out.op j hjn;have sj:=HS.out.cell j hjn;have hcl:=dS HW.out (jo hjn);have Ef:Hid (nR (aA ns j) j S x=false->V=false):=hid (λh=>HN.out j hjn h);have Iz:Hid (nR (aA ns j) j S x=true->∀ k,k<j+1->nR (aA ns k) k S x=true):=hid (λh k hk=>by
    by_cases e:k<j
    ·exact HI.out k e
    ·rw[show k=j by omega];exact h)
   have ho8:(aA ns j).op<256:=by
    rcases hcl.1 with h | h | h
    ·rcases lD h with e | e | e | e | e <;> omega
    ·rcases nu h with e | e | e | e <;> omega
    ·rcases ky h with e | e | e | e <;> omega
   have HV:Hid (nR (aA ns j) j S x=if (aA ns j).op=112\/(aA ns j).op=113\/(aA ns j).op=114 then jU x (aA ns j).op==S j else true):=hid rfl;generalize nR (aA ns j) j S x=rv at *;generalize (aA ns j).op=op at *;generalize dG bs j=b at *;clear hcl;generalize S j=va at *;by_cases hp:op=112\/op=113\/op=114
   ·have SY:=Cr x op w hx hp;have vY:Hid (rv=(jU x op==va)):=hid (by rw[HV.out,aBU hp]);generalize jU x op=sv at *;rcases hp with rfl | rfl | rfl
    all_goals
     go_wp2_with fail;refine SY.mono ?_;rintro e w' ⟨rfl,rfl⟩;go_wp2_with fail
     all_goals
      first
      | (
        go_round
        case rel=>exact⟨j+1,by omega,by go_num,hid (Iz.out (by rw[vY.out];cases sv <;> cases va <;> first | rfl | contradiction))⟩
        case measure=>simp[intOf];omega)
      | (
        go_ret;exact⟨by rw[Ef.out (by rw[vY.out];cases sv <;> cases va <;> first | rfl | contradiction)];rfl,rfl⟩)
   ·have vY:Hid (rv=true):=hid (by rw[HV.out,aBT hp]);have k1:((op:Int)==112)=false:=aA6.2 (by omega);have k2:((op:Int)==113)=false:=aA6.2 (by omega);have k3:((op:Int)==114)=false:=aA6.2 (by omega);clear hp;go_wp2_with fail
    go_round
    case rel=>exact⟨j+1,by omega,by go_num,hid (Iz.out vY.out)⟩
    case measure=>simp[intOf];omega
  ·have HT:Hid (V=true):=hid (HY.out (λk hk=>HI.out k (by rw[<-HNN.out]at hk;omega)));go_wp2_with fail;go_ret;exact⟨by rw[HT.out];rfl,rfl⟩
theorem Rp(k:Nat)(hk:k<ns.length)(hf:FR w F gp cap ns bs)(hs:Rb w g ns.length S)(hg:Good ns)(hc:ns.length<=az) :
  Calls Tryz.prog 83 #[.pointer (some ⟨F,0,none⟩),.slice (some ⟨g,0,none⟩) ns.length az,.int .i64 k] w λe w'=>e=.returned (.bool (ic (aA ns k) k S))/\w'=w:=by
 have dw:=hg.le;have k0:=hf.c0;have kc:=hf.hcap;have c1:=hf.ptr k hk;have c2:=hf.op k hk;have sj:=hs.cell k hk;have hcl:=dS hg.wf (jo hk);have bZ:=hid (λi (hi:i<k)=>(⟨hf.nn i (by omega),hs.cell i (by omega)⟩:w.cell? ⟨dG bs i,3,none⟩=some (.int .i64 i)/\w.cell? ⟨g,i,none⟩=some (.bool (S i))));have lp:=hid (hf.lp k hk);have rp:=hid (hf.rp k hk);clear hf hs hg;have HV:Hid (ic (aA ns k) k S=if (aA ns k).op=70 then S (aA ns k).l||!S k else if (aA ns k).op=85 then S (aA ns k).r||!S k else if (aA ns k).op=71 then S k||!S (aA ns k).l else if (aA ns k).op=82 then S k||!S (aA ns k).r else true):=hid rfl;generalize ic (aA ns k) k S=V at *;generalize aA ns k=nd at *;generalize dG bs k=b at *;have hn8:ns.length<=8:=dw;generalize ns.length=n at *;by_cases h1:nd.op=70
 ·have lpp:=lp.out (by rw[h1];rfl);obtain⟨ln,ls⟩:=bZ.out nd.l (hcl.2.1 (by rw[h1];rfl));have hlk:=hcl.2.1 (by rw[h1];rfl);have vY:Hid (V=(S nd.l||!S k)):=hid (by rw[HV.out,aBU h1]);rw[h1]at c2;clear HV h1 lp rp hcl;generalize nd.l=l at *;generalize dG bs l=bl at *;generalize S l=vl at *;generalize S k=vk at *;cases vl <;> cases vk
  all_goals
   go_enter Tryz.func83,Tryz.ntmps83;go_wp2_with fail;go_ret;exact⟨by rw[vY.out];rfl,rfl⟩
 by_cases h2:nd.op=85
 ·have rpp:=rp.out (by rw[h2];rfl);obtain⟨rn,rs⟩:=bZ.out nd.r (hcl.2.2 (by rw[h2];rfl));have hrk:=hcl.2.2 (by rw[h2];rfl);have vY:Hid (V=(S nd.r||!S k)):=hid (by rw[HV.out,aBT h1,aBU h2]);rw[h2]at c2;clear HV h1 h2 lp rp hcl;generalize nd.r=r at *;generalize dG bs r=br at *;generalize S r=vl at *;generalize S k=vk at *;cases vl <;> cases vk
  all_goals
   go_enter Tryz.func83,Tryz.ntmps83;go_wp2_with fail;go_ret;exact⟨by rw[vY.out];rfl,rfl⟩
 by_cases h3:nd.op=71
 ·have lpp:=lp.out (by rw[h3];rfl);obtain⟨ln,ls⟩:=bZ.out nd.l (hcl.2.1 (by rw[h3];rfl));have hlk:=hcl.2.1 (by rw[h3];rfl);have vY:Hid (V=(S k||!S nd.l)):=hid (by rw[HV.out,aBT h1,aBT h2,aBU h3]);rw[h3]at c2;clear HV h1 h2 h3 lp rp hcl;generalize nd.l=l at *;generalize dG bs l=bl at *;generalize S l=vl at *;generalize S k=vk at *;cases vl <;> cases vk
  all_goals
   go_enter Tryz.func83,Tryz.ntmps83;go_wp2_with fail;go_ret;exact⟨by rw[vY.out];rfl,rfl⟩
 by_cases h4:nd.op=82
 ·have rpp:=rp.out (by rw[h4];rfl);obtain⟨rn,rs⟩:=bZ.out nd.r (hcl.2.2 (by rw[h4];rfl));have hrk:=hcl.2.2 (by rw[h4];rfl);have vY:Hid (V=(S k||!S nd.r)):=hid (by rw[HV.out,aBT h1,aBT h2,aBT h3,aBU h4]);rw[h4]at c2;clear HV h1 h2 h3 h4 lp rp hcl;generalize nd.r=r at *;generalize dG bs r=br at *;generalize S r=vl at *;generalize S k=vk at *;cases vl <;> cases vk
  all_goals
   go_enter Tryz.func83,Tryz.ntmps83;go_wp2_with fail;go_ret;exact⟨by rw[vY.out];rfl,rfl⟩
 have vY:Hid (V=true):=hid (by rw[HV.out,aBT h1,aBT h2,aBT h3,aBT h4]);generalize nd.op=op at *;have q1:((op:Int)==70)=false:=aA6.2 (by omega);have q2:((op:Int)==85)=false:=aA6.2 (by omega);have q3:((op:Int)==71)=false:=aA6.2 (by omega);have q4:((op:Int)==82)=false:=aA6.2 (by omega);clear HV h1 h2 h3 h4 lp rp hcl;go_enter Tryz.func83,Tryz.ntmps83;go_wp2_with fail;go_ret;exact⟨by rw[vY.out];rfl,rfl⟩
end
