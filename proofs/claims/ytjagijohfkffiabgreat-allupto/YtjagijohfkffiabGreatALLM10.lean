import Derived.Test.YtjagijohfkffiabGreatALLM09
set_option maxHeartbeats 16000000
set_option maxRecDepth 1000000
set_option linter.unusedSimpArgs false
namespace Go.Proofs.YtjagijohfkffiabGreat
open Go.RowKit
set_option linter.unusedVariables false
def jZ(F g ay h bJ n j:Nat)(u:Nat->Value):Act:=⟨#[.pointer (some ⟨F,0,none⟩),.slice (some ⟨g,0,none⟩) n ay,.slice (some ⟨h,0,none⟩) n bJ,u 3,u 4,u 5,u 6,.int .i64 (j:Nat),u 8,u 9,u 10,u 11,u 12,u 13,u 14,u 15,u 16,u 17,u 18,u 19,u 20,u 21,u 22,u 23,u 24,u 25,u 26,u 27,u 28,u 29,u 30,u 31,u 32,u 33,u 34,u 35,u 36,u 37,u 38,u 39,u 40,u 41,u 42,u 43,u 44,u 45,u 46,u 47,u 48,u 49,u 50,u 51,u 52,u 53,u 54,u 55,u 56,u 57,u 58,u 59,u 60,u 61,u 62,u 63,u 64,u 65,u 66,u 67,u 68,u 69,u 70,u 71,u 72,u 73,u 74,u 75,u 76,u 77,u 78,u 79,u 80,u 81,u 82,u 83,u 84,u 85,u 86,u 87,u 88,u 89,u 90,u 91,u 92,u 93,u 94,u 95,u 96,u 97,u 98,u 99,u 100,u 101,u 102,u 103,u 104,u 105,u 106,u 107,u 108,u 109,u 110,u 111,u 112,u 113,u 114,u 115,u 116,u 117,u 118,u 119,u 120,u 121,u 122,u 123,u 124,u 125,u 126,u 127,u 128,u 129,u 130,u 131,u 132,u 133,u 134,u 135,u 136,u 137,u 138,u 139,u 140,u 141,u 142,u 143,u 144,u 145,u 146,u 147,u 148,u 149,u 150,u 151,u 152,u 153,u 154,u 155,u 156,u 157,u 158,u 159,u 160,u 161,u 162,u 163,u 164],[]⟩
theorem U8(F gp cap g h ay bJ n j b:Nat)(u:Nat->Value)(P:Nat->Prop)(Q0:Exit->Act->World->Prop)(w:World)(m:Nat)
  (hc:n<=ay) (hd:n<=bJ) (di:n<=8) (kc:n<=cap) (hlt:j<n)
  (k0:w.cell? ⟨F,0,none⟩=some (.slice (some ⟨gp,0,none⟩) n cap)) (c1:w.cell? ⟨gp,j,none⟩=some (.pointer (some ⟨b,0,none⟩))) (c2:w.cell? ⟨b,0,none⟩=some (.int .u8 48))
  (hy:Hid (P (j+1))) :
  Code.wp Tryz.prog (eX Tryz.f121) (Exit.then (λa' w''=>GI 165 [(0,.pointer (some ⟨F,0,none⟩)),(1,.slice (some ⟨g,0,none⟩) n ay),(2,.slice (some ⟨h,0,none⟩) n bJ)] 7 n P w a' w''/\GM 7 n a' w''<n - j) Q0)
   (jZ F g ay h bJ n j u) (w.drewN m):=by
 unfold jZ
 conv=>arg 2;whnf
 go_wp2_with fail;exact⟨⟨rfl,rfl,by simp,j+1,by omega,by go_num,hy.out,_,rfl⟩,by simp[GM,intOf];omega⟩
theorem U6(F gp cap g h ay bJ n j b:Nat)(u:Nat->Value)(P:Nat->Prop)(Q0:Exit->Act->World->Prop)(w:World)(m:Nat)
  (hc:n<=ay) (hd:n<=bJ) (di:n<=8) (kc:n<=cap) (hlt:j<n)
  (k0:w.cell? ⟨F,0,none⟩=some (.slice (some ⟨gp,0,none⟩) n cap)) (c1:w.cell? ⟨gp,j,none⟩=some (.pointer (some ⟨b,0,none⟩))) (c2:w.cell? ⟨b,0,none⟩=some (.int .u8 49))
  (hy:Hid (P (j+1))) :
  Code.wp Tryz.prog (eX Tryz.f121) (Exit.then (λa' w''=>GI 165 [(0,.pointer (some ⟨F,0,none⟩)),(1,.slice (some ⟨g,0,none⟩) n ay),(2,.slice (some ⟨h,0,none⟩) n bJ)] 7 n P w a' w''/\GM 7 n a' w''<n - j) Q0)
   (jZ F g ay h bJ n j u) (w.drewN m):=by
 unfold jZ
 conv=>arg 2;whnf
 go_wp2_with fail;exact⟨⟨rfl,rfl,by simp,j+1,by omega,by go_num,hy.out,_,rfl⟩,by simp[GM,intOf];omega⟩
theorem Rj(F gp cap g h ay bJ n j b:Nat)(u:Nat->Value)(P:Nat->Prop)(Q0:Exit->Act->World->Prop)(w:World)(m:Nat)
  (hc:n<=ay) (hd:n<=bJ) (di:n<=8) (kc:n<=cap) (hlt:j<n)
  (k0:w.cell? ⟨F,0,none⟩=some (.slice (some ⟨gp,0,none⟩) n cap)) (c1:w.cell? ⟨gp,j,none⟩=some (.pointer (some ⟨b,0,none⟩))) (c2:w.cell? ⟨b,0,none⟩=some (.int .u8 112))
  (hy:Hid (P (j+1))) :
  Code.wp Tryz.prog (eX Tryz.f121) (Exit.then (λa' w''=>GI 165 [(0,.pointer (some ⟨F,0,none⟩)),(1,.slice (some ⟨g,0,none⟩) n ay),(2,.slice (some ⟨h,0,none⟩) n bJ)] 7 n P w a' w''/\GM 7 n a' w''<n - j) Q0)
   (jZ F g ay h bJ n j u) (w.drewN m):=by
 unfold jZ
 conv=>arg 2;whnf
 go_wp2_with fail;exact⟨⟨rfl,rfl,by simp,j+1,by omega,by go_num,hy.out,_,rfl⟩,by simp[GM,intOf];omega⟩
theorem Ri(F gp cap g h ay bJ n j b:Nat)(u:Nat->Value)(P:Nat->Prop)(Q0:Exit->Act->World->Prop)(w:World)(m:Nat)
  (hc:n<=ay) (hd:n<=bJ) (di:n<=8) (kc:n<=cap) (hlt:j<n)
  (k0:w.cell? ⟨F,0,none⟩=some (.slice (some ⟨gp,0,none⟩) n cap)) (c1:w.cell? ⟨gp,j,none⟩=some (.pointer (some ⟨b,0,none⟩))) (c2:w.cell? ⟨b,0,none⟩=some (.int .u8 113))
  (hy:Hid (P (j+1))) :
  Code.wp Tryz.prog (eX Tryz.f121) (Exit.then (λa' w''=>GI 165 [(0,.pointer (some ⟨F,0,none⟩)),(1,.slice (some ⟨g,0,none⟩) n ay),(2,.slice (some ⟨h,0,none⟩) n bJ)] 7 n P w a' w''/\GM 7 n a' w''<n - j) Q0)
   (jZ F g ay h bJ n j u) (w.drewN m):=by
 unfold jZ
 conv=>arg 2;whnf
 go_wp2_with fail;exact⟨⟨rfl,rfl,by simp,j+1,by omega,by go_num,hy.out,_,rfl⟩,by simp[GM,intOf];omega⟩
theorem Rh(F gp cap g h ay bJ n j b:Nat)(u:Nat->Value)(P:Nat->Prop)(Q0:Exit->Act->World->Prop)(w:World)(m:Nat)
  (hc:n<=ay) (hd:n<=bJ) (di:n<=8) (kc:n<=cap) (hlt:j<n)
  (k0:w.cell? ⟨F,0,none⟩=some (.slice (some ⟨gp,0,none⟩) n cap)) (c1:w.cell? ⟨gp,j,none⟩=some (.pointer (some ⟨b,0,none⟩))) (c2:w.cell? ⟨b,0,none⟩=some (.int .u8 114))
  (hy:Hid (P (j+1))) :
  Code.wp Tryz.prog (eX Tryz.f121) (Exit.then (λa' w''=>GI 165 [(0,.pointer (some ⟨F,0,none⟩)),(1,.slice (some ⟨g,0,none⟩) n ay),(2,.slice (some ⟨h,0,none⟩) n bJ)] 7 n P w a' w''/\GM 7 n a' w''<n - j) Q0)
   (jZ F g ay h bJ n j u) (w.drewN m):=by
 unfold jZ
 conv=>arg 2;whnf
 go_wp2_with fail;exact⟨⟨rfl,rfl,by simp,j+1,by omega,by go_num,hy.out,_,rfl⟩,by simp[GM,intOf];omega⟩
theorem Va(F gp cap g h ay bJ n j b:Nat)(u:Nat->Value)(P:Nat->Prop)(Q0:Exit->Act->World->Prop)(w:World)(m:Nat)
  (hc:n<=ay) (hd:n<=bJ) (di:n<=8) (kc:n<=cap) (hlt:j<n)
  (k0:w.cell? ⟨F,0,none⟩=some (.slice (some ⟨gp,0,none⟩) n cap)) (c1:w.cell? ⟨gp,j,none⟩=some (.pointer (some ⟨b,0,none⟩))) (c2:w.cell? ⟨b,0,none⟩=some (.int .u8 33))
  (hy:Hid (P (j+1))) :
  Code.wp Tryz.prog (eX Tryz.f121) (Exit.then (λa' w''=>GI 165 [(0,.pointer (some ⟨F,0,none⟩)),(1,.slice (some ⟨g,0,none⟩) n ay),(2,.slice (some ⟨h,0,none⟩) n bJ)] 7 n P w a' w''/\GM 7 n a' w''<n - j) Q0)
   (jZ F g ay h bJ n j u) (w.drewN m):=by
 unfold jZ
 conv=>arg 2;whnf
 go_wp2_with fail;exact⟨⟨rfl,rfl,by simp,j+1,by omega,by go_num,hy.out,_,rfl⟩,by simp[GM,intOf];omega⟩
theorem UX(F gp cap g h ay bJ n j b l bl:Nat)(va vl tl tj:Bool)(u:Nat->Value)(P:Nat->Prop)(Q0:Exit->Act->World->Prop)(w:World)(m:Nat)
  (hc:n<=ay) (hd:n<=bJ) (di:n<=8) (kc:n<=cap) (hlt:j<n) (hl:l<j)
  (k0:w.cell? ⟨F,0,none⟩=some (.slice (some ⟨gp,0,none⟩) n cap)) (c1:w.cell? ⟨gp,j,none⟩=some (.pointer (some ⟨b,0,none⟩))) (c2:w.cell? ⟨b,0,none⟩=some (.int .u8 88))
  (sj:w.cell? ⟨g,j,none⟩=some (.bool va)) (hj:w.cell? ⟨h,j,none⟩=some (.bool tj)) (lp:w.cell? ⟨b,1,none⟩=some (.pointer (some ⟨bl,0,none⟩))) (ln:w.cell? ⟨bl,3,none⟩=some (.int .i64 l)) (ls:w.cell? ⟨g,l,none⟩=some (.bool vl)) (lt:w.cell? ⟨h,l,none⟩=some (.bool tl))
  (hy:Hid ((va==tl)=true->P (j+1))) (hn:Hid ((va==tl)=false->∀ a' w'',a'.defers=[]->a'.tmps.size=165->a'.tmps.getD 6 undef=.bool false->(∃ m,w''=w.drewN m)->Q0 .ret a' w'')) :
  Code.wp Tryz.prog (eX Tryz.f121) (Exit.then (λa' w''=>GI 165 [(0,.pointer (some ⟨F,0,none⟩)),(1,.slice (some ⟨g,0,none⟩) n ay),(2,.slice (some ⟨h,0,none⟩) n bJ)] 7 n P w a' w''/\GM 7 n a' w''<n - j) Q0)
   (jZ F g ay h bJ n j u) (w.drewN m):=by
 unfold jZ
 conv=>arg 2;whnf
 go_wp2_with fail
 all_goals go_quiet (fail)
 all_goals go_wp2_with fail
 all_goals
  first
  | exact⟨⟨rfl,rfl,by simp,j+1,by omega,by go_num,hy.out (by cases va <;> cases tl <;> first | rfl | contradiction),_,rfl⟩,by simp[GM,intOf];omega⟩
  | exact hn.out (by cases va <;> cases tl <;> first | rfl | contradiction) _ _ rfl rfl rfl ⟨_,rfl⟩
theorem U4(F gp cap g h ay bJ n j b l bl:Nat)(va vl tl tj:Bool)(u:Nat->Value)(P:Nat->Prop)(Q0:Exit->Act->World->Prop)(w:World)(m:Nat)
  (hc:n<=ay) (hd:n<=bJ) (di:n<=8) (kc:n<=cap) (hlt:j<n) (hl:l<j)
  (k0:w.cell? ⟨F,0,none⟩=some (.slice (some ⟨gp,0,none⟩) n cap)) (c1:w.cell? ⟨gp,j,none⟩=some (.pointer (some ⟨b,0,none⟩))) (c2:w.cell? ⟨b,0,none⟩=some (.int .u8 70))
  (sj:w.cell? ⟨g,j,none⟩=some (.bool va)) (hj:w.cell? ⟨h,j,none⟩=some (.bool tj)) (lp:w.cell? ⟨b,1,none⟩=some (.pointer (some ⟨bl,0,none⟩))) (ln:w.cell? ⟨bl,3,none⟩=some (.int .i64 l)) (ls:w.cell? ⟨g,l,none⟩=some (.bool vl)) (lt:w.cell? ⟨h,l,none⟩=some (.bool tl))
  (hy:Hid ((va==(vl||tj))=true->P (j+1))) (hn:Hid ((va==(vl||tj))=false->∀ a' w'',a'.defers=[]->a'.tmps.size=165->a'.tmps.getD 6 undef=.bool false->(∃ m,w''=w.drewN m)->Q0 .ret a' w'')) :
  Code.wp Tryz.prog (eX Tryz.f121) (Exit.then (λa' w''=>GI 165 [(0,.pointer (some ⟨F,0,none⟩)),(1,.slice (some ⟨g,0,none⟩) n ay),(2,.slice (some ⟨h,0,none⟩) n bJ)] 7 n P w a' w''/\GM 7 n a' w''<n - j) Q0)
   (jZ F g ay h bJ n j u) (w.drewN m):=by
 unfold jZ
 conv=>arg 2;whnf
 go_wp2_with fail;cases vl
 all_goals go_quiet (fail)
 all_goals go_wp2_with fail
 all_goals
  first
  | exact⟨⟨rfl,rfl,by simp,j+1,by omega,by go_num,hy.out (by cases va <;> cases tj <;> first | rfl | contradiction),_,rfl⟩,by simp[GM,intOf];omega⟩
  | exact hn.out (by cases va <;> cases tj <;> first | rfl | contradiction) _ _ rfl rfl rfl ⟨_,rfl⟩
theorem U2(F gp cap g h ay bJ n j b l bl:Nat)(va vl tl tj:Bool)(u:Nat->Value)(P:Nat->Prop)(Q0:Exit->Act->World->Prop)(w:World)(m:Nat)
  (hc:n<=ay) (hd:n<=bJ) (di:n<=8) (kc:n<=cap) (hlt:j<n) (hl:l<j)
  (k0:w.cell? ⟨F,0,none⟩=some (.slice (some ⟨gp,0,none⟩) n cap)) (c1:w.cell? ⟨gp,j,none⟩=some (.pointer (some ⟨b,0,none⟩))) (c2:w.cell? ⟨b,0,none⟩=some (.int .u8 71))
  (sj:w.cell? ⟨g,j,none⟩=some (.bool va)) (hj:w.cell? ⟨h,j,none⟩=some (.bool tj)) (lp:w.cell? ⟨b,1,none⟩=some (.pointer (some ⟨bl,0,none⟩))) (ln:w.cell? ⟨bl,3,none⟩=some (.int .i64 l)) (ls:w.cell? ⟨g,l,none⟩=some (.bool vl)) (lt:w.cell? ⟨h,l,none⟩=some (.bool tl))
  (hy:Hid ((va==(vl&&tj))=true->P (j+1))) (hn:Hid ((va==(vl&&tj))=false->∀ a' w'',a'.defers=[]->a'.tmps.size=165->a'.tmps.getD 6 undef=.bool false->(∃ m,w''=w.drewN m)->Q0 .ret a' w'')) :
  Code.wp Tryz.prog (eX Tryz.f121) (Exit.then (λa' w''=>GI 165 [(0,.pointer (some ⟨F,0,none⟩)),(1,.slice (some ⟨g,0,none⟩) n ay),(2,.slice (some ⟨h,0,none⟩) n bJ)] 7 n P w a' w''/\GM 7 n a' w''<n - j) Q0)
   (jZ F g ay h bJ n j u) (w.drewN m):=by
 unfold jZ
 conv=>arg 2;whnf
 go_wp2_with fail;cases vl
 all_goals go_quiet (fail)
 all_goals go_wp2_with fail
 all_goals
  first
  | exact⟨⟨rfl,rfl,by simp,j+1,by omega,by go_num,hy.out (by cases va <;> cases tj <;> first | rfl | contradiction),_,rfl⟩,by simp[GM,intOf];omega⟩
  | exact hn.out (by cases va <;> cases tj <;> first | rfl | contradiction) _ _ rfl rfl rfl ⟨_,rfl⟩
theorem U9(F gp cap g h ay bJ n j b:Nat)(u:Nat->Value)(P:Nat->Prop)(Q0:Exit->Act->World->Prop)(w:World)(m:Nat)
  (hc:n<=ay) (hd:n<=bJ) (di:n<=8) (kc:n<=cap) (hlt:j<n)
  (k0:w.cell? ⟨F,0,none⟩=some (.slice (some ⟨gp,0,none⟩) n cap)) (c1:w.cell? ⟨gp,j,none⟩=some (.pointer (some ⟨b,0,none⟩))) (c2:w.cell? ⟨b,0,none⟩=some (.int .u8 38))
  (hy:Hid (P (j+1))) :
  Code.wp Tryz.prog (eX Tryz.f121) (Exit.then (λa' w''=>GI 165 [(0,.pointer (some ⟨F,0,none⟩)),(1,.slice (some ⟨g,0,none⟩) n ay),(2,.slice (some ⟨h,0,none⟩) n bJ)] 7 n P w a' w''/\GM 7 n a' w''<n - j) Q0)
   (jZ F g ay h bJ n j u) (w.drewN m):=by
 unfold jZ
 conv=>arg 2;whnf
 go_wp2_with fail;exact⟨⟨rfl,rfl,by simp,j+1,by omega,by go_num,hy.out,_,rfl⟩,by simp[GM,intOf];omega⟩
theorem Rf(F gp cap g h ay bJ n j b:Nat)(u:Nat->Value)(P:Nat->Prop)(Q0:Exit->Act->World->Prop)(w:World)(m:Nat)
  (hc:n<=ay) (hd:n<=bJ) (di:n<=8) (kc:n<=cap) (hlt:j<n)
  (k0:w.cell? ⟨F,0,none⟩=some (.slice (some ⟨gp,0,none⟩) n cap)) (c1:w.cell? ⟨gp,j,none⟩=some (.pointer (some ⟨b,0,none⟩))) (c2:w.cell? ⟨b,0,none⟩=some (.int .u8 124))
  (hy:Hid (P (j+1))) :
  Code.wp Tryz.prog (eX Tryz.f121) (Exit.then (λa' w''=>GI 165 [(0,.pointer (some ⟨F,0,none⟩)),(1,.slice (some ⟨g,0,none⟩) n ay),(2,.slice (some ⟨h,0,none⟩) n bJ)] 7 n P w a' w''/\GM 7 n a' w''<n - j) Q0)
   (jZ F g ay h bJ n j u) (w.drewN m):=by
 unfold jZ
 conv=>arg 2;whnf
 go_wp2_with fail;exact⟨⟨rfl,rfl,by simp,j+1,by omega,by go_num,hy.out,_,rfl⟩,by simp[GM,intOf];omega⟩
theorem UY(F gp cap g h ay bJ n j b l bl r br:Nat)(va vl tl tj vr:Bool)(u:Nat->Value)(P:Nat->Prop)(Q0:Exit->Act->World->Prop)(w:World)(m:Nat)
  (hc:n<=ay) (hd:n<=bJ) (di:n<=8) (kc:n<=cap) (hlt:j<n) (hl:l<j) (hr:r<j)
  (k0:w.cell? ⟨F,0,none⟩=some (.slice (some ⟨gp,0,none⟩) n cap)) (c1:w.cell? ⟨gp,j,none⟩=some (.pointer (some ⟨b,0,none⟩))) (c2:w.cell? ⟨b,0,none⟩=some (.int .u8 85))
  (sj:w.cell? ⟨g,j,none⟩=some (.bool va)) (hj:w.cell? ⟨h,j,none⟩=some (.bool tj)) (lp:w.cell? ⟨b,1,none⟩=some (.pointer (some ⟨bl,0,none⟩))) (ln:w.cell? ⟨bl,3,none⟩=some (.int .i64 l)) (ls:w.cell? ⟨g,l,none⟩=some (.bool vl)) (lt:w.cell? ⟨h,l,none⟩=some (.bool tl))
  (rp:w.cell? ⟨b,2,none⟩=some (.pointer (some ⟨br,0,none⟩))) (rn:w.cell? ⟨br,3,none⟩=some (.int .i64 r)) (rs:w.cell? ⟨g,r,none⟩=some (.bool vr))
  (hy:Hid ((va==(vr||(vl&&tj)))=true->P (j+1))) (hn:Hid ((va==(vr||(vl&&tj)))=false->∀ a' w'',a'.defers=[]->a'.tmps.size=165->a'.tmps.getD 6 undef=.bool false->(∃ m,w''=w.drewN m)->Q0 .ret a' w'')) :
  Code.wp Tryz.prog (eX Tryz.f121) (Exit.then (λa' w''=>GI 165 [(0,.pointer (some ⟨F,0,none⟩)),(1,.slice (some ⟨g,0,none⟩) n ay),(2,.slice (some ⟨h,0,none⟩) n bJ)] 7 n P w a' w''/\GM 7 n a' w''<n - j) Q0)
   (jZ F g ay h bJ n j u) (w.drewN m):=by
 unfold jZ
 conv=>arg 2;whnf
 go_wp2_with fail;cases vr
 all_goals cases vl
 all_goals go_quiet (fail)
 all_goals go_wp2_with fail
 all_goals
  first
  | exact⟨⟨rfl,rfl,by simp,j+1,by omega,by go_num,hy.out (by cases va <;> cases tj <;> first | rfl | contradiction),_,rfl⟩,by simp[GM,intOf];omega⟩
  | exact hn.out (by cases va <;> cases tj <;> first | rfl | contradiction) _ _ rfl rfl rfl ⟨_,rfl⟩
theorem UZ(F gp cap g h ay bJ n j b l bl r br:Nat)(va vl tl tj vr:Bool)(u:Nat->Value)(P:Nat->Prop)(Q0:Exit->Act->World->Prop)(w:World)(m:Nat)
  (hc:n<=ay) (hd:n<=bJ) (di:n<=8) (kc:n<=cap) (hlt:j<n) (hl:l<j) (hr:r<j)
  (k0:w.cell? ⟨F,0,none⟩=some (.slice (some ⟨gp,0,none⟩) n cap)) (c1:w.cell? ⟨gp,j,none⟩=some (.pointer (some ⟨b,0,none⟩))) (c2:w.cell? ⟨b,0,none⟩=some (.int .u8 82))
  (sj:w.cell? ⟨g,j,none⟩=some (.bool va)) (hj:w.cell? ⟨h,j,none⟩=some (.bool tj)) (lp:w.cell? ⟨b,1,none⟩=some (.pointer (some ⟨bl,0,none⟩))) (ln:w.cell? ⟨bl,3,none⟩=some (.int .i64 l)) (ls:w.cell? ⟨g,l,none⟩=some (.bool vl)) (lt:w.cell? ⟨h,l,none⟩=some (.bool tl))
  (rp:w.cell? ⟨b,2,none⟩=some (.pointer (some ⟨br,0,none⟩))) (rn:w.cell? ⟨br,3,none⟩=some (.int .i64 r)) (rs:w.cell? ⟨g,r,none⟩=some (.bool vr))
  (hy:Hid ((va==(vr&&(vl||tj)))=true->P (j+1))) (hn:Hid ((va==(vr&&(vl||tj)))=false->∀ a' w'',a'.defers=[]->a'.tmps.size=165->a'.tmps.getD 6 undef=.bool false->(∃ m,w''=w.drewN m)->Q0 .ret a' w'')) :
  Code.wp Tryz.prog (eX Tryz.f121) (Exit.then (λa' w''=>GI 165 [(0,.pointer (some ⟨F,0,none⟩)),(1,.slice (some ⟨g,0,none⟩) n ay),(2,.slice (some ⟨h,0,none⟩) n bJ)] 7 n P w a' w''/\GM 7 n a' w''<n - j) Q0)
   (jZ F g ay h bJ n j u) (w.drewN m):=by
 unfold jZ
 conv=>arg 2;whnf
 go_wp2_with fail;cases vr
 all_goals cases vl
 all_goals go_quiet (fail)
 all_goals go_wp2_with fail
 all_goals
  first
  | exact⟨⟨rfl,rfl,by simp,j+1,by omega,by go_num,hy.out (by cases va <;> cases tj <;> first | rfl | contradiction),_,rfl⟩,by simp[GM,intOf];omega⟩
  | exact hn.out (by cases va <;> cases tj <;> first | rfl | contradiction) _ _ rfl rfl rfl ⟨_,rfl⟩
theorem ajY(F gp cap g h ay bJ n:Nat)(u:Nat->Value)(Z:Act->World->Prop)(Q0:Exit->Act->World->Prop)(w:World)(m:Nat)(di:n<=8)(kc:n<=cap)
  (k0:w.cell? ⟨F,0,none⟩=some (.slice (some ⟨gp,0,none⟩) n cap)) (hx:∀ a' w'',a'.defers=[]->a'.tmps.size=165->(∃ m,w''=w.drewN m)->Q0 (.exit 0) a' w'') :
  Code.wp Tryz.prog (eX Tryz.f121) (Exit.then Z Q0) (jZ F g ay h bJ n n u) (w.drewN m):=by
 unfold jZ
 conv=>arg 2;whnf
 go_wp2_with fail;exact hx _ _ rfl rfl ⟨_,rfl⟩
theorem ai4(S T:Nat->Bool){k:Nat}{nd:Nd}(h:nd.op=48):iO nd k S T=true:=by simp[iO,h]
theorem ai3(S T:Nat->Bool){k:Nat}{nd:Nd}(h:nd.op=49):iO nd k S T=true:=by simp[iO,h]
theorem aeT(S T:Nat->Bool){k:Nat}{nd:Nd}(h:nd.op=112):iO nd k S T=true:=by simp[iO,h]
theorem aeS(S T:Nat->Bool){k:Nat}{nd:Nd}(h:nd.op=113):iO nd k S T=true:=by simp[iO,h]
theorem aeR(S T:Nat->Bool){k:Nat}{nd:Nd}(h:nd.op=114):iO nd k S T=true:=by simp[iO,h]
theorem ai6(S T:Nat->Bool){k:Nat}{nd:Nd}(h:nd.op=33):iO nd k S T=true:=by simp[iO,h]
theorem aiY(S T:Nat->Bool){k:Nat}{nd:Nd}(h:nd.op=88):iO nd k S T=(S k==T nd.l):=by simp[iO,h]
theorem ai2(S T:Nat->Bool){k:Nat}{nd:Nd}(h:nd.op=70):iO nd k S T=(S k==(S nd.l||T k)):=by simp[iO,h]
theorem ai1(S T:Nat->Bool){k:Nat}{nd:Nd}(h:nd.op=71):iO nd k S T=(S k==(S nd.l&&T k)):=by simp[iO,h]
theorem ai5(S T:Nat->Bool){k:Nat}{nd:Nd}(h:nd.op=38):iO nd k S T=true:=by simp[iO,h]
theorem aeQ(S T:Nat->Bool){k:Nat}{nd:Nd}(h:nd.op=124):iO nd k S T=true:=by simp[iO,h]
theorem aiZ(S T:Nat->Bool){k:Nat}{nd:Nd}(h:nd.op=85):iO nd k S T=(S k==(S nd.r||(S nd.l&&T k))):=by simp[iO,h]
theorem ai0(S T:Nat->Bool){k:Nat}{nd:Nd}(h:nd.op=82):iO nd k S T=(S k==(S nd.r&&(S nd.l||T k))):=by simp[iO,h]
theorem Hl{a:Act}(h0:a.defers=[])(h1:a.tmps.size=165):∃ u:Nat->Value,(∀ i,u i=a.tmps.getD i undef)/\a=⟨#[u 0,u 1,u 2,u 3,u 4,u 5,u 6,u 7,u 8,u 9,u 10,u 11,u 12,u 13,u 14,u 15,u 16,u 17,u 18,u 19,u 20,u 21,u 22,u 23,u 24,u 25,u 26,u 27,u 28,u 29,u 30,u 31,u 32,u 33,u 34,u 35,u 36,u 37,u 38,u 39,u 40,u 41,u 42,u 43,u 44,u 45,u 46,u 47,u 48,u 49,u 50,u 51,u 52,u 53,u 54,u 55,u 56,u 57,u 58,u 59,u 60,u 61,u 62,u 63,u 64,u 65,u 66,u 67,u 68,u 69,u 70,u 71,u 72,u 73,u 74,u 75,u 76,u 77,u 78,u 79,u 80,u 81,u 82,u 83,u 84,u 85,u 86,u 87,u 88,u 89,u 90,u 91,u 92,u 93,u 94,u 95,u 96,u 97,u 98,u 99,u 100,u 101,u 102,u 103,u 104,u 105,u 106,u 107,u 108,u 109,u 110,u 111,u 112,u 113,u 114,u 115,u 116,u 117,u 118,u 119,u 120,u 121,u 122,u 123,u 124,u 125,u 126,u 127,u 128,u 129,u 130,u 131,u 132,u 133,u 134,u 135,u 136,u 137,u 138,u 139,u 140,u 141,u 142,u 143,u 144,u 145,u 146,u 147,u 148,u 149,u 150,u 151,u 152,u 153,u 154,u 155,u 156,u 157,u 158,u 159,u 160,u 161,u 162,u 163,u 164],[]⟩:=by
 refine⟨λi=>a.tmps.getD i undef,λ_=>rfl,?_⟩;obtain⟨t,d⟩:=a;simp only at h0 h1;subst h0;have:=QH h1;exact congrArg (λx=>(⟨x,[]⟩:Act)) this
section
variable (F gp cap g h ay bJ:Nat) (ns:List Nd) (bs:List Nat) (S T:Nat->Bool) (w:World)
def su(j:Nat):Prop:=∀ k,k<j->iO (au ns k) k S T=true
theorem agj(hf:FR w F gp cap ns bs)(hs:Rb w g ns.length S)(ht:Rb w h ns.length T)(hg:Good ns)(hc:ns.length<=ay)(hd:ns.length<=bJ)(Q0:Exit->Act->World->Prop)
  (hx:Eo ns S T=true->∀ a' w'',a'.defers=[]->a'.tmps.size=165->(∃ m,w''=w.drewN m)->Q0 (.exit 0) a' w'')
  (hr:Eo ns S T=false->∀ a' w'',a'.defers=[]->a'.tmps.size=165->a'.tmps.getD 6 undef=.bool false->(∃ m,w''=w.drewN m)->Q0 .ret a' w'')
  (a:Act) (w':World) (hI:GI 165 [(0,.pointer (some ⟨F,0,none⟩)),(1,.slice (some ⟨g,0,none⟩) ns.length ay),(2,.slice (some ⟨h,0,none⟩) ns.length bJ)] 7 ns.length (su ns S T) w a w'):Code.wp Tryz.prog (Code.loop (eX Tryz.f121)) Q0 a w':=by
 refine wp_loop (GI 165 [(0,.pointer (some ⟨F,0,none⟩)),(1,.slice (some ⟨g,0,none⟩) ns.length ay),(2,.slice (some ⟨h,0,none⟩) ns.length bJ)] 7 ns.length (su ns S T) w) (GM 7 ns.length) hI ?_;intro a K hI;obtain⟨D,E,t,j,L,v,B,m,rfl⟩:=hI;have x:=t _ (List.mem_cons_self ..);have y:=t _ (List.mem_cons_of_mem _ (List.mem_cons_self ..));have z:=t _ (List.mem_cons_of_mem _ (List.mem_cons_of_mem _ (List.mem_cons_self ..)));have G:GM 7 ns.length a (w.drewN m)=ns.length - j:=by unfold GM;rw[v];simp[intOf]
 rw[G];obtain⟨u,H,I⟩:=Hl D E;simp only at x y z;rw[<-H]at x y z v;rw[I,x,y,z,v];have i:=hg.le;have n:=hf.c0;have o:=hf.hcap;by_cases b:j<ns.length
 ·have c1:=hf.ptr j b;have c2:=hf.op j b;have p:=hs.cell j b;have q:=ht.cell j b;have A:=hg.wf j _ (jS b);have d:∀ k,k<j->w.cell? ⟨dP bs k,3,none⟩=some (.int .i64 k)/\w.cell? ⟨g,k,none⟩=some (.bool (S k))/\w.cell? ⟨h,k,none⟩=some (.bool (T k)):=λk J=>⟨hf.nn k (by omega),hs.cell k (by omega),ht.cell k (by omega)⟩;have c:iO (au ns j) j S T=true->su ns S T (j+1):=λh k J=>by
   by_cases e:k<j
   ·exact B k e
   ·rw[show k=j by omega];exact h
  have f:iO (au ns j) j S T=false->∀ a' w'',a'.defers=[]->a'.tmps.size=165->a'.tmps.getD 6 undef=.bool false->(∃ m,w''=w.drewN m)->Q0 .ret a' w'':=λh=>hr (Oz b h);have s:=hf.lp j b;have C:=hf.rp j b;rcases A with⟨hop,_,_⟩ | ⟨hop,hl,_⟩ | ⟨hop,hl,fV⟩
  ·rcases mZ hop with e | e | e | e | e
   ·rw[ai4 S T e]at c f;rw[e]at c2;exact U8 F gp cap g h ay bJ ns.length j (dP bs j) u (su ns S T) Q0 w m hc hd i o b n c1 c2 (hid (c rfl))
   ·rw[ai3 S T e]at c f;rw[e]at c2;exact U6 F gp cap g h ay bJ ns.length j (dP bs j) u (su ns S T) Q0 w m hc hd i o b n c1 c2 (hid (c rfl))
   ·rw[aeT S T e]at c f;rw[e]at c2;exact Rj F gp cap g h ay bJ ns.length j (dP bs j) u (su ns S T) Q0 w m hc hd i o b n c1 c2 (hid (c rfl))
   ·rw[aeS S T e]at c f;rw[e]at c2;exact Ri F gp cap g h ay bJ ns.length j (dP bs j) u (su ns S T) Q0 w m hc hd i o b n c1 c2 (hid (c rfl))
   ·rw[aeR S T e]at c f;rw[e]at c2;exact Rh F gp cap g h ay bJ ns.length j (dP bs j) u (su ns S T) Q0 w m hc hd i o b n c1 c2 (hid (c rfl))
  ·rcases pQ hop with e | e | e | e
   ·rw[ai6 S T e]at c f;rw[e]at c2;exact Va F gp cap g h ay bJ ns.length j (dP bs j) u (su ns S T) Q0 w m hc hd i o b n c1 c2 (hid (c rfl))
   ·rw[aiY S T e]at c f;rw[e]at c2;exact UX F gp cap g h ay bJ ns.length j (dP bs j) (au ns j).l (dP bs (au ns j).l) (S j) (S (au ns j).l) (T (au ns j).l) (T j) u (su ns S T) Q0 w m hc hd i o b hl n c1 c2 p q (s (by rw[e];rfl)) (d _ hl).1 (d _ hl).2.1 (d _ hl).2.2 (hid c) (hid f)
   ·rw[ai2 S T e]at c f;rw[e]at c2;exact U4 F gp cap g h ay bJ ns.length j (dP bs j) (au ns j).l (dP bs (au ns j).l) (S j) (S (au ns j).l) (T (au ns j).l) (T j) u (su ns S T) Q0 w m hc hd i o b hl n c1 c2 p q (s (by rw[e];rfl)) (d _ hl).1 (d _ hl).2.1 (d _ hl).2.2 (hid c) (hid f)
   ·rw[ai1 S T e]at c f;rw[e]at c2;exact U2 F gp cap g h ay bJ ns.length j (dP bs j) (au ns j).l (dP bs (au ns j).l) (S j) (S (au ns j).l) (T (au ns j).l) (T j) u (su ns S T) Q0 w m hc hd i o b hl n c1 c2 p q (s (by rw[e];rfl)) (d _ hl).1 (d _ hl).2.1 (d _ hl).2.2 (hid c) (hid f)
  ·rcases lJ hop with e | e | e | e
   ·rw[ai5 S T e]at c f;rw[e]at c2;exact U9 F gp cap g h ay bJ ns.length j (dP bs j) u (su ns S T) Q0 w m hc hd i o b n c1 c2 (hid (c rfl))
   ·rw[aeQ S T e]at c f;rw[e]at c2;exact Rf F gp cap g h ay bJ ns.length j (dP bs j) u (su ns S T) Q0 w m hc hd i o b n c1 c2 (hid (c rfl))
   ·rw[aiZ S T e]at c f;rw[e]at c2;exact UY F gp cap g h ay bJ ns.length j (dP bs j) (au ns j).l (dP bs (au ns j).l) (au ns j).r (dP bs (au ns j).r) (S j) (S (au ns j).l) (T (au ns j).l) (T j) (S (au ns j).r) u (su ns S T) Q0 w m hc hd i o b hl fV n c1 c2 p q (s (by rw[e];rfl)) (d _ hl).1 (d _ hl).2.1 (d _ hl).2.2 (C (by rw[e];rfl)) (d _ fV).1 (d _ fV).2.1 (hid c) (hid f)
   ·rw[ai0 S T e]at c f;rw[e]at c2;exact UZ F gp cap g h ay bJ ns.length j (dP bs j) (au ns j).l (dP bs (au ns j).l) (au ns j).r (dP bs (au ns j).r) (S j) (S (au ns j).l) (T (au ns j).l) (T j) (S (au ns j).r) u (su ns S T) Q0 w m hc hd i o b hl fV n c1 c2 p q (s (by rw[e];rfl)) (d _ hl).1 (d _ hl).2.1 (d _ hl).2.2 (C (by rw[e];rfl)) (d _ fV).1 (d _ fV).2.1 (hid c) (hid f)
 ·obtain rfl:j=ns.length:=by omega
  exact ajY F gp cap g h ay bJ ns.length u _ Q0 w m i o n (hx (tY.2 B))
theorem Xg(hf:FR w F gp cap ns bs)(hs:Rb w g ns.length S)(ht:Rb w h ns.length T)(hg:Good ns)(hc:ns.length<=ay)(hd:ns.length<=bJ) :
  Calls Tryz.prog 121 #[.pointer (some ⟨F,0,none⟩),.slice (some ⟨g,0,none⟩) ns.length ay,.slice (some ⟨h,0,none⟩) ns.length bJ] w λe w'=>e=.returned (.bool (Eo ns S T))/\∃ m,w'=w.drewN m:=by
 have L:=agj F gp cap g h ay bJ ns bs S T w hf hs ht hg hc hd;have c:=hid L;clear L hf hs ht hg hc hd;generalize ns.length=n at *;go_enter Tryz.func121,Tryz.ntmps121;go_wp2_with fail;refine c.out _ ?_ ?_ _ _ ?_
 ·intro h l d a b f;obtain⟨m,rfl⟩:=f;obtain⟨u,_,rfl⟩:=Hl a b;have H:=hid h;clear h c a b;go_wp2_with fail;go_ret;exact⟨by rw[H.out];rfl,m,rfl⟩
 ·intro h l d a b i f;obtain⟨m,rfl⟩:=f;obtain⟨u,_,rfl⟩:=Hl a b;have H:=hid h;have j:u 6=.bool false:=i;have o:=hid j;clear h c a b i j;go_wp2_with fail;go_ret;exact⟨by rw[H.out];exact congrArg Ending.returned o.out,m,rfl⟩
 ·exact⟨rfl,rfl,by simp,0,aCg _,rfl,λk p=>by omega,0,rfl⟩
end
theorem Tryz.mE:(Tryz.prog.info? 3).map (λi=>(i.zero,i.size,i.bytes))=some (some (.int .i64 0),1,8):=by kernel_rfl
theorem Tryz.wP:(Tryz.prog.info? 22).map (λi=>(i.zero,i.size,i.bytes))=some (some (.slice none 0 0),1,24):=by kernel_rfl
theorem Tryz.AZ:(Tryz.prog.info? 132).map (λi=>(i.zero,i.size,i.bytes))=some (some (.slice none 0 0),1,24):=by kernel_rfl
def aI(l:List Nat):List Value:=l.map λx=>Value.int .i64 (x:Nat)
def NR(w:World)(v:Value)(l:List Nat):Prop:=
 ∃ ao cap,v=.slice ao l.length cap/\l.length<=cap/\(0<l.length->∃ g,ao=some ⟨g,0,none⟩/\g<w.heap.size/\∀ i,i<l.length->w.cell? ⟨g,i,none⟩=some (.int .i64 (bZ l i:Nat)))
theorem NR.below{w w':World}{v:Value}{l:List Nat}(h:NR w v l)(hb:Below w.heap.size w w'):NR w' v l:=by
 obtain⟨c,cap,e,d,h⟩:=h;refine⟨c,cap,e,d,λf=>?_⟩;obtain⟨g,j,b,a⟩:=h f;exact⟨g,j,aCq b hb.size,λi k=>(hb.cell (p:=⟨g,i,none⟩) b).trans (a i k)⟩
theorem Cw{w:World}{B:Nat}{v:Value}{l:List Nat}(h:w.ownsRow B 3 1 v l.length (aI l)):NR w v l:=by
 rcases h.2 with⟨rfl,h0⟩ | ⟨g,cap,cur,rfl,hb,hh,hc,hm,_⟩
 ·exact⟨none,0,by rw[h0],by omega,λh=>by omega⟩
 ·refine⟨_,cap,rfl,hc,λ_=>⟨g,rfl,dC hh,λi a=>?_⟩⟩;rw[h.cellAt i (by omega)];simp[aI,bZ,List.getD,aB3 a]
def MU(w:World)(v:Value)(N:Nat)(to:Nat->List Nat):Prop:=
 ∃ ao cap,v=.slice ao N cap/\N<=cap/\(0<N->∃ g,ao=some ⟨g,0,none⟩/\g<w.heap.size/\∀ i,i<N->∃ r,w.cell? ⟨g,i,none⟩=some r/\NR w r (to i))
def Q8(w:World)(v:Value)(K N:Nat)(kp:Nat->Nat->Bool):Prop:=
 ∃ ao cap,v=.slice ao K cap/\K<=cap/\(0<K->∃ g,ao=some ⟨g,0,none⟩/\g<w.heap.size/\∀ i,i<K->∃ b,w.cell? ⟨g,i,none⟩=some (.slice (some ⟨b,0,none⟩) N N)/\Rb w b N (kp i))
def YS(w:World)(v:Value)(K N:Nat)(kp:Nat->Nat->Bool):Prop:=
 ∃ ao cap,v=.slice ao K cap/\K<=cap/\(0<K->∃ g,ao=some ⟨g,0,none⟩/\g<w.heap.size/\∀ i,i<K->∃ b c,w.cell? ⟨g,i,none⟩=some (.slice (some ⟨b,0,none⟩) N c)/\N<=c/\Rb w b N (kp i))
theorem Q8.brc{w:World}{v:Value}{K N:Nat}{kp:Nat->Nat->Bool}(h:Q8 w v K N kp):YS w v K N kp:=by
 obtain⟨c,cap,e,d,h⟩:=h;refine⟨c,cap,e,d,λf=>?_⟩;obtain⟨g,j,k,a⟩:=h f;refine⟨g,j,k,λi l=>?_⟩;obtain⟨b,m,n⟩:=a i l;exact⟨b,N,m,aB2 _,n⟩
theorem YS.below{w w':World}{v:Value}{K N:Nat}{kp:Nat->Nat->Bool}(h:YS w v K N kp)(hb:Below w.heap.size w w'):YS w' v K N kp:=by
 obtain⟨f,cap,e,j,h⟩:=h;refine⟨f,cap,e,j,λk=>?_⟩;obtain⟨g,l,d,a⟩:=h k;refine⟨g,l,aCq d hb.size,λi m=>?_⟩;obtain⟨b,c,n,o,q⟩:=a i m;exact⟨b,c,(hb.cell (p:=⟨g,i,none⟩) d).trans n,o,q.below hb⟩
theorem MU.below{w w':World}{v:Value}{N:Nat}{to:Nat->List Nat}(h:MU w v N to)(hb:Below w.heap.size w w'):MU w' v N to:=by
 obtain⟨c,cap,e,d,h⟩:=h;refine⟨c,cap,e,d,λf=>?_⟩;obtain⟨g,j,b,a⟩:=h f;refine⟨g,j,aCq b hb.size,λi k=>?_⟩;obtain⟨r,l,m⟩:=a i k;exact⟨r,(hb.cell (p:=⟨g,i,none⟩) b).trans l,m.below hb⟩
theorem Q8.below{w w':World}{v:Value}{K N:Nat}{kp:Nat->Nat->Bool}(h:Q8 w v K N kp)(hb:Below w.heap.size w w'):Q8 w' v K N kp:=by
 obtain⟨d,cap,e,f,h⟩:=h;refine⟨d,cap,e,f,λj=>?_⟩;obtain⟨g,k,c,a⟩:=h j;refine⟨g,k,aCq c hb.size,λi l=>?_⟩;obtain⟨b,m,n⟩:=a i l;exact⟨b,(hb.cell (p:=⟨g,i,none⟩) c).trans m,n.below hb⟩
structure pI (w:World) (P N:Nat) (to:Nat->List Nat) (K:Nat) (kp:Nat->Nat->Bool):Prop where
 lt:P<w.heap.size
 c0:∃ v,w.cell? ⟨P,0,none⟩=some v/\MU w v N to
 c1:∃ v,w.cell? ⟨P,1,none⟩=some v/\YS w v K N kp
theorem pI.below{w w':World}{P N K:Nat}{to:Nat->List Nat}{kp:Nat->Nat->Bool}(h:pI w P N to K kp)(hb:Below w.heap.size w w'):pI w' P N to K kp:=by
 obtain⟨a,b,c⟩:=h.c0;obtain⟨d,e,f⟩:=h.c1;exact⟨aCq h.lt hb.size,⟨a,(hb.cell (p:=⟨P,0,none⟩) h.lt).trans b,c.below hb⟩,⟨d,(hb.cell (p:=⟨P,1,none⟩) h.lt).trans e,f.below hb⟩⟩
structure fZ (w:World) (B e e':Nat) (v:Value) (j:Nat) (V:Nat->Value) (xs:Nat->List Value):Prop where
 out:w.ownsRow B e 1 v j ((List.range j).map V)
 row:∀ i,i<j->w.ownsRow B e' 1 (V i) (xs i).length (xs i)
theorem uk(w:World)(B e e':Nat)(V:Nat->Value)(xs:Nat->List Value):fZ w B e e' (.slice none 0 0) 0 V xs:=⟨aCp _ _ _ _,λi h=>by omega⟩
theorem fZ.keeps{w w':World}{B e e' j:Nat}{v:Value}{V:Nat->Value}{xs:Nat->List Value}(h:fZ w B e e' v j V xs)(hb:Below w.heap.size w w'):fZ w' B e e' v j V xs:=⟨ai h.out hb,λi hi=>ai (h.row i hi) hb⟩
theorem fZ.set{w:World}{B e e' j:Nat}{v:Value}{V:Nat->Value}{xs:Nat->List Value}(h:fZ w B e e' v j V xs){k:Nat}(hk:k<B)(o:Nat)(u:Value):fZ (w.setCell ⟨k,o,none⟩ u) B e e' v j V xs:=⟨aB h.out hk o u,λi hi=>aB (h.row i hi) hk o u⟩
theorem fZ.grown{w w':World}{B e e' j:Nat}{v:Value}{V:Nat->Value}{xs:Nat->List Value}(h:fZ w B e e' v j V xs){B2 e2 s2 n2:Nat}{v2:Value}{ys:List Value}(h2:w.ownsRow B2 e2 s2 v2 n2 ys)(hg:w.grownBy w' v2.ownBlock)(h1:e≠e2)(h3:e'≠e2):fZ w' B e e' v j V xs:=
 ⟨h.out.kept hg (aY h.out h2 h1),λi hi=>(h.row i hi).kept hg (aY (h.row i hi) h2 h3)⟩
theorem nL{w w1:World}{B e e' j:Nat}{v v':Value}{V:Nat->Value}{xs:Nat->List Value}{x:Value}(h:fZ w B e e' v j V xs)(hx:w.ownsRow B e' 1 x (xs j).length (xs j))(hne:e'≠e)(hg:w.grownBy w1 v.ownBlock)
  (hown:w1.ownsRow B e 1 v' (j+1) ((List.range j).map V++[x])):fZ w1 B e e' v' (j+1) (λi=>if i=j then x else V i) xs:=by
 refine⟨?_,λi a=>?_⟩
 ·rw[aCT,aCM];rw[show (List.range j).map (λi=>if i=j then x else V i)=(List.range j).map V from aCX (λi a=>by rw[aCQ]at a;rw[aC1 (by omega)])];simpa using hown
 ·by_cases e:i=j
  ·subst e;simp only[if_true];exact hx.kept hg (aY hx h.out hne)
  ·simp only[aC1 e];exact(h.row i (by omega)).kept hg (aY (h.row i (by omega)) h.out hne)
theorem DV:∀ (n:Nat) (l:List Nat),l.Nodup->(∀ b∈l,b<n)->l.length<=n
 | 0,l,_,h=>by
  cases l with
  | nil=>exact aB2 _
  | cons b l=>exact absurd (h b (List.mem_cons_self ..)) (by omega)
 | n+1,l,hd,h=>by
  have h1:=DV n (l.erase n) (hd.erase n) (λb hb=>by
   have ae:=(List.Nodup.mem_erase_iff hd).1 hb;have:=h b ae.2;omega)
  have h2:l.length<=(l.erase n).length+1:=by rw[List.length_erase];split <;> omega
  omega
def upd(f:Nat->Bool)(b:Nat)(v:Bool):Nat->Bool:=λi=>if i=b then v else f i
structure JS (E:Nat->Nat->Prop) (n nH:Nat) (todo:List Nat) (seen:Nat->Bool):Prop where
 parts:∃ rest,todo=nH::rest/\rest.Nodup/\(∀ b,seen b=true↔b∈rest)/\∀ b∈rest,reach E nH b/\b<n
theorem adz(E:Nat->Nat->Prop)(n nH:Nat):JS E n nH [nH] (λ_=>false):=⟨[],rfl,List.nodup_nil,λb=>by simp,λb hb=>by simp at hb⟩
theorem JS.len{E:Nat->Nat->Prop}{n nH:Nat}{todo:List Nat}{seen:Nat->Bool}(h:JS E n nH todo seen):todo.length<=n+1:=by
 obtain⟨a,rfl,c,_,d⟩:=h.parts;have:=DV n a c (λb e=>(d b e).2);simp;omega
theorem JS.mem{E:Nat->Nat->Prop}{n nH:Nat}{todo:List Nat}{seen:Nat->Bool}(h:JS E n nH todo seen){a:Nat}(ha:a∈todo):a=nH\/(reach E nH a/\a<n):=by
 obtain⟨b,rfl,_,_,c⟩:=h.parts;rcases List.mem_cons.1 ha with rfl | ha
 ·exact aCa rfl
 ·exact aCb (c a ha)
theorem aj8{E:Nat->Nat->Prop}{n nH:Nat}{todo:List Nat}{seen:Nat->Bool}(h:JS E n nH todo seen){a b:Nat}(ha:a∈todo)(he:E a b)(hb:b<n)(hs:seen b=false):JS E n nH (todo++[b]) (upd seen b true):=by
 have g:=h.mem ha;obtain⟨d,rfl,m,k,o⟩:=h.parts;have i:b ∉ d:=λj=>by rw[(k b).2 j]at hs;simp at hs
 have p:reach E nH b:=by
  rcases g with rfl | ⟨g,_⟩
  ·exact lU he
  ·exact eu g (lU he)
 refine⟨d++[b],rfl,?_,λc=>?_,λc f=>?_⟩
 ·rw[List.nodup_append];refine⟨m,by simp,λx j y l e=>?_⟩;simp at l;subst l;subst e;exact i j
 ·unfold upd;by_cases e:c=b
  ·subst e;simp
  ·rw[aC1 e,k c];simp[e]
 ·rcases aCG.1 f with f | f
  ·exact o c f
  ·simp at f;subst f;exact⟨p,hb⟩
theorem agM{E:Nat->Nat->Prop}{n nH:Nat}{todo:List Nat}{seen:Nat->Bool}(h:JS E n nH todo seen)(hall:∀ a∈todo,∀ b,E a b->seen b=true)(b:Nat):seen b=true↔reach E nH b:=by
 obtain⟨d,rfl,p,j,k⟩:=h.parts;constructor
 ·intro l;exact(k b ((j b).1 l)).1
 ·rintro ⟨L,m⟩;have e:∀ L a,a∈nH::d->sF E (L+1) a b->seen b=true:=by
   intro L
   induction L with
   | zero=>
    rintro a f ⟨c,g,i⟩;cases i;exact hall a f _ g
   | succ L ih=>
    rintro a f ⟨c,g,i⟩;have o:=hall a f c g;exact ih c (List.mem_cons_of_mem _ ((j c).1 o)) i
  exact e L nH (List.mem_cons_self ..) m
theorem zI{E:Nat->Nat->Prop}{a b:Nat}:reach (λx y=>E y x) a b↔reach E b a:=by
 have d:∀ (E:Nat->Nat->Prop) L a b,sF E L a b->sF (λx y=>E y x) L b a:=by
  intro E L
  induction L with
  | zero=>intro a b h;exact h.symm
  | succ L ih=>
   rintro a b ⟨c,e,f⟩;have g:=ih c b f;exact DL L 1 b c a g ⟨a,e,rfl⟩
 exact⟨λ⟨L,h⟩=>⟨L,d _ _ _ _ h⟩,λ⟨L,h⟩=>⟨L,d _ _ _ _ h⟩⟩
theorem abu{E:Nat->Nat->Prop}{c:Nat}(h:reach E c c):(∃ d,E c d/\reach E d d)/\∃ d,E d c/\reach E d d:=by
 have one:∀ {E:Nat->Nat->Prop} {c:Nat},reach E c c->∃ d,E c d/\reach E d d:=by
  rintro E c ⟨L,d,a,b⟩;refine⟨d,a,?_⟩;cases L with
  | zero=>cases b;exact lU a
  | succ L=>exact eu ⟨L,b⟩ (lU a)
 refine⟨one h,?_⟩;obtain⟨d,e,f⟩:=one (zI.2 h);exact⟨d,e,zI.1 f⟩
theorem UM{E:Nat->Nat->Prop}{K:Nat->Nat->Prop}{m c i:Nat}(h1:reach E c i)(h2:reach E i c)(h:ze E K m c):ze E K m i:=by
 refine⟨eu h2 h1,λk e=>?_⟩;obtain⟨j,a,b,d⟩:=h.2 k e;exact⟨j,eu h2 a,eu b h1,d⟩
def Ed(N:Nat)(to:Nat->List Nat)(a b:Nat):Prop:=a<N/\b∈to a
theorem AU(f:Nat->Bool)(N b:Nat)(v:Bool):(ax f N N).set b (.bool v)=ax (upd f b v) N N:=by
 unfold ax;apply List.ext_getElem
 ·simp
 ·intro i a c;simp at a;rw[List.getElem_set];simp only[List.getElem_map,List.getElem_range,upd,a,if_true];by_cases e:b=i
  ·rw[aC2 e,aC2 e.symm]
  ·rw[aC1 e,aC1 (λh=>e h.symm)]
theorem sH{f g:Nat->Bool}{N:Nat}(h:∀ i,i<N->f i=g i):ax f N N=ax g N N:=by
 unfold ax;apply aCX;intro i a;rw[aCQ]at a;simp[a,h i a]
theorem oq{l:List Nat}{i:Nat}(h:i<l.length):bZ l i∈l:=by simp[bZ,List.getD,aB3 h]
theorem zh{l:List Nat}{x:Nat}(h:x∈l):∃ i,i<l.length/\bZ l i=x:=by
 obtain⟨i,a,e⟩:=aCK h;exact⟨i,a,by simp[bZ,List.getD,aB3 a,e]⟩
theorem Vz{l:List Nat}{i x:Nat}(h:i<l.length):bZ (l++[x]) i=bZ l i:=by simp[bZ,List.getD,aCh h]
def Done(N:Nat)(to:Nat->List Nat)(todo:List Nat)(seen:Nat->Bool)(i:Nat):Prop:=∀ q,q<i->∀ b,b∈to (bZ todo q)->seen b=true
theorem adf{N:Nat}{to:Nat->List Nat}{td:List Nat}{sn:Nat->Bool}{q b:Nat}(h:Done N to td sn q)(hq:q<=td.length):Done N to (td++[b]) (upd sn b true) q:=λx hx c hc=>by
 rw[Vz (by omega)]at hc;unfold upd;by_cases e:c=b
 ·rw[aC2 e]
 ·rw[aC1 e];exact h x hx c hc
theorem Kq(P N K nH:Nat)(to:Nat->List Nat)(kp:Nat->Nat->Bool)(w:World)(hn:pI w P N to K kp)(hto:∀ a,a<N->∀ b∈to a,b<N)(hlen:∀ a,a<N->(to a).length<=4398046511104)(ha:nH<N)(hN:N<=1099511627776) :
  Calls Tryz.prog 124 #[.pointer (some ⟨P,0,none⟩),.int .i64 nH] w λe w'=>∃ g seen,e=.returned (.slice (some ⟨g,0,none⟩) N N)/\w.heap.size<=g/\w'.ownsRow w.heap.size 4 1 (.slice (some ⟨g,0,none⟩) N N) N (ax seen N N)/\(∀ b,seen b=true↔reach (Ed N to) nH b)/\Below w.heap.size w w':=by
 obtain⟨v0,c0,ao,cap,rfl,hcap,A⟩:=hn.c0;obtain⟨g,rfl,hg,m⟩:=A (by omega);have hP:=hn.lt;have HC:=hid m;obtain⟨i0,hi,aT,aP,aO⟩:=info_parts Tryz.dY;obtain⟨i1,jU,gJ,gI,gG⟩:=info_parts Tryz.mE;have BC:=hid hto;clear m A hn hto;go_enter Tryz.func124,Tryz.ntmps124;go_wp2_with (at_make;go_must (refine aCI _ rfl (.tmp 14) (.tmp 14) 132 rfl w.heap.size 4 i0 (.bool false) 1 Tryz.underlying132 hi aT aP .i64 .i64 N N N rfl rfl rfl rfl ?m2 ?m3 (aB2 _) ?_))
 case m2=>rw[aO];omega
 case m3=>unfold maxLen;omega
 intro F R aQ;have eo:(madeCells #[Value.bool false] N).toList=List.replicate N (.bool false):=aCy _ _;rw[eo,<-dm (λ_=>false),show ax (λ_=>false) N 0=ax (λ_=>false) N N by simp[ax]]at R;have aC:Below w.heap.size w F:=(aB4 _ _).grown aQ (aB2 _) (λk h=>by cases h);have hs1:w.heap.size<F.heap.size:=(R.lt _ rfl).2;have O1:=hid R;have aK:=hid aC;clear R aQ eo aC;go_wp2_with fail
 go_loopw [7,6] (λi v wr=>∃ (q:Nat) (d:List Nat) (seen:Nat->Bool),i=.int .i64 q/\q<=d.length/\Hid (JS (Ed N to) N nH d seen)/\Hid (Done N to d seen q)/\Hid (wr.ownsRow (w.heap.size+1) 3 1 v d.length (aI d)) /\
   Hid (wr.ownsRow w.heap.size 4 1 (.slice (some ⟨w.heap.size,0,none⟩) N N) N (ax seen N N))/\Below w.heap.size w wr) (λi _ _=>N+1 - (intOf i).toNat)
 case atStart=>
  refine⟨0,[nH],λ_=>false,rfl,aCg _,hid (adz _ _ _),hid (λq hq=>by omega),hid ?_,hid (O1.out.alloc _),aK.out.alloc aK.out.size _⟩;exact⟨rfl,aCb ⟨F.heap.size,1,#[.int .i64 nH],rfl,by omega,by show (F.heap.push _)[F.heap.size]?=_;simp,aB2 _,by unfold maxLen;omega,rfl,rfl⟩⟩
 case round=>
  obtain⟨q,d,seen,rfl,hq,S,HD,G,W,H⟩:=hrel;rename World=>W0;obtain⟨X,bJ,Y⟩:=ak G.out;subst Y;have E9:=S.out.len;have Z:=(H.cell (p:=⟨P,0,none⟩) hP).trans c0;by_cases s:q<d.length
  ·obtain⟨gt,e,azq,hgt,htc⟩:=eZ G.out (by omega);subst e;have ct:W0.cell? ⟨gt,q,none⟩=some (.int .i64 (bZ d q:Nat)):=by
    rw[G.out.cellAt q (by omega)];simp[aI,bZ,List.getD,aB3 s]
   have t:bZ d q<N:=by
    rcases S.out.mem (oq s) with e | e
    ·rw[e];exact ha
    ·exact e.2
   obtain⟨r,cr,LV⟩:=HC.out (bZ d q) t;have cr':=(H.cell (p:=⟨g,bZ d q,none⟩) hg).trans cr;obtain⟨aor,qI,rfl,hrc,qR⟩:=LV;have kK:=hid qR;have HQ:Hid (bZ d q∈d):=hid (oq s);have HTA:=hid (BC.out (bZ d q) t);have jI:=hlen (bZ d q) t;generalize hA:bZ d q=a at *;have HAQ:=hid hA;generalize nY:(to a).length=ln at *;have bW:=hid nY;generalize I:d.length=tn at *;have J:=hid I;clear qR cr nY hA I;have kd:decide ((q:Int)<(tn:Int))=true:=by simp;omega
   go_wp2_with fail
   go_quiet (fail)
   have Wn:=hid (aCl H nq);have uM:=hid (ai G.out (aCl (aB4 W0.heap.size W0) nq));have HS2:=hid (ai W.out (aCl (aB4 W0.heap.size W0) nq));clear G W Z cr' ct hgt kd H;generalize W0.drewN nq=W1 at *;go_wp2_with fail
   go_loopw [9,6] (λi v wr=>∃ (k:Nat) (f:List Nat) (j:Nat->Bool),k<=ln/\i=.int .i64 k/\Hid (JS (Ed N to) N nH f j)/\Hid (q<f.length/\bZ f q=a)/\Hid (Done N to f j q)/\Hid (∀ x,x<k->j (bZ (to a) x)=true)/\Hid (wr.ownsRow (w.heap.size+1) 3 1 v f.length (aI f)) /\
     Hid (wr.ownsRow w.heap.size 4 1 (.slice (some ⟨w.heap.size,0,none⟩) N N) N (ax j N N))/\Below w.heap.size w wr) (λi _ _=>ln - (intOf i).toNat)
   case atStart=>exact⟨0,d,seen,aCg _,rfl,S,hid ⟨by rw[J.out];exact s,HAQ.out⟩,HD,hid (λx T=>by omega),by rw[J.out];exact uM,HS2,Wn.out⟩
   case round=>
    obtain⟨k,f,j,hk,rfl,L,o,U,HK,M,E,O⟩:=hrel;obtain⟨X,bJ,Y⟩:=ak M.out;subst Y;have ZZ:=L.out.len;have hsz:=O.size;by_cases B:k<ln
    ·obtain⟨gr,e,hgr,Hr⟩:=kK.out (by omega);subst e;have cb:=(O.cell (p:=⟨gr,k,none⟩) hgr).trans (Hr k B);have CQ:bZ (to a) k<N:=HTA.out _ (oq (by rw[bW.out];exact B));have FC:Hid (Ed N to a (bZ (to a) k)):=hid ⟨t,oq (by rw[bW.out];exact B)⟩;have sb:wr.cell? ⟨w.heap.size,bZ (to a) k,none⟩=some (.bool (j (bZ (to a) k))):=by
      rw[E.out.cellAt _ (by omega)];exact kV j N _ CQ
     have sf:=E.out.frozenAt (bZ (to a) k);have HKS:Hid (j (bZ (to a) k)=true->∀ x,x<k+1->j (bZ (to a) x)=true):=hid (λh x T=>by
      by_cases e:x<k
      ·exact HK.out x e
      ·rw[show x=k by omega];exact h)
     have HKU:Hid (∀ x,x<k+1->upd j (bZ (to a) k) true (bZ (to a) x)=true):=hid (λx T=>by
      unfold upd;by_cases e:bZ (to a) x=bZ (to a) k
      ·rw[aC2 e]
      ·rw[aC1 e];by_cases e2:x<k
       ·exact HK.out x e2
       ·exact absurd (by rw[show x=k by omega]) e)
     have qa:=hid (E.out.stored (bZ (to a) k) (.bool true));generalize Q:bZ (to a) k=b at *;have yD:=hid Q;clear Q Hr;cases hsv:j b with
     | true=>
      rw[hsv]at sb;have C:=hid hsv;clear hsv;go_wp2_with fail;go_roundw
      case rel=>exact⟨k+1,f,j,by omega,by go_num,L,o,U,hid (HKS.out C.out),M,E,O⟩
      case measure=>simp[intOf];omega
     | false=>
      rw[hsv]at sb;have C:=hid hsv;clear hsv;have BA:=hid (aj8 L.out (by rw[<-o.out.2];exact oq o.out.1) FC.out CQ C.out);have D:=qa.out;rw[AU]at D;have Ng:=hid D.1;have fH:=hid (O.setCell (p:=⟨w.heap.size,b,none⟩) (aB2 _) (.bool true));have V:=aB M.out (k:=w.heap.size) (aCA _) b (.bool true);have cb5:(wr.setCell ⟨w.heap.size,b,none⟩ (.bool true)).cell? ⟨gr,k,none⟩=some (.int .i64 (b:Nat)):=by
       rw[aB8 _ _ _ _ (λe=>by have:=congrArg Addr.block e;simp at this;omega)];exact cb
      have vB:(wr.setCell ⟨w.heap.size,b,none⟩ (.bool true)).heap.size=wr.heap.size:=aCr _ _ _;have HDP:=hid (adf (b:=b) U.out (by have:=o.out.1;omega));have HQP:Hid (q<(f++[b]).length/\bZ (f++[b]) q=a):=hid ⟨by have:=o.out.1;rw[aCd];omega,by rw[Vz o.out.1];exact o.out.2⟩;have Al:Hid (aI f++[.int .i64 (b:Nat)]=aI (f++[b])/\f.length+1=(f++[b]).length):=hid ⟨by simp[aI],by simp⟩;clear D qa E M L U o;have hl5:f.length<=N+1:=ZZ;go_wp2_with (at_builtin;go_must (refine wpList_append_own _ rfl (.tmp 54) (.tmp 59) 22 rfl (w.heap.size+1) 3 i1 (.int .i64 0) 1 8 Tryz.underlying22 jU gJ gI gG rfl (by decide) _ _ _ rfl (V.alloc _) ⟨wr.heap.size,0,none⟩ 1 1 [.int .i64 b] rfl rfl ?c1 ?c2 ?c3 ?c4 ?c5 ?_))
      case c1=>exact λz u hz=>by have:=World.cell?_alloc_here (wr.setCell ⟨w.heap.size,b,none⟩ (.bool true)) #[.int .i64 (b:Nat)] 3 wr.heap.size z vB.symm;rw[uK,aCw,this];simpa using hz
      case c2=>intro u hu;simp at hu;subst hu;rfl
      case c3=>unfold maxLen;omega
      case c4=>omega
      case c5=>simp;omega
      intro v' w2 n l _;have B6:=hid ((fH.out.alloc (by rw[vB];exact hsz) _).grown l (by rw[aB7,vB];omega) (λk h=>aCW (Nat.le_succ _) (V.lt k h).1));have S6:=hid ((Ng.out.alloc (.cells #[.int .i64 (b:Nat)] 3)).kept l (aY (Ng.out.alloc (.cells #[.int .i64 (b:Nat)] 3)) (V.alloc (.cells #[.int .i64 (b:Nat)] 3)) (by decide)));rw[Al.out.1,Al.out.2]at n;have O6:=hid n;clear n l V cb5 fH Ng sb sf cb;go_wp2_with fail;go_roundw
      case rel=>exact⟨k+1,f++[b],upd j b true,by omega,by go_num,BA,HQP,HDP,HKU,O6,S6,B6.out⟩
      case measure=>simp[intOf];omega
    ·obtain rfl:k=ln:=by omega
     have HDN:Hid (Done N to f j (q+1)):=hid (λx T c hc=>by
      by_cases e:x<q
      ·exact U.out x e c hc
      ·rw[show x=q by omega,o.out.2]at hc;obtain⟨y,hy,rfl⟩:=zh hc;exact HK.out y (by rw[bW.out]at hy;exact hy))
     have hq1:q+1<=f.length:=o.out.1;go_wp2_with fail;go_roundw
     case rel=>exact⟨q+1,f,j,by go_num,hq1,L,HDN,M,E,O⟩
     case measure=>simp[intOf];omega
  ·have auO:Hid (∀ b,seen b=true↔reach (Ed N to) nH b):=hid (agM S.out (λa hm b he=>by
    obtain⟨x,T,rfl⟩:=zh hm;exact HD.out x (by omega) b he.2))
   generalize d.length=tn at *;have kd:decide ((q:Int)<(tn:Int))=false:=by simp;omega
   go_wp2_with fail;go_ret;exact⟨w.heap.size,seen,rfl,aB2 _,W.out,auO.out,H⟩
def BO(w:World)(B g N:Nat)(f:Nat->Bool):Prop:=w.ownsRow B 4 1 (.slice (some ⟨g,0,none⟩) N N) N (ax f N N)
theorem BO.get{w:World}{B g N:Nat}{f:Nat->Bool}(h:BO w B g N f){i:Nat}(hi:i<N):w.cell? ⟨g,i,none⟩=some (.bool (f i)):=by
 rw[World.ownsRow.cellAt h i (by omega)];exact kV f N i hi
theorem BO.fz{w:World}{B g N:Nat}{f:Nat->Bool}(h:BO w B g N f)(i:Nat):w.frozen? ⟨g,i,none⟩=false:=World.ownsRow.frozenAt h i
theorem BO.set{w:World}{B g N:Nat}{f:Nat->Bool}(h:BO w B g N f)(b:Nat)(v:Bool):BO (w.setCell ⟨g,b,none⟩ (.bool v)) B g N (upd f b v):=by
 have:=(World.ownsRow.stored h b (.bool v)).1;rw[AU]at this;exact this
theorem BO.other{w:World}{B B2 g g2 N N2:Nat}{f f2:Nat->Bool}(h:BO w B g N f)(h2:BO w B2 g2 N2 f2)(hne:g≠g2)(b:Nat)(u:Value):BO (w.setCell ⟨g2,b,none⟩ u) B g N f:=
 World.ownsRow.kept h (World.ownsRow.stored h2 b u).2 (aCb (by simpa [Value.ownBlock] using hne))
theorem BO.grown{w w':World}{B g N:Nat}{f:Nat->Bool}(h:BO w B g N f)(hg:w.grownBy w' none):BO w' B g N f:=World.ownsRow.kept h hg (aCb (by simp[Value.ownBlock]))
theorem BO.blk{w:World}{B g N:Nat}{f:Nat->Bool}(h:BO w B g N f):B<=g/\g<w.heap.size:=World.ownsRow.lt h _ rfl
def cnt(f:Nat->Bool):Nat->Nat
 | 0=>0
 | n+1=>cnt f n+(if f n=true then 1 else 0)
theorem QB{f g:Nat->Bool}:∀ n,(∀ i,i<n->f i=g i)->cnt f n=cnt g n
 | 0,_=>rfl
 | n+1,h=>by rw[cnt,cnt,QB n (λi hi=>h i (by omega)),h n (by omega)]
theorem Ym{f:Nat->Bool}{b:Nat}(hf:f b=true):∀ n,b<n->cnt (upd f b false) n+1=cnt f n
 | 0,h=>by omega
 | n+1,h=>by
  by_cases e:b=n
  ·subst e;rw[cnt,cnt,QB (f:=upd f b false) (g:=f) b (λi hi=>by unfold upd;rw[aC1 (by omega)])];simp[upd,hf]
  ·rw[cnt,cnt];have:=Ym hf n (by omega);have e2:upd f b false n=f n:=by unfold upd;rw[aC1 (λh=>e h.symm)]
   rw[e2];omega
def Rv(w:World)(g:Nat):Nat->Nat
 | 0=>0
 | n+1=>Rv w g n+(match w.cell? ⟨g,n,none⟩ with | some (.bool true)=>1 | _=>0)
theorem JX{w:World}{B g N:Nat}{f:Nat->Bool}(h:BO w B g N f):∀ n,n<=N->Rv w g n=cnt f n
 | 0,_=>rfl
 | n+1,hn=>by
  rw[Rv,cnt,JX h n (by omega),h.get (by omega)];cases f n <;> simp
def uW:Value->Nat
 | .bool true=>1
 | _=>0
def VL(N:Nat)(to:Nat->List Nat)(out:Nat->Bool):Prop:=∀ c,reach (Ed N to) c c->out c=true
def MZ(to:Nat->List Nat)(out nA ah:Nat->Bool)(q k:Nat):Prop:=∀ i x,(i<q/\x<(to i).length\/i=q/\x<k)->out i=true->nA (bZ (to i) x)=true/\(out (bZ (to i) x)=true->ah i=true)
theorem afQ(to:Nat->List Nat)(out nA ah:Nat->Bool):MZ to out nA ah 0 0:=λi x h=>by omega
theorem Dr{f:Nat->Bool}{b y:Nat}{v:Bool}(h:f y=true)(hv:f b=true->v=true):upd f b v y=true:=by
 unfold upd;by_cases e:y=b
 ·rw[aC2 e];exact hv (e ▸ h)
 ·rw[aC1 e];exact h
theorem zx(f:Nat->Bool)(b:Nat)(v:Bool):upd f b v b=v:=by simp[upd]
theorem ajS{to:Nat->List Nat}{out nA ah:Nat->Bool}{q k:Nat}(h:MZ to out nA ah q k):MZ to out (upd nA (bZ (to q) k) true) (upd ah q (ah q||out (bZ (to q) k))) q (k+1):=λi x hx ho=>by
 by_cases e:i=q/\x=k
 ·obtain⟨rfl,rfl⟩:=e;exact⟨zx _ _ _,λhb=>by rw[zx,hb];simp⟩
 ·obtain⟨h1,h2⟩:=h i x (by omega) ho;exact⟨Dr h1 (λ_=>rfl),λhb=>Dr (h2 hb) (λh=>by rw[h];rfl)⟩
theorem XO{to:Nat->List Nat}{out nA ah:Nat->Bool}{q k:Nat}(h:MZ to out nA ah q k)(hk:k=(to q).length\/out q=false):MZ to out nA ah (q+1) 0:=λi x hx ho=>by
 rcases hk with hk | hk
 ·by_cases e:i=q
  ·subst e;exact h i x (by omega) ho
  ·exact h i x (by omega) ho
 ·by_cases e:i=q
  ·subst e;rw[hk]at ho;cases ho
  ·exact h i x (by omega) ho
theorem aln{N:Nat}{to:Nat->List Nat}{out nA ah:Nat->Bool}(h:MZ to out nA ah N 0)(hl:VL N to out){c:Nat}(hc:reach (Ed N to) c c):nA c=true/\ah c=true:=by
 obtain⟨⟨d,f,a⟩,e,g,b⟩:=abu hc;obtain⟨x,k,l⟩:=zh f.2;obtain⟨y,m,n⟩:=zh g.2;have i:=h c x (aCa ⟨f.1,k⟩) (hl c hc);have j:=h e y (aCa ⟨g.1,m⟩) (hl e b);rw[l]at i;rw[n]at j;exact⟨j.1,i.2 (hl d a)⟩
theorem ajH{N:Nat}{to:Nat->List Nat}{out nA ah o2:Nat->Bool}(h:MZ to out nA ah N 0)(hl:VL N to out)(h2:VL N to o2){q:Nat}(hq:nA q=false\/ah q=false):VL N to (upd o2 q false):=λc hc=>by
 unfold upd;by_cases e:c=q
 ·subst e;obtain⟨h3,h4⟩:=aln h hl hc;rcases hq with hq | hq
  ·rw[hq]at h3;cases h3
  ·rw[hq]at h4;cases h4
 ·rw[aC1 e];exact h2 c hc
theorem afF(P N K:Nat)(to:Nat->List Nat)(kp:Nat->Nat->Bool)(w:World)(hn:pI w P N to K kp)(hto:∀ a,a<N->∀ b∈to a,b<N)(hlen:∀ a,a<N->(to a).length<=4398046511104)(hN:N<=1099511627776) :
  Calls Tryz.prog 144 #[.pointer (some ⟨P,0,none⟩)] w λe w'=>∃ g out,e=.returned (.slice (some ⟨g,0,none⟩) N N)/\w.heap.size<=g/\BO w' w.heap.size g N out/\VL N to out/\Below w.heap.size w w':=by
 obtain⟨v0,c0,ao,cap,rfl,hcap,A⟩:=hn.c0;have hP:=hn.lt;have KN:=hid A;obtain⟨i0,X,Y,Z,aO⟩:=info_parts Tryz.dY;have BC:=hid hto;have Nj:=hid hlen;clear A hn hto hlen;go_enter Tryz.func144,Tryz.ntmps144;go_wp2_with (at_make;go_must (refine aCI _ rfl (.tmp 18) (.tmp 18) 132 rfl w.heap.size 4 i0 (.bool false) 1 Tryz.underlying132 X Y Z .i64 .i64 N N N rfl rfl rfl rfl ?m2 ?m3 (aB2 _) ?_))
 case m2=>rw[aO];omega
 case m3=>unfold maxLen;omega
 intro w1 aF aQ;have B:(madeCells #[Value.bool false] N).toList=List.replicate N (.bool false):=aCy _ _;rw[B,<-dm (λ_=>true)]at aF;have aC:Below w.heap.size w w1:=(aB4 _ _).grown aQ (aB2 _) (λk h=>by cases h);have OS:=hid aF;have aK:=hid aC;clear aF aQ B aC;go_wp2_with fail
 go_loopw [5] (λi c=>∃ k:Nat,k<=N/\i=.int .i64 k/\Hid (c.ownsRow w.heap.size 4 1 (.slice (some ⟨w.heap.size,0,none⟩) N N) N (ax (λ_=>true) N k))/\Below w.heap.size w c) (λi _=>N - (intOf i).toNat)
 case atStart=>exact⟨0,aCg _,rfl,OS,aK.out⟩
 case round=>
  obtain⟨k,hk,rfl,s,bX⟩:=hrel;rename World=>Wa;by_cases hlk:k<N
  ·have own:=s.out;have q0:=own.frozenAt k;have q1:(Wa.cell? ⟨w.heap.size,k,none⟩).isSome=true:=by
    rw[own.cellAt k (by omega)];simp[ax,hlk]
   obtain⟨qv,q2⟩:=aCL.1 q1;have hO:=own.stored k (.bool true);rw[fJ (λ_=>true)]at hO;have f:=hid hO.1;have aM:=hid (bX.setCell (p:=⟨w.heap.size,k,none⟩) (aB2 _) (.bool true));clear hO q1 own s;go_wp2_with fail;go_roundw
   case rel=>exact⟨k+1,by omega,by go_num,f,aM.out⟩
   case measure=>simp[intOf];omega
  ·obtain rfl:k=N:=by omega
   have iJ:Hid (BO Wa w.heap.size w.heap.size k (λ_=>true)):=s;clear s OS;go_wp2_with fail
   go_loopw [6] (λm c=>∃ (t:Bool) (out:Nat->Bool),m=.bool t/\Hid (VL k to out)/\Hid (BO c w.heap.size w.heap.size k out)/\Below w.heap.size w c) (λm c=>Rv c w.heap.size k+uW m)
   case atStart=>exact⟨true,λ_=>true,rfl,hid (λ_ _=>rfl),iJ,bX⟩
   case round=>
    obtain⟨t,out,rfl,HL,s,hb⟩:=hrel;rename World=>W0;cases t with
    | false=>
     go_wp2_with fail;go_ret;exact⟨w.heap.size,out,rfl,aB2 _,s.out,HL.out,hb⟩
    | true=>
     have L:=hb.size;go_wp2_with (at_make;go_must (refine aCI _ rfl (.tmp 29) (.tmp 29) 132 rfl w.heap.size 4 i0 (.bool false) 1 Tryz.underlying132 X Y Z .i64 .i64 k k k rfl rfl rfl rfl ?m2 ?m3 L ?_))
     case m2=>rw[aO];omega
     case m3=>unfold maxLen;omega
     intro R fU kQ;have B:(madeCells #[Value.bool false] k).toList=List.replicate k (.bool false):=aCy _ _;rw[B,<-dm (λ_=>false),show ax (λ_=>false) k 0=ax (λ_=>false) k k by simp[ax]]at fU;have ae:Below w.heap.size w R:=hb.grown kQ L (λk h=>by cases h);have OI:Hid (BO R w.heap.size W0.heap.size k (λ_=>false)):=hid fU;have OO:=hid (s.out.grown kQ);have aM:=hid ae;have qP:=ae.size;have iy:=OI.out.blk.2;have af3:=s.out.blk.2;clear fU kQ B ae;go_wp2_with (at_make;go_must (refine aCI _ rfl (.tmp 31) (.tmp 31) 132 rfl w.heap.size 4 i0 (.bool false) 1 Tryz.underlying132 X Y Z .i64 .i64 k k k rfl rfl rfl rfl ?m2 ?m3 qP ?_))
     case m2=>rw[aO];omega
     case m3=>unfold maxLen;omega
     intro w3 tO S;have B:(madeCells #[Value.bool false] k).toList=List.replicate k (.bool false):=aCy _ _;rw[B,<-dm (λ_=>false),show ax (λ_=>false) k 0=ax (λ_=>false) k k by simp[ax]]at tO;have OA:Hid (BO w3 w.heap.size R.heap.size k (λ_=>false)):=hid tO;have OI3:=hid (OI.out.grown S);have OO3:=hid (OO.out.grown S);have bF:=hid (aM.out.grown S qP (λk h=>by cases h));have De:=hid (JX s.out k (aB2 _));clear tO S B OI OO s iJ;generalize Bg:W0.heap.size=gi at *;generalize hga:R.heap.size=ga at *;go_wp2_with fail
     go_loopw [9] (λi c=>∃ (q:Nat) (j d:Nat->Bool),q<=k/\i=.int .i64 q/\Hid (MZ to out j d q 0)/\Hid (BO c w.heap.size w.heap.size k out)/\Hid (BO c w.heap.size gi k j)/\Hid (BO c w.heap.size ga k d)/\Below w.heap.size w c) (λi _=>k - (intOf i).toNat)
     case atStart=>exact⟨0,_,_,aCg _,rfl,hid (afQ _ _ _ _),OO3,OI3,OA,bF.out⟩
     case round=>
      obtain⟨q,j,d,hq,rfl,D,C,f,E,dB⟩:=hrel;rename World=>W4;by_cases M:q<k
      ·obtain⟨g,e,hg,l⟩:=KN.out (by omega);subst e;obtain⟨r,cr,aor,qI,rfl,hrc,qR⟩:=l q M;have kK:=hid qR;have BH:=hid cr;have jI:=Nj.out q M;have HTQ:=hid (BC.out q M);generalize nY:(to q).length=ln at *;have bW:=hid nY;clear qR nY cr l;go_wp2_with fail
       go_loopw [10] (λi c=>∃ (y:Nat) (j d:Nat->Bool),y<=ln/\i=.int .i64 y/\Hid (MZ to out j d q y)/\Hid (BO c w.heap.size w.heap.size k out)/\Hid (BO c w.heap.size gi k j)/\Hid (BO c w.heap.size ga k d)/\Below w.heap.size w c) (λi _=>ln - (intOf i).toNat)
       case atStart=>exact⟨0,j,d,aCg _,rfl,D,C,f,E,dB⟩
       case round=>
        obtain⟨y,j,d,hy,rfl,D,C,f,E,n⟩:=hrel;have c05:=(n.cell (p:=⟨P,0,none⟩) hP).trans c0;have cr5:=(n.cell (p:=⟨g,q,none⟩) hg).trans BH.out;by_cases O:y<ln
        ·have co:=C.out.get M;cases hoq:out q with
         | false=>
          rw[hoq]at co;have xQ:=hid (XO D.out (aCb hoq));clear hoq;go_wp2_with fail;go_roundw
          case rel=>exact⟨q+1,j,d,by omega,by go_num,xQ,C,f,E,n⟩
          case measure=>simp[intOf];omega
         | true=>
          rw[hoq]at co;obtain⟨gr,e,hgr,Hr⟩:=kK.out (by omega);subst e;have cb:=(n.cell (p:=⟨gr,y,none⟩) hgr).trans (Hr y O);have CQ:bZ (to q) y<k:=HTQ.out _ (oq (by rw[bW.out];exact O));have qa:=hid (ajS D.out);have n1:w.heap.size≠gi:=by omega
          have n2:w.heap.size≠ga:=by omega
          have n3:ga≠gi:=by omega
          generalize bZ (to q) y=b at *;have s1:=f.out.fz b;have s2:=f.out.get CQ;have A1:=C.out.other f.out n1 b (.bool true);have A2:=f.out.set b true;have F:=E.out.other f.out n3 b (.bool true);have t1:=F.fz q;have t2:=F.get M;have t3:=A1.get CQ;have G:=hid (A1.other F n2 q (.bool (d q||out b)));have H:=hid (A2.other F n3.symm q (.bool (d q||out b)));have I:=hid (F.set q (d q||out b));have J:=hid ((n.setCell (p:=⟨gi,b,none⟩) (by show w.heap.size<=gi;omega) (.bool true)).setCell (p:=⟨ga,q,none⟩) (by show w.heap.size<=ga;omega) (.bool (d q||out b)));clear A1 A2 F Hr hoq C f E D;generalize j b=iv at *;generalize hav:d q=av at *;generalize Uf:out b=ov at *;clear hav Uf;cases av with
          | true=>
           go_wp2_with fail;go_roundw
           case rel=>exact⟨y+1,_,_,by omega,by go_num,qa,G,H,I,J.out⟩
           case measure=>simp[intOf];omega
          | false=>
           rw[Bool.false_or]at qa G H I J;go_wp2_with fail;go_roundw
           case rel=>exact⟨y+1,_,_,by omega,by go_num,qa,G,H,I,J.out⟩
           case measure=>simp[intOf];omega
        ·obtain rfl:y=ln:=by omega
         have xQ:=hid (XO D.out (aCa bW.out.symm));go_wp2_with fail;go_roundw
         case rel=>exact⟨q+1,j,d,by omega,by go_num,xQ,C,f,E,n⟩
         case measure=>simp[intOf];omega
      ·obtain rfl:q=k:=by omega
       go_wp2_with fail
       go_loopw [12,6] (λi m c=>∃ (x:Nat) (t:Bool) (u:Nat->Bool),x<=q/\i=.int .i64 x/\m=.bool t/\Hid (VL q to u)/\Hid (cnt u q+uW (.bool t)<=cnt out q)/\Hid (BO c w.heap.size w.heap.size q u)/\Hid (BO c w.heap.size gi q j)/\Hid (BO c w.heap.size ga q d)/\Below w.heap.size w c) (λi _ _=>q - (intOf i).toNat)
       case atStart=>exact⟨0,false,out,aCg _,rfl,rfl,HL,hid (by simp[uW]),C,f,E,dB⟩
       case round=>
        obtain⟨x,t,u,hx,rfl,rfl,T,U,v,z,V,n⟩:=hrel;by_cases W:x<q
        ·have s1:=v.out.get W;have s2:=z.out.get W;have s3:=V.out.get W;have s4:=v.out.fz x;have n1:gi≠w.heap.size:=by omega
         have n2:ga≠w.heap.size:=by omega
         have G:=hid (v.out.set x false);have H:=hid (z.out.other v.out n1 x (.bool false));have I:=hid (V.out.other v.out n2 x (.bool false));have J:=hid (n.setCell (p:=⟨w.heap.size,x,none⟩) (aB2 _) (.bool false));have o:=hid (λh=>ajH D.out HL.out T.out (q:=x) h);have Q:Hid (u x=true->cnt (upd u x false) q+uW (.bool true)<=cnt out q):=hid (λh=>by have:=Ym h q W;have:=U.out;simp[uW]at *;omega);generalize u x=ov at *;generalize j x=iv at *;generalize d x=av at *;cases ov with
         | false=>
          go_wp2_with fail;go_roundw
          case rel=>exact⟨x+1,t,u,by omega,by go_num,rfl,T,U,v,z,V,n⟩
          case measure=>simp[intOf];omega
         | true=>
          have Wi:=hid (Q.out rfl);clear Q;cases iv with
          | false=>
           have nK:=hid (o.out (aCa rfl));clear o;go_wp2_with fail;go_roundw
           case rel=>exact⟨x+1,true,_,by omega,by go_num,rfl,nK,Wi,G,H,I,J.out⟩
           case measure=>simp[intOf];omega
          | true=>
           cases av with
           | false=>
            have nK:=hid (o.out (aCb rfl));clear o;go_wp2_with fail;go_roundw
            case rel=>exact⟨x+1,true,_,by omega,by go_num,rfl,nK,Wi,G,H,I,J.out⟩
            case measure=>simp[intOf];omega
           | true=>
            clear o;go_wp2_with fail;go_roundw
            case rel=>exact⟨x+1,t,u,by omega,by go_num,rfl,T,U,v,z,V,n⟩
            case measure=>simp[intOf];omega
        ·obtain rfl:x=q:=by omega
         go_wp2_with fail;go_roundw
         case rel=>exact⟨t,u,rfl,T,v,n⟩
         case measure=>
          have h1:=JX v.out x (aB2 _);have h2:=U.out;have h3:=De.out;simp only[uW]at *;omega
