import Derived.Test.YtjagijohfkffiabGreatALLM14
set_option maxHeartbeats 16000000
set_option maxRecDepth 100000
namespace Go.Proofs.YtjagijohfkffiabGreat
open Go.RowKit
set_option linter.unusedVariables false
theorem NT (F gp cap g h scap tcap n j b:Nat) (u:Nat→Value) (P:Nat→Prop) (Q0:Exit→Act→World→Prop) (w:World) (m:Nat)
  (hc:n≤scap) (hd:n≤tcap) (hle:n≤8) (kc:n≤cap) (hlt:j<n)
  (k0:w.cell? ⟨F,0,none⟩=some (.slice (some ⟨gp,0,none⟩) n cap)) (c1:w.cell? ⟨gp,j,none⟩=some (.pointer (some ⟨b,0,none⟩))) (c2:w.cell? ⟨b,0,none⟩=some (.int .u8 48))
  (hy:Hid (P (j+1))) :
  Code.wp Tryz.prog (dI Tryz.f121) (Exit.then (fun a' w''=>GI 165 [(0,.pointer (some ⟨F,0,none⟩)),(1,.slice (some ⟨g,0,none⟩) n scap),(2,.slice (some ⟨h,0,none⟩) n tcap)] 7 n P w a' w''∧GM 7 n a' w''<n - j) Q0)
   ⟨#[.pointer (some ⟨F,0,none⟩),.slice (some ⟨g,0,none⟩) n scap,.slice (some ⟨h,0,none⟩) n tcap,u 3,u 4,u 5,u 6,.int .i64 (j:Nat),u 8,u 9,u 10,u 11,u 12,u 13,u 14,u 15,u 16,u 17,u 18,u 19,u 20,u 21,u 22,u 23,u 24,u 25,u 26,u 27,u 28,u 29,u 30,u 31,u 32,u 33,u 34,u 35,u 36,u 37,u 38,u 39,u 40,u 41,u 42,u 43,u 44,u 45,u 46,u 47,u 48,u 49,u 50,u 51,u 52,u 53,u 54,u 55,u 56,u 57,u 58,u 59,u 60,u 61,u 62,u 63,u 64,u 65,u 66,u 67,u 68,u 69,u 70,u 71,u 72,u 73,u 74,u 75,u 76,u 77,u 78,u 79,u 80,u 81,u 82,u 83,u 84,u 85,u 86,u 87,u 88,u 89,u 90,u 91,u 92,u 93,u 94,u 95,u 96,u 97,u 98,u 99,u 100,u 101,u 102,u 103,u 104,u 105,u 106,u 107,u 108,u 109,u 110,u 111,u 112,u 113,u 114,u 115,u 116,u 117,u 118,u 119,u 120,u 121,u 122,u 123,u 124,u 125,u 126,u 127,u 128,u 129,u 130,u 131,u 132,u 133,u 134,u 135,u 136,u 137,u 138,u 139,u 140,u 141,u 142,u 143,u 144,u 145,u 146,u 147,u 148,u 149,u 150,u 151,u 152,u 153,u 154,u 155,u 156,u 157,u 158,u 159,u 160,u 161,u 162,u 163,u 164],[]⟩ (w.drewN m):=by
 conv=>arg 2;whnf
 go_wp2_with fail
 exact ⟨⟨rfl,rfl,by simp,j+1,by omega,by go_num,hy.out,_,rfl⟩,by simp [GM,intOf];omega⟩
theorem NQ (F gp cap g h scap tcap n j b:Nat) (u:Nat→Value) (P:Nat→Prop) (Q0:Exit→Act→World→Prop) (w:World) (m:Nat)
  (hc:n≤scap) (hd:n≤tcap) (hle:n≤8) (kc:n≤cap) (hlt:j<n)
  (k0:w.cell? ⟨F,0,none⟩=some (.slice (some ⟨gp,0,none⟩) n cap)) (c1:w.cell? ⟨gp,j,none⟩=some (.pointer (some ⟨b,0,none⟩))) (c2:w.cell? ⟨b,0,none⟩=some (.int .u8 49))
  (hy:Hid (P (j+1))) :
  Code.wp Tryz.prog (dI Tryz.f121) (Exit.then (fun a' w''=>GI 165 [(0,.pointer (some ⟨F,0,none⟩)),(1,.slice (some ⟨g,0,none⟩) n scap),(2,.slice (some ⟨h,0,none⟩) n tcap)] 7 n P w a' w''∧GM 7 n a' w''<n - j) Q0)
   ⟨#[.pointer (some ⟨F,0,none⟩),.slice (some ⟨g,0,none⟩) n scap,.slice (some ⟨h,0,none⟩) n tcap,u 3,u 4,u 5,u 6,.int .i64 (j:Nat),u 8,u 9,u 10,u 11,u 12,u 13,u 14,u 15,u 16,u 17,u 18,u 19,u 20,u 21,u 22,u 23,u 24,u 25,u 26,u 27,u 28,u 29,u 30,u 31,u 32,u 33,u 34,u 35,u 36,u 37,u 38,u 39,u 40,u 41,u 42,u 43,u 44,u 45,u 46,u 47,u 48,u 49,u 50,u 51,u 52,u 53,u 54,u 55,u 56,u 57,u 58,u 59,u 60,u 61,u 62,u 63,u 64,u 65,u 66,u 67,u 68,u 69,u 70,u 71,u 72,u 73,u 74,u 75,u 76,u 77,u 78,u 79,u 80,u 81,u 82,u 83,u 84,u 85,u 86,u 87,u 88,u 89,u 90,u 91,u 92,u 93,u 94,u 95,u 96,u 97,u 98,u 99,u 100,u 101,u 102,u 103,u 104,u 105,u 106,u 107,u 108,u 109,u 110,u 111,u 112,u 113,u 114,u 115,u 116,u 117,u 118,u 119,u 120,u 121,u 122,u 123,u 124,u 125,u 126,u 127,u 128,u 129,u 130,u 131,u 132,u 133,u 134,u 135,u 136,u 137,u 138,u 139,u 140,u 141,u 142,u 143,u 144,u 145,u 146,u 147,u 148,u 149,u 150,u 151,u 152,u 153,u 154,u 155,u 156,u 157,u 158,u 159,u 160,u 161,u 162,u 163,u 164],[]⟩ (w.drewN m):=by
 conv=>arg 2;whnf
 go_wp2_with fail
 exact ⟨⟨rfl,rfl,by simp,j+1,by omega,by go_num,hy.out,_,rfl⟩,by simp [GM,intOf];omega⟩
theorem Lf (F gp cap g h scap tcap n j b:Nat) (u:Nat→Value) (P:Nat→Prop) (Q0:Exit→Act→World→Prop) (w:World) (m:Nat)
  (hc:n≤scap) (hd:n≤tcap) (hle:n≤8) (kc:n≤cap) (hlt:j<n)
  (k0:w.cell? ⟨F,0,none⟩=some (.slice (some ⟨gp,0,none⟩) n cap)) (c1:w.cell? ⟨gp,j,none⟩=some (.pointer (some ⟨b,0,none⟩))) (c2:w.cell? ⟨b,0,none⟩=some (.int .u8 112))
  (hy:Hid (P (j+1))) :
  Code.wp Tryz.prog (dI Tryz.f121) (Exit.then (fun a' w''=>GI 165 [(0,.pointer (some ⟨F,0,none⟩)),(1,.slice (some ⟨g,0,none⟩) n scap),(2,.slice (some ⟨h,0,none⟩) n tcap)] 7 n P w a' w''∧GM 7 n a' w''<n - j) Q0)
   ⟨#[.pointer (some ⟨F,0,none⟩),.slice (some ⟨g,0,none⟩) n scap,.slice (some ⟨h,0,none⟩) n tcap,u 3,u 4,u 5,u 6,.int .i64 (j:Nat),u 8,u 9,u 10,u 11,u 12,u 13,u 14,u 15,u 16,u 17,u 18,u 19,u 20,u 21,u 22,u 23,u 24,u 25,u 26,u 27,u 28,u 29,u 30,u 31,u 32,u 33,u 34,u 35,u 36,u 37,u 38,u 39,u 40,u 41,u 42,u 43,u 44,u 45,u 46,u 47,u 48,u 49,u 50,u 51,u 52,u 53,u 54,u 55,u 56,u 57,u 58,u 59,u 60,u 61,u 62,u 63,u 64,u 65,u 66,u 67,u 68,u 69,u 70,u 71,u 72,u 73,u 74,u 75,u 76,u 77,u 78,u 79,u 80,u 81,u 82,u 83,u 84,u 85,u 86,u 87,u 88,u 89,u 90,u 91,u 92,u 93,u 94,u 95,u 96,u 97,u 98,u 99,u 100,u 101,u 102,u 103,u 104,u 105,u 106,u 107,u 108,u 109,u 110,u 111,u 112,u 113,u 114,u 115,u 116,u 117,u 118,u 119,u 120,u 121,u 122,u 123,u 124,u 125,u 126,u 127,u 128,u 129,u 130,u 131,u 132,u 133,u 134,u 135,u 136,u 137,u 138,u 139,u 140,u 141,u 142,u 143,u 144,u 145,u 146,u 147,u 148,u 149,u 150,u 151,u 152,u 153,u 154,u 155,u 156,u 157,u 158,u 159,u 160,u 161,u 162,u 163,u 164],[]⟩ (w.drewN m):=by
 conv=>arg 2;whnf
 go_wp2_with fail
 exact ⟨⟨rfl,rfl,by simp,j+1,by omega,by go_num,hy.out,_,rfl⟩,by simp [GM,intOf];omega⟩
theorem Le (F gp cap g h scap tcap n j b:Nat) (u:Nat→Value) (P:Nat→Prop) (Q0:Exit→Act→World→Prop) (w:World) (m:Nat)
  (hc:n≤scap) (hd:n≤tcap) (hle:n≤8) (kc:n≤cap) (hlt:j<n)
  (k0:w.cell? ⟨F,0,none⟩=some (.slice (some ⟨gp,0,none⟩) n cap)) (c1:w.cell? ⟨gp,j,none⟩=some (.pointer (some ⟨b,0,none⟩))) (c2:w.cell? ⟨b,0,none⟩=some (.int .u8 113))
  (hy:Hid (P (j+1))) :
  Code.wp Tryz.prog (dI Tryz.f121) (Exit.then (fun a' w''=>GI 165 [(0,.pointer (some ⟨F,0,none⟩)),(1,.slice (some ⟨g,0,none⟩) n scap),(2,.slice (some ⟨h,0,none⟩) n tcap)] 7 n P w a' w''∧GM 7 n a' w''<n - j) Q0)
   ⟨#[.pointer (some ⟨F,0,none⟩),.slice (some ⟨g,0,none⟩) n scap,.slice (some ⟨h,0,none⟩) n tcap,u 3,u 4,u 5,u 6,.int .i64 (j:Nat),u 8,u 9,u 10,u 11,u 12,u 13,u 14,u 15,u 16,u 17,u 18,u 19,u 20,u 21,u 22,u 23,u 24,u 25,u 26,u 27,u 28,u 29,u 30,u 31,u 32,u 33,u 34,u 35,u 36,u 37,u 38,u 39,u 40,u 41,u 42,u 43,u 44,u 45,u 46,u 47,u 48,u 49,u 50,u 51,u 52,u 53,u 54,u 55,u 56,u 57,u 58,u 59,u 60,u 61,u 62,u 63,u 64,u 65,u 66,u 67,u 68,u 69,u 70,u 71,u 72,u 73,u 74,u 75,u 76,u 77,u 78,u 79,u 80,u 81,u 82,u 83,u 84,u 85,u 86,u 87,u 88,u 89,u 90,u 91,u 92,u 93,u 94,u 95,u 96,u 97,u 98,u 99,u 100,u 101,u 102,u 103,u 104,u 105,u 106,u 107,u 108,u 109,u 110,u 111,u 112,u 113,u 114,u 115,u 116,u 117,u 118,u 119,u 120,u 121,u 122,u 123,u 124,u 125,u 126,u 127,u 128,u 129,u 130,u 131,u 132,u 133,u 134,u 135,u 136,u 137,u 138,u 139,u 140,u 141,u 142,u 143,u 144,u 145,u 146,u 147,u 148,u 149,u 150,u 151,u 152,u 153,u 154,u 155,u 156,u 157,u 158,u 159,u 160,u 161,u 162,u 163,u 164],[]⟩ (w.drewN m):=by
 conv=>arg 2;whnf
 go_wp2_with fail
 exact ⟨⟨rfl,rfl,by simp,j+1,by omega,by go_num,hy.out,_,rfl⟩,by simp [GM,intOf];omega⟩
theorem Ld (F gp cap g h scap tcap n j b:Nat) (u:Nat→Value) (P:Nat→Prop) (Q0:Exit→Act→World→Prop) (w:World) (m:Nat)
  (hc:n≤scap) (hd:n≤tcap) (hle:n≤8) (kc:n≤cap) (hlt:j<n)
  (k0:w.cell? ⟨F,0,none⟩=some (.slice (some ⟨gp,0,none⟩) n cap)) (c1:w.cell? ⟨gp,j,none⟩=some (.pointer (some ⟨b,0,none⟩))) (c2:w.cell? ⟨b,0,none⟩=some (.int .u8 114))
  (hy:Hid (P (j+1))) :
  Code.wp Tryz.prog (dI Tryz.f121) (Exit.then (fun a' w''=>GI 165 [(0,.pointer (some ⟨F,0,none⟩)),(1,.slice (some ⟨g,0,none⟩) n scap),(2,.slice (some ⟨h,0,none⟩) n tcap)] 7 n P w a' w''∧GM 7 n a' w''<n - j) Q0)
   ⟨#[.pointer (some ⟨F,0,none⟩),.slice (some ⟨g,0,none⟩) n scap,.slice (some ⟨h,0,none⟩) n tcap,u 3,u 4,u 5,u 6,.int .i64 (j:Nat),u 8,u 9,u 10,u 11,u 12,u 13,u 14,u 15,u 16,u 17,u 18,u 19,u 20,u 21,u 22,u 23,u 24,u 25,u 26,u 27,u 28,u 29,u 30,u 31,u 32,u 33,u 34,u 35,u 36,u 37,u 38,u 39,u 40,u 41,u 42,u 43,u 44,u 45,u 46,u 47,u 48,u 49,u 50,u 51,u 52,u 53,u 54,u 55,u 56,u 57,u 58,u 59,u 60,u 61,u 62,u 63,u 64,u 65,u 66,u 67,u 68,u 69,u 70,u 71,u 72,u 73,u 74,u 75,u 76,u 77,u 78,u 79,u 80,u 81,u 82,u 83,u 84,u 85,u 86,u 87,u 88,u 89,u 90,u 91,u 92,u 93,u 94,u 95,u 96,u 97,u 98,u 99,u 100,u 101,u 102,u 103,u 104,u 105,u 106,u 107,u 108,u 109,u 110,u 111,u 112,u 113,u 114,u 115,u 116,u 117,u 118,u 119,u 120,u 121,u 122,u 123,u 124,u 125,u 126,u 127,u 128,u 129,u 130,u 131,u 132,u 133,u 134,u 135,u 136,u 137,u 138,u 139,u 140,u 141,u 142,u 143,u 144,u 145,u 146,u 147,u 148,u 149,u 150,u 151,u 152,u 153,u 154,u 155,u 156,u 157,u 158,u 159,u 160,u 161,u 162,u 163,u 164],[]⟩ (w.drewN m):=by
 conv=>arg 2;whnf
 go_wp2_with fail
 exact ⟨⟨rfl,rfl,by simp,j+1,by omega,by go_num,hy.out,_,rfl⟩,by simp [GM,intOf];omega⟩
theorem NY (F gp cap g h scap tcap n j b:Nat) (u:Nat→Value) (P:Nat→Prop) (Q0:Exit→Act→World→Prop) (w:World) (m:Nat)
  (hc:n≤scap) (hd:n≤tcap) (hle:n≤8) (kc:n≤cap) (hlt:j<n)
  (k0:w.cell? ⟨F,0,none⟩=some (.slice (some ⟨gp,0,none⟩) n cap)) (c1:w.cell? ⟨gp,j,none⟩=some (.pointer (some ⟨b,0,none⟩))) (c2:w.cell? ⟨b,0,none⟩=some (.int .u8 33))
  (hy:Hid (P (j+1))) :
  Code.wp Tryz.prog (dI Tryz.f121) (Exit.then (fun a' w''=>GI 165 [(0,.pointer (some ⟨F,0,none⟩)),(1,.slice (some ⟨g,0,none⟩) n scap),(2,.slice (some ⟨h,0,none⟩) n tcap)] 7 n P w a' w''∧GM 7 n a' w''<n - j) Q0)
   ⟨#[.pointer (some ⟨F,0,none⟩),.slice (some ⟨g,0,none⟩) n scap,.slice (some ⟨h,0,none⟩) n tcap,u 3,u 4,u 5,u 6,.int .i64 (j:Nat),u 8,u 9,u 10,u 11,u 12,u 13,u 14,u 15,u 16,u 17,u 18,u 19,u 20,u 21,u 22,u 23,u 24,u 25,u 26,u 27,u 28,u 29,u 30,u 31,u 32,u 33,u 34,u 35,u 36,u 37,u 38,u 39,u 40,u 41,u 42,u 43,u 44,u 45,u 46,u 47,u 48,u 49,u 50,u 51,u 52,u 53,u 54,u 55,u 56,u 57,u 58,u 59,u 60,u 61,u 62,u 63,u 64,u 65,u 66,u 67,u 68,u 69,u 70,u 71,u 72,u 73,u 74,u 75,u 76,u 77,u 78,u 79,u 80,u 81,u 82,u 83,u 84,u 85,u 86,u 87,u 88,u 89,u 90,u 91,u 92,u 93,u 94,u 95,u 96,u 97,u 98,u 99,u 100,u 101,u 102,u 103,u 104,u 105,u 106,u 107,u 108,u 109,u 110,u 111,u 112,u 113,u 114,u 115,u 116,u 117,u 118,u 119,u 120,u 121,u 122,u 123,u 124,u 125,u 126,u 127,u 128,u 129,u 130,u 131,u 132,u 133,u 134,u 135,u 136,u 137,u 138,u 139,u 140,u 141,u 142,u 143,u 144,u 145,u 146,u 147,u 148,u 149,u 150,u 151,u 152,u 153,u 154,u 155,u 156,u 157,u 158,u 159,u 160,u 161,u 162,u 163,u 164],[]⟩ (w.drewN m):=by
 conv=>arg 2;whnf
 go_wp2_with fail
 exact ⟨⟨rfl,rfl,by simp,j+1,by omega,by go_num,hy.out,_,rfl⟩,by simp [GM,intOf];omega⟩
theorem NI (F gp cap g h scap tcap n j b l bl:Nat) (va vl tl tj:Bool) (u:Nat→Value) (P:Nat→Prop) (Q0:Exit→Act→World→Prop) (w:World) (m:Nat)
  (hc:n≤scap) (hd:n≤tcap) (hle:n≤8) (kc:n≤cap) (hlt:j<n) (hl:l<j)
  (k0:w.cell? ⟨F,0,none⟩=some (.slice (some ⟨gp,0,none⟩) n cap)) (c1:w.cell? ⟨gp,j,none⟩=some (.pointer (some ⟨b,0,none⟩))) (c2:w.cell? ⟨b,0,none⟩=some (.int .u8 88))
  (sj:w.cell? ⟨g,j,none⟩=some (.bool va)) (hj:w.cell? ⟨h,j,none⟩=some (.bool tj)) (lp:w.cell? ⟨b,1,none⟩=some (.pointer (some ⟨bl,0,none⟩))) (ln:w.cell? ⟨bl,3,none⟩=some (.int .i64 l)) (ls:w.cell? ⟨g,l,none⟩=some (.bool vl)) (lt:w.cell? ⟨h,l,none⟩=some (.bool tl))
  (hy:Hid ((va==tl)=true→P (j+1))) (hn:Hid ((va==tl)=false→∀ a' w'',a'.defers=[]→a'.tmps.size=165→a'.tmps.getD 6 undef=.bool false→(∃ m,w''=w.drewN m)→Q0 .ret a' w'')) :
  Code.wp Tryz.prog (dI Tryz.f121) (Exit.then (fun a' w''=>GI 165 [(0,.pointer (some ⟨F,0,none⟩)),(1,.slice (some ⟨g,0,none⟩) n scap),(2,.slice (some ⟨h,0,none⟩) n tcap)] 7 n P w a' w''∧GM 7 n a' w''<n - j) Q0)
   ⟨#[.pointer (some ⟨F,0,none⟩),.slice (some ⟨g,0,none⟩) n scap,.slice (some ⟨h,0,none⟩) n tcap,u 3,u 4,u 5,u 6,.int .i64 (j:Nat),u 8,u 9,u 10,u 11,u 12,u 13,u 14,u 15,u 16,u 17,u 18,u 19,u 20,u 21,u 22,u 23,u 24,u 25,u 26,u 27,u 28,u 29,u 30,u 31,u 32,u 33,u 34,u 35,u 36,u 37,u 38,u 39,u 40,u 41,u 42,u 43,u 44,u 45,u 46,u 47,u 48,u 49,u 50,u 51,u 52,u 53,u 54,u 55,u 56,u 57,u 58,u 59,u 60,u 61,u 62,u 63,u 64,u 65,u 66,u 67,u 68,u 69,u 70,u 71,u 72,u 73,u 74,u 75,u 76,u 77,u 78,u 79,u 80,u 81,u 82,u 83,u 84,u 85,u 86,u 87,u 88,u 89,u 90,u 91,u 92,u 93,u 94,u 95,u 96,u 97,u 98,u 99,u 100,u 101,u 102,u 103,u 104,u 105,u 106,u 107,u 108,u 109,u 110,u 111,u 112,u 113,u 114,u 115,u 116,u 117,u 118,u 119,u 120,u 121,u 122,u 123,u 124,u 125,u 126,u 127,u 128,u 129,u 130,u 131,u 132,u 133,u 134,u 135,u 136,u 137,u 138,u 139,u 140,u 141,u 142,u 143,u 144,u 145,u 146,u 147,u 148,u 149,u 150,u 151,u 152,u 153,u 154,u 155,u 156,u 157,u 158,u 159,u 160,u 161,u 162,u 163,u 164],[]⟩ (w.drewN m):=by
 conv=>arg 2;whnf
 go_wp2_with fail
 all_goals go_quiet (fail)
 all_goals go_wp2_with fail
 all_goals
  first
  | exact ⟨⟨rfl,rfl,by simp,j+1,by omega,by go_num,hy.out (by cases va <;> cases tl <;> first | rfl | contradiction),_,rfl⟩,by simp [GM,intOf];omega⟩
  | exact hn.out (by cases va <;> cases tl <;> first | rfl | contradiction) _ _ rfl rfl rfl ⟨_,rfl⟩
theorem NP (F gp cap g h scap tcap n j b l bl:Nat) (va vl tl tj:Bool) (u:Nat→Value) (P:Nat→Prop) (Q0:Exit→Act→World→Prop) (w:World) (m:Nat)
  (hc:n≤scap) (hd:n≤tcap) (hle:n≤8) (kc:n≤cap) (hlt:j<n) (hl:l<j)
  (k0:w.cell? ⟨F,0,none⟩=some (.slice (some ⟨gp,0,none⟩) n cap)) (c1:w.cell? ⟨gp,j,none⟩=some (.pointer (some ⟨b,0,none⟩))) (c2:w.cell? ⟨b,0,none⟩=some (.int .u8 70))
  (sj:w.cell? ⟨g,j,none⟩=some (.bool va)) (hj:w.cell? ⟨h,j,none⟩=some (.bool tj)) (lp:w.cell? ⟨b,1,none⟩=some (.pointer (some ⟨bl,0,none⟩))) (ln:w.cell? ⟨bl,3,none⟩=some (.int .i64 l)) (ls:w.cell? ⟨g,l,none⟩=some (.bool vl)) (lt:w.cell? ⟨h,l,none⟩=some (.bool tl))
  (hy:Hid ((va==(vl||tj))=true→P (j+1))) (hn:Hid ((va==(vl||tj))=false→∀ a' w'',a'.defers=[]→a'.tmps.size=165→a'.tmps.getD 6 undef=.bool false→(∃ m,w''=w.drewN m)→Q0 .ret a' w'')) :
  Code.wp Tryz.prog (dI Tryz.f121) (Exit.then (fun a' w''=>GI 165 [(0,.pointer (some ⟨F,0,none⟩)),(1,.slice (some ⟨g,0,none⟩) n scap),(2,.slice (some ⟨h,0,none⟩) n tcap)] 7 n P w a' w''∧GM 7 n a' w''<n - j) Q0)
   ⟨#[.pointer (some ⟨F,0,none⟩),.slice (some ⟨g,0,none⟩) n scap,.slice (some ⟨h,0,none⟩) n tcap,u 3,u 4,u 5,u 6,.int .i64 (j:Nat),u 8,u 9,u 10,u 11,u 12,u 13,u 14,u 15,u 16,u 17,u 18,u 19,u 20,u 21,u 22,u 23,u 24,u 25,u 26,u 27,u 28,u 29,u 30,u 31,u 32,u 33,u 34,u 35,u 36,u 37,u 38,u 39,u 40,u 41,u 42,u 43,u 44,u 45,u 46,u 47,u 48,u 49,u 50,u 51,u 52,u 53,u 54,u 55,u 56,u 57,u 58,u 59,u 60,u 61,u 62,u 63,u 64,u 65,u 66,u 67,u 68,u 69,u 70,u 71,u 72,u 73,u 74,u 75,u 76,u 77,u 78,u 79,u 80,u 81,u 82,u 83,u 84,u 85,u 86,u 87,u 88,u 89,u 90,u 91,u 92,u 93,u 94,u 95,u 96,u 97,u 98,u 99,u 100,u 101,u 102,u 103,u 104,u 105,u 106,u 107,u 108,u 109,u 110,u 111,u 112,u 113,u 114,u 115,u 116,u 117,u 118,u 119,u 120,u 121,u 122,u 123,u 124,u 125,u 126,u 127,u 128,u 129,u 130,u 131,u 132,u 133,u 134,u 135,u 136,u 137,u 138,u 139,u 140,u 141,u 142,u 143,u 144,u 145,u 146,u 147,u 148,u 149,u 150,u 151,u 152,u 153,u 154,u 155,u 156,u 157,u 158,u 159,u 160,u 161,u 162,u 163,u 164],[]⟩ (w.drewN m):=by
 conv=>arg 2;whnf
 go_wp2_with fail
 cases vl
 all_goals go_quiet (fail)
 all_goals go_wp2_with fail
 all_goals
  first
  | exact ⟨⟨rfl,rfl,by simp,j+1,by omega,by go_num,hy.out (by cases va <;> cases tj <;> first | rfl | contradiction),_,rfl⟩,by simp [GM,intOf];omega⟩
  | exact hn.out (by cases va <;> cases tj <;> first | rfl | contradiction) _ _ rfl rfl rfl ⟨_,rfl⟩
theorem NN (F gp cap g h scap tcap n j b l bl:Nat) (va vl tl tj:Bool) (u:Nat→Value) (P:Nat→Prop) (Q0:Exit→Act→World→Prop) (w:World) (m:Nat)
  (hc:n≤scap) (hd:n≤tcap) (hle:n≤8) (kc:n≤cap) (hlt:j<n) (hl:l<j)
  (k0:w.cell? ⟨F,0,none⟩=some (.slice (some ⟨gp,0,none⟩) n cap)) (c1:w.cell? ⟨gp,j,none⟩=some (.pointer (some ⟨b,0,none⟩))) (c2:w.cell? ⟨b,0,none⟩=some (.int .u8 71))
  (sj:w.cell? ⟨g,j,none⟩=some (.bool va)) (hj:w.cell? ⟨h,j,none⟩=some (.bool tj)) (lp:w.cell? ⟨b,1,none⟩=some (.pointer (some ⟨bl,0,none⟩))) (ln:w.cell? ⟨bl,3,none⟩=some (.int .i64 l)) (ls:w.cell? ⟨g,l,none⟩=some (.bool vl)) (lt:w.cell? ⟨h,l,none⟩=some (.bool tl))
  (hy:Hid ((va==(vl&&tj))=true→P (j+1))) (hn:Hid ((va==(vl&&tj))=false→∀ a' w'',a'.defers=[]→a'.tmps.size=165→a'.tmps.getD 6 undef=.bool false→(∃ m,w''=w.drewN m)→Q0 .ret a' w'')) :
  Code.wp Tryz.prog (dI Tryz.f121) (Exit.then (fun a' w''=>GI 165 [(0,.pointer (some ⟨F,0,none⟩)),(1,.slice (some ⟨g,0,none⟩) n scap),(2,.slice (some ⟨h,0,none⟩) n tcap)] 7 n P w a' w''∧GM 7 n a' w''<n - j) Q0)
   ⟨#[.pointer (some ⟨F,0,none⟩),.slice (some ⟨g,0,none⟩) n scap,.slice (some ⟨h,0,none⟩) n tcap,u 3,u 4,u 5,u 6,.int .i64 (j:Nat),u 8,u 9,u 10,u 11,u 12,u 13,u 14,u 15,u 16,u 17,u 18,u 19,u 20,u 21,u 22,u 23,u 24,u 25,u 26,u 27,u 28,u 29,u 30,u 31,u 32,u 33,u 34,u 35,u 36,u 37,u 38,u 39,u 40,u 41,u 42,u 43,u 44,u 45,u 46,u 47,u 48,u 49,u 50,u 51,u 52,u 53,u 54,u 55,u 56,u 57,u 58,u 59,u 60,u 61,u 62,u 63,u 64,u 65,u 66,u 67,u 68,u 69,u 70,u 71,u 72,u 73,u 74,u 75,u 76,u 77,u 78,u 79,u 80,u 81,u 82,u 83,u 84,u 85,u 86,u 87,u 88,u 89,u 90,u 91,u 92,u 93,u 94,u 95,u 96,u 97,u 98,u 99,u 100,u 101,u 102,u 103,u 104,u 105,u 106,u 107,u 108,u 109,u 110,u 111,u 112,u 113,u 114,u 115,u 116,u 117,u 118,u 119,u 120,u 121,u 122,u 123,u 124,u 125,u 126,u 127,u 128,u 129,u 130,u 131,u 132,u 133,u 134,u 135,u 136,u 137,u 138,u 139,u 140,u 141,u 142,u 143,u 144,u 145,u 146,u 147,u 148,u 149,u 150,u 151,u 152,u 153,u 154,u 155,u 156,u 157,u 158,u 159,u 160,u 161,u 162,u 163,u 164],[]⟩ (w.drewN m):=by
 conv=>arg 2;whnf
 go_wp2_with fail
 cases vl
 all_goals go_quiet (fail)
 all_goals go_wp2_with fail
 all_goals
  first
  | exact ⟨⟨rfl,rfl,by simp,j+1,by omega,by go_num,hy.out (by cases va <;> cases tj <;> first | rfl | contradiction),_,rfl⟩,by simp [GM,intOf];omega⟩
  | exact hn.out (by cases va <;> cases tj <;> first | rfl | contradiction) _ _ rfl rfl rfl ⟨_,rfl⟩
theorem NV (F gp cap g h scap tcap n j b:Nat) (u:Nat→Value) (P:Nat→Prop) (Q0:Exit→Act→World→Prop) (w:World) (m:Nat)
  (hc:n≤scap) (hd:n≤tcap) (hle:n≤8) (kc:n≤cap) (hlt:j<n)
  (k0:w.cell? ⟨F,0,none⟩=some (.slice (some ⟨gp,0,none⟩) n cap)) (c1:w.cell? ⟨gp,j,none⟩=some (.pointer (some ⟨b,0,none⟩))) (c2:w.cell? ⟨b,0,none⟩=some (.int .u8 38))
  (hy:Hid (P (j+1))) :
  Code.wp Tryz.prog (dI Tryz.f121) (Exit.then (fun a' w''=>GI 165 [(0,.pointer (some ⟨F,0,none⟩)),(1,.slice (some ⟨g,0,none⟩) n scap),(2,.slice (some ⟨h,0,none⟩) n tcap)] 7 n P w a' w''∧GM 7 n a' w''<n - j) Q0)
   ⟨#[.pointer (some ⟨F,0,none⟩),.slice (some ⟨g,0,none⟩) n scap,.slice (some ⟨h,0,none⟩) n tcap,u 3,u 4,u 5,u 6,.int .i64 (j:Nat),u 8,u 9,u 10,u 11,u 12,u 13,u 14,u 15,u 16,u 17,u 18,u 19,u 20,u 21,u 22,u 23,u 24,u 25,u 26,u 27,u 28,u 29,u 30,u 31,u 32,u 33,u 34,u 35,u 36,u 37,u 38,u 39,u 40,u 41,u 42,u 43,u 44,u 45,u 46,u 47,u 48,u 49,u 50,u 51,u 52,u 53,u 54,u 55,u 56,u 57,u 58,u 59,u 60,u 61,u 62,u 63,u 64,u 65,u 66,u 67,u 68,u 69,u 70,u 71,u 72,u 73,u 74,u 75,u 76,u 77,u 78,u 79,u 80,u 81,u 82,u 83,u 84,u 85,u 86,u 87,u 88,u 89,u 90,u 91,u 92,u 93,u 94,u 95,u 96,u 97,u 98,u 99,u 100,u 101,u 102,u 103,u 104,u 105,u 106,u 107,u 108,u 109,u 110,u 111,u 112,u 113,u 114,u 115,u 116,u 117,u 118,u 119,u 120,u 121,u 122,u 123,u 124,u 125,u 126,u 127,u 128,u 129,u 130,u 131,u 132,u 133,u 134,u 135,u 136,u 137,u 138,u 139,u 140,u 141,u 142,u 143,u 144,u 145,u 146,u 147,u 148,u 149,u 150,u 151,u 152,u 153,u 154,u 155,u 156,u 157,u 158,u 159,u 160,u 161,u 162,u 163,u 164],[]⟩ (w.drewN m):=by
 conv=>arg 2;whnf
 go_wp2_with fail
 exact ⟨⟨rfl,rfl,by simp,j+1,by omega,by go_num,hy.out,_,rfl⟩,by simp [GM,intOf];omega⟩
theorem Lc (F gp cap g h scap tcap n j b:Nat) (u:Nat→Value) (P:Nat→Prop) (Q0:Exit→Act→World→Prop) (w:World) (m:Nat)
  (hc:n≤scap) (hd:n≤tcap) (hle:n≤8) (kc:n≤cap) (hlt:j<n)
  (k0:w.cell? ⟨F,0,none⟩=some (.slice (some ⟨gp,0,none⟩) n cap)) (c1:w.cell? ⟨gp,j,none⟩=some (.pointer (some ⟨b,0,none⟩))) (c2:w.cell? ⟨b,0,none⟩=some (.int .u8 124))
  (hy:Hid (P (j+1))) :
  Code.wp Tryz.prog (dI Tryz.f121) (Exit.then (fun a' w''=>GI 165 [(0,.pointer (some ⟨F,0,none⟩)),(1,.slice (some ⟨g,0,none⟩) n scap),(2,.slice (some ⟨h,0,none⟩) n tcap)] 7 n P w a' w''∧GM 7 n a' w''<n - j) Q0)
   ⟨#[.pointer (some ⟨F,0,none⟩),.slice (some ⟨g,0,none⟩) n scap,.slice (some ⟨h,0,none⟩) n tcap,u 3,u 4,u 5,u 6,.int .i64 (j:Nat),u 8,u 9,u 10,u 11,u 12,u 13,u 14,u 15,u 16,u 17,u 18,u 19,u 20,u 21,u 22,u 23,u 24,u 25,u 26,u 27,u 28,u 29,u 30,u 31,u 32,u 33,u 34,u 35,u 36,u 37,u 38,u 39,u 40,u 41,u 42,u 43,u 44,u 45,u 46,u 47,u 48,u 49,u 50,u 51,u 52,u 53,u 54,u 55,u 56,u 57,u 58,u 59,u 60,u 61,u 62,u 63,u 64,u 65,u 66,u 67,u 68,u 69,u 70,u 71,u 72,u 73,u 74,u 75,u 76,u 77,u 78,u 79,u 80,u 81,u 82,u 83,u 84,u 85,u 86,u 87,u 88,u 89,u 90,u 91,u 92,u 93,u 94,u 95,u 96,u 97,u 98,u 99,u 100,u 101,u 102,u 103,u 104,u 105,u 106,u 107,u 108,u 109,u 110,u 111,u 112,u 113,u 114,u 115,u 116,u 117,u 118,u 119,u 120,u 121,u 122,u 123,u 124,u 125,u 126,u 127,u 128,u 129,u 130,u 131,u 132,u 133,u 134,u 135,u 136,u 137,u 138,u 139,u 140,u 141,u 142,u 143,u 144,u 145,u 146,u 147,u 148,u 149,u 150,u 151,u 152,u 153,u 154,u 155,u 156,u 157,u 158,u 159,u 160,u 161,u 162,u 163,u 164],[]⟩ (w.drewN m):=by
 conv=>arg 2;whnf
 go_wp2_with fail
 exact ⟨⟨rfl,rfl,by simp,j+1,by omega,by go_num,hy.out,_,rfl⟩,by simp [GM,intOf];omega⟩
theorem NJ (F gp cap g h scap tcap n j b l bl r br:Nat) (va vl tl tj vr:Bool) (u:Nat→Value) (P:Nat→Prop) (Q0:Exit→Act→World→Prop) (w:World) (m:Nat)
  (hc:n≤scap) (hd:n≤tcap) (hle:n≤8) (kc:n≤cap) (hlt:j<n) (hl:l<j) (hr:r<j)
  (k0:w.cell? ⟨F,0,none⟩=some (.slice (some ⟨gp,0,none⟩) n cap)) (c1:w.cell? ⟨gp,j,none⟩=some (.pointer (some ⟨b,0,none⟩))) (c2:w.cell? ⟨b,0,none⟩=some (.int .u8 85))
  (sj:w.cell? ⟨g,j,none⟩=some (.bool va)) (hj:w.cell? ⟨h,j,none⟩=some (.bool tj)) (lp:w.cell? ⟨b,1,none⟩=some (.pointer (some ⟨bl,0,none⟩))) (ln:w.cell? ⟨bl,3,none⟩=some (.int .i64 l)) (ls:w.cell? ⟨g,l,none⟩=some (.bool vl)) (lt:w.cell? ⟨h,l,none⟩=some (.bool tl))
  (rp:w.cell? ⟨b,2,none⟩=some (.pointer (some ⟨br,0,none⟩))) (rn:w.cell? ⟨br,3,none⟩=some (.int .i64 r)) (rs:w.cell? ⟨g,r,none⟩=some (.bool vr))
  (hy:Hid ((va==(vr||(vl&&tj)))=true→P (j+1))) (hn:Hid ((va==(vr||(vl&&tj)))=false→∀ a' w'',a'.defers=[]→a'.tmps.size=165→a'.tmps.getD 6 undef=.bool false→(∃ m,w''=w.drewN m)→Q0 .ret a' w'')) :
  Code.wp Tryz.prog (dI Tryz.f121) (Exit.then (fun a' w''=>GI 165 [(0,.pointer (some ⟨F,0,none⟩)),(1,.slice (some ⟨g,0,none⟩) n scap),(2,.slice (some ⟨h,0,none⟩) n tcap)] 7 n P w a' w''∧GM 7 n a' w''<n - j) Q0)
   ⟨#[.pointer (some ⟨F,0,none⟩),.slice (some ⟨g,0,none⟩) n scap,.slice (some ⟨h,0,none⟩) n tcap,u 3,u 4,u 5,u 6,.int .i64 (j:Nat),u 8,u 9,u 10,u 11,u 12,u 13,u 14,u 15,u 16,u 17,u 18,u 19,u 20,u 21,u 22,u 23,u 24,u 25,u 26,u 27,u 28,u 29,u 30,u 31,u 32,u 33,u 34,u 35,u 36,u 37,u 38,u 39,u 40,u 41,u 42,u 43,u 44,u 45,u 46,u 47,u 48,u 49,u 50,u 51,u 52,u 53,u 54,u 55,u 56,u 57,u 58,u 59,u 60,u 61,u 62,u 63,u 64,u 65,u 66,u 67,u 68,u 69,u 70,u 71,u 72,u 73,u 74,u 75,u 76,u 77,u 78,u 79,u 80,u 81,u 82,u 83,u 84,u 85,u 86,u 87,u 88,u 89,u 90,u 91,u 92,u 93,u 94,u 95,u 96,u 97,u 98,u 99,u 100,u 101,u 102,u 103,u 104,u 105,u 106,u 107,u 108,u 109,u 110,u 111,u 112,u 113,u 114,u 115,u 116,u 117,u 118,u 119,u 120,u 121,u 122,u 123,u 124,u 125,u 126,u 127,u 128,u 129,u 130,u 131,u 132,u 133,u 134,u 135,u 136,u 137,u 138,u 139,u 140,u 141,u 142,u 143,u 144,u 145,u 146,u 147,u 148,u 149,u 150,u 151,u 152,u 153,u 154,u 155,u 156,u 157,u 158,u 159,u 160,u 161,u 162,u 163,u 164],[]⟩ (w.drewN m):=by
 conv=>arg 2;whnf
 go_wp2_with fail
 cases vr
 all_goals cases vl
 all_goals go_quiet (fail)
 all_goals go_wp2_with fail
 all_goals
  first
  | exact ⟨⟨rfl,rfl,by simp,j+1,by omega,by go_num,hy.out (by cases va <;> cases tj <;> first | rfl | contradiction),_,rfl⟩,by simp [GM,intOf];omega⟩
  | exact hn.out (by cases va <;> cases tj <;> first | rfl | contradiction) _ _ rfl rfl rfl ⟨_,rfl⟩
theorem NL (F gp cap g h scap tcap n j b l bl r br:Nat) (va vl tl tj vr:Bool) (u:Nat→Value) (P:Nat→Prop) (Q0:Exit→Act→World→Prop) (w:World) (m:Nat)
  (hc:n≤scap) (hd:n≤tcap) (hle:n≤8) (kc:n≤cap) (hlt:j<n) (hl:l<j) (hr:r<j)
  (k0:w.cell? ⟨F,0,none⟩=some (.slice (some ⟨gp,0,none⟩) n cap)) (c1:w.cell? ⟨gp,j,none⟩=some (.pointer (some ⟨b,0,none⟩))) (c2:w.cell? ⟨b,0,none⟩=some (.int .u8 82))
  (sj:w.cell? ⟨g,j,none⟩=some (.bool va)) (hj:w.cell? ⟨h,j,none⟩=some (.bool tj)) (lp:w.cell? ⟨b,1,none⟩=some (.pointer (some ⟨bl,0,none⟩))) (ln:w.cell? ⟨bl,3,none⟩=some (.int .i64 l)) (ls:w.cell? ⟨g,l,none⟩=some (.bool vl)) (lt:w.cell? ⟨h,l,none⟩=some (.bool tl))
  (rp:w.cell? ⟨b,2,none⟩=some (.pointer (some ⟨br,0,none⟩))) (rn:w.cell? ⟨br,3,none⟩=some (.int .i64 r)) (rs:w.cell? ⟨g,r,none⟩=some (.bool vr))
  (hy:Hid ((va==(vr&&(vl||tj)))=true→P (j+1))) (hn:Hid ((va==(vr&&(vl||tj)))=false→∀ a' w'',a'.defers=[]→a'.tmps.size=165→a'.tmps.getD 6 undef=.bool false→(∃ m,w''=w.drewN m)→Q0 .ret a' w'')) :
  Code.wp Tryz.prog (dI Tryz.f121) (Exit.then (fun a' w''=>GI 165 [(0,.pointer (some ⟨F,0,none⟩)),(1,.slice (some ⟨g,0,none⟩) n scap),(2,.slice (some ⟨h,0,none⟩) n tcap)] 7 n P w a' w''∧GM 7 n a' w''<n - j) Q0)
   ⟨#[.pointer (some ⟨F,0,none⟩),.slice (some ⟨g,0,none⟩) n scap,.slice (some ⟨h,0,none⟩) n tcap,u 3,u 4,u 5,u 6,.int .i64 (j:Nat),u 8,u 9,u 10,u 11,u 12,u 13,u 14,u 15,u 16,u 17,u 18,u 19,u 20,u 21,u 22,u 23,u 24,u 25,u 26,u 27,u 28,u 29,u 30,u 31,u 32,u 33,u 34,u 35,u 36,u 37,u 38,u 39,u 40,u 41,u 42,u 43,u 44,u 45,u 46,u 47,u 48,u 49,u 50,u 51,u 52,u 53,u 54,u 55,u 56,u 57,u 58,u 59,u 60,u 61,u 62,u 63,u 64,u 65,u 66,u 67,u 68,u 69,u 70,u 71,u 72,u 73,u 74,u 75,u 76,u 77,u 78,u 79,u 80,u 81,u 82,u 83,u 84,u 85,u 86,u 87,u 88,u 89,u 90,u 91,u 92,u 93,u 94,u 95,u 96,u 97,u 98,u 99,u 100,u 101,u 102,u 103,u 104,u 105,u 106,u 107,u 108,u 109,u 110,u 111,u 112,u 113,u 114,u 115,u 116,u 117,u 118,u 119,u 120,u 121,u 122,u 123,u 124,u 125,u 126,u 127,u 128,u 129,u 130,u 131,u 132,u 133,u 134,u 135,u 136,u 137,u 138,u 139,u 140,u 141,u 142,u 143,u 144,u 145,u 146,u 147,u 148,u 149,u 150,u 151,u 152,u 153,u 154,u 155,u 156,u 157,u 158,u 159,u 160,u 161,u 162,u 163,u 164],[]⟩ (w.drewN m):=by
 conv=>arg 2;whnf
 go_wp2_with fail
 cases vr
 all_goals cases vl
 all_goals go_quiet (fail)
 all_goals go_wp2_with fail
 all_goals
  first
  | exact ⟨⟨rfl,rfl,by simp,j+1,by omega,by go_num,hy.out (by cases va <;> cases tj <;> first | rfl | contradiction),_,rfl⟩,by simp [GM,intOf];omega⟩
  | exact hn.out (by cases va <;> cases tj <;> first | rfl | contradiction) _ _ rfl rfl rfl ⟨_,rfl⟩
theorem ade (F gp cap g h scap tcap n:Nat) (u:Nat→Value) (Z:Act→World→Prop) (Q0:Exit→Act→World→Prop) (w:World) (m:Nat) (hle:n≤8) (kc:n≤cap)
  (k0:w.cell? ⟨F,0,none⟩=some (.slice (some ⟨gp,0,none⟩) n cap)) (hx:∀ a' w'',a'.defers=[]→a'.tmps.size=165→(∃ m,w''=w.drewN m)→Q0 (.exit 0) a' w'') :
  Code.wp Tryz.prog (dI Tryz.f121) (Exit.then Z Q0) ⟨#[.pointer (some ⟨F,0,none⟩),.slice (some ⟨g,0,none⟩) n scap,.slice (some ⟨h,0,none⟩) n tcap,u 3,u 4,u 5,u 6,.int .i64 (n:Nat),u 8,u 9,u 10,u 11,u 12,u 13,u 14,u 15,u 16,u 17,u 18,u 19,u 20,u 21,u 22,u 23,u 24,u 25,u 26,u 27,u 28,u 29,u 30,u 31,u 32,u 33,u 34,u 35,u 36,u 37,u 38,u 39,u 40,u 41,u 42,u 43,u 44,u 45,u 46,u 47,u 48,u 49,u 50,u 51,u 52,u 53,u 54,u 55,u 56,u 57,u 58,u 59,u 60,u 61,u 62,u 63,u 64,u 65,u 66,u 67,u 68,u 69,u 70,u 71,u 72,u 73,u 74,u 75,u 76,u 77,u 78,u 79,u 80,u 81,u 82,u 83,u 84,u 85,u 86,u 87,u 88,u 89,u 90,u 91,u 92,u 93,u 94,u 95,u 96,u 97,u 98,u 99,u 100,u 101,u 102,u 103,u 104,u 105,u 106,u 107,u 108,u 109,u 110,u 111,u 112,u 113,u 114,u 115,u 116,u 117,u 118,u 119,u 120,u 121,u 122,u 123,u 124,u 125,u 126,u 127,u 128,u 129,u 130,u 131,u 132,u 133,u 134,u 135,u 136,u 137,u 138,u 139,u 140,u 141,u 142,u 143,u 144,u 145,u 146,u 147,u 148,u 149,u 150,u 151,u 152,u 153,u 154,u 155,u 156,u 157,u 158,u 159,u 160,u 161,u 162,u 163,u 164],[]⟩ (w.drewN m):=by
 conv=>arg 2;whnf
 go_wp2_with fail
 exact hx _ _ rfl rfl ⟨_,rfl⟩
theorem aci (S T:Nat→Bool) {k:Nat} {nd:Nd} (h:nd.op=48):gm nd k S T=true:=by simp [gm,h]
theorem ach (S T:Nat→Bool) {k:Nat} {nd:Nd} (h:nd.op=49):gm nd k S T=true:=by simp [gm,h]
theorem Y3 (S T:Nat→Bool) {k:Nat} {nd:Nd} (h:nd.op=112):gm nd k S T=true:=by simp [gm,h]
theorem Y2 (S T:Nat→Bool) {k:Nat} {nd:Nd} (h:nd.op=113):gm nd k S T=true:=by simp [gm,h]
theorem Y1 (S T:Nat→Bool) {k:Nat} {nd:Nd} (h:nd.op=114):gm nd k S T=true:=by simp [gm,h]
theorem ack (S T:Nat→Bool) {k:Nat} {nd:Nd} (h:nd.op=33):gm nd k S T=true:=by simp [gm,h]
theorem acb (S T:Nat→Bool) {k:Nat} {nd:Nd} (h:nd.op=88):gm nd k S T=(S k==T nd.l):=by simp [gm,h]
theorem acg (S T:Nat→Bool) {k:Nat} {nd:Nd} (h:nd.op=70):gm nd k S T=(S k==(S nd.l||T k)):=by simp [gm,h]
theorem acf (S T:Nat→Bool) {k:Nat} {nd:Nd} (h:nd.op=71):gm nd k S T=(S k==(S nd.l&&T k)):=by simp [gm,h]
theorem acj (S T:Nat→Bool) {k:Nat} {nd:Nd} (h:nd.op=38):gm nd k S T=true:=by simp [gm,h]
theorem Y0 (S T:Nat→Bool) {k:Nat} {nd:Nd} (h:nd.op=124):gm nd k S T=true:=by simp [gm,h]
theorem acd (S T:Nat→Bool) {k:Nat} {nd:Nd} (h:nd.op=85):gm nd k S T=(S k==(S nd.r||(S nd.l&&T k))):=by simp [gm,h]
theorem ace (S T:Nat→Bool) {k:Nat} {nd:Nd} (h:nd.op=82):gm nd k S T=(S k==(S nd.r&&(S nd.l||T k))):=by simp [gm,h]
theorem BS {a:Act} (h0:a.defers=[]) (h1:a.tmps.size=165):∃ u:Nat→Value,(∀ i,u i=a.tmps.getD i undef)∧a=⟨#[u 0,u 1,u 2,u 3,u 4,u 5,u 6,u 7,u 8,u 9,u 10,u 11,u 12,u 13,u 14,u 15,u 16,u 17,u 18,u 19,u 20,u 21,u 22,u 23,u 24,u 25,u 26,u 27,u 28,u 29,u 30,u 31,u 32,u 33,u 34,u 35,u 36,u 37,u 38,u 39,u 40,u 41,u 42,u 43,u 44,u 45,u 46,u 47,u 48,u 49,u 50,u 51,u 52,u 53,u 54,u 55,u 56,u 57,u 58,u 59,u 60,u 61,u 62,u 63,u 64,u 65,u 66,u 67,u 68,u 69,u 70,u 71,u 72,u 73,u 74,u 75,u 76,u 77,u 78,u 79,u 80,u 81,u 82,u 83,u 84,u 85,u 86,u 87,u 88,u 89,u 90,u 91,u 92,u 93,u 94,u 95,u 96,u 97,u 98,u 99,u 100,u 101,u 102,u 103,u 104,u 105,u 106,u 107,u 108,u 109,u 110,u 111,u 112,u 113,u 114,u 115,u 116,u 117,u 118,u 119,u 120,u 121,u 122,u 123,u 124,u 125,u 126,u 127,u 128,u 129,u 130,u 131,u 132,u 133,u 134,u 135,u 136,u 137,u 138,u 139,u 140,u 141,u 142,u 143,u 144,u 145,u 146,u 147,u 148,u 149,u 150,u 151,u 152,u 153,u 154,u 155,u 156,u 157,u 158,u 159,u 160,u 161,u 162,u 163,u 164],[]⟩:=by
 refine ⟨fun i=>a.tmps.getD i undef,fun _=>rfl,?_⟩
 obtain ⟨t,d⟩:=a
 simp only at h0 h1
 subst h0
 have:=Kz h1
 exact congrArg (fun x=>(⟨x,[]⟩:Act)) this
section
variable (F gp cap g h scap tcap:Nat) (ns:List Nd) (bs:List Nat) (S T:Nat→Bool) (w:World)
def o7 (j:Nat):Prop:=∀ k,k<j→gm (ai ns k) k S T=true
theorem aah (hf:FR w F gp cap ns bs) (hs:Rb w g ns.length S) (ht:Rb w h ns.length T) (hg:Good ns) (hc:ns.length≤scap) (hd:ns.length≤tcap) (Q0:Exit→Act→World→Prop)
  (hx:Aa ns S T=true→∀ a' w'',a'.defers=[]→a'.tmps.size=165→(∃ m,w''=w.drewN m)→Q0 (.exit 0) a' w'')
  (hr:Aa ns S T=false→∀ a' w'',a'.defers=[]→a'.tmps.size=165→a'.tmps.getD 6 undef=.bool false→(∃ m,w''=w.drewN m)→Q0 .ret a' w'')
  (a:Act) (w':World) (hI:GI 165 [(0,.pointer (some ⟨F,0,none⟩)),(1,.slice (some ⟨g,0,none⟩) ns.length scap),(2,.slice (some ⟨h,0,none⟩) ns.length tcap)] 7 ns.length (o7 ns S T) w a w'):Code.wp Tryz.prog (Code.loop (dI Tryz.f121)) Q0 a w':=by
 refine wp_loop (GI 165 [(0,.pointer (some ⟨F,0,none⟩)),(1,.slice (some ⟨g,0,none⟩) ns.length scap),(2,.slice (some ⟨h,0,none⟩) ns.length tcap)] 7 ns.length (o7 ns S T) w) (GM 7 ns.length) hI ?_
 intro a w1 hI
 obtain ⟨d0,d1,d2,j,hj,d5,hP,m,rfl⟩:=hI
 have e0:=d2 _ (List.mem_cons_self ..)
 have e1:=d2 _ (List.mem_cons_of_mem _ (List.mem_cons_self ..))
 have e2:=d2 _ (List.mem_cons_of_mem _ (List.mem_cons_of_mem _ (List.mem_cons_self ..)))
 have hM:GM 7 ns.length a (w.drewN m)=ns.length - j:=by unfold GM;rw [d5];simp [intOf]
 rw [hM]
 obtain ⟨u,hu,ea⟩:=BS d0 d1
 simp only at e0 e1 e2
 rw [←hu] at e0 e1 e2 d5
 rw [ea,e0,e1,e2,d5]
 have hle:=hg.le
 have k0:=hf.c0
 have kc:=hf.hcap
 by_cases hlt:j<ns.length
 ·have c1:=hf.ptr j hlt
  have c2:=hf.op j hlt
  have sj:=hs.cell j hlt
  have tj:=ht.cell j hlt
  have hcl:=hg.wf j _ (iO hlt)
  have bg:∀ k,k<j→w.cell? ⟨bZ bs k,3,none⟩=some (.int .i64 k)∧w.cell? ⟨g,k,none⟩=some (.bool (S k))∧w.cell? ⟨h,k,none⟩=some (.bool (T k)):=fun k hk=>⟨hf.nn k (by omega),hs.cell k (by omega),ht.cell k (by omega)⟩
  have HY:gm (ai ns j) j S T=true→o7 ns S T (j+1):=fun h k hk=>by
   by_cases e:k<j
   ·exact hP k e
   ·rw [show k=j by omega];exact h
  have HN:gm (ai ns j) j S T=false→∀ a' w'',a'.defers=[]→a'.tmps.size=165→a'.tmps.getD 6 undef=.bool false→(∃ m,w''=w.drewN m)→Q0 .ret a' w'':=fun h=>hr (I7 hlt h)
  have lp:=hf.lp j hlt
  have rp:=hf.rp j hlt
  rcases hcl with ⟨hop,_,_⟩ | ⟨hop,hl,_⟩ | ⟨hop,hl,hr2⟩
  ·rcases kV hop with e | e | e | e | e
   ·rw [aci S T e] at HY HN
    rw [e] at c2
    exact NT F gp cap g h scap tcap ns.length j (bZ bs j) u (o7 ns S T) Q0 w m hc hd hle kc hlt k0 c1 c2 (hid (HY rfl))
   ·rw [ach S T e] at HY HN
    rw [e] at c2
    exact NQ F gp cap g h scap tcap ns.length j (bZ bs j) u (o7 ns S T) Q0 w m hc hd hle kc hlt k0 c1 c2 (hid (HY rfl))
   ·rw [Y3 S T e] at HY HN
    rw [e] at c2
    exact Lf F gp cap g h scap tcap ns.length j (bZ bs j) u (o7 ns S T) Q0 w m hc hd hle kc hlt k0 c1 c2 (hid (HY rfl))
   ·rw [Y2 S T e] at HY HN
    rw [e] at c2
    exact Le F gp cap g h scap tcap ns.length j (bZ bs j) u (o7 ns S T) Q0 w m hc hd hle kc hlt k0 c1 c2 (hid (HY rfl))
   ·rw [Y1 S T e] at HY HN
    rw [e] at c2
    exact Ld F gp cap g h scap tcap ns.length j (bZ bs j) u (o7 ns S T) Q0 w m hc hd hle kc hlt k0 c1 c2 (hid (HY rfl))
  ·rcases mR hop with e | e | e | e
   ·rw [ack S T e] at HY HN
    rw [e] at c2
    exact NY F gp cap g h scap tcap ns.length j (bZ bs j) u (o7 ns S T) Q0 w m hc hd hle kc hlt k0 c1 c2 (hid (HY rfl))
   ·rw [acb S T e] at HY HN
    rw [e] at c2
    exact NI F gp cap g h scap tcap ns.length j (bZ bs j) (ai ns j).l (bZ bs (ai ns j).l) (S j) (S (ai ns j).l) (T (ai ns j).l) (T j) u (o7 ns S T) Q0 w m hc hd hle kc hlt hl k0 c1 c2 sj tj (lp (by rw [e];rfl)) (bg _ hl).1 (bg _ hl).2.1 (bg _ hl).2.2 (hid HY) (hid HN)
   ·rw [acg S T e] at HY HN
    rw [e] at c2
    exact NP F gp cap g h scap tcap ns.length j (bZ bs j) (ai ns j).l (bZ bs (ai ns j).l) (S j) (S (ai ns j).l) (T (ai ns j).l) (T j) u (o7 ns S T) Q0 w m hc hd hle kc hlt hl k0 c1 c2 sj tj (lp (by rw [e];rfl)) (bg _ hl).1 (bg _ hl).2.1 (bg _ hl).2.2 (hid HY) (hid HN)
   ·rw [acf S T e] at HY HN
    rw [e] at c2
    exact NN F gp cap g h scap tcap ns.length j (bZ bs j) (ai ns j).l (bZ bs (ai ns j).l) (S j) (S (ai ns j).l) (T (ai ns j).l) (T j) u (o7 ns S T) Q0 w m hc hd hle kc hlt hl k0 c1 c2 sj tj (lp (by rw [e];rfl)) (bg _ hl).1 (bg _ hl).2.1 (bg _ hl).2.2 (hid HY) (hid HN)
  ·rcases jL hop with e | e | e | e
   ·rw [acj S T e] at HY HN
    rw [e] at c2
    exact NV F gp cap g h scap tcap ns.length j (bZ bs j) u (o7 ns S T) Q0 w m hc hd hle kc hlt k0 c1 c2 (hid (HY rfl))
   ·rw [Y0 S T e] at HY HN
    rw [e] at c2
    exact Lc F gp cap g h scap tcap ns.length j (bZ bs j) u (o7 ns S T) Q0 w m hc hd hle kc hlt k0 c1 c2 (hid (HY rfl))
   ·rw [acd S T e] at HY HN
    rw [e] at c2
    exact NJ F gp cap g h scap tcap ns.length j (bZ bs j) (ai ns j).l (bZ bs (ai ns j).l) (ai ns j).r (bZ bs (ai ns j).r) (S j) (S (ai ns j).l) (T (ai ns j).l) (T j) (S (ai ns j).r) u (o7 ns S T) Q0 w m hc hd hle kc hlt hl hr2 k0 c1 c2 sj tj (lp (by rw [e];rfl)) (bg _ hl).1 (bg _ hl).2.1 (bg _ hl).2.2 (rp (by rw [e];rfl)) (bg _ hr2).1 (bg _ hr2).2.1 (hid HY) (hid HN)
   ·rw [ace S T e] at HY HN
    rw [e] at c2
    exact NL F gp cap g h scap tcap ns.length j (bZ bs j) (ai ns j).l (bZ bs (ai ns j).l) (ai ns j).r (bZ bs (ai ns j).r) (S j) (S (ai ns j).l) (T (ai ns j).l) (T j) (S (ai ns j).r) u (o7 ns S T) Q0 w m hc hd hle kc hlt hl hr2 k0 c1 c2 sj tj (lp (by rw [e];rfl)) (bg _ hl).1 (bg _ hl).2.1 (bg _ hl).2.2 (rp (by rw [e];rfl)) (bg _ hr2).1 (bg _ hr2).2.1 (hid HY) (hid HN)
 ·obtain rfl:j=ns.length:=by omega
  exact ade F gp cap g h scap tcap ns.length u _ Q0 w m hle kc k0 (hx (qi.2 hP))
theorem Qt (hf:FR w F gp cap ns bs) (hs:Rb w g ns.length S) (ht:Rb w h ns.length T) (hg:Good ns) (hc:ns.length≤scap) (hd:ns.length≤tcap) :
  Calls Tryz.prog 121 #[.pointer (some ⟨F,0,none⟩),.slice (some ⟨g,0,none⟩) ns.length scap,.slice (some ⟨h,0,none⟩) ns.length tcap] w fun e w'=>e=.returned (.bool (Aa ns S T))∧∃ m,w'=w.drewN m:=by
 have L:=aah F gp cap g h scap tcap ns bs S T w hf hs ht hg hc hd
 have HL:=hid L
 clear L hf hs ht hg hc hd
 generalize ns.length=n at *
 go_enter Tryz.func121,Tryz.ntmps121
 go_wp2_with fail
 refine HL.out _ ?_ ?_ _ _ ?_
 ·intro h a' w'' d0 d1 hm
  obtain ⟨m,rfl⟩:=hm
  obtain ⟨u,_,rfl⟩:=BS d0 d1
  have H:=hid h
  clear h HL d0 d1
  go_wp2_with fail
  go_ret
  exact ⟨by rw [H.out];rfl,m,rfl⟩
 ·intro h a' w'' d0 d1 h4 hm
  obtain ⟨m,rfl⟩:=hm
  obtain ⟨u,_,rfl⟩:=BS d0 d1
  have H:=hid h
  have h5:u 6=.bool false:=h4
  have H5:=hid h5
  clear h HL d0 d1 h4 h5
  go_wp2_with fail
  go_ret
  exact ⟨by rw [H.out];exact congrArg Ending.returned H5.out,m,rfl⟩
 ·exact ⟨rfl,rfl,by simp,0,Nat.zero_le _,rfl,fun k hk=>by omega,0,rfl⟩
end
end Go.Proofs.YtjagijohfkffiabGreat
