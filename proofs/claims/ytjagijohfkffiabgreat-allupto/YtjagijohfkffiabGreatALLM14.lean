import Derived.Test.YtjagijohfkffiabGreatALLM13
set_option maxHeartbeats 16000000
set_option maxRecDepth 100000
namespace Go.Proofs.YtjagijohfkffiabGreat
open Go.RowKit
set_option linter.unusedVariables false
def oh:Code→Option Code
 | .loop c=>some c
 | .seq a b=>match oh a with
  | some c=>some c
  | none=>oh b
 | .block _ c=>oh c
 | .scope c=>oh c
 | .cond _ a b=>match oh a with
  | some c=>some c
  | none=>oh b
 | _=>none
def dI (f:Func):Code:=(f.body.bind oh).getD .skip
theorem Kz {a:Array Value} {n:Nat} (h:a.size=n):a=((List.range n).map (fun i=>a.getD i undef)).toArray:=by
 apply Array.ext
 ·simp [h]
 ·intro i h1 h2
  simp [h1]
def GI (size:Nat) (fixed:List (Nat × Value)) (c n:Nat) (P:Nat→Prop) (w:World) (a:Act) (w':World):Prop:=
 a.defers=[]∧a.tmps.size=size∧(∀ x∈fixed,a.tmps.getD x.1 undef=x.2)∧∃ j,j≤n∧a.tmps.getD c undef=.int .i64 (j:Nat)∧P j∧∃ m,w'=w.drewN m
def GM (c n:Nat) (a:Act) (_:World):Nat:=n - (intOf (a.tmps.getD c undef)).toNat
theorem Lp (F gp cap g scap n j b:Nat) (va:Bool) (u:Nat→Value) (P:Nat→Prop) (Q0:Exit→Act→World→Prop) (w:World) (m:Nat)
  (hc:n≤scap) (hle:n≤8) (kc:n≤cap) (hlt:j<n)
  (k0:w.cell? ⟨F,0,none⟩=some (.slice (some ⟨gp,0,none⟩) n cap)) (c1:w.cell? ⟨gp,j,none⟩=some (.pointer (some ⟨b,0,none⟩))) (c2:w.cell? ⟨b,0,none⟩=some (.int .u8 48)) (sj:w.cell? ⟨g,j,none⟩=some (.bool va))
  (hy:Hid ((!va)=true→P (j+1))) (hn:Hid ((!va)=false→∀ a' w'',a'.defers=[]→a'.tmps.size=257→a'.tmps.getD 4 undef=.bool false→(∃ m,w''=w.drewN m)→Q0 .ret a' w'')) :
  Code.wp Tryz.prog (dI Tryz.f120) (Exit.then (fun a' w''=>GI 257 [(0,.pointer (some ⟨F,0,none⟩)),(1,.slice (some ⟨g,0,none⟩) n scap)] 5 n P w a' w''∧GM 5 n a' w''<n - j) Q0)
   ⟨#[.pointer (some ⟨F,0,none⟩),.slice (some ⟨g,0,none⟩) n scap,u 2,u 3,u 4,.int .i64 (j:Nat),u 6,u 7,u 8,u 9,u 10,u 11,u 12,u 13,u 14,u 15,u 16,u 17,u 18,u 19,u 20,u 21,u 22,u 23,u 24,u 25,u 26,u 27,u 28,u 29,u 30,u 31,u 32,u 33,u 34,u 35,u 36,u 37,u 38,u 39,u 40,u 41,u 42,u 43,u 44,u 45,u 46,u 47,u 48,u 49,u 50,u 51,u 52,u 53,u 54,u 55,u 56,u 57,u 58,u 59,u 60,u 61,u 62,u 63,u 64,u 65,u 66,u 67,u 68,u 69,u 70,u 71,u 72,u 73,u 74,u 75,u 76,u 77,u 78,u 79,u 80,u 81,u 82,u 83,u 84,u 85,u 86,u 87,u 88,u 89,u 90,u 91,u 92,u 93,u 94,u 95,u 96,u 97,u 98,u 99,u 100,u 101,u 102,u 103,u 104,u 105,u 106,u 107,u 108,u 109,u 110,u 111,u 112,u 113,u 114,u 115,u 116,u 117,u 118,u 119,u 120,u 121,u 122,u 123,u 124,u 125,u 126,u 127,u 128,u 129,u 130,u 131,u 132,u 133,u 134,u 135,u 136,u 137,u 138,u 139,u 140,u 141,u 142,u 143,u 144,u 145,u 146,u 147,u 148,u 149,u 150,u 151,u 152,u 153,u 154,u 155,u 156,u 157,u 158,u 159,u 160,u 161,u 162,u 163,u 164,u 165,u 166,u 167,u 168,u 169,u 170,u 171,u 172,u 173,u 174,u 175,u 176,u 177,u 178,u 179,u 180,u 181,u 182,u 183,u 184,u 185,u 186,u 187,u 188,u 189,u 190,u 191,u 192,u 193,u 194,u 195,u 196,u 197,u 198,u 199,u 200,u 201,u 202,u 203,u 204,u 205,u 206,u 207,u 208,u 209,u 210,u 211,u 212,u 213,u 214,u 215,u 216,u 217,u 218,u 219,u 220,u 221,u 222,u 223,u 224,u 225,u 226,u 227,u 228,u 229,u 230,u 231,u 232,u 233,u 234,u 235,u 236,u 237,u 238,u 239,u 240,u 241,u 242,u 243,u 244,u 245,u 246,u 247,u 248,u 249,u 250,u 251,u 252,u 253,u 254,u 255,u 256],[]⟩ (w.drewN m):=by
 conv=>arg 2;whnf
 go_wp2_with fail
 all_goals
  first
  | exact ⟨⟨rfl,rfl,by simp,j+1,by omega,by go_num,hy.out (by cases va <;> first | rfl | contradiction),_,rfl⟩,by simp [GM,intOf];omega⟩
  | exact hn.out (by cases va <;> first | rfl | contradiction) _ _ rfl rfl rfl ⟨_,rfl⟩
theorem Lm (F gp cap g scap n j b:Nat) (va:Bool) (u:Nat→Value) (P:Nat→Prop) (Q0:Exit→Act→World→Prop) (w:World) (m:Nat)
  (hc:n≤scap) (hle:n≤8) (kc:n≤cap) (hlt:j<n)
  (k0:w.cell? ⟨F,0,none⟩=some (.slice (some ⟨gp,0,none⟩) n cap)) (c1:w.cell? ⟨gp,j,none⟩=some (.pointer (some ⟨b,0,none⟩))) (c2:w.cell? ⟨b,0,none⟩=some (.int .u8 49)) (sj:w.cell? ⟨g,j,none⟩=some (.bool va))
  (hy:Hid ((va)=true→P (j+1))) (hn:Hid ((va)=false→∀ a' w'',a'.defers=[]→a'.tmps.size=257→a'.tmps.getD 4 undef=.bool false→(∃ m,w''=w.drewN m)→Q0 .ret a' w'')) :
  Code.wp Tryz.prog (dI Tryz.f120) (Exit.then (fun a' w''=>GI 257 [(0,.pointer (some ⟨F,0,none⟩)),(1,.slice (some ⟨g,0,none⟩) n scap)] 5 n P w a' w''∧GM 5 n a' w''<n - j) Q0)
   ⟨#[.pointer (some ⟨F,0,none⟩),.slice (some ⟨g,0,none⟩) n scap,u 2,u 3,u 4,.int .i64 (j:Nat),u 6,u 7,u 8,u 9,u 10,u 11,u 12,u 13,u 14,u 15,u 16,u 17,u 18,u 19,u 20,u 21,u 22,u 23,u 24,u 25,u 26,u 27,u 28,u 29,u 30,u 31,u 32,u 33,u 34,u 35,u 36,u 37,u 38,u 39,u 40,u 41,u 42,u 43,u 44,u 45,u 46,u 47,u 48,u 49,u 50,u 51,u 52,u 53,u 54,u 55,u 56,u 57,u 58,u 59,u 60,u 61,u 62,u 63,u 64,u 65,u 66,u 67,u 68,u 69,u 70,u 71,u 72,u 73,u 74,u 75,u 76,u 77,u 78,u 79,u 80,u 81,u 82,u 83,u 84,u 85,u 86,u 87,u 88,u 89,u 90,u 91,u 92,u 93,u 94,u 95,u 96,u 97,u 98,u 99,u 100,u 101,u 102,u 103,u 104,u 105,u 106,u 107,u 108,u 109,u 110,u 111,u 112,u 113,u 114,u 115,u 116,u 117,u 118,u 119,u 120,u 121,u 122,u 123,u 124,u 125,u 126,u 127,u 128,u 129,u 130,u 131,u 132,u 133,u 134,u 135,u 136,u 137,u 138,u 139,u 140,u 141,u 142,u 143,u 144,u 145,u 146,u 147,u 148,u 149,u 150,u 151,u 152,u 153,u 154,u 155,u 156,u 157,u 158,u 159,u 160,u 161,u 162,u 163,u 164,u 165,u 166,u 167,u 168,u 169,u 170,u 171,u 172,u 173,u 174,u 175,u 176,u 177,u 178,u 179,u 180,u 181,u 182,u 183,u 184,u 185,u 186,u 187,u 188,u 189,u 190,u 191,u 192,u 193,u 194,u 195,u 196,u 197,u 198,u 199,u 200,u 201,u 202,u 203,u 204,u 205,u 206,u 207,u 208,u 209,u 210,u 211,u 212,u 213,u 214,u 215,u 216,u 217,u 218,u 219,u 220,u 221,u 222,u 223,u 224,u 225,u 226,u 227,u 228,u 229,u 230,u 231,u 232,u 233,u 234,u 235,u 236,u 237,u 238,u 239,u 240,u 241,u 242,u 243,u 244,u 245,u 246,u 247,u 248,u 249,u 250,u 251,u 252,u 253,u 254,u 255,u 256],[]⟩ (w.drewN m):=by
 conv=>arg 2;whnf
 go_wp2_with fail
 all_goals
  first
  | exact ⟨⟨rfl,rfl,by simp,j+1,by omega,by go_num,hy.out (by cases va <;> first | rfl | contradiction),_,rfl⟩,by simp [GM,intOf];omega⟩
  | exact hn.out (by cases va <;> first | rfl | contradiction) _ _ rfl rfl rfl ⟨_,rfl⟩
theorem IQ (F gp cap g scap n j b:Nat) (va:Bool) (u:Nat→Value) (P:Nat→Prop) (Q0:Exit→Act→World→Prop) (w:World) (m:Nat)
  (hc:n≤scap) (hle:n≤8) (kc:n≤cap) (hlt:j<n)
  (k0:w.cell? ⟨F,0,none⟩=some (.slice (some ⟨gp,0,none⟩) n cap)) (c1:w.cell? ⟨gp,j,none⟩=some (.pointer (some ⟨b,0,none⟩))) (c2:w.cell? ⟨b,0,none⟩=some (.int .u8 112)) (sj:w.cell? ⟨g,j,none⟩=some (.bool va))
  (hy:Hid (P (j+1))) :
  Code.wp Tryz.prog (dI Tryz.f120) (Exit.then (fun a' w''=>GI 257 [(0,.pointer (some ⟨F,0,none⟩)),(1,.slice (some ⟨g,0,none⟩) n scap)] 5 n P w a' w''∧GM 5 n a' w''<n - j) Q0)
   ⟨#[.pointer (some ⟨F,0,none⟩),.slice (some ⟨g,0,none⟩) n scap,u 2,u 3,u 4,.int .i64 (j:Nat),u 6,u 7,u 8,u 9,u 10,u 11,u 12,u 13,u 14,u 15,u 16,u 17,u 18,u 19,u 20,u 21,u 22,u 23,u 24,u 25,u 26,u 27,u 28,u 29,u 30,u 31,u 32,u 33,u 34,u 35,u 36,u 37,u 38,u 39,u 40,u 41,u 42,u 43,u 44,u 45,u 46,u 47,u 48,u 49,u 50,u 51,u 52,u 53,u 54,u 55,u 56,u 57,u 58,u 59,u 60,u 61,u 62,u 63,u 64,u 65,u 66,u 67,u 68,u 69,u 70,u 71,u 72,u 73,u 74,u 75,u 76,u 77,u 78,u 79,u 80,u 81,u 82,u 83,u 84,u 85,u 86,u 87,u 88,u 89,u 90,u 91,u 92,u 93,u 94,u 95,u 96,u 97,u 98,u 99,u 100,u 101,u 102,u 103,u 104,u 105,u 106,u 107,u 108,u 109,u 110,u 111,u 112,u 113,u 114,u 115,u 116,u 117,u 118,u 119,u 120,u 121,u 122,u 123,u 124,u 125,u 126,u 127,u 128,u 129,u 130,u 131,u 132,u 133,u 134,u 135,u 136,u 137,u 138,u 139,u 140,u 141,u 142,u 143,u 144,u 145,u 146,u 147,u 148,u 149,u 150,u 151,u 152,u 153,u 154,u 155,u 156,u 157,u 158,u 159,u 160,u 161,u 162,u 163,u 164,u 165,u 166,u 167,u 168,u 169,u 170,u 171,u 172,u 173,u 174,u 175,u 176,u 177,u 178,u 179,u 180,u 181,u 182,u 183,u 184,u 185,u 186,u 187,u 188,u 189,u 190,u 191,u 192,u 193,u 194,u 195,u 196,u 197,u 198,u 199,u 200,u 201,u 202,u 203,u 204,u 205,u 206,u 207,u 208,u 209,u 210,u 211,u 212,u 213,u 214,u 215,u 216,u 217,u 218,u 219,u 220,u 221,u 222,u 223,u 224,u 225,u 226,u 227,u 228,u 229,u 230,u 231,u 232,u 233,u 234,u 235,u 236,u 237,u 238,u 239,u 240,u 241,u 242,u 243,u 244,u 245,u 246,u 247,u 248,u 249,u 250,u 251,u 252,u 253,u 254,u 255,u 256],[]⟩ (w.drewN m):=by
 conv=>arg 2;whnf
 go_wp2_with fail
 exact ⟨⟨rfl,rfl,by simp,j+1,by omega,by go_num,hy.out,_,rfl⟩,by simp [GM,intOf];omega⟩
theorem IP (F gp cap g scap n j b:Nat) (va:Bool) (u:Nat→Value) (P:Nat→Prop) (Q0:Exit→Act→World→Prop) (w:World) (m:Nat)
  (hc:n≤scap) (hle:n≤8) (kc:n≤cap) (hlt:j<n)
  (k0:w.cell? ⟨F,0,none⟩=some (.slice (some ⟨gp,0,none⟩) n cap)) (c1:w.cell? ⟨gp,j,none⟩=some (.pointer (some ⟨b,0,none⟩))) (c2:w.cell? ⟨b,0,none⟩=some (.int .u8 113)) (sj:w.cell? ⟨g,j,none⟩=some (.bool va))
  (hy:Hid (P (j+1))) :
  Code.wp Tryz.prog (dI Tryz.f120) (Exit.then (fun a' w''=>GI 257 [(0,.pointer (some ⟨F,0,none⟩)),(1,.slice (some ⟨g,0,none⟩) n scap)] 5 n P w a' w''∧GM 5 n a' w''<n - j) Q0)
   ⟨#[.pointer (some ⟨F,0,none⟩),.slice (some ⟨g,0,none⟩) n scap,u 2,u 3,u 4,.int .i64 (j:Nat),u 6,u 7,u 8,u 9,u 10,u 11,u 12,u 13,u 14,u 15,u 16,u 17,u 18,u 19,u 20,u 21,u 22,u 23,u 24,u 25,u 26,u 27,u 28,u 29,u 30,u 31,u 32,u 33,u 34,u 35,u 36,u 37,u 38,u 39,u 40,u 41,u 42,u 43,u 44,u 45,u 46,u 47,u 48,u 49,u 50,u 51,u 52,u 53,u 54,u 55,u 56,u 57,u 58,u 59,u 60,u 61,u 62,u 63,u 64,u 65,u 66,u 67,u 68,u 69,u 70,u 71,u 72,u 73,u 74,u 75,u 76,u 77,u 78,u 79,u 80,u 81,u 82,u 83,u 84,u 85,u 86,u 87,u 88,u 89,u 90,u 91,u 92,u 93,u 94,u 95,u 96,u 97,u 98,u 99,u 100,u 101,u 102,u 103,u 104,u 105,u 106,u 107,u 108,u 109,u 110,u 111,u 112,u 113,u 114,u 115,u 116,u 117,u 118,u 119,u 120,u 121,u 122,u 123,u 124,u 125,u 126,u 127,u 128,u 129,u 130,u 131,u 132,u 133,u 134,u 135,u 136,u 137,u 138,u 139,u 140,u 141,u 142,u 143,u 144,u 145,u 146,u 147,u 148,u 149,u 150,u 151,u 152,u 153,u 154,u 155,u 156,u 157,u 158,u 159,u 160,u 161,u 162,u 163,u 164,u 165,u 166,u 167,u 168,u 169,u 170,u 171,u 172,u 173,u 174,u 175,u 176,u 177,u 178,u 179,u 180,u 181,u 182,u 183,u 184,u 185,u 186,u 187,u 188,u 189,u 190,u 191,u 192,u 193,u 194,u 195,u 196,u 197,u 198,u 199,u 200,u 201,u 202,u 203,u 204,u 205,u 206,u 207,u 208,u 209,u 210,u 211,u 212,u 213,u 214,u 215,u 216,u 217,u 218,u 219,u 220,u 221,u 222,u 223,u 224,u 225,u 226,u 227,u 228,u 229,u 230,u 231,u 232,u 233,u 234,u 235,u 236,u 237,u 238,u 239,u 240,u 241,u 242,u 243,u 244,u 245,u 246,u 247,u 248,u 249,u 250,u 251,u 252,u 253,u 254,u 255,u 256],[]⟩ (w.drewN m):=by
 conv=>arg 2;whnf
 go_wp2_with fail
 exact ⟨⟨rfl,rfl,by simp,j+1,by omega,by go_num,hy.out,_,rfl⟩,by simp [GM,intOf];omega⟩
theorem IM (F gp cap g scap n j b:Nat) (va:Bool) (u:Nat→Value) (P:Nat→Prop) (Q0:Exit→Act→World→Prop) (w:World) (m:Nat)
  (hc:n≤scap) (hle:n≤8) (kc:n≤cap) (hlt:j<n)
  (k0:w.cell? ⟨F,0,none⟩=some (.slice (some ⟨gp,0,none⟩) n cap)) (c1:w.cell? ⟨gp,j,none⟩=some (.pointer (some ⟨b,0,none⟩))) (c2:w.cell? ⟨b,0,none⟩=some (.int .u8 114)) (sj:w.cell? ⟨g,j,none⟩=some (.bool va))
  (hy:Hid (P (j+1))) :
  Code.wp Tryz.prog (dI Tryz.f120) (Exit.then (fun a' w''=>GI 257 [(0,.pointer (some ⟨F,0,none⟩)),(1,.slice (some ⟨g,0,none⟩) n scap)] 5 n P w a' w''∧GM 5 n a' w''<n - j) Q0)
   ⟨#[.pointer (some ⟨F,0,none⟩),.slice (some ⟨g,0,none⟩) n scap,u 2,u 3,u 4,.int .i64 (j:Nat),u 6,u 7,u 8,u 9,u 10,u 11,u 12,u 13,u 14,u 15,u 16,u 17,u 18,u 19,u 20,u 21,u 22,u 23,u 24,u 25,u 26,u 27,u 28,u 29,u 30,u 31,u 32,u 33,u 34,u 35,u 36,u 37,u 38,u 39,u 40,u 41,u 42,u 43,u 44,u 45,u 46,u 47,u 48,u 49,u 50,u 51,u 52,u 53,u 54,u 55,u 56,u 57,u 58,u 59,u 60,u 61,u 62,u 63,u 64,u 65,u 66,u 67,u 68,u 69,u 70,u 71,u 72,u 73,u 74,u 75,u 76,u 77,u 78,u 79,u 80,u 81,u 82,u 83,u 84,u 85,u 86,u 87,u 88,u 89,u 90,u 91,u 92,u 93,u 94,u 95,u 96,u 97,u 98,u 99,u 100,u 101,u 102,u 103,u 104,u 105,u 106,u 107,u 108,u 109,u 110,u 111,u 112,u 113,u 114,u 115,u 116,u 117,u 118,u 119,u 120,u 121,u 122,u 123,u 124,u 125,u 126,u 127,u 128,u 129,u 130,u 131,u 132,u 133,u 134,u 135,u 136,u 137,u 138,u 139,u 140,u 141,u 142,u 143,u 144,u 145,u 146,u 147,u 148,u 149,u 150,u 151,u 152,u 153,u 154,u 155,u 156,u 157,u 158,u 159,u 160,u 161,u 162,u 163,u 164,u 165,u 166,u 167,u 168,u 169,u 170,u 171,u 172,u 173,u 174,u 175,u 176,u 177,u 178,u 179,u 180,u 181,u 182,u 183,u 184,u 185,u 186,u 187,u 188,u 189,u 190,u 191,u 192,u 193,u 194,u 195,u 196,u 197,u 198,u 199,u 200,u 201,u 202,u 203,u 204,u 205,u 206,u 207,u 208,u 209,u 210,u 211,u 212,u 213,u 214,u 215,u 216,u 217,u 218,u 219,u 220,u 221,u 222,u 223,u 224,u 225,u 226,u 227,u 228,u 229,u 230,u 231,u 232,u 233,u 234,u 235,u 236,u 237,u 238,u 239,u 240,u 241,u 242,u 243,u 244,u 245,u 246,u 247,u 248,u 249,u 250,u 251,u 252,u 253,u 254,u 255,u 256],[]⟩ (w.drewN m):=by
 conv=>arg 2;whnf
 go_wp2_with fail
 exact ⟨⟨rfl,rfl,by simp,j+1,by omega,by go_num,hy.out,_,rfl⟩,by simp [GM,intOf];omega⟩
theorem Ls (F gp cap g scap n j b l bl:Nat) (va vl:Bool) (u:Nat→Value) (P:Nat→Prop) (Q0:Exit→Act→World→Prop) (w:World) (m:Nat)
  (hc:n≤scap) (hle:n≤8) (kc:n≤cap) (hlt:j<n) (hl:l<j)
  (k0:w.cell? ⟨F,0,none⟩=some (.slice (some ⟨gp,0,none⟩) n cap)) (c1:w.cell? ⟨gp,j,none⟩=some (.pointer (some ⟨b,0,none⟩))) (c2:w.cell? ⟨b,0,none⟩=some (.int .u8 33)) (sj:w.cell? ⟨g,j,none⟩=some (.bool va))
  (lp:w.cell? ⟨b,1,none⟩=some (.pointer (some ⟨bl,0,none⟩))) (ln:w.cell? ⟨bl,3,none⟩=some (.int .i64 l)) (ls:w.cell? ⟨g,l,none⟩=some (.bool vl))
  (hy:Hid ((va!=vl)=true→P (j+1))) (hn:Hid ((va!=vl)=false→∀ a' w'',a'.defers=[]→a'.tmps.size=257→a'.tmps.getD 4 undef=.bool false→(∃ m,w''=w.drewN m)→Q0 .ret a' w'')) :
  Code.wp Tryz.prog (dI Tryz.f120) (Exit.then (fun a' w''=>GI 257 [(0,.pointer (some ⟨F,0,none⟩)),(1,.slice (some ⟨g,0,none⟩) n scap)] 5 n P w a' w''∧GM 5 n a' w''<n - j) Q0)
   ⟨#[.pointer (some ⟨F,0,none⟩),.slice (some ⟨g,0,none⟩) n scap,u 2,u 3,u 4,.int .i64 (j:Nat),u 6,u 7,u 8,u 9,u 10,u 11,u 12,u 13,u 14,u 15,u 16,u 17,u 18,u 19,u 20,u 21,u 22,u 23,u 24,u 25,u 26,u 27,u 28,u 29,u 30,u 31,u 32,u 33,u 34,u 35,u 36,u 37,u 38,u 39,u 40,u 41,u 42,u 43,u 44,u 45,u 46,u 47,u 48,u 49,u 50,u 51,u 52,u 53,u 54,u 55,u 56,u 57,u 58,u 59,u 60,u 61,u 62,u 63,u 64,u 65,u 66,u 67,u 68,u 69,u 70,u 71,u 72,u 73,u 74,u 75,u 76,u 77,u 78,u 79,u 80,u 81,u 82,u 83,u 84,u 85,u 86,u 87,u 88,u 89,u 90,u 91,u 92,u 93,u 94,u 95,u 96,u 97,u 98,u 99,u 100,u 101,u 102,u 103,u 104,u 105,u 106,u 107,u 108,u 109,u 110,u 111,u 112,u 113,u 114,u 115,u 116,u 117,u 118,u 119,u 120,u 121,u 122,u 123,u 124,u 125,u 126,u 127,u 128,u 129,u 130,u 131,u 132,u 133,u 134,u 135,u 136,u 137,u 138,u 139,u 140,u 141,u 142,u 143,u 144,u 145,u 146,u 147,u 148,u 149,u 150,u 151,u 152,u 153,u 154,u 155,u 156,u 157,u 158,u 159,u 160,u 161,u 162,u 163,u 164,u 165,u 166,u 167,u 168,u 169,u 170,u 171,u 172,u 173,u 174,u 175,u 176,u 177,u 178,u 179,u 180,u 181,u 182,u 183,u 184,u 185,u 186,u 187,u 188,u 189,u 190,u 191,u 192,u 193,u 194,u 195,u 196,u 197,u 198,u 199,u 200,u 201,u 202,u 203,u 204,u 205,u 206,u 207,u 208,u 209,u 210,u 211,u 212,u 213,u 214,u 215,u 216,u 217,u 218,u 219,u 220,u 221,u 222,u 223,u 224,u 225,u 226,u 227,u 228,u 229,u 230,u 231,u 232,u 233,u 234,u 235,u 236,u 237,u 238,u 239,u 240,u 241,u 242,u 243,u 244,u 245,u 246,u 247,u 248,u 249,u 250,u 251,u 252,u 253,u 254,u 255,u 256],[]⟩ (w.drewN m):=by
 conv=>arg 2;whnf
 go_wp2_with fail
 go_quiet (fail)
 go_wp2_with fail
 all_goals
  first
  | exact ⟨⟨rfl,rfl,by simp,j+1,by omega,by go_num,hy.out (by cases va <;> cases vl <;> first | rfl | contradiction),_,rfl⟩,by simp [GM,intOf];omega⟩
  | exact hn.out (by cases va <;> cases vl <;> first | rfl | contradiction) _ _ rfl rfl rfl ⟨_,rfl⟩
theorem Lg (F gp cap g scap n j b l bl:Nat) (va vl:Bool) (u:Nat→Value) (P:Nat→Prop) (Q0:Exit→Act→World→Prop) (w:World) (m:Nat)
  (hc:n≤scap) (hle:n≤8) (kc:n≤cap) (hlt:j<n) (hl:l<j)
  (k0:w.cell? ⟨F,0,none⟩=some (.slice (some ⟨gp,0,none⟩) n cap)) (c1:w.cell? ⟨gp,j,none⟩=some (.pointer (some ⟨b,0,none⟩))) (c2:w.cell? ⟨b,0,none⟩=some (.int .u8 88)) (sj:w.cell? ⟨g,j,none⟩=some (.bool va))
  (lp:w.cell? ⟨b,1,none⟩=some (.pointer (some ⟨bl,0,none⟩))) (ln:w.cell? ⟨bl,3,none⟩=some (.int .i64 l)) (ls:w.cell? ⟨g,l,none⟩=some (.bool vl))
  (hy:Hid (P (j+1))) :
  Code.wp Tryz.prog (dI Tryz.f120) (Exit.then (fun a' w''=>GI 257 [(0,.pointer (some ⟨F,0,none⟩)),(1,.slice (some ⟨g,0,none⟩) n scap)] 5 n P w a' w''∧GM 5 n a' w''<n - j) Q0)
   ⟨#[.pointer (some ⟨F,0,none⟩),.slice (some ⟨g,0,none⟩) n scap,u 2,u 3,u 4,.int .i64 (j:Nat),u 6,u 7,u 8,u 9,u 10,u 11,u 12,u 13,u 14,u 15,u 16,u 17,u 18,u 19,u 20,u 21,u 22,u 23,u 24,u 25,u 26,u 27,u 28,u 29,u 30,u 31,u 32,u 33,u 34,u 35,u 36,u 37,u 38,u 39,u 40,u 41,u 42,u 43,u 44,u 45,u 46,u 47,u 48,u 49,u 50,u 51,u 52,u 53,u 54,u 55,u 56,u 57,u 58,u 59,u 60,u 61,u 62,u 63,u 64,u 65,u 66,u 67,u 68,u 69,u 70,u 71,u 72,u 73,u 74,u 75,u 76,u 77,u 78,u 79,u 80,u 81,u 82,u 83,u 84,u 85,u 86,u 87,u 88,u 89,u 90,u 91,u 92,u 93,u 94,u 95,u 96,u 97,u 98,u 99,u 100,u 101,u 102,u 103,u 104,u 105,u 106,u 107,u 108,u 109,u 110,u 111,u 112,u 113,u 114,u 115,u 116,u 117,u 118,u 119,u 120,u 121,u 122,u 123,u 124,u 125,u 126,u 127,u 128,u 129,u 130,u 131,u 132,u 133,u 134,u 135,u 136,u 137,u 138,u 139,u 140,u 141,u 142,u 143,u 144,u 145,u 146,u 147,u 148,u 149,u 150,u 151,u 152,u 153,u 154,u 155,u 156,u 157,u 158,u 159,u 160,u 161,u 162,u 163,u 164,u 165,u 166,u 167,u 168,u 169,u 170,u 171,u 172,u 173,u 174,u 175,u 176,u 177,u 178,u 179,u 180,u 181,u 182,u 183,u 184,u 185,u 186,u 187,u 188,u 189,u 190,u 191,u 192,u 193,u 194,u 195,u 196,u 197,u 198,u 199,u 200,u 201,u 202,u 203,u 204,u 205,u 206,u 207,u 208,u 209,u 210,u 211,u 212,u 213,u 214,u 215,u 216,u 217,u 218,u 219,u 220,u 221,u 222,u 223,u 224,u 225,u 226,u 227,u 228,u 229,u 230,u 231,u 232,u 233,u 234,u 235,u 236,u 237,u 238,u 239,u 240,u 241,u 242,u 243,u 244,u 245,u 246,u 247,u 248,u 249,u 250,u 251,u 252,u 253,u 254,u 255,u 256],[]⟩ (w.drewN m):=by
 conv=>arg 2;whnf
 go_wp2_with fail
 exact ⟨⟨rfl,rfl,by simp,j+1,by omega,by go_num,hy.out,_,rfl⟩,by simp [GM,intOf];omega⟩
theorem Ll (F gp cap g scap n j b l bl:Nat) (va vl:Bool) (u:Nat→Value) (P:Nat→Prop) (Q0:Exit→Act→World→Prop) (w:World) (m:Nat)
  (hc:n≤scap) (hle:n≤8) (kc:n≤cap) (hlt:j<n) (hl:l<j)
  (k0:w.cell? ⟨F,0,none⟩=some (.slice (some ⟨gp,0,none⟩) n cap)) (c1:w.cell? ⟨gp,j,none⟩=some (.pointer (some ⟨b,0,none⟩))) (c2:w.cell? ⟨b,0,none⟩=some (.int .u8 70)) (sj:w.cell? ⟨g,j,none⟩=some (.bool va))
  (lp:w.cell? ⟨b,1,none⟩=some (.pointer (some ⟨bl,0,none⟩))) (ln:w.cell? ⟨bl,3,none⟩=some (.int .i64 l)) (ls:w.cell? ⟨g,l,none⟩=some (.bool vl))
  (hy:Hid ((va||!vl)=true→P (j+1))) (hn:Hid ((va||!vl)=false→∀ a' w'',a'.defers=[]→a'.tmps.size=257→a'.tmps.getD 4 undef=.bool false→(∃ m,w''=w.drewN m)→Q0 .ret a' w'')) :
  Code.wp Tryz.prog (dI Tryz.f120) (Exit.then (fun a' w''=>GI 257 [(0,.pointer (some ⟨F,0,none⟩)),(1,.slice (some ⟨g,0,none⟩) n scap)] 5 n P w a' w''∧GM 5 n a' w''<n - j) Q0)
   ⟨#[.pointer (some ⟨F,0,none⟩),.slice (some ⟨g,0,none⟩) n scap,u 2,u 3,u 4,.int .i64 (j:Nat),u 6,u 7,u 8,u 9,u 10,u 11,u 12,u 13,u 14,u 15,u 16,u 17,u 18,u 19,u 20,u 21,u 22,u 23,u 24,u 25,u 26,u 27,u 28,u 29,u 30,u 31,u 32,u 33,u 34,u 35,u 36,u 37,u 38,u 39,u 40,u 41,u 42,u 43,u 44,u 45,u 46,u 47,u 48,u 49,u 50,u 51,u 52,u 53,u 54,u 55,u 56,u 57,u 58,u 59,u 60,u 61,u 62,u 63,u 64,u 65,u 66,u 67,u 68,u 69,u 70,u 71,u 72,u 73,u 74,u 75,u 76,u 77,u 78,u 79,u 80,u 81,u 82,u 83,u 84,u 85,u 86,u 87,u 88,u 89,u 90,u 91,u 92,u 93,u 94,u 95,u 96,u 97,u 98,u 99,u 100,u 101,u 102,u 103,u 104,u 105,u 106,u 107,u 108,u 109,u 110,u 111,u 112,u 113,u 114,u 115,u 116,u 117,u 118,u 119,u 120,u 121,u 122,u 123,u 124,u 125,u 126,u 127,u 128,u 129,u 130,u 131,u 132,u 133,u 134,u 135,u 136,u 137,u 138,u 139,u 140,u 141,u 142,u 143,u 144,u 145,u 146,u 147,u 148,u 149,u 150,u 151,u 152,u 153,u 154,u 155,u 156,u 157,u 158,u 159,u 160,u 161,u 162,u 163,u 164,u 165,u 166,u 167,u 168,u 169,u 170,u 171,u 172,u 173,u 174,u 175,u 176,u 177,u 178,u 179,u 180,u 181,u 182,u 183,u 184,u 185,u 186,u 187,u 188,u 189,u 190,u 191,u 192,u 193,u 194,u 195,u 196,u 197,u 198,u 199,u 200,u 201,u 202,u 203,u 204,u 205,u 206,u 207,u 208,u 209,u 210,u 211,u 212,u 213,u 214,u 215,u 216,u 217,u 218,u 219,u 220,u 221,u 222,u 223,u 224,u 225,u 226,u 227,u 228,u 229,u 230,u 231,u 232,u 233,u 234,u 235,u 236,u 237,u 238,u 239,u 240,u 241,u 242,u 243,u 244,u 245,u 246,u 247,u 248,u 249,u 250,u 251,u 252,u 253,u 254,u 255,u 256],[]⟩ (w.drewN m):=by
 conv=>arg 2;whnf
 go_wp2_with fail
 all_goals
  first
  | exact ⟨⟨rfl,rfl,by simp,j+1,by omega,by go_num,hy.out (by cases va <;> cases vl <;> first | rfl | contradiction),_,rfl⟩,by simp [GM,intOf];omega⟩
  | exact hn.out (by cases va <;> cases vl <;> first | rfl | contradiction) _ _ rfl rfl rfl ⟨_,rfl⟩
theorem Lj (F gp cap g scap n j b l bl:Nat) (va vl:Bool) (u:Nat→Value) (P:Nat→Prop) (Q0:Exit→Act→World→Prop) (w:World) (m:Nat)
  (hc:n≤scap) (hle:n≤8) (kc:n≤cap) (hlt:j<n) (hl:l<j)
  (k0:w.cell? ⟨F,0,none⟩=some (.slice (some ⟨gp,0,none⟩) n cap)) (c1:w.cell? ⟨gp,j,none⟩=some (.pointer (some ⟨b,0,none⟩))) (c2:w.cell? ⟨b,0,none⟩=some (.int .u8 71)) (sj:w.cell? ⟨g,j,none⟩=some (.bool va))
  (lp:w.cell? ⟨b,1,none⟩=some (.pointer (some ⟨bl,0,none⟩))) (ln:w.cell? ⟨bl,3,none⟩=some (.int .i64 l)) (ls:w.cell? ⟨g,l,none⟩=some (.bool vl))
  (hy:Hid ((!va||vl)=true→P (j+1))) (hn:Hid ((!va||vl)=false→∀ a' w'',a'.defers=[]→a'.tmps.size=257→a'.tmps.getD 4 undef=.bool false→(∃ m,w''=w.drewN m)→Q0 .ret a' w'')) :
  Code.wp Tryz.prog (dI Tryz.f120) (Exit.then (fun a' w''=>GI 257 [(0,.pointer (some ⟨F,0,none⟩)),(1,.slice (some ⟨g,0,none⟩) n scap)] 5 n P w a' w''∧GM 5 n a' w''<n - j) Q0)
   ⟨#[.pointer (some ⟨F,0,none⟩),.slice (some ⟨g,0,none⟩) n scap,u 2,u 3,u 4,.int .i64 (j:Nat),u 6,u 7,u 8,u 9,u 10,u 11,u 12,u 13,u 14,u 15,u 16,u 17,u 18,u 19,u 20,u 21,u 22,u 23,u 24,u 25,u 26,u 27,u 28,u 29,u 30,u 31,u 32,u 33,u 34,u 35,u 36,u 37,u 38,u 39,u 40,u 41,u 42,u 43,u 44,u 45,u 46,u 47,u 48,u 49,u 50,u 51,u 52,u 53,u 54,u 55,u 56,u 57,u 58,u 59,u 60,u 61,u 62,u 63,u 64,u 65,u 66,u 67,u 68,u 69,u 70,u 71,u 72,u 73,u 74,u 75,u 76,u 77,u 78,u 79,u 80,u 81,u 82,u 83,u 84,u 85,u 86,u 87,u 88,u 89,u 90,u 91,u 92,u 93,u 94,u 95,u 96,u 97,u 98,u 99,u 100,u 101,u 102,u 103,u 104,u 105,u 106,u 107,u 108,u 109,u 110,u 111,u 112,u 113,u 114,u 115,u 116,u 117,u 118,u 119,u 120,u 121,u 122,u 123,u 124,u 125,u 126,u 127,u 128,u 129,u 130,u 131,u 132,u 133,u 134,u 135,u 136,u 137,u 138,u 139,u 140,u 141,u 142,u 143,u 144,u 145,u 146,u 147,u 148,u 149,u 150,u 151,u 152,u 153,u 154,u 155,u 156,u 157,u 158,u 159,u 160,u 161,u 162,u 163,u 164,u 165,u 166,u 167,u 168,u 169,u 170,u 171,u 172,u 173,u 174,u 175,u 176,u 177,u 178,u 179,u 180,u 181,u 182,u 183,u 184,u 185,u 186,u 187,u 188,u 189,u 190,u 191,u 192,u 193,u 194,u 195,u 196,u 197,u 198,u 199,u 200,u 201,u 202,u 203,u 204,u 205,u 206,u 207,u 208,u 209,u 210,u 211,u 212,u 213,u 214,u 215,u 216,u 217,u 218,u 219,u 220,u 221,u 222,u 223,u 224,u 225,u 226,u 227,u 228,u 229,u 230,u 231,u 232,u 233,u 234,u 235,u 236,u 237,u 238,u 239,u 240,u 241,u 242,u 243,u 244,u 245,u 246,u 247,u 248,u 249,u 250,u 251,u 252,u 253,u 254,u 255,u 256],[]⟩ (w.drewN m):=by
 conv=>arg 2;whnf
 go_wp2_with fail
 all_goals
  first
  | exact ⟨⟨rfl,rfl,by simp,j+1,by omega,by go_num,hy.out (by cases va <;> cases vl <;> first | rfl | contradiction),_,rfl⟩,by simp [GM,intOf];omega⟩
  | exact hn.out (by cases va <;> cases vl <;> first | rfl | contradiction) _ _ rfl rfl rfl ⟨_,rfl⟩
theorem aal (F gp cap g scap n:Nat) (u:Nat→Value) (Z:Act→World→Prop) (Q0:Exit→Act→World→Prop) (w:World) (m:Nat) (hle:n≤8) (kc:n≤cap)
  (k0:w.cell? ⟨F,0,none⟩=some (.slice (some ⟨gp,0,none⟩) n cap)) (hx:∀ a' w'',a'.defers=[]→a'.tmps.size=257→(∃ m,w''=w.drewN m)→Q0 (.exit 0) a' w'') :
  Code.wp Tryz.prog (dI Tryz.f120) (Exit.then Z Q0) ⟨#[.pointer (some ⟨F,0,none⟩),.slice (some ⟨g,0,none⟩) n scap,u 2,u 3,u 4,.int .i64 (n:Nat),u 6,u 7,u 8,u 9,u 10,u 11,u 12,u 13,u 14,u 15,u 16,u 17,u 18,u 19,u 20,u 21,u 22,u 23,u 24,u 25,u 26,u 27,u 28,u 29,u 30,u 31,u 32,u 33,u 34,u 35,u 36,u 37,u 38,u 39,u 40,u 41,u 42,u 43,u 44,u 45,u 46,u 47,u 48,u 49,u 50,u 51,u 52,u 53,u 54,u 55,u 56,u 57,u 58,u 59,u 60,u 61,u 62,u 63,u 64,u 65,u 66,u 67,u 68,u 69,u 70,u 71,u 72,u 73,u 74,u 75,u 76,u 77,u 78,u 79,u 80,u 81,u 82,u 83,u 84,u 85,u 86,u 87,u 88,u 89,u 90,u 91,u 92,u 93,u 94,u 95,u 96,u 97,u 98,u 99,u 100,u 101,u 102,u 103,u 104,u 105,u 106,u 107,u 108,u 109,u 110,u 111,u 112,u 113,u 114,u 115,u 116,u 117,u 118,u 119,u 120,u 121,u 122,u 123,u 124,u 125,u 126,u 127,u 128,u 129,u 130,u 131,u 132,u 133,u 134,u 135,u 136,u 137,u 138,u 139,u 140,u 141,u 142,u 143,u 144,u 145,u 146,u 147,u 148,u 149,u 150,u 151,u 152,u 153,u 154,u 155,u 156,u 157,u 158,u 159,u 160,u 161,u 162,u 163,u 164,u 165,u 166,u 167,u 168,u 169,u 170,u 171,u 172,u 173,u 174,u 175,u 176,u 177,u 178,u 179,u 180,u 181,u 182,u 183,u 184,u 185,u 186,u 187,u 188,u 189,u 190,u 191,u 192,u 193,u 194,u 195,u 196,u 197,u 198,u 199,u 200,u 201,u 202,u 203,u 204,u 205,u 206,u 207,u 208,u 209,u 210,u 211,u 212,u 213,u 214,u 215,u 216,u 217,u 218,u 219,u 220,u 221,u 222,u 223,u 224,u 225,u 226,u 227,u 228,u 229,u 230,u 231,u 232,u 233,u 234,u 235,u 236,u 237,u 238,u 239,u 240,u 241,u 242,u 243,u 244,u 245,u 246,u 247,u 248,u 249,u 250,u 251,u 252,u 253,u 254,u 255,u 256],[]⟩ (w.drewN m):=by
 conv=>arg 2;whnf
 go_wp2_with fail
 exact hx _ _ rfl rfl ⟨_,rfl⟩
theorem Lr (F gp cap g scap n j b l bl r br:Nat) (va vl vr:Bool) (u:Nat→Value) (P:Nat→Prop) (Q0:Exit→Act→World→Prop) (w:World) (m:Nat)
  (hc:n≤scap) (hle:n≤8) (kc:n≤cap) (hlt:j<n) (hl:l<j) (hr:r<j)
  (k0:w.cell? ⟨F,0,none⟩=some (.slice (some ⟨gp,0,none⟩) n cap)) (c1:w.cell? ⟨gp,j,none⟩=some (.pointer (some ⟨b,0,none⟩))) (c2:w.cell? ⟨b,0,none⟩=some (.int .u8 38)) (sj:w.cell? ⟨g,j,none⟩=some (.bool va))
  (lp:w.cell? ⟨b,1,none⟩=some (.pointer (some ⟨bl,0,none⟩))) (ln:w.cell? ⟨bl,3,none⟩=some (.int .i64 l)) (ls:w.cell? ⟨g,l,none⟩=some (.bool vl))
  (rp:w.cell? ⟨b,2,none⟩=some (.pointer (some ⟨br,0,none⟩))) (rn:w.cell? ⟨br,3,none⟩=some (.int .i64 r)) (rs:w.cell? ⟨g,r,none⟩=some (.bool vr))
  (hy:Hid ((va==(vl&&vr))=true→P (j+1))) (hn:Hid ((va==(vl&&vr))=false→∀ a' w'',a'.defers=[]→a'.tmps.size=257→a'.tmps.getD 4 undef=.bool false→(∃ m,w''=w.drewN m)→Q0 .ret a' w'')) :
  Code.wp Tryz.prog (dI Tryz.f120) (Exit.then (fun a' w''=>GI 257 [(0,.pointer (some ⟨F,0,none⟩)),(1,.slice (some ⟨g,0,none⟩) n scap)] 5 n P w a' w''∧GM 5 n a' w''<n - j) Q0)
   ⟨#[.pointer (some ⟨F,0,none⟩),.slice (some ⟨g,0,none⟩) n scap,u 2,u 3,u 4,.int .i64 (j:Nat),u 6,u 7,u 8,u 9,u 10,u 11,u 12,u 13,u 14,u 15,u 16,u 17,u 18,u 19,u 20,u 21,u 22,u 23,u 24,u 25,u 26,u 27,u 28,u 29,u 30,u 31,u 32,u 33,u 34,u 35,u 36,u 37,u 38,u 39,u 40,u 41,u 42,u 43,u 44,u 45,u 46,u 47,u 48,u 49,u 50,u 51,u 52,u 53,u 54,u 55,u 56,u 57,u 58,u 59,u 60,u 61,u 62,u 63,u 64,u 65,u 66,u 67,u 68,u 69,u 70,u 71,u 72,u 73,u 74,u 75,u 76,u 77,u 78,u 79,u 80,u 81,u 82,u 83,u 84,u 85,u 86,u 87,u 88,u 89,u 90,u 91,u 92,u 93,u 94,u 95,u 96,u 97,u 98,u 99,u 100,u 101,u 102,u 103,u 104,u 105,u 106,u 107,u 108,u 109,u 110,u 111,u 112,u 113,u 114,u 115,u 116,u 117,u 118,u 119,u 120,u 121,u 122,u 123,u 124,u 125,u 126,u 127,u 128,u 129,u 130,u 131,u 132,u 133,u 134,u 135,u 136,u 137,u 138,u 139,u 140,u 141,u 142,u 143,u 144,u 145,u 146,u 147,u 148,u 149,u 150,u 151,u 152,u 153,u 154,u 155,u 156,u 157,u 158,u 159,u 160,u 161,u 162,u 163,u 164,u 165,u 166,u 167,u 168,u 169,u 170,u 171,u 172,u 173,u 174,u 175,u 176,u 177,u 178,u 179,u 180,u 181,u 182,u 183,u 184,u 185,u 186,u 187,u 188,u 189,u 190,u 191,u 192,u 193,u 194,u 195,u 196,u 197,u 198,u 199,u 200,u 201,u 202,u 203,u 204,u 205,u 206,u 207,u 208,u 209,u 210,u 211,u 212,u 213,u 214,u 215,u 216,u 217,u 218,u 219,u 220,u 221,u 222,u 223,u 224,u 225,u 226,u 227,u 228,u 229,u 230,u 231,u 232,u 233,u 234,u 235,u 236,u 237,u 238,u 239,u 240,u 241,u 242,u 243,u 244,u 245,u 246,u 247,u 248,u 249,u 250,u 251,u 252,u 253,u 254,u 255,u 256],[]⟩ (w.drewN m):=by
 conv=>arg 2;whnf
 go_wp2_with fail
 cases vl
 all_goals go_quiet (fail)
 all_goals go_wp2_with fail
 all_goals
  first
  | exact ⟨⟨rfl,rfl,by simp,j+1,by omega,by go_num,hy.out (by cases va <;> cases vr <;> first | rfl | contradiction),_,rfl⟩,by simp [GM,intOf];omega⟩
  | exact hn.out (by cases va <;> cases vr <;> first | rfl | contradiction) _ _ rfl rfl rfl ⟨_,rfl⟩
theorem IL (F gp cap g scap n j b l bl r br:Nat) (va vl vr:Bool) (u:Nat→Value) (P:Nat→Prop) (Q0:Exit→Act→World→Prop) (w:World) (m:Nat)
  (hc:n≤scap) (hle:n≤8) (kc:n≤cap) (hlt:j<n) (hl:l<j) (hr:r<j)
  (k0:w.cell? ⟨F,0,none⟩=some (.slice (some ⟨gp,0,none⟩) n cap)) (c1:w.cell? ⟨gp,j,none⟩=some (.pointer (some ⟨b,0,none⟩))) (c2:w.cell? ⟨b,0,none⟩=some (.int .u8 124)) (sj:w.cell? ⟨g,j,none⟩=some (.bool va))
  (lp:w.cell? ⟨b,1,none⟩=some (.pointer (some ⟨bl,0,none⟩))) (ln:w.cell? ⟨bl,3,none⟩=some (.int .i64 l)) (ls:w.cell? ⟨g,l,none⟩=some (.bool vl))
  (rp:w.cell? ⟨b,2,none⟩=some (.pointer (some ⟨br,0,none⟩))) (rn:w.cell? ⟨br,3,none⟩=some (.int .i64 r)) (rs:w.cell? ⟨g,r,none⟩=some (.bool vr))
  (hy:Hid ((va==(vl||vr))=true→P (j+1))) (hn:Hid ((va==(vl||vr))=false→∀ a' w'',a'.defers=[]→a'.tmps.size=257→a'.tmps.getD 4 undef=.bool false→(∃ m,w''=w.drewN m)→Q0 .ret a' w'')) :
  Code.wp Tryz.prog (dI Tryz.f120) (Exit.then (fun a' w''=>GI 257 [(0,.pointer (some ⟨F,0,none⟩)),(1,.slice (some ⟨g,0,none⟩) n scap)] 5 n P w a' w''∧GM 5 n a' w''<n - j) Q0)
   ⟨#[.pointer (some ⟨F,0,none⟩),.slice (some ⟨g,0,none⟩) n scap,u 2,u 3,u 4,.int .i64 (j:Nat),u 6,u 7,u 8,u 9,u 10,u 11,u 12,u 13,u 14,u 15,u 16,u 17,u 18,u 19,u 20,u 21,u 22,u 23,u 24,u 25,u 26,u 27,u 28,u 29,u 30,u 31,u 32,u 33,u 34,u 35,u 36,u 37,u 38,u 39,u 40,u 41,u 42,u 43,u 44,u 45,u 46,u 47,u 48,u 49,u 50,u 51,u 52,u 53,u 54,u 55,u 56,u 57,u 58,u 59,u 60,u 61,u 62,u 63,u 64,u 65,u 66,u 67,u 68,u 69,u 70,u 71,u 72,u 73,u 74,u 75,u 76,u 77,u 78,u 79,u 80,u 81,u 82,u 83,u 84,u 85,u 86,u 87,u 88,u 89,u 90,u 91,u 92,u 93,u 94,u 95,u 96,u 97,u 98,u 99,u 100,u 101,u 102,u 103,u 104,u 105,u 106,u 107,u 108,u 109,u 110,u 111,u 112,u 113,u 114,u 115,u 116,u 117,u 118,u 119,u 120,u 121,u 122,u 123,u 124,u 125,u 126,u 127,u 128,u 129,u 130,u 131,u 132,u 133,u 134,u 135,u 136,u 137,u 138,u 139,u 140,u 141,u 142,u 143,u 144,u 145,u 146,u 147,u 148,u 149,u 150,u 151,u 152,u 153,u 154,u 155,u 156,u 157,u 158,u 159,u 160,u 161,u 162,u 163,u 164,u 165,u 166,u 167,u 168,u 169,u 170,u 171,u 172,u 173,u 174,u 175,u 176,u 177,u 178,u 179,u 180,u 181,u 182,u 183,u 184,u 185,u 186,u 187,u 188,u 189,u 190,u 191,u 192,u 193,u 194,u 195,u 196,u 197,u 198,u 199,u 200,u 201,u 202,u 203,u 204,u 205,u 206,u 207,u 208,u 209,u 210,u 211,u 212,u 213,u 214,u 215,u 216,u 217,u 218,u 219,u 220,u 221,u 222,u 223,u 224,u 225,u 226,u 227,u 228,u 229,u 230,u 231,u 232,u 233,u 234,u 235,u 236,u 237,u 238,u 239,u 240,u 241,u 242,u 243,u 244,u 245,u 246,u 247,u 248,u 249,u 250,u 251,u 252,u 253,u 254,u 255,u 256],[]⟩ (w.drewN m):=by
 conv=>arg 2;whnf
 go_wp2_with fail
 cases vl
 all_goals go_quiet (fail)
 all_goals go_wp2_with fail
 all_goals
  first
  | exact ⟨⟨rfl,rfl,by simp,j+1,by omega,by go_num,hy.out (by cases va <;> cases vr <;> first | rfl | contradiction),_,rfl⟩,by simp [GM,intOf];omega⟩
  | exact hn.out (by cases va <;> cases vr <;> first | rfl | contradiction) _ _ rfl rfl rfl ⟨_,rfl⟩
theorem Lh (F gp cap g scap n j b l bl r br:Nat) (va vl vr:Bool) (u:Nat→Value) (P:Nat→Prop) (Q0:Exit→Act→World→Prop) (w:World) (m:Nat)
  (hc:n≤scap) (hle:n≤8) (kc:n≤cap) (hlt:j<n) (hl:l<j) (hr:r<j)
  (k0:w.cell? ⟨F,0,none⟩=some (.slice (some ⟨gp,0,none⟩) n cap)) (c1:w.cell? ⟨gp,j,none⟩=some (.pointer (some ⟨b,0,none⟩))) (c2:w.cell? ⟨b,0,none⟩=some (.int .u8 85)) (sj:w.cell? ⟨g,j,none⟩=some (.bool va))
  (lp:w.cell? ⟨b,1,none⟩=some (.pointer (some ⟨bl,0,none⟩))) (ln:w.cell? ⟨bl,3,none⟩=some (.int .i64 l)) (ls:w.cell? ⟨g,l,none⟩=some (.bool vl))
  (rp:w.cell? ⟨b,2,none⟩=some (.pointer (some ⟨br,0,none⟩))) (rn:w.cell? ⟨br,3,none⟩=some (.int .i64 r)) (rs:w.cell? ⟨g,r,none⟩=some (.bool vr))
  (hy:Hid (((va||!vr)&&(!va||vl||vr))=true→P (j+1))) (hn:Hid (((va||!vr)&&(!va||vl||vr))=false→∀ a' w'',a'.defers=[]→a'.tmps.size=257→a'.tmps.getD 4 undef=.bool false→(∃ m,w''=w.drewN m)→Q0 .ret a' w'')) :
  Code.wp Tryz.prog (dI Tryz.f120) (Exit.then (fun a' w''=>GI 257 [(0,.pointer (some ⟨F,0,none⟩)),(1,.slice (some ⟨g,0,none⟩) n scap)] 5 n P w a' w''∧GM 5 n a' w''<n - j) Q0)
   ⟨#[.pointer (some ⟨F,0,none⟩),.slice (some ⟨g,0,none⟩) n scap,u 2,u 3,u 4,.int .i64 (j:Nat),u 6,u 7,u 8,u 9,u 10,u 11,u 12,u 13,u 14,u 15,u 16,u 17,u 18,u 19,u 20,u 21,u 22,u 23,u 24,u 25,u 26,u 27,u 28,u 29,u 30,u 31,u 32,u 33,u 34,u 35,u 36,u 37,u 38,u 39,u 40,u 41,u 42,u 43,u 44,u 45,u 46,u 47,u 48,u 49,u 50,u 51,u 52,u 53,u 54,u 55,u 56,u 57,u 58,u 59,u 60,u 61,u 62,u 63,u 64,u 65,u 66,u 67,u 68,u 69,u 70,u 71,u 72,u 73,u 74,u 75,u 76,u 77,u 78,u 79,u 80,u 81,u 82,u 83,u 84,u 85,u 86,u 87,u 88,u 89,u 90,u 91,u 92,u 93,u 94,u 95,u 96,u 97,u 98,u 99,u 100,u 101,u 102,u 103,u 104,u 105,u 106,u 107,u 108,u 109,u 110,u 111,u 112,u 113,u 114,u 115,u 116,u 117,u 118,u 119,u 120,u 121,u 122,u 123,u 124,u 125,u 126,u 127,u 128,u 129,u 130,u 131,u 132,u 133,u 134,u 135,u 136,u 137,u 138,u 139,u 140,u 141,u 142,u 143,u 144,u 145,u 146,u 147,u 148,u 149,u 150,u 151,u 152,u 153,u 154,u 155,u 156,u 157,u 158,u 159,u 160,u 161,u 162,u 163,u 164,u 165,u 166,u 167,u 168,u 169,u 170,u 171,u 172,u 173,u 174,u 175,u 176,u 177,u 178,u 179,u 180,u 181,u 182,u 183,u 184,u 185,u 186,u 187,u 188,u 189,u 190,u 191,u 192,u 193,u 194,u 195,u 196,u 197,u 198,u 199,u 200,u 201,u 202,u 203,u 204,u 205,u 206,u 207,u 208,u 209,u 210,u 211,u 212,u 213,u 214,u 215,u 216,u 217,u 218,u 219,u 220,u 221,u 222,u 223,u 224,u 225,u 226,u 227,u 228,u 229,u 230,u 231,u 232,u 233,u 234,u 235,u 236,u 237,u 238,u 239,u 240,u 241,u 242,u 243,u 244,u 245,u 246,u 247,u 248,u 249,u 250,u 251,u 252,u 253,u 254,u 255,u 256],[]⟩ (w.drewN m):=by
 conv=>arg 2;whnf
 go_wp2_with fail
 all_goals
  first
  | exact ⟨⟨rfl,rfl,by simp,j+1,by omega,by go_num,hy.out (by cases va <;> cases vl <;> cases vr <;> first | rfl | contradiction),_,rfl⟩,by simp [GM,intOf];omega⟩
  | exact hn.out (by cases va <;> cases vl <;> cases vr <;> first | rfl | contradiction) _ _ rfl rfl rfl ⟨_,rfl⟩
theorem Li (F gp cap g scap n j b l bl r br:Nat) (va vl vr:Bool) (u:Nat→Value) (P:Nat→Prop) (Q0:Exit→Act→World→Prop) (w:World) (m:Nat)
  (hc:n≤scap) (hle:n≤8) (kc:n≤cap) (hlt:j<n) (hl:l<j) (hr:r<j)
  (k0:w.cell? ⟨F,0,none⟩=some (.slice (some ⟨gp,0,none⟩) n cap)) (c1:w.cell? ⟨gp,j,none⟩=some (.pointer (some ⟨b,0,none⟩))) (c2:w.cell? ⟨b,0,none⟩=some (.int .u8 82)) (sj:w.cell? ⟨g,j,none⟩=some (.bool va))
  (lp:w.cell? ⟨b,1,none⟩=some (.pointer (some ⟨bl,0,none⟩))) (ln:w.cell? ⟨bl,3,none⟩=some (.int .i64 l)) (ls:w.cell? ⟨g,l,none⟩=some (.bool vl))
  (rp:w.cell? ⟨b,2,none⟩=some (.pointer (some ⟨br,0,none⟩))) (rn:w.cell? ⟨br,3,none⟩=some (.int .i64 r)) (rs:w.cell? ⟨g,r,none⟩=some (.bool vr))
  (hy:Hid (((!va||vr)&&(va||!vl||!vr))=true→P (j+1))) (hn:Hid (((!va||vr)&&(va||!vl||!vr))=false→∀ a' w'',a'.defers=[]→a'.tmps.size=257→a'.tmps.getD 4 undef=.bool false→(∃ m,w''=w.drewN m)→Q0 .ret a' w'')) :
  Code.wp Tryz.prog (dI Tryz.f120) (Exit.then (fun a' w''=>GI 257 [(0,.pointer (some ⟨F,0,none⟩)),(1,.slice (some ⟨g,0,none⟩) n scap)] 5 n P w a' w''∧GM 5 n a' w''<n - j) Q0)
   ⟨#[.pointer (some ⟨F,0,none⟩),.slice (some ⟨g,0,none⟩) n scap,u 2,u 3,u 4,.int .i64 (j:Nat),u 6,u 7,u 8,u 9,u 10,u 11,u 12,u 13,u 14,u 15,u 16,u 17,u 18,u 19,u 20,u 21,u 22,u 23,u 24,u 25,u 26,u 27,u 28,u 29,u 30,u 31,u 32,u 33,u 34,u 35,u 36,u 37,u 38,u 39,u 40,u 41,u 42,u 43,u 44,u 45,u 46,u 47,u 48,u 49,u 50,u 51,u 52,u 53,u 54,u 55,u 56,u 57,u 58,u 59,u 60,u 61,u 62,u 63,u 64,u 65,u 66,u 67,u 68,u 69,u 70,u 71,u 72,u 73,u 74,u 75,u 76,u 77,u 78,u 79,u 80,u 81,u 82,u 83,u 84,u 85,u 86,u 87,u 88,u 89,u 90,u 91,u 92,u 93,u 94,u 95,u 96,u 97,u 98,u 99,u 100,u 101,u 102,u 103,u 104,u 105,u 106,u 107,u 108,u 109,u 110,u 111,u 112,u 113,u 114,u 115,u 116,u 117,u 118,u 119,u 120,u 121,u 122,u 123,u 124,u 125,u 126,u 127,u 128,u 129,u 130,u 131,u 132,u 133,u 134,u 135,u 136,u 137,u 138,u 139,u 140,u 141,u 142,u 143,u 144,u 145,u 146,u 147,u 148,u 149,u 150,u 151,u 152,u 153,u 154,u 155,u 156,u 157,u 158,u 159,u 160,u 161,u 162,u 163,u 164,u 165,u 166,u 167,u 168,u 169,u 170,u 171,u 172,u 173,u 174,u 175,u 176,u 177,u 178,u 179,u 180,u 181,u 182,u 183,u 184,u 185,u 186,u 187,u 188,u 189,u 190,u 191,u 192,u 193,u 194,u 195,u 196,u 197,u 198,u 199,u 200,u 201,u 202,u 203,u 204,u 205,u 206,u 207,u 208,u 209,u 210,u 211,u 212,u 213,u 214,u 215,u 216,u 217,u 218,u 219,u 220,u 221,u 222,u 223,u 224,u 225,u 226,u 227,u 228,u 229,u 230,u 231,u 232,u 233,u 234,u 235,u 236,u 237,u 238,u 239,u 240,u 241,u 242,u 243,u 244,u 245,u 246,u 247,u 248,u 249,u 250,u 251,u 252,u 253,u 254,u 255,u 256],[]⟩ (w.drewN m):=by
 conv=>arg 2;whnf
 go_wp2_with fail
 all_goals
  first
  | exact ⟨⟨rfl,rfl,by simp,j+1,by omega,by go_num,hy.out (by cases va <;> cases vl <;> cases vr <;> first | rfl | contradiction),_,rfl⟩,by simp [GM,intOf];omega⟩
  | exact hn.out (by cases va <;> cases vl <;> cases vr <;> first | rfl | contradiction) _ _ rfl rfl rfl ⟨_,rfl⟩
end Go.Proofs.YtjagijohfkffiabGreat
