import Derived.Test.YtjagijohfkffiabCHEM31
import Derived.Test.YtjagijohfkffiabCHEM32

/- Rounds of the reference's fits, by operation. (By gen_great.py.) -/
namespace Go.Proofs.Ytjagijohfkffiab
open Go.RowKit
set_option linter.unusedVariables false

set_option maxHeartbeats 8000000 in
set_option maxRecDepth 1000000 in
theorem fits_round_38 (F gp cap g scap n j b l bl r br : Nat) (va vl vr : Bool) (u : Nat → Value) (P : Nat → Prop) (Q0 : Exit → Act → World → Prop) (w : World) (m : Nat)
    (hc : n ≤ scap) (hle : n ≤ 8) (kc : n ≤ cap) (hlt : j < n) (hl : l < j) (hr : r < j)
    (k0 : w.cell? ⟨F, 0, none⟩ = some (.slice (some ⟨gp, 0, none⟩) n cap)) (c1 : w.cell? ⟨gp, j, none⟩ = some (.pointer (some ⟨b, 0, none⟩))) (c2 : w.cell? ⟨b, 0, none⟩ = some (.int .u8 38)) (sj : w.cell? ⟨g, j, none⟩ = some (.bool va))
    (lp : w.cell? ⟨b, 1, none⟩ = some (.pointer (some ⟨bl, 0, none⟩))) (ln : w.cell? ⟨bl, 3, none⟩ = some (.int .i64 l)) (ls : w.cell? ⟨g, l, none⟩ = some (.bool vl))
    (rp : w.cell? ⟨b, 2, none⟩ = some (.pointer (some ⟨br, 0, none⟩))) (rn : w.cell? ⟨br, 3, none⟩ = some (.int .i64 r)) (rs : w.cell? ⟨g, r, none⟩ = some (.bool vr))
    (hy : Hid ((va == (vl && vr)) = true → P (j + 1))) (hn : Hid ((va == (vl && vr)) = false → ∀ a' w'', a'.defers = [] → a'.tmps.size = 257 → a'.tmps.getD 4 undef = .bool false → (∃ m, w'' = w.drewN m) → Q0 .ret a' w'')) :
    Code.wp Try.prog (bodyOf Try.f120) (Exit.then (fun a' w'' => GI 257 [(0, .pointer (some ⟨F, 0, none⟩)), (1, .slice (some ⟨g, 0, none⟩) n scap)] 5 n P w a' w'' ∧ GM 5 n a' w'' < n - j) Q0)
      ⟨#[.pointer (some ⟨F, 0, none⟩), .slice (some ⟨g, 0, none⟩) n scap, u 2, u 3, u 4, .int .i64 (j : Nat), u 6, u 7, u 8, u 9, u 10, u 11, u 12, u 13, u 14, u 15, u 16, u 17, u 18, u 19, u 20, u 21, u 22, u 23, u 24, u 25, u 26, u 27, u 28, u 29, u 30, u 31, u 32, u 33, u 34, u 35, u 36, u 37, u 38, u 39, u 40, u 41, u 42, u 43, u 44, u 45, u 46, u 47, u 48, u 49, u 50, u 51, u 52, u 53, u 54, u 55, u 56, u 57, u 58, u 59, u 60, u 61, u 62, u 63, u 64, u 65, u 66, u 67, u 68, u 69, u 70, u 71, u 72, u 73, u 74, u 75, u 76, u 77, u 78, u 79, u 80, u 81, u 82, u 83, u 84, u 85, u 86, u 87, u 88, u 89, u 90, u 91, u 92, u 93, u 94, u 95, u 96, u 97, u 98, u 99, u 100, u 101, u 102, u 103, u 104, u 105, u 106, u 107, u 108, u 109, u 110, u 111, u 112, u 113, u 114, u 115, u 116, u 117, u 118, u 119, u 120, u 121, u 122, u 123, u 124, u 125, u 126, u 127, u 128, u 129, u 130, u 131, u 132, u 133, u 134, u 135, u 136, u 137, u 138, u 139, u 140, u 141, u 142, u 143, u 144, u 145, u 146, u 147, u 148, u 149, u 150, u 151, u 152, u 153, u 154, u 155, u 156, u 157, u 158, u 159, u 160, u 161, u 162, u 163, u 164, u 165, u 166, u 167, u 168, u 169, u 170, u 171, u 172, u 173, u 174, u 175, u 176, u 177, u 178, u 179, u 180, u 181, u 182, u 183, u 184, u 185, u 186, u 187, u 188, u 189, u 190, u 191, u 192, u 193, u 194, u 195, u 196, u 197, u 198, u 199, u 200, u 201, u 202, u 203, u 204, u 205, u 206, u 207, u 208, u 209, u 210, u 211, u 212, u 213, u 214, u 215, u 216, u 217, u 218, u 219, u 220, u 221, u 222, u 223, u 224, u 225, u 226, u 227, u 228, u 229, u 230, u 231, u 232, u 233, u 234, u 235, u 236, u 237, u 238, u 239, u 240, u 241, u 242, u 243, u 244, u 245, u 246, u 247, u 248, u 249, u 250, u 251, u 252, u 253, u 254, u 255, u 256], []⟩ (w.drewN m) := by
  conv => arg 2; whnf
  go_wp2_with fail
  cases vl
  all_goals go_quiet (fail)
  all_goals go_wp2_with fail
  all_goals
    first
    | exact ⟨⟨rfl, rfl, by simp, j + 1, by omega, by go_num, hy.out (by cases va <;> cases vr <;> first | rfl | contradiction), _, rfl⟩, by simp [GM, intOf]; omega⟩
    | exact hn.out (by cases va <;> cases vr <;> first | rfl | contradiction) _ _ rfl rfl rfl ⟨_, rfl⟩

set_option maxHeartbeats 8000000 in
set_option maxRecDepth 1000000 in
theorem fits_round_124 (F gp cap g scap n j b l bl r br : Nat) (va vl vr : Bool) (u : Nat → Value) (P : Nat → Prop) (Q0 : Exit → Act → World → Prop) (w : World) (m : Nat)
    (hc : n ≤ scap) (hle : n ≤ 8) (kc : n ≤ cap) (hlt : j < n) (hl : l < j) (hr : r < j)
    (k0 : w.cell? ⟨F, 0, none⟩ = some (.slice (some ⟨gp, 0, none⟩) n cap)) (c1 : w.cell? ⟨gp, j, none⟩ = some (.pointer (some ⟨b, 0, none⟩))) (c2 : w.cell? ⟨b, 0, none⟩ = some (.int .u8 124)) (sj : w.cell? ⟨g, j, none⟩ = some (.bool va))
    (lp : w.cell? ⟨b, 1, none⟩ = some (.pointer (some ⟨bl, 0, none⟩))) (ln : w.cell? ⟨bl, 3, none⟩ = some (.int .i64 l)) (ls : w.cell? ⟨g, l, none⟩ = some (.bool vl))
    (rp : w.cell? ⟨b, 2, none⟩ = some (.pointer (some ⟨br, 0, none⟩))) (rn : w.cell? ⟨br, 3, none⟩ = some (.int .i64 r)) (rs : w.cell? ⟨g, r, none⟩ = some (.bool vr))
    (hy : Hid ((va == (vl || vr)) = true → P (j + 1))) (hn : Hid ((va == (vl || vr)) = false → ∀ a' w'', a'.defers = [] → a'.tmps.size = 257 → a'.tmps.getD 4 undef = .bool false → (∃ m, w'' = w.drewN m) → Q0 .ret a' w'')) :
    Code.wp Try.prog (bodyOf Try.f120) (Exit.then (fun a' w'' => GI 257 [(0, .pointer (some ⟨F, 0, none⟩)), (1, .slice (some ⟨g, 0, none⟩) n scap)] 5 n P w a' w'' ∧ GM 5 n a' w'' < n - j) Q0)
      ⟨#[.pointer (some ⟨F, 0, none⟩), .slice (some ⟨g, 0, none⟩) n scap, u 2, u 3, u 4, .int .i64 (j : Nat), u 6, u 7, u 8, u 9, u 10, u 11, u 12, u 13, u 14, u 15, u 16, u 17, u 18, u 19, u 20, u 21, u 22, u 23, u 24, u 25, u 26, u 27, u 28, u 29, u 30, u 31, u 32, u 33, u 34, u 35, u 36, u 37, u 38, u 39, u 40, u 41, u 42, u 43, u 44, u 45, u 46, u 47, u 48, u 49, u 50, u 51, u 52, u 53, u 54, u 55, u 56, u 57, u 58, u 59, u 60, u 61, u 62, u 63, u 64, u 65, u 66, u 67, u 68, u 69, u 70, u 71, u 72, u 73, u 74, u 75, u 76, u 77, u 78, u 79, u 80, u 81, u 82, u 83, u 84, u 85, u 86, u 87, u 88, u 89, u 90, u 91, u 92, u 93, u 94, u 95, u 96, u 97, u 98, u 99, u 100, u 101, u 102, u 103, u 104, u 105, u 106, u 107, u 108, u 109, u 110, u 111, u 112, u 113, u 114, u 115, u 116, u 117, u 118, u 119, u 120, u 121, u 122, u 123, u 124, u 125, u 126, u 127, u 128, u 129, u 130, u 131, u 132, u 133, u 134, u 135, u 136, u 137, u 138, u 139, u 140, u 141, u 142, u 143, u 144, u 145, u 146, u 147, u 148, u 149, u 150, u 151, u 152, u 153, u 154, u 155, u 156, u 157, u 158, u 159, u 160, u 161, u 162, u 163, u 164, u 165, u 166, u 167, u 168, u 169, u 170, u 171, u 172, u 173, u 174, u 175, u 176, u 177, u 178, u 179, u 180, u 181, u 182, u 183, u 184, u 185, u 186, u 187, u 188, u 189, u 190, u 191, u 192, u 193, u 194, u 195, u 196, u 197, u 198, u 199, u 200, u 201, u 202, u 203, u 204, u 205, u 206, u 207, u 208, u 209, u 210, u 211, u 212, u 213, u 214, u 215, u 216, u 217, u 218, u 219, u 220, u 221, u 222, u 223, u 224, u 225, u 226, u 227, u 228, u 229, u 230, u 231, u 232, u 233, u 234, u 235, u 236, u 237, u 238, u 239, u 240, u 241, u 242, u 243, u 244, u 245, u 246, u 247, u 248, u 249, u 250, u 251, u 252, u 253, u 254, u 255, u 256], []⟩ (w.drewN m) := by
  conv => arg 2; whnf
  go_wp2_with fail
  cases vl
  all_goals go_quiet (fail)
  all_goals go_wp2_with fail
  all_goals
    first
    | exact ⟨⟨rfl, rfl, by simp, j + 1, by omega, by go_num, hy.out (by cases va <;> cases vr <;> first | rfl | contradiction), _, rfl⟩, by simp [GM, intOf]; omega⟩
    | exact hn.out (by cases va <;> cases vr <;> first | rfl | contradiction) _ _ rfl rfl rfl ⟨_, rfl⟩

set_option maxHeartbeats 8000000 in
set_option maxRecDepth 1000000 in
theorem fits_round_85 (F gp cap g scap n j b l bl r br : Nat) (va vl vr : Bool) (u : Nat → Value) (P : Nat → Prop) (Q0 : Exit → Act → World → Prop) (w : World) (m : Nat)
    (hc : n ≤ scap) (hle : n ≤ 8) (kc : n ≤ cap) (hlt : j < n) (hl : l < j) (hr : r < j)
    (k0 : w.cell? ⟨F, 0, none⟩ = some (.slice (some ⟨gp, 0, none⟩) n cap)) (c1 : w.cell? ⟨gp, j, none⟩ = some (.pointer (some ⟨b, 0, none⟩))) (c2 : w.cell? ⟨b, 0, none⟩ = some (.int .u8 85)) (sj : w.cell? ⟨g, j, none⟩ = some (.bool va))
    (lp : w.cell? ⟨b, 1, none⟩ = some (.pointer (some ⟨bl, 0, none⟩))) (ln : w.cell? ⟨bl, 3, none⟩ = some (.int .i64 l)) (ls : w.cell? ⟨g, l, none⟩ = some (.bool vl))
    (rp : w.cell? ⟨b, 2, none⟩ = some (.pointer (some ⟨br, 0, none⟩))) (rn : w.cell? ⟨br, 3, none⟩ = some (.int .i64 r)) (rs : w.cell? ⟨g, r, none⟩ = some (.bool vr))
    (hy : Hid (((va || !vr) && (!va || vl || vr)) = true → P (j + 1))) (hn : Hid (((va || !vr) && (!va || vl || vr)) = false → ∀ a' w'', a'.defers = [] → a'.tmps.size = 257 → a'.tmps.getD 4 undef = .bool false → (∃ m, w'' = w.drewN m) → Q0 .ret a' w'')) :
    Code.wp Try.prog (bodyOf Try.f120) (Exit.then (fun a' w'' => GI 257 [(0, .pointer (some ⟨F, 0, none⟩)), (1, .slice (some ⟨g, 0, none⟩) n scap)] 5 n P w a' w'' ∧ GM 5 n a' w'' < n - j) Q0)
      ⟨#[.pointer (some ⟨F, 0, none⟩), .slice (some ⟨g, 0, none⟩) n scap, u 2, u 3, u 4, .int .i64 (j : Nat), u 6, u 7, u 8, u 9, u 10, u 11, u 12, u 13, u 14, u 15, u 16, u 17, u 18, u 19, u 20, u 21, u 22, u 23, u 24, u 25, u 26, u 27, u 28, u 29, u 30, u 31, u 32, u 33, u 34, u 35, u 36, u 37, u 38, u 39, u 40, u 41, u 42, u 43, u 44, u 45, u 46, u 47, u 48, u 49, u 50, u 51, u 52, u 53, u 54, u 55, u 56, u 57, u 58, u 59, u 60, u 61, u 62, u 63, u 64, u 65, u 66, u 67, u 68, u 69, u 70, u 71, u 72, u 73, u 74, u 75, u 76, u 77, u 78, u 79, u 80, u 81, u 82, u 83, u 84, u 85, u 86, u 87, u 88, u 89, u 90, u 91, u 92, u 93, u 94, u 95, u 96, u 97, u 98, u 99, u 100, u 101, u 102, u 103, u 104, u 105, u 106, u 107, u 108, u 109, u 110, u 111, u 112, u 113, u 114, u 115, u 116, u 117, u 118, u 119, u 120, u 121, u 122, u 123, u 124, u 125, u 126, u 127, u 128, u 129, u 130, u 131, u 132, u 133, u 134, u 135, u 136, u 137, u 138, u 139, u 140, u 141, u 142, u 143, u 144, u 145, u 146, u 147, u 148, u 149, u 150, u 151, u 152, u 153, u 154, u 155, u 156, u 157, u 158, u 159, u 160, u 161, u 162, u 163, u 164, u 165, u 166, u 167, u 168, u 169, u 170, u 171, u 172, u 173, u 174, u 175, u 176, u 177, u 178, u 179, u 180, u 181, u 182, u 183, u 184, u 185, u 186, u 187, u 188, u 189, u 190, u 191, u 192, u 193, u 194, u 195, u 196, u 197, u 198, u 199, u 200, u 201, u 202, u 203, u 204, u 205, u 206, u 207, u 208, u 209, u 210, u 211, u 212, u 213, u 214, u 215, u 216, u 217, u 218, u 219, u 220, u 221, u 222, u 223, u 224, u 225, u 226, u 227, u 228, u 229, u 230, u 231, u 232, u 233, u 234, u 235, u 236, u 237, u 238, u 239, u 240, u 241, u 242, u 243, u 244, u 245, u 246, u 247, u 248, u 249, u 250, u 251, u 252, u 253, u 254, u 255, u 256], []⟩ (w.drewN m) := by
  conv => arg 2; whnf
  go_wp2_with fail
  all_goals
    first
    | exact ⟨⟨rfl, rfl, by simp, j + 1, by omega, by go_num, hy.out (by cases va <;> cases vl <;> cases vr <;> first | rfl | contradiction), _, rfl⟩, by simp [GM, intOf]; omega⟩
    | exact hn.out (by cases va <;> cases vl <;> cases vr <;> first | rfl | contradiction) _ _ rfl rfl rfl ⟨_, rfl⟩

set_option maxHeartbeats 8000000 in
set_option maxRecDepth 1000000 in
theorem fits_round_82 (F gp cap g scap n j b l bl r br : Nat) (va vl vr : Bool) (u : Nat → Value) (P : Nat → Prop) (Q0 : Exit → Act → World → Prop) (w : World) (m : Nat)
    (hc : n ≤ scap) (hle : n ≤ 8) (kc : n ≤ cap) (hlt : j < n) (hl : l < j) (hr : r < j)
    (k0 : w.cell? ⟨F, 0, none⟩ = some (.slice (some ⟨gp, 0, none⟩) n cap)) (c1 : w.cell? ⟨gp, j, none⟩ = some (.pointer (some ⟨b, 0, none⟩))) (c2 : w.cell? ⟨b, 0, none⟩ = some (.int .u8 82)) (sj : w.cell? ⟨g, j, none⟩ = some (.bool va))
    (lp : w.cell? ⟨b, 1, none⟩ = some (.pointer (some ⟨bl, 0, none⟩))) (ln : w.cell? ⟨bl, 3, none⟩ = some (.int .i64 l)) (ls : w.cell? ⟨g, l, none⟩ = some (.bool vl))
    (rp : w.cell? ⟨b, 2, none⟩ = some (.pointer (some ⟨br, 0, none⟩))) (rn : w.cell? ⟨br, 3, none⟩ = some (.int .i64 r)) (rs : w.cell? ⟨g, r, none⟩ = some (.bool vr))
    (hy : Hid (((!va || vr) && (va || !vl || !vr)) = true → P (j + 1))) (hn : Hid (((!va || vr) && (va || !vl || !vr)) = false → ∀ a' w'', a'.defers = [] → a'.tmps.size = 257 → a'.tmps.getD 4 undef = .bool false → (∃ m, w'' = w.drewN m) → Q0 .ret a' w'')) :
    Code.wp Try.prog (bodyOf Try.f120) (Exit.then (fun a' w'' => GI 257 [(0, .pointer (some ⟨F, 0, none⟩)), (1, .slice (some ⟨g, 0, none⟩) n scap)] 5 n P w a' w'' ∧ GM 5 n a' w'' < n - j) Q0)
      ⟨#[.pointer (some ⟨F, 0, none⟩), .slice (some ⟨g, 0, none⟩) n scap, u 2, u 3, u 4, .int .i64 (j : Nat), u 6, u 7, u 8, u 9, u 10, u 11, u 12, u 13, u 14, u 15, u 16, u 17, u 18, u 19, u 20, u 21, u 22, u 23, u 24, u 25, u 26, u 27, u 28, u 29, u 30, u 31, u 32, u 33, u 34, u 35, u 36, u 37, u 38, u 39, u 40, u 41, u 42, u 43, u 44, u 45, u 46, u 47, u 48, u 49, u 50, u 51, u 52, u 53, u 54, u 55, u 56, u 57, u 58, u 59, u 60, u 61, u 62, u 63, u 64, u 65, u 66, u 67, u 68, u 69, u 70, u 71, u 72, u 73, u 74, u 75, u 76, u 77, u 78, u 79, u 80, u 81, u 82, u 83, u 84, u 85, u 86, u 87, u 88, u 89, u 90, u 91, u 92, u 93, u 94, u 95, u 96, u 97, u 98, u 99, u 100, u 101, u 102, u 103, u 104, u 105, u 106, u 107, u 108, u 109, u 110, u 111, u 112, u 113, u 114, u 115, u 116, u 117, u 118, u 119, u 120, u 121, u 122, u 123, u 124, u 125, u 126, u 127, u 128, u 129, u 130, u 131, u 132, u 133, u 134, u 135, u 136, u 137, u 138, u 139, u 140, u 141, u 142, u 143, u 144, u 145, u 146, u 147, u 148, u 149, u 150, u 151, u 152, u 153, u 154, u 155, u 156, u 157, u 158, u 159, u 160, u 161, u 162, u 163, u 164, u 165, u 166, u 167, u 168, u 169, u 170, u 171, u 172, u 173, u 174, u 175, u 176, u 177, u 178, u 179, u 180, u 181, u 182, u 183, u 184, u 185, u 186, u 187, u 188, u 189, u 190, u 191, u 192, u 193, u 194, u 195, u 196, u 197, u 198, u 199, u 200, u 201, u 202, u 203, u 204, u 205, u 206, u 207, u 208, u 209, u 210, u 211, u 212, u 213, u 214, u 215, u 216, u 217, u 218, u 219, u 220, u 221, u 222, u 223, u 224, u 225, u 226, u 227, u 228, u 229, u 230, u 231, u 232, u 233, u 234, u 235, u 236, u 237, u 238, u 239, u 240, u 241, u 242, u 243, u 244, u 245, u 246, u 247, u 248, u 249, u 250, u 251, u 252, u 253, u 254, u 255, u 256], []⟩ (w.drewN m) := by
  conv => arg 2; whnf
  go_wp2_with fail
  all_goals
    first
    | exact ⟨⟨rfl, rfl, by simp, j + 1, by omega, by go_num, hy.out (by cases va <;> cases vl <;> cases vr <;> first | rfl | contradiction), _, rfl⟩, by simp [GM, intOf]; omega⟩
    | exact hn.out (by cases va <;> cases vl <;> cases vr <;> first | rfl | contradiction) _ _ rfl rfl rfl ⟨_, rfl⟩


end Go.Proofs.Ytjagijohfkffiab

/- The walk of the reference's fits. (By gen_great.py.) -/
namespace Go.Proofs.Ytjagijohfkffiab
open Go.RowKit
set_option linter.unusedVariables false

theorem sfit_48 (S : Nat → Bool) {k : Nat} {nd : Nd} (h : nd.op = 48) : fitN nd k S = (!S k) := by simp [fitN, h]
theorem sfit_49 (S : Nat → Bool) {k : Nat} {nd : Nd} (h : nd.op = 49) : fitN nd k S = S k := by simp [fitN, h]
theorem sfit_112 (S : Nat → Bool) {k : Nat} {nd : Nd} (h : nd.op = 112) : fitN nd k S = true := by simp [fitN, h]
theorem sfit_113 (S : Nat → Bool) {k : Nat} {nd : Nd} (h : nd.op = 113) : fitN nd k S = true := by simp [fitN, h]
theorem sfit_114 (S : Nat → Bool) {k : Nat} {nd : Nd} (h : nd.op = 114) : fitN nd k S = true := by simp [fitN, h]
theorem sfit_33 (S : Nat → Bool) {k : Nat} {nd : Nd} (h : nd.op = 33) : fitN nd k S = (S k != S nd.l) := by simp [fitN, h]
theorem sfit_88 (S : Nat → Bool) {k : Nat} {nd : Nd} (h : nd.op = 88) : fitN nd k S = true := by simp [fitN, h]
theorem sfit_70 (S : Nat → Bool) {k : Nat} {nd : Nd} (h : nd.op = 70) : fitN nd k S = (S k || !S nd.l) := by simp [fitN, h]
theorem sfit_71 (S : Nat → Bool) {k : Nat} {nd : Nd} (h : nd.op = 71) : fitN nd k S = (!S k || S nd.l) := by simp [fitN, h]
theorem sfit_38 (S : Nat → Bool) {k : Nat} {nd : Nd} (h : nd.op = 38) : fitN nd k S = (S k == (S nd.l && S nd.r)) := by simp [fitN, h]
theorem sfit_124 (S : Nat → Bool) {k : Nat} {nd : Nd} (h : nd.op = 124) : fitN nd k S = (S k == (S nd.l || S nd.r)) := by simp [fitN, h]
theorem sfit_85 (S : Nat → Bool) {k : Nat} {nd : Nd} (h : nd.op = 85) : fitN nd k S = ((S k || !S nd.r) && (!S k || S nd.l || S nd.r)) := by simp [fitN, h]
theorem sfit_82 (S : Nat → Bool) {k : Nat} {nd : Nd} (h : nd.op = 82) : fitN nd k S = ((!S k || S nd.r) && (S k || !S nd.l || !S nd.r)) := by simp [fitN, h]

set_option maxRecDepth 1000000 in
theorem fits_frame {a : Act} (h0 : a.defers = []) (h1 : a.tmps.size = 257) : ∃ u : Nat → Value, (∀ i, u i = a.tmps.getD i undef) ∧ a = ⟨#[u 0, u 1, u 2, u 3, u 4, u 5, u 6, u 7, u 8, u 9, u 10, u 11, u 12, u 13, u 14, u 15, u 16, u 17, u 18, u 19, u 20, u 21, u 22, u 23, u 24, u 25, u 26, u 27, u 28, u 29, u 30, u 31, u 32, u 33, u 34, u 35, u 36, u 37, u 38, u 39, u 40, u 41, u 42, u 43, u 44, u 45, u 46, u 47, u 48, u 49, u 50, u 51, u 52, u 53, u 54, u 55, u 56, u 57, u 58, u 59, u 60, u 61, u 62, u 63, u 64, u 65, u 66, u 67, u 68, u 69, u 70, u 71, u 72, u 73, u 74, u 75, u 76, u 77, u 78, u 79, u 80, u 81, u 82, u 83, u 84, u 85, u 86, u 87, u 88, u 89, u 90, u 91, u 92, u 93, u 94, u 95, u 96, u 97, u 98, u 99, u 100, u 101, u 102, u 103, u 104, u 105, u 106, u 107, u 108, u 109, u 110, u 111, u 112, u 113, u 114, u 115, u 116, u 117, u 118, u 119, u 120, u 121, u 122, u 123, u 124, u 125, u 126, u 127, u 128, u 129, u 130, u 131, u 132, u 133, u 134, u 135, u 136, u 137, u 138, u 139, u 140, u 141, u 142, u 143, u 144, u 145, u 146, u 147, u 148, u 149, u 150, u 151, u 152, u 153, u 154, u 155, u 156, u 157, u 158, u 159, u 160, u 161, u 162, u 163, u 164, u 165, u 166, u 167, u 168, u 169, u 170, u 171, u 172, u 173, u 174, u 175, u 176, u 177, u 178, u 179, u 180, u 181, u 182, u 183, u 184, u 185, u 186, u 187, u 188, u 189, u 190, u 191, u 192, u 193, u 194, u 195, u 196, u 197, u 198, u 199, u 200, u 201, u 202, u 203, u 204, u 205, u 206, u 207, u 208, u 209, u 210, u 211, u 212, u 213, u 214, u 215, u 216, u 217, u 218, u 219, u 220, u 221, u 222, u 223, u 224, u 225, u 226, u 227, u 228, u 229, u 230, u 231, u 232, u 233, u 234, u 235, u 236, u 237, u 238, u 239, u 240, u 241, u 242, u 243, u 244, u 245, u 246, u 247, u 248, u 249, u 250, u 251, u 252, u 253, u 254, u 255, u 256], []⟩ := by
  refine ⟨fun i => a.tmps.getD i undef, fun _ => rfl, ?_⟩
  obtain ⟨t, d⟩ := a
  simp only at h0 h1
  subst h0
  have := arr_range h1
  exact congrArg (fun x => (⟨x, []⟩ : Act)) this

section
variable (F gp cap g scap : Nat) (ns : List Nd) (bs : List Nat) (S : Nat → Bool) (w : World)

def FitP (j : Nat) : Prop := ∀ k, k < j → fitN (ndAt ns k) k S = true

theorem fits_loop (hf : FR w F gp cap ns bs) (hs : Rb w g ns.length S) (hg : Good ns) (hc : ns.length ≤ scap) (Q0 : Exit → Act → World → Prop)
    (hx : fitsB ns S = true → ∀ a' w'', a'.defers = [] → a'.tmps.size = 257 → (∃ m, w'' = w.drewN m) → Q0 (.exit 0) a' w'')
    (hr : fitsB ns S = false → ∀ a' w'', a'.defers = [] → a'.tmps.size = 257 → a'.tmps.getD 4 undef = .bool false → (∃ m, w'' = w.drewN m) → Q0 .ret a' w'')
    (a : Act) (w' : World) (hI : GI 257 [(0, .pointer (some ⟨F, 0, none⟩)), (1, .slice (some ⟨g, 0, none⟩) ns.length scap)] 5 ns.length (FitP ns S) w a w') : Code.wp Try.prog (Code.loop (bodyOf Try.f120)) Q0 a w' := by
  refine wp_loop (GI 257 [(0, .pointer (some ⟨F, 0, none⟩)), (1, .slice (some ⟨g, 0, none⟩) ns.length scap)] 5 ns.length (FitP ns S) w) (GM 5 ns.length) hI ?_
  intro a w1 hI
  obtain ⟨d0, d1, d2, j, hj, d5, hP, m, rfl⟩ := hI
  have e0 := d2 _ (List.mem_cons_self ..)
  have e1 := d2 _ (List.mem_cons_of_mem _ (List.mem_cons_self ..))
  have hM : GM 5 ns.length a (w.drewN m) = ns.length - j := by unfold GM; rw [d5]; simp [intOf]
  rw [hM]
  obtain ⟨u, hu, ea⟩ := fits_frame d0 d1
  simp only at e0 e1
  rw [← hu] at e0 e1 d5
  rw [ea, e0, e1, d5]
  have hle := hg.le
  have k0 := hf.c0
  have kc := hf.hcap
  by_cases hlt : j < ns.length
  · have c1 := hf.ptr j hlt
    have c2 := hf.op j hlt
    have sj := hs.cell j hlt
    have hcl := hg.wf j _ (ndAt_some hlt)
    have HLN : ∀ k, k < j → w.cell? ⟨bAt bs k, 3, none⟩ = some (.int .i64 k) ∧ w.cell? ⟨g, k, none⟩ = some (.bool (S k)) := fun k hk => ⟨hf.nn k (by omega), hs.cell k (by omega)⟩
    have HY : fitN (ndAt ns j) j S = true → FitP ns S (j + 1) := fun h k hk => by
      by_cases e : k < j
      · exact hP k e
      · rw [show k = j by omega]; exact h
    have HN : fitN (ndAt ns j) j S = false → ∀ a' w'', a'.defers = [] → a'.tmps.size = 257 → a'.tmps.getD 4 undef = .bool false → (∃ m, w'' = w.drewN m) → Q0 .ret a' w'' := fun h => hr (allN_no hlt h)
    have lp := hf.lp j hlt
    have rp := hf.rp j hlt
    rcases hcl with ⟨hop, _, _⟩ | ⟨hop, hl, _⟩ | ⟨hop, hl, hr2⟩
    · rcases leaf_is hop with e | e | e | e | e
      · rw [sfit_48 S e] at HY HN
        rw [e] at c2
        exact fits_round_48 F gp cap g scap ns.length j (bAt bs j) (S j) u (FitP ns S) Q0 w m hc hle kc hlt k0 c1 c2 sj (hid HY) (hid HN)
      · rw [sfit_49 S e] at HY HN
        rw [e] at c2
        exact fits_round_49 F gp cap g scap ns.length j (bAt bs j) (S j) u (FitP ns S) Q0 w m hc hle kc hlt k0 c1 c2 sj (hid HY) (hid HN)
      · rw [sfit_112 S e] at HY HN
        rw [e] at c2
        exact fits_round_112 F gp cap g scap ns.length j (bAt bs j) (S j) u (FitP ns S) Q0 w m hc hle kc hlt k0 c1 c2 sj (hid (HY rfl))
      · rw [sfit_113 S e] at HY HN
        rw [e] at c2
        exact fits_round_113 F gp cap g scap ns.length j (bAt bs j) (S j) u (FitP ns S) Q0 w m hc hle kc hlt k0 c1 c2 sj (hid (HY rfl))
      · rw [sfit_114 S e] at HY HN
        rw [e] at c2
        exact fits_round_114 F gp cap g scap ns.length j (bAt bs j) (S j) u (FitP ns S) Q0 w m hc hle kc hlt k0 c1 c2 sj (hid (HY rfl))
    · rcases one_is hop with e | e | e | e
      · rw [sfit_33 S e] at HY HN
        rw [e] at c2
        exact fits_round_33 F gp cap g scap ns.length j (bAt bs j) (ndAt ns j).l (bAt bs (ndAt ns j).l) (S j) (S (ndAt ns j).l) u (FitP ns S) Q0 w m hc hle kc hlt hl k0 c1 c2 sj (lp (by rw [e]; rfl)) (HLN _ hl).1 (HLN _ hl).2 (hid HY) (hid HN)
      · rw [sfit_88 S e] at HY HN
        rw [e] at c2
        exact fits_round_88 F gp cap g scap ns.length j (bAt bs j) (ndAt ns j).l (bAt bs (ndAt ns j).l) (S j) (S (ndAt ns j).l) u (FitP ns S) Q0 w m hc hle kc hlt hl k0 c1 c2 sj (lp (by rw [e]; rfl)) (HLN _ hl).1 (HLN _ hl).2 (hid (HY rfl))
      · rw [sfit_70 S e] at HY HN
        rw [e] at c2
        exact fits_round_70 F gp cap g scap ns.length j (bAt bs j) (ndAt ns j).l (bAt bs (ndAt ns j).l) (S j) (S (ndAt ns j).l) u (FitP ns S) Q0 w m hc hle kc hlt hl k0 c1 c2 sj (lp (by rw [e]; rfl)) (HLN _ hl).1 (HLN _ hl).2 (hid HY) (hid HN)
      · rw [sfit_71 S e] at HY HN
        rw [e] at c2
        exact fits_round_71 F gp cap g scap ns.length j (bAt bs j) (ndAt ns j).l (bAt bs (ndAt ns j).l) (S j) (S (ndAt ns j).l) u (FitP ns S) Q0 w m hc hle kc hlt hl k0 c1 c2 sj (lp (by rw [e]; rfl)) (HLN _ hl).1 (HLN _ hl).2 (hid HY) (hid HN)
    · rcases two_is hop with e | e | e | e
      · rw [sfit_38 S e] at HY HN
        rw [e] at c2
        exact fits_round_38 F gp cap g scap ns.length j (bAt bs j) (ndAt ns j).l (bAt bs (ndAt ns j).l) (ndAt ns j).r (bAt bs (ndAt ns j).r) (S j) (S (ndAt ns j).l) (S (ndAt ns j).r) u (FitP ns S) Q0 w m hc hle kc hlt hl hr2 k0 c1 c2 sj (lp (by rw [e]; rfl)) (HLN _ hl).1 (HLN _ hl).2 (rp (by rw [e]; rfl)) (HLN _ hr2).1 (HLN _ hr2).2 (hid HY) (hid HN)
      · rw [sfit_124 S e] at HY HN
        rw [e] at c2
        exact fits_round_124 F gp cap g scap ns.length j (bAt bs j) (ndAt ns j).l (bAt bs (ndAt ns j).l) (ndAt ns j).r (bAt bs (ndAt ns j).r) (S j) (S (ndAt ns j).l) (S (ndAt ns j).r) u (FitP ns S) Q0 w m hc hle kc hlt hl hr2 k0 c1 c2 sj (lp (by rw [e]; rfl)) (HLN _ hl).1 (HLN _ hl).2 (rp (by rw [e]; rfl)) (HLN _ hr2).1 (HLN _ hr2).2 (hid HY) (hid HN)
      · rw [sfit_85 S e] at HY HN
        rw [e] at c2
        exact fits_round_85 F gp cap g scap ns.length j (bAt bs j) (ndAt ns j).l (bAt bs (ndAt ns j).l) (ndAt ns j).r (bAt bs (ndAt ns j).r) (S j) (S (ndAt ns j).l) (S (ndAt ns j).r) u (FitP ns S) Q0 w m hc hle kc hlt hl hr2 k0 c1 c2 sj (lp (by rw [e]; rfl)) (HLN _ hl).1 (HLN _ hl).2 (rp (by rw [e]; rfl)) (HLN _ hr2).1 (HLN _ hr2).2 (hid HY) (hid HN)
      · rw [sfit_82 S e] at HY HN
        rw [e] at c2
        exact fits_round_82 F gp cap g scap ns.length j (bAt bs j) (ndAt ns j).l (bAt bs (ndAt ns j).l) (ndAt ns j).r (bAt bs (ndAt ns j).r) (S j) (S (ndAt ns j).l) (S (ndAt ns j).r) u (FitP ns S) Q0 w m hc hle kc hlt hl hr2 k0 c1 c2 sj (lp (by rw [e]; rfl)) (HLN _ hl).1 (HLN _ hl).2 (rp (by rw [e]; rfl)) (HLN _ hr2).1 (HLN _ hr2).2 (hid HY) (hid HN)
  · obtain rfl : j = ns.length := by omega
    exact fits_end F gp cap g scap ns.length u _ Q0 w m hle kc k0 (hx (allN_iff.2 hP))

set_option maxHeartbeats 8000000 in
set_option maxRecDepth 1000000 in
theorem fits_set (hf : FR w F gp cap ns bs) (hs : Rb w g ns.length S) (hg : Good ns) (hc : ns.length ≤ scap) :
    Calls Try.prog 120 #[.pointer (some ⟨F, 0, none⟩), .slice (some ⟨g, 0, none⟩) ns.length scap] w fun e w' => e = .returned (.bool (fitsB ns S)) ∧ ∃ m, w' = w.drewN m := by
  have L := fits_loop F gp cap g scap ns bs S w hf hs hg hc
  have HL := hid L
  clear L hf hs hg hc
  generalize ns.length = n at *
  go_enter Try.func120, Try.ntmps120
  go_wp2_with fail
  refine HL.out _ ?_ ?_ _ _ ?_
  · intro h a' w'' d0 d1 hm
    obtain ⟨m, rfl⟩ := hm
    obtain ⟨u, _, rfl⟩ := fits_frame d0 d1
    have H := hid h
    clear h HL d0 d1
    go_wp2_with fail
    go_ret
    exact ⟨by rw [H.out]; rfl, m, rfl⟩
  · intro h a' w'' d0 d1 h4 hm
    obtain ⟨m, rfl⟩ := hm
    obtain ⟨u, _, rfl⟩ := fits_frame d0 d1
    have H := hid h
    have h5 : u 4 = .bool false := h4
    have H5 := hid h5
    clear h HL d0 d1 h4 h5
    go_wp2_with fail
    go_ret
    exact ⟨by rw [H.out]; exact congrArg Ending.returned H5.out, m, rfl⟩
  · exact ⟨rfl, rfl, by simp, 0, Nat.zero_le _, rfl, fun k hk => by omega, 0, rfl⟩
end

end Go.Proofs.Ytjagijohfkffiab
