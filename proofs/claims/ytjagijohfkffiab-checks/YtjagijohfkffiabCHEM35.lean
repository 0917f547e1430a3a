import Derived.Test.YtjagijohfkffiabCHEM31

/- Rounds of the reference's follows, by operation. (By gen_fol.py.) -/
namespace Go.Proofs.Ytjagijohfkffiab
open Go.RowKit
set_option linter.unusedVariables false

set_option maxHeartbeats 8000000 in
set_option maxRecDepth 1000000 in
theorem fol_round_48 (F gp cap g h scap tcap n j b : Nat) (u : Nat → Value) (P : Nat → Prop) (Q0 : Exit → Act → World → Prop) (w : World) (m : Nat)
    (hc : n ≤ scap) (hd : n ≤ tcap) (hle : n ≤ 8) (kc : n ≤ cap) (hlt : j < n)
    (k0 : w.cell? ⟨F, 0, none⟩ = some (.slice (some ⟨gp, 0, none⟩) n cap)) (c1 : w.cell? ⟨gp, j, none⟩ = some (.pointer (some ⟨b, 0, none⟩))) (c2 : w.cell? ⟨b, 0, none⟩ = some (.int .u8 48))
    (hy : Hid (P (j + 1))) :
    Code.wp Try.prog (bodyOf Try.f121) (Exit.then (fun a' w'' => GI 165 [(0, .pointer (some ⟨F, 0, none⟩)), (1, .slice (some ⟨g, 0, none⟩) n scap), (2, .slice (some ⟨h, 0, none⟩) n tcap)] 7 n P w a' w'' ∧ GM 7 n a' w'' < n - j) Q0)
      ⟨#[.pointer (some ⟨F, 0, none⟩), .slice (some ⟨g, 0, none⟩) n scap, .slice (some ⟨h, 0, none⟩) n tcap, u 3, u 4, u 5, u 6, .int .i64 (j : Nat), u 8, u 9, u 10, u 11, u 12, u 13, u 14, u 15, u 16, u 17, u 18, u 19, u 20, u 21, u 22, u 23, u 24, u 25, u 26, u 27, u 28, u 29, u 30, u 31, u 32, u 33, u 34, u 35, u 36, u 37, u 38, u 39, u 40, u 41, u 42, u 43, u 44, u 45, u 46, u 47, u 48, u 49, u 50, u 51, u 52, u 53, u 54, u 55, u 56, u 57, u 58, u 59, u 60, u 61, u 62, u 63, u 64, u 65, u 66, u 67, u 68, u 69, u 70, u 71, u 72, u 73, u 74, u 75, u 76, u 77, u 78, u 79, u 80, u 81, u 82, u 83, u 84, u 85, u 86, u 87, u 88, u 89, u 90, u 91, u 92, u 93, u 94, u 95, u 96, u 97, u 98, u 99, u 100, u 101, u 102, u 103, u 104, u 105, u 106, u 107, u 108, u 109, u 110, u 111, u 112, u 113, u 114, u 115, u 116, u 117, u 118, u 119, u 120, u 121, u 122, u 123, u 124, u 125, u 126, u 127, u 128, u 129, u 130, u 131, u 132, u 133, u 134, u 135, u 136, u 137, u 138, u 139, u 140, u 141, u 142, u 143, u 144, u 145, u 146, u 147, u 148, u 149, u 150, u 151, u 152, u 153, u 154, u 155, u 156, u 157, u 158, u 159, u 160, u 161, u 162, u 163, u 164], []⟩ (w.drewN m) := by
  conv => arg 2; whnf
  go_wp2_with fail
  exact ⟨⟨rfl, rfl, by simp, j + 1, by omega, by go_num, hy.out, _, rfl⟩, by simp [GM, intOf]; omega⟩

set_option maxHeartbeats 8000000 in
set_option maxRecDepth 1000000 in
theorem fol_round_49 (F gp cap g h scap tcap n j b : Nat) (u : Nat → Value) (P : Nat → Prop) (Q0 : Exit → Act → World → Prop) (w : World) (m : Nat)
    (hc : n ≤ scap) (hd : n ≤ tcap) (hle : n ≤ 8) (kc : n ≤ cap) (hlt : j < n)
    (k0 : w.cell? ⟨F, 0, none⟩ = some (.slice (some ⟨gp, 0, none⟩) n cap)) (c1 : w.cell? ⟨gp, j, none⟩ = some (.pointer (some ⟨b, 0, none⟩))) (c2 : w.cell? ⟨b, 0, none⟩ = some (.int .u8 49))
    (hy : Hid (P (j + 1))) :
    Code.wp Try.prog (bodyOf Try.f121) (Exit.then (fun a' w'' => GI 165 [(0, .pointer (some ⟨F, 0, none⟩)), (1, .slice (some ⟨g, 0, none⟩) n scap), (2, .slice (some ⟨h, 0, none⟩) n tcap)] 7 n P w a' w'' ∧ GM 7 n a' w'' < n - j) Q0)
      ⟨#[.pointer (some ⟨F, 0, none⟩), .slice (some ⟨g, 0, none⟩) n scap, .slice (some ⟨h, 0, none⟩) n tcap, u 3, u 4, u 5, u 6, .int .i64 (j : Nat), u 8, u 9, u 10, u 11, u 12, u 13, u 14, u 15, u 16, u 17, u 18, u 19, u 20, u 21, u 22, u 23, u 24, u 25, u 26, u 27, u 28, u 29, u 30, u 31, u 32, u 33, u 34, u 35, u 36, u 37, u 38, u 39, u 40, u 41, u 42, u 43, u 44, u 45, u 46, u 47, u 48, u 49, u 50, u 51, u 52, u 53, u 54, u 55, u 56, u 57, u 58, u 59, u 60, u 61, u 62, u 63, u 64, u 65, u 66, u 67, u 68, u 69, u 70, u 71, u 72, u 73, u 74, u 75, u 76, u 77, u 78, u 79, u 80, u 81, u 82, u 83, u 84, u 85, u 86, u 87, u 88, u 89, u 90, u 91, u 92, u 93, u 94, u 95, u 96, u 97, u 98, u 99, u 100, u 101, u 102, u 103, u 104, u 105, u 106, u 107, u 108, u 109, u 110, u 111, u 112, u 113, u 114, u 115, u 116, u 117, u 118, u 119, u 120, u 121, u 122, u 123, u 124, u 125, u 126, u 127, u 128, u 129, u 130, u 131, u 132, u 133, u 134, u 135, u 136, u 137, u 138, u 139, u 140, u 141, u 142, u 143, u 144, u 145, u 146, u 147, u 148, u 149, u 150, u 151, u 152, u 153, u 154, u 155, u 156, u 157, u 158, u 159, u 160, u 161, u 162, u 163, u 164], []⟩ (w.drewN m) := by
  conv => arg 2; whnf
  go_wp2_with fail
  exact ⟨⟨rfl, rfl, by simp, j + 1, by omega, by go_num, hy.out, _, rfl⟩, by simp [GM, intOf]; omega⟩

set_option maxHeartbeats 8000000 in
set_option maxRecDepth 1000000 in
theorem fol_round_112 (F gp cap g h scap tcap n j b : Nat) (u : Nat → Value) (P : Nat → Prop) (Q0 : Exit → Act → World → Prop) (w : World) (m : Nat)
    (hc : n ≤ scap) (hd : n ≤ tcap) (hle : n ≤ 8) (kc : n ≤ cap) (hlt : j < n)
    (k0 : w.cell? ⟨F, 0, none⟩ = some (.slice (some ⟨gp, 0, none⟩) n cap)) (c1 : w.cell? ⟨gp, j, none⟩ = some (.pointer (some ⟨b, 0, none⟩))) (c2 : w.cell? ⟨b, 0, none⟩ = some (.int .u8 112))
    (hy : Hid (P (j + 1))) :
    Code.wp Try.prog (bodyOf Try.f121) (Exit.then (fun a' w'' => GI 165 [(0, .pointer (some ⟨F, 0, none⟩)), (1, .slice (some ⟨g, 0, none⟩) n scap), (2, .slice (some ⟨h, 0, none⟩) n tcap)] 7 n P w a' w'' ∧ GM 7 n a' w'' < n - j) Q0)
      ⟨#[.pointer (some ⟨F, 0, none⟩), .slice (some ⟨g, 0, none⟩) n scap, .slice (some ⟨h, 0, none⟩) n tcap, u 3, u 4, u 5, u 6, .int .i64 (j : Nat), u 8, u 9, u 10, u 11, u 12, u 13, u 14, u 15, u 16, u 17, u 18, u 19, u 20, u 21, u 22, u 23, u 24, u 25, u 26, u 27, u 28, u 29, u 30, u 31, u 32, u 33, u 34, u 35, u 36, u 37, u 38, u 39, u 40, u 41, u 42, u 43, u 44, u 45, u 46, u 47, u 48, u 49, u 50, u 51, u 52, u 53, u 54, u 55, u 56, u 57, u 58, u 59, u 60, u 61, u 62, u 63, u 64, u 65, u 66, u 67, u 68, u 69, u 70, u 71, u 72, u 73, u 74, u 75, u 76, u 77, u 78, u 79, u 80, u 81, u 82, u 83, u 84, u 85, u 86, u 87, u 88, u 89, u 90, u 91, u 92, u 93, u 94, u 95, u 96, u 97, u 98, u 99, u 100, u 101, u 102, u 103, u 104, u 105, u 106, u 107, u 108, u 109, u 110, u 111, u 112, u 113, u 114, u 115, u 116, u 117, u 118, u 119, u 120, u 121, u 122, u 123, u 124, u 125, u 126, u 127, u 128, u 129, u 130, u 131, u 132, u 133, u 134, u 135, u 136, u 137, u 138, u 139, u 140, u 141, u 142, u 143, u 144, u 145, u 146, u 147, u 148, u 149, u 150, u 151, u 152, u 153, u 154, u 155, u 156, u 157, u 158, u 159, u 160, u 161, u 162, u 163, u 164], []⟩ (w.drewN m) := by
  conv => arg 2; whnf
  go_wp2_with fail
  exact ⟨⟨rfl, rfl, by simp, j + 1, by omega, by go_num, hy.out, _, rfl⟩, by simp [GM, intOf]; omega⟩

set_option maxHeartbeats 8000000 in
set_option maxRecDepth 1000000 in
theorem fol_round_113 (F gp cap g h scap tcap n j b : Nat) (u : Nat → Value) (P : Nat → Prop) (Q0 : Exit → Act → World → Prop) (w : World) (m : Nat)
    (hc : n ≤ scap) (hd : n ≤ tcap) (hle : n ≤ 8) (kc : n ≤ cap) (hlt : j < n)
    (k0 : w.cell? ⟨F, 0, none⟩ = some (.slice (some ⟨gp, 0, none⟩) n cap)) (c1 : w.cell? ⟨gp, j, none⟩ = some (.pointer (some ⟨b, 0, none⟩))) (c2 : w.cell? ⟨b, 0, none⟩ = some (.int .u8 113))
    (hy : Hid (P (j + 1))) :
    Code.wp Try.prog (bodyOf Try.f121) (Exit.then (fun a' w'' => GI 165 [(0, .pointer (some ⟨F, 0, none⟩)), (1, .slice (some ⟨g, 0, none⟩) n scap), (2, .slice (some ⟨h, 0, none⟩) n tcap)] 7 n P w a' w'' ∧ GM 7 n a' w'' < n - j) Q0)
      ⟨#[.pointer (some ⟨F, 0, none⟩), .slice (some ⟨g, 0, none⟩) n scap, .slice (some ⟨h, 0, none⟩) n tcap, u 3, u 4, u 5, u 6, .int .i64 (j : Nat), u 8, u 9, u 10, u 11, u 12, u 13, u 14, u 15, u 16, u 17, u 18, u 19, u 20, u 21, u 22, u 23, u 24, u 25, u 26, u 27, u 28, u 29, u 30, u 31, u 32, u 33, u 34, u 35, u 36, u 37, u 38, u 39, u 40, u 41, u 42, u 43, u 44, u 45, u 46, u 47, u 48, u 49, u 50, u 51, u 52, u 53, u 54, u 55, u 56, u 57, u 58, u 59, u 60, u 61, u 62, u 63, u 64, u 65, u 66, u 67, u 68, u 69, u 70, u 71, u 72, u 73, u 74, u 75, u 76, u 77, u 78, u 79, u 80, u 81, u 82, u 83, u 84, u 85, u 86, u 87, u 88, u 89, u 90, u 91, u 92, u 93, u 94, u 95, u 96, u 97, u 98, u 99, u 100, u 101, u 102, u 103, u 104, u 105, u 106, u 107, u 108, u 109, u 110, u 111, u 112, u 113, u 114, u 115, u 116, u 117, u 118, u 119, u 120, u 121, u 122, u 123, u 124, u 125, u 126, u 127, u 128, u 129, u 130, u 131, u 132, u 133, u 134, u 135, u 136, u 137, u 138, u 139, u 140, u 141, u 142, u 143, u 144, u 145, u 146, u 147, u 148, u 149, u 150, u 151, u 152, u 153, u 154, u 155, u 156, u 157, u 158, u 159, u 160, u 161, u 162, u 163, u 164], []⟩ (w.drewN m) := by
  conv => arg 2; whnf
  go_wp2_with fail
  exact ⟨⟨rfl, rfl, by simp, j + 1, by omega, by go_num, hy.out, _, rfl⟩, by simp [GM, intOf]; omega⟩

set_option maxHeartbeats 8000000 in
set_option maxRecDepth 1000000 in
theorem fol_round_114 (F gp cap g h scap tcap n j b : Nat) (u : Nat → Value) (P : Nat → Prop) (Q0 : Exit → Act → World → Prop) (w : World) (m : Nat)
    (hc : n ≤ scap) (hd : n ≤ tcap) (hle : n ≤ 8) (kc : n ≤ cap) (hlt : j < n)
    (k0 : w.cell? ⟨F, 0, none⟩ = some (.slice (some ⟨gp, 0, none⟩) n cap)) (c1 : w.cell? ⟨gp, j, none⟩ = some (.pointer (some ⟨b, 0, none⟩))) (c2 : w.cell? ⟨b, 0, none⟩ = some (.int .u8 114))
    (hy : Hid (P (j + 1))) :
    Code.wp Try.prog (bodyOf Try.f121) (Exit.then (fun a' w'' => GI 165 [(0, .pointer (some ⟨F, 0, none⟩)), (1, .slice (some ⟨g, 0, none⟩) n scap), (2, .slice (some ⟨h, 0, none⟩) n tcap)] 7 n P w a' w'' ∧ GM 7 n a' w'' < n - j) Q0)
      ⟨#[.pointer (some ⟨F, 0, none⟩), .slice (some ⟨g, 0, none⟩) n scap, .slice (some ⟨h, 0, none⟩) n tcap, u 3, u 4, u 5, u 6, .int .i64 (j : Nat), u 8, u 9, u 10, u 11, u 12, u 13, u 14, u 15, u 16, u 17, u 18, u 19, u 20, u 21, u 22, u 23, u 24, u 25, u 26, u 27, u 28, u 29, u 30, u 31, u 32, u 33, u 34, u 35, u 36, u 37, u 38, u 39, u 40, u 41, u 42, u 43, u 44, u 45, u 46, u 47, u 48, u 49, u 50, u 51, u 52, u 53, u 54, u 55, u 56, u 57, u 58, u 59, u 60, u 61, u 62, u 63, u 64, u 65, u 66, u 67, u 68, u 69, u 70, u 71, u 72, u 73, u 74, u 75, u 76, u 77, u 78, u 79, u 80, u 81, u 82, u 83, u 84, u 85, u 86, u 87, u 88, u 89, u 90, u 91, u 92, u 93, u 94, u 95, u 96, u 97, u 98, u 99, u 100, u 101, u 102, u 103, u 104, u 105, u 106, u 107, u 108, u 109, u 110, u 111, u 112, u 113, u 114, u 115, u 116, u 117, u 118, u 119, u 120, u 121, u 122, u 123, u 124, u 125, u 126, u 127, u 128, u 129, u 130, u 131, u 132, u 133, u 134, u 135, u 136, u 137, u 138, u 139, u 140, u 141, u 142, u 143, u 144, u 145, u 146, u 147, u 148, u 149, u 150, u 151, u 152, u 153, u 154, u 155, u 156, u 157, u 158, u 159, u 160, u 161, u 162, u 163, u 164], []⟩ (w.drewN m) := by
  conv => arg 2; whnf
  go_wp2_with fail
  exact ⟨⟨rfl, rfl, by simp, j + 1, by omega, by go_num, hy.out, _, rfl⟩, by simp [GM, intOf]; omega⟩

set_option maxHeartbeats 8000000 in
set_option maxRecDepth 1000000 in
theorem fol_round_33 (F gp cap g h scap tcap n j b : Nat) (u : Nat → Value) (P : Nat → Prop) (Q0 : Exit → Act → World → Prop) (w : World) (m : Nat)
    (hc : n ≤ scap) (hd : n ≤ tcap) (hle : n ≤ 8) (kc : n ≤ cap) (hlt : j < n)
    (k0 : w.cell? ⟨F, 0, none⟩ = some (.slice (some ⟨gp, 0, none⟩) n cap)) (c1 : w.cell? ⟨gp, j, none⟩ = some (.pointer (some ⟨b, 0, none⟩))) (c2 : w.cell? ⟨b, 0, none⟩ = some (.int .u8 33))
    (hy : Hid (P (j + 1))) :
    Code.wp Try.prog (bodyOf Try.f121) (Exit.then (fun a' w'' => GI 165 [(0, .pointer (some ⟨F, 0, none⟩)), (1, .slice (some ⟨g, 0, none⟩) n scap), (2, .slice (some ⟨h, 0, none⟩) n tcap)] 7 n P w a' w'' ∧ GM 7 n a' w'' < n - j) Q0)
      ⟨#[.pointer (some ⟨F, 0, none⟩), .slice (some ⟨g, 0, none⟩) n scap, .slice (some ⟨h, 0, none⟩) n tcap, u 3, u 4, u 5, u 6, .int .i64 (j : Nat), u 8, u 9, u 10, u 11, u 12, u 13, u 14, u 15, u 16, u 17, u 18, u 19, u 20, u 21, u 22, u 23, u 24, u 25, u 26, u 27, u 28, u 29, u 30, u 31, u 32, u 33, u 34, u 35, u 36, u 37, u 38, u 39, u 40, u 41, u 42, u 43, u 44, u 45, u 46, u 47, u 48, u 49, u 50, u 51, u 52, u 53, u 54, u 55, u 56, u 57, u 58, u 59, u 60, u 61, u 62, u 63, u 64, u 65, u 66, u 67, u 68, u 69, u 70, u 71, u 72, u 73, u 74, u 75, u 76, u 77, u 78, u 79, u 80, u 81, u 82, u 83, u 84, u 85, u 86, u 87, u 88, u 89, u 90, u 91, u 92, u 93, u 94, u 95, u 96, u 97, u 98, u 99, u 100, u 101, u 102, u 103, u 104, u 105, u 106, u 107, u 108, u 109, u 110, u 111, u 112, u 113, u 114, u 115, u 116, u 117, u 118, u 119, u 120, u 121, u 122, u 123, u 124, u 125, u 126, u 127, u 128, u 129, u 130, u 131, u 132, u 133, u 134, u 135, u 136, u 137, u 138, u 139, u 140, u 141, u 142, u 143, u 144, u 145, u 146, u 147, u 148, u 149, u 150, u 151, u 152, u 153, u 154, u 155, u 156, u 157, u 158, u 159, u 160, u 161, u 162, u 163, u 164], []⟩ (w.drewN m) := by
  conv => arg 2; whnf
  go_wp2_with fail
  exact ⟨⟨rfl, rfl, by simp, j + 1, by omega, by go_num, hy.out, _, rfl⟩, by simp [GM, intOf]; omega⟩

set_option maxHeartbeats 8000000 in
set_option maxRecDepth 1000000 in
theorem fol_round_88 (F gp cap g h scap tcap n j b l bl : Nat) (va vl tl tj : Bool) (u : Nat → Value) (P : Nat → Prop) (Q0 : Exit → Act → World → Prop) (w : World) (m : Nat)
    (hc : n ≤ scap) (hd : n ≤ tcap) (hle : n ≤ 8) (kc : n ≤ cap) (hlt : j < n) (hl : l < j)
    (k0 : w.cell? ⟨F, 0, none⟩ = some (.slice (some ⟨gp, 0, none⟩) n cap)) (c1 : w.cell? ⟨gp, j, none⟩ = some (.pointer (some ⟨b, 0, none⟩))) (c2 : w.cell? ⟨b, 0, none⟩ = some (.int .u8 88))
    (sj : w.cell? ⟨g, j, none⟩ = some (.bool va)) (hj : w.cell? ⟨h, j, none⟩ = some (.bool tj)) (lp : w.cell? ⟨b, 1, none⟩ = some (.pointer (some ⟨bl, 0, none⟩))) (ln : w.cell? ⟨bl, 3, none⟩ = some (.int .i64 l)) (ls : w.cell? ⟨g, l, none⟩ = some (.bool vl)) (lt : w.cell? ⟨h, l, none⟩ = some (.bool tl))
    (hy : Hid ((va == tl) = true → P (j + 1))) (hn : Hid ((va == tl) = false → ∀ a' w'', a'.defers = [] → a'.tmps.size = 165 → a'.tmps.getD 6 undef = .bool false → (∃ m, w'' = w.drewN m) → Q0 .ret a' w'')) :
    Code.wp Try.prog (bodyOf Try.f121) (Exit.then (fun a' w'' => GI 165 [(0, .pointer (some ⟨F, 0, none⟩)), (1, .slice (some ⟨g, 0, none⟩) n scap), (2, .slice (some ⟨h, 0, none⟩) n tcap)] 7 n P w a' w'' ∧ GM 7 n a' w'' < n - j) Q0)
      ⟨#[.pointer (some ⟨F, 0, none⟩), .slice (some ⟨g, 0, none⟩) n scap, .slice (some ⟨h, 0, none⟩) n tcap, u 3, u 4, u 5, u 6, .int .i64 (j : Nat), u 8, u 9, u 10, u 11, u 12, u 13, u 14, u 15, u 16, u 17, u 18, u 19, u 20, u 21, u 22, u 23, u 24, u 25, u 26, u 27, u 28, u 29, u 30, u 31, u 32, u 33, u 34, u 35, u 36, u 37, u 38, u 39, u 40, u 41, u 42, u 43, u 44, u 45, u 46, u 47, u 48, u 49, u 50, u 51, u 52, u 53, u 54, u 55, u 56, u 57, u 58, u 59, u 60, u 61, u 62, u 63, u 64, u 65, u 66, u 67, u 68, u 69, u 70, u 71, u 72, u 73, u 74, u 75, u 76, u 77, u 78, u 79, u 80, u 81, u 82, u 83, u 84, u 85, u 86, u 87, u 88, u 89, u 90, u 91, u 92, u 93, u 94, u 95, u 96, u 97, u 98, u 99, u 100, u 101, u 102, u 103, u 104, u 105, u 106, u 107, u 108, u 109, u 110, u 111, u 112, u 113, u 114, u 115, u 116, u 117, u 118, u 119, u 120, u 121, u 122, u 123, u 124, u 125, u 126, u 127, u 128, u 129, u 130, u 131, u 132, u 133, u 134, u 135, u 136, u 137, u 138, u 139, u 140, u 141, u 142, u 143, u 144, u 145, u 146, u 147, u 148, u 149, u 150, u 151, u 152, u 153, u 154, u 155, u 156, u 157, u 158, u 159, u 160, u 161, u 162, u 163, u 164], []⟩ (w.drewN m) := by
  conv => arg 2; whnf
  go_wp2_with fail
  all_goals go_quiet (fail)
  all_goals go_wp2_with fail
  all_goals
    first
    | exact ⟨⟨rfl, rfl, by simp, j + 1, by omega, by go_num, hy.out (by cases va <;> cases tl <;> first | rfl | contradiction), _, rfl⟩, by simp [GM, intOf]; omega⟩
    | exact hn.out (by cases va <;> cases tl <;> first | rfl | contradiction) _ _ rfl rfl rfl ⟨_, rfl⟩

set_option maxHeartbeats 8000000 in
set_option maxRecDepth 1000000 in
theorem fol_round_70 (F gp cap g h scap tcap n j b l bl : Nat) (va vl tl tj : Bool) (u : Nat → Value) (P : Nat → Prop) (Q0 : Exit → Act → World → Prop) (w : World) (m : Nat)
    (hc : n ≤ scap) (hd : n ≤ tcap) (hle : n ≤ 8) (kc : n ≤ cap) (hlt : j < n) (hl : l < j)
    (k0 : w.cell? ⟨F, 0, none⟩ = some (.slice (some ⟨gp, 0, none⟩) n cap)) (c1 : w.cell? ⟨gp, j, none⟩ = some (.pointer (some ⟨b, 0, none⟩))) (c2 : w.cell? ⟨b, 0, none⟩ = some (.int .u8 70))
    (sj : w.cell? ⟨g, j, none⟩ = some (.bool va)) (hj : w.cell? ⟨h, j, none⟩ = some (.bool tj)) (lp : w.cell? ⟨b, 1, none⟩ = some (.pointer (some ⟨bl, 0, none⟩))) (ln : w.cell? ⟨bl, 3, none⟩ = some (.int .i64 l)) (ls : w.cell? ⟨g, l, none⟩ = some (.bool vl)) (lt : w.cell? ⟨h, l, none⟩ = some (.bool tl))
    (hy : Hid ((va == (vl || tj)) = true → P (j + 1))) (hn : Hid ((va == (vl || tj)) = false → ∀ a' w'', a'.defers = [] → a'.tmps.size = 165 → a'.tmps.getD 6 undef = .bool false → (∃ m, w'' = w.drewN m) → Q0 .ret a' w'')) :
    Code.wp Try.prog (bodyOf Try.f121) (Exit.then (fun a' w'' => GI 165 [(0, .pointer (some ⟨F, 0, none⟩)), (1, .slice (some ⟨g, 0, none⟩) n scap), (2, .slice (some ⟨h, 0, none⟩) n tcap)] 7 n P w a' w'' ∧ GM 7 n a' w'' < n - j) Q0)
      ⟨#[.pointer (some ⟨F, 0, none⟩), .slice (some ⟨g, 0, none⟩) n scap, .slice (some ⟨h, 0, none⟩) n tcap, u 3, u 4, u 5, u 6, .int .i64 (j : Nat), u 8, u 9, u 10, u 11, u 12, u 13, u 14, u 15, u 16, u 17, u 18, u 19, u 20, u 21, u 22, u 23, u 24, u 25, u 26, u 27, u 28, u 29, u 30, u 31, u 32, u 33, u 34, u 35, u 36, u 37, u 38, u 39, u 40, u 41, u 42, u 43, u 44, u 45, u 46, u 47, u 48, u 49, u 50, u 51, u 52, u 53, u 54, u 55, u 56, u 57, u 58, u 59, u 60, u 61, u 62, u 63, u 64, u 65, u 66, u 67, u 68, u 69, u 70, u 71, u 72, u 73, u 74, u 75, u 76, u 77, u 78, u 79, u 80, u 81, u 82, u 83, u 84, u 85, u 86, u 87, u 88, u 89, u 90, u 91, u 92, u 93, u 94, u 95, u 96, u 97, u 98, u 99, u 100, u 101, u 102, u 103, u 104, u 105, u 106, u 107, u 108, u 109, u 110, u 111, u 112, u 113, u 114, u 115, u 116, u 117, u 118, u 119, u 120, u 121, u 122, u 123, u 124, u 125, u 126, u 127, u 128, u 129, u 130, u 131, u 132, u 133, u 134, u 135, u 136, u 137, u 138, u 139, u 140, u 141, u 142, u 143, u 144, u 145, u 146, u 147, u 148, u 149, u 150, u 151, u 152, u 153, u 154, u 155, u 156, u 157, u 158, u 159, u 160, u 161, u 162, u 163, u 164], []⟩ (w.drewN m) := by
  conv => arg 2; whnf
  go_wp2_with fail
  cases vl
  all_goals go_quiet (fail)
  all_goals go_wp2_with fail
  all_goals
    first
    | exact ⟨⟨rfl, rfl, by simp, j + 1, by omega, by go_num, hy.out (by cases va <;> cases tj <;> first | rfl | contradiction), _, rfl⟩, by simp [GM, intOf]; omega⟩
    | exact hn.out (by cases va <;> cases tj <;> first | rfl | contradiction) _ _ rfl rfl rfl ⟨_, rfl⟩

set_option maxHeartbeats 8000000 in
set_option maxRecDepth 1000000 in
theorem fol_round_71 (F gp cap g h scap tcap n j b l bl : Nat) (va vl tl tj : Bool) (u : Nat → Value) (P : Nat → Prop) (Q0 : Exit → Act → World → Prop) (w : World) (m : Nat)
    (hc : n ≤ scap) (hd : n ≤ tcap) (hle : n ≤ 8) (kc : n ≤ cap) (hlt : j < n) (hl : l < j)
    (k0 : w.cell? ⟨F, 0, none⟩ = some (.slice (some ⟨gp, 0, none⟩) n cap)) (c1 : w.cell? ⟨gp, j, none⟩ = some (.pointer (some ⟨b, 0, none⟩))) (c2 : w.cell? ⟨b, 0, none⟩ = some (.int .u8 71))
    (sj : w.cell? ⟨g, j, none⟩ = some (.bool va)) (hj : w.cell? ⟨h, j, none⟩ = some (.bool tj)) (lp : w.cell? ⟨b, 1, none⟩ = some (.pointer (some ⟨bl, 0, none⟩))) (ln : w.cell? ⟨bl, 3, none⟩ = some (.int .i64 l)) (ls : w.cell? ⟨g, l, none⟩ = some (.bool vl)) (lt : w.cell? ⟨h, l, none⟩ = some (.bool tl))
    (hy : Hid ((va == (vl && tj)) = true → P (j + 1))) (hn : Hid ((va == (vl && tj)) = false → ∀ a' w'', a'.defers = [] → a'.tmps.size = 165 → a'.tmps.getD 6 undef = .bool false → (∃ m, w'' = w.drewN m) → Q0 .ret a' w'')) :
    Code.wp Try.prog (bodyOf Try.f121) (Exit.then (fun a' w'' => GI 165 [(0, .pointer (some ⟨F, 0, none⟩)), (1, .slice (some ⟨g, 0, none⟩) n scap), (2, .slice (some ⟨h, 0, none⟩) n tcap)] 7 n P w a' w'' ∧ GM 7 n a' w'' < n - j) Q0)
      ⟨#[.pointer (some ⟨F, 0, none⟩), .slice (some ⟨g, 0, none⟩) n scap, .slice (some ⟨h, 0, none⟩) n tcap, u 3, u 4, u 5, u 6, .int .i64 (j : Nat), u 8, u 9, u 10, u 11, u 12, u 13, u 14, u 15, u 16, u 17, u 18, u 19, u 20, u 21, u 22, u 23, u 24, u 25, u 26, u 27, u 28, u 29, u 30, u 31, u 32, u 33, u 34, u 35, u 36, u 37, u 38, u 39, u 40, u 41, u 42, u 43, u 44, u 45, u 46, u 47, u 48, u 49, u 50, u 51, u 52, u 53, u 54, u 55, u 56, u 57, u 58, u 59, u 60, u 61, u 62, u 63, u 64, u 65, u 66, u 67, u 68, u 69, u 70, u 71, u 72, u 73, u 74, u 75, u 76, u 77, u 78, u 79, u 80, u 81, u 82, u 83, u 84, u 85, u 86, u 87, u 88, u 89, u 90, u 91, u 92, u 93, u 94, u 95, u 96, u 97, u 98, u 99, u 100, u 101, u 102, u 103, u 104, u 105, u 106, u 107, u 108, u 109, u 110, u 111, u 112, u 113, u 114, u 115, u 116, u 117, u 118, u 119, u 120, u 121, u 122, u 123, u 124, u 125, u 126, u 127, u 128, u 129, u 130, u 131, u 132, u 133, u 134, u 135, u 136, u 137, u 138, u 139, u 140, u 141, u 142, u 143, u 144, u 145, u 146, u 147, u 148, u 149, u 150, u 151, u 152, u 153, u 154, u 155, u 156, u 157, u 158, u 159, u 160, u 161, u 162, u 163, u 164], []⟩ (w.drewN m) := by
  conv => arg 2; whnf
  go_wp2_with fail
  cases vl
  all_goals go_quiet (fail)
  all_goals go_wp2_with fail
  all_goals
    first
    | exact ⟨⟨rfl, rfl, by simp, j + 1, by omega, by go_num, hy.out (by cases va <;> cases tj <;> first | rfl | contradiction), _, rfl⟩, by simp [GM, intOf]; omega⟩
    | exact hn.out (by cases va <;> cases tj <;> first | rfl | contradiction) _ _ rfl rfl rfl ⟨_, rfl⟩

set_option maxHeartbeats 8000000 in
set_option maxRecDepth 1000000 in
theorem fol_round_38 (F gp cap g h scap tcap n j b : Nat) (u : Nat → Value) (P : Nat → Prop) (Q0 : Exit → Act → World → Prop) (w : World) (m : Nat)
    (hc : n ≤ scap) (hd : n ≤ tcap) (hle : n ≤ 8) (kc : n ≤ cap) (hlt : j < n)
    (k0 : w.cell? ⟨F, 0, none⟩ = some (.slice (some ⟨gp, 0, none⟩) n cap)) (c1 : w.cell? ⟨gp, j, none⟩ = some (.pointer (some ⟨b, 0, none⟩))) (c2 : w.cell? ⟨b, 0, none⟩ = some (.int .u8 38))
    (hy : Hid (P (j + 1))) :
    Code.wp Try.prog (bodyOf Try.f121) (Exit.then (fun a' w'' => GI 165 [(0, .pointer (some ⟨F, 0, none⟩)), (1, .slice (some ⟨g, 0, none⟩) n scap), (2, .slice (some ⟨h, 0, none⟩) n tcap)] 7 n P w a' w'' ∧ GM 7 n a' w'' < n - j) Q0)
      ⟨#[.pointer (some ⟨F, 0, none⟩), .slice (some ⟨g, 0, none⟩) n scap, .slice (some ⟨h, 0, none⟩) n tcap, u 3, u 4, u 5, u 6, .int .i64 (j : Nat), u 8, u 9, u 10, u 11, u 12, u 13, u 14, u 15, u 16, u 17, u 18, u 19, u 20, u 21, u 22, u 23, u 24, u 25, u 26, u 27, u 28, u 29, u 30, u 31, u 32, u 33, u 34, u 35, u 36, u 37, u 38, u 39, u 40, u 41, u 42, u 43, u 44, u 45, u 46, u 47, u 48, u 49, u 50, u 51, u 52, u 53, u 54, u 55, u 56, u 57, u 58, u 59, u 60, u 61, u 62, u 63, u 64, u 65, u 66, u 67, u 68, u 69, u 70, u 71, u 72, u 73, u 74, u 75, u 76, u 77, u 78, u 79, u 80, u 81, u 82, u 83, u 84, u 85, u 86, u 87, u 88, u 89, u 90, u 91, u 92, u 93, u 94, u 95, u 96, u 97, u 98, u 99, u 100, u 101, u 102, u 103, u 104, u 105, u 106, u 107, u 108, u 109, u 110, u 111, u 112, u 113, u 114, u 115, u 116, u 117, u 118, u 119, u 120, u 121, u 122, u 123, u 124, u 125, u 126, u 127, u 128, u 129, u 130, u 131, u 132, u 133, u 134, u 135, u 136, u 137, u 138, u 139, u 140, u 141, u 142, u 143, u 144, u 145, u 146, u 147, u 148, u 149, u 150, u 151, u 152, u 153, u 154, u 155, u 156, u 157, u 158, u 159, u 160, u 161, u 162, u 163, u 164], []⟩ (w.drewN m) := by
  conv => arg 2; whnf
  go_wp2_with fail
  exact ⟨⟨rfl, rfl, by simp, j + 1, by omega, by go_num, hy.out, _, rfl⟩, by simp [GM, intOf]; omega⟩

set_option maxHeartbeats 8000000 in
set_option maxRecDepth 1000000 in
theorem fol_round_124 (F gp cap g h scap tcap n j b : Nat) (u : Nat → Value) (P : Nat → Prop) (Q0 : Exit → Act → World → Prop) (w : World) (m : Nat)
    (hc : n ≤ scap) (hd : n ≤ tcap) (hle : n ≤ 8) (kc : n ≤ cap) (hlt : j < n)
    (k0 : w.cell? ⟨F, 0, none⟩ = some (.slice (some ⟨gp, 0, none⟩) n cap)) (c1 : w.cell? ⟨gp, j, none⟩ = some (.pointer (some ⟨b, 0, none⟩))) (c2 : w.cell? ⟨b, 0, none⟩ = some (.int .u8 124))
    (hy : Hid (P (j + 1))) :
    Code.wp Try.prog (bodyOf Try.f121) (Exit.then (fun a' w'' => GI 165 [(0, .pointer (some ⟨F, 0, none⟩)), (1, .slice (some ⟨g, 0, none⟩) n scap), (2, .slice (some ⟨h, 0, none⟩) n tcap)] 7 n P w a' w'' ∧ GM 7 n a' w'' < n - j) Q0)
      ⟨#[.pointer (some ⟨F, 0, none⟩), .slice (some ⟨g, 0, none⟩) n scap, .slice (some ⟨h, 0, none⟩) n tcap, u 3, u 4, u 5, u 6, .int .i64 (j : Nat), u 8, u 9, u 10, u 11, u 12, u 13, u 14, u 15, u 16, u 17, u 18, u 19, u 20, u 21, u 22, u 23, u 24, u 25, u 26, u 27, u 28, u 29, u 30, u 31, u 32, u 33, u 34, u 35, u 36, u 37, u 38, u 39, u 40, u 41, u 42, u 43, u 44, u 45, u 46, u 47, u 48, u 49, u 50, u 51, u 52, u 53, u 54, u 55, u 56, u 57, u 58, u 59, u 60, u 61, u 62, u 63, u 64, u 65, u 66, u 67, u 68, u 69, u 70, u 71, u 72, u 73, u 74, u 75, u 76, u 77, u 78, u 79, u 80, u 81, u 82, u 83, u 84, u 85, u 86, u 87, u 88, u 89, u 90, u 91, u 92, u 93, u 94, u 95, u 96, u 97, u 98, u 99, u 100, u 101, u 102, u 103, u 104, u 105, u 106, u 107, u 108, u 109, u 110, u 111, u 112, u 113, u 114, u 115, u 116, u 117, u 118, u 119, u 120, u 121, u 122, u 123, u 124, u 125, u 126, u 127, u 128, u 129, u 130, u 131, u 132, u 133, u 134, u 135, u 136, u 137, u 138, u 139, u 140, u 141, u 142, u 143, u 144, u 145, u 146, u 147, u 148, u 149, u 150, u 151, u 152, u 153, u 154, u 155, u 156, u 157, u 158, u 159, u 160, u 161, u 162, u 163, u 164], []⟩ (w.drewN m) := by
  conv => arg 2; whnf
  go_wp2_with fail
  exact ⟨⟨rfl, rfl, by simp, j + 1, by omega, by go_num, hy.out, _, rfl⟩, by simp [GM, intOf]; omega⟩

set_option maxHeartbeats 8000000 in
set_option maxRecDepth 1000000 in
theorem fol_round_85 (F gp cap g h scap tcap n j b l bl r br : Nat) (va vl tl tj vr : Bool) (u : Nat → Value) (P : Nat → Prop) (Q0 : Exit → Act → World → Prop) (w : World) (m : Nat)
    (hc : n ≤ scap) (hd : n ≤ tcap) (hle : n ≤ 8) (kc : n ≤ cap) (hlt : j < n) (hl : l < j) (hr : r < j)
    (k0 : w.cell? ⟨F, 0, none⟩ = some (.slice (some ⟨gp, 0, none⟩) n cap)) (c1 : w.cell? ⟨gp, j, none⟩ = some (.pointer (some ⟨b, 0, none⟩))) (c2 : w.cell? ⟨b, 0, none⟩ = some (.int .u8 85))
    (sj : w.cell? ⟨g, j, none⟩ = some (.bool va)) (hj : w.cell? ⟨h, j, none⟩ = some (.bool tj)) (lp : w.cell? ⟨b, 1, none⟩ = some (.pointer (some ⟨bl, 0, none⟩))) (ln : w.cell? ⟨bl, 3, none⟩ = some (.int .i64 l)) (ls : w.cell? ⟨g, l, none⟩ = some (.bool vl)) (lt : w.cell? ⟨h, l, none⟩ = some (.bool tl))
    (rp : w.cell? ⟨b, 2, none⟩ = some (.pointer (some ⟨br, 0, none⟩))) (rn : w.cell? ⟨br, 3, none⟩ = some (.int .i64 r)) (rs : w.cell? ⟨g, r, none⟩ = some (.bool vr))
    (hy : Hid ((va == (vr || (vl && tj))) = true → P (j + 1))) (hn : Hid ((va == (vr || (vl && tj))) = false → ∀ a' w'', a'.defers = [] → a'.tmps.size = 165 → a'.tmps.getD 6 undef = .bool false → (∃ m, w'' = w.drewN m) → Q0 .ret a' w'')) :
    Code.wp Try.prog (bodyOf Try.f121) (Exit.then (fun a' w'' => GI 165 [(0, .pointer (some ⟨F, 0, none⟩)), (1, .slice (some ⟨g, 0, none⟩) n scap), (2, .slice (some ⟨h, 0, none⟩) n tcap)] 7 n P w a' w'' ∧ GM 7 n a' w'' < n - j) Q0)
      ⟨#[.pointer (some ⟨F, 0, none⟩), .slice (some ⟨g, 0, none⟩) n scap, .slice (some ⟨h, 0, none⟩) n tcap, u 3, u 4, u 5, u 6, .int .i64 (j : Nat), u 8, u 9, u 10, u 11, u 12, u 13, u 14, u 15, u 16, u 17, u 18, u 19, u 20, u 21, u 22, u 23, u 24, u 25, u 26, u 27, u 28, u 29, u 30, u 31, u 32, u 33, u 34, u 35, u 36, u 37, u 38, u 39, u 40, u 41, u 42, u 43, u 44, u 45, u 46, u 47, u 48, u 49, u 50, u 51, u 52, u 53, u 54, u 55, u 56, u 57, u 58, u 59, u 60, u 61, u 62, u 63, u 64, u 65, u 66, u 67, u 68, u 69, u 70, u 71, u 72, u 73, u 74, u 75, u 76, u 77, u 78, u 79, u 80, u 81, u 82, u 83, u 84, u 85, u 86, u 87, u 88, u 89, u 90, u 91, u 92, u 93, u 94, u 95, u 96, u 97, u 98, u 99, u 100, u 101, u 102, u 103, u 104, u 105, u 106, u 107, u 108, u 109, u 110, u 111, u 112, u 113, u 114, u 115, u 116, u 117, u 118, u 119, u 120, u 121, u 122, u 123, u 124, u 125, u 126, u 127, u 128, u 129, u 130, u 131, u 132, u 133, u 134, u 135, u 136, u 137, u 138, u 139, u 140, u 141, u 142, u 143, u 144, u 145, u 146, u 147, u 148, u 149, u 150, u 151, u 152, u 153, u 154, u 155, u 156, u 157, u 158, u 159, u 160, u 161, u 162, u 163, u 164], []⟩ (w.drewN m) := by
  conv => arg 2; whnf
  go_wp2_with fail
  cases vr
  all_goals cases vl
  all_goals go_quiet (fail)
  all_goals go_wp2_with fail
  all_goals
    first
    | exact ⟨⟨rfl, rfl, by simp, j + 1, by omega, by go_num, hy.out (by cases va <;> cases tj <;> first | rfl | contradiction), _, rfl⟩, by simp [GM, intOf]; omega⟩
    | exact hn.out (by cases va <;> cases tj <;> first | rfl | contradiction) _ _ rfl rfl rfl ⟨_, rfl⟩

set_option maxHeartbeats 8000000 in
set_option maxRecDepth 1000000 in
theorem fol_round_82 (F gp cap g h scap tcap n j b l bl r br : Nat) (va vl tl tj vr : Bool) (u : Nat → Value) (P : Nat → Prop) (Q0 : Exit → Act → World → Prop) (w : World) (m : Nat)
    (hc : n ≤ scap) (hd : n ≤ tcap) (hle : n ≤ 8) (kc : n ≤ cap) (hlt : j < n) (hl : l < j) (hr : r < j)
    (k0 : w.cell? ⟨F, 0, none⟩ = some (.slice (some ⟨gp, 0, none⟩) n cap)) (c1 : w.cell? ⟨gp, j, none⟩ = some (.pointer (some ⟨b, 0, none⟩))) (c2 : w.cell? ⟨b, 0, none⟩ = some (.int .u8 82))
    (sj : w.cell? ⟨g, j, none⟩ = some (.bool va)) (hj : w.cell? ⟨h, j, none⟩ = some (.bool tj)) (lp : w.cell? ⟨b, 1, none⟩ = some (.pointer (some ⟨bl, 0, none⟩))) (ln : w.cell? ⟨bl, 3, none⟩ = some (.int .i64 l)) (ls : w.cell? ⟨g, l, none⟩ = some (.bool vl)) (lt : w.cell? ⟨h, l, none⟩ = some (.bool tl))
    (rp : w.cell? ⟨b, 2, none⟩ = some (.pointer (some ⟨br, 0, none⟩))) (rn : w.cell? ⟨br, 3, none⟩ = some (.int .i64 r)) (rs : w.cell? ⟨g, r, none⟩ = some (.bool vr))
    (hy : Hid ((va == (vr && (vl || tj))) = true → P (j + 1))) (hn : Hid ((va == (vr && (vl || tj))) = false → ∀ a' w'', a'.defers = [] → a'.tmps.size = 165 → a'.tmps.getD 6 undef = .bool false → (∃ m, w'' = w.drewN m) → Q0 .ret a' w'')) :
    Code.wp Try.prog (bodyOf Try.f121) (Exit.then (fun a' w'' => GI 165 [(0, .pointer (some ⟨F, 0, none⟩)), (1, .slice (some ⟨g, 0, none⟩) n scap), (2, .slice (some ⟨h, 0, none⟩) n tcap)] 7 n P w a' w'' ∧ GM 7 n a' w'' < n - j) Q0)
      ⟨#[.pointer (some ⟨F, 0, none⟩), .slice (some ⟨g, 0, none⟩) n scap, .slice (some ⟨h, 0, none⟩) n tcap, u 3, u 4, u 5, u 6, .int .i64 (j : Nat), u 8, u 9, u 10, u 11, u 12, u 13, u 14, u 15, u 16, u 17, u 18, u 19, u 20, u 21, u 22, u 23, u 24, u 25, u 26, u 27, u 28, u 29, u 30, u 31, u 32, u 33, u 34, u 35, u 36, u 37, u 38, u 39, u 40, u 41, u 42, u 43, u 44, u 45, u 46, u 47, u 48, u 49, u 50, u 51, u 52, u 53, u 54, u 55, u 56, u 57, u 58, u 59, u 60, u 61, u 62, u 63, u 64, u 65, u 66, u 67, u 68, u 69, u 70, u 71, u 72, u 73, u 74, u 75, u 76, u 77, u 78, u 79, u 80, u 81, u 82, u 83, u 84, u 85, u 86, u 87, u 88, u 89, u 90, u 91, u 92, u 93, u 94, u 95, u 96, u 97, u 98, u 99, u 100, u 101, u 102, u 103, u 104, u 105, u 106, u 107, u 108, u 109, u 110, u 111, u 112, u 113, u 114, u 115, u 116, u 117, u 118, u 119, u 120, u 121, u 122, u 123, u 124, u 125, u 126, u 127, u 128, u 129, u 130, u 131, u 132, u 133, u 134, u 135, u 136, u 137, u 138, u 139, u 140, u 141, u 142, u 143, u 144, u 145, u 146, u 147, u 148, u 149, u 150, u 151, u 152, u 153, u 154, u 155, u 156, u 157, u 158, u 159, u 160, u 161, u 162, u 163, u 164], []⟩ (w.drewN m) := by
  conv => arg 2; whnf
  go_wp2_with fail
  cases vr
  all_goals cases vl
  all_goals go_quiet (fail)
  all_goals go_wp2_with fail
  all_goals
    first
    | exact ⟨⟨rfl, rfl, by simp, j + 1, by omega, by go_num, hy.out (by cases va <;> cases tj <;> first | rfl | contradiction), _, rfl⟩, by simp [GM, intOf]; omega⟩
    | exact hn.out (by cases va <;> cases tj <;> first | rfl | contradiction) _ _ rfl rfl rfl ⟨_, rfl⟩

set_option maxHeartbeats 8000000 in
set_option maxRecDepth 1000000 in
theorem fol_end (F gp cap g h scap tcap n : Nat) (u : Nat → Value) (Z : Act → World → Prop) (Q0 : Exit → Act → World → Prop) (w : World) (m : Nat) (hle : n ≤ 8) (kc : n ≤ cap)
    (k0 : w.cell? ⟨F, 0, none⟩ = some (.slice (some ⟨gp, 0, none⟩) n cap)) (hx : ∀ a' w'', a'.defers = [] → a'.tmps.size = 165 → (∃ m, w'' = w.drewN m) → Q0 (.exit 0) a' w'') :
    Code.wp Try.prog (bodyOf Try.f121) (Exit.then Z Q0) ⟨#[.pointer (some ⟨F, 0, none⟩), .slice (some ⟨g, 0, none⟩) n scap, .slice (some ⟨h, 0, none⟩) n tcap, u 3, u 4, u 5, u 6, .int .i64 (n : Nat), u 8, u 9, u 10, u 11, u 12, u 13, u 14, u 15, u 16, u 17, u 18, u 19, u 20, u 21, u 22, u 23, u 24, u 25, u 26, u 27, u 28, u 29, u 30, u 31, u 32, u 33, u 34, u 35, u 36, u 37, u 38, u 39, u 40, u 41, u 42, u 43, u 44, u 45, u 46, u 47, u 48, u 49, u 50, u 51, u 52, u 53, u 54, u 55, u 56, u 57, u 58, u 59, u 60, u 61, u 62, u 63, u 64, u 65, u 66, u 67, u 68, u 69, u 70, u 71, u 72, u 73, u 74, u 75, u 76, u 77, u 78, u 79, u 80, u 81, u 82, u 83, u 84, u 85, u 86, u 87, u 88, u 89, u 90, u 91, u 92, u 93, u 94, u 95, u 96, u 97, u 98, u 99, u 100, u 101, u 102, u 103, u 104, u 105, u 106, u 107, u 108, u 109, u 110, u 111, u 112, u 113, u 114, u 115, u 116, u 117, u 118, u 119, u 120, u 121, u 122, u 123, u 124, u 125, u 126, u 127, u 128, u 129, u 130, u 131, u 132, u 133, u 134, u 135, u 136, u 137, u 138, u 139, u 140, u 141, u 142, u 143, u 144, u 145, u 146, u 147, u 148, u 149, u 150, u 151, u 152, u 153, u 154, u 155, u 156, u 157, u 158, u 159, u 160, u 161, u 162, u 163, u 164], []⟩ (w.drewN m) := by
  conv => arg 2; whnf
  go_wp2_with fail
  exact hx _ _ rfl rfl ⟨_, rfl⟩

end Go.Proofs.Ytjagijohfkffiab
