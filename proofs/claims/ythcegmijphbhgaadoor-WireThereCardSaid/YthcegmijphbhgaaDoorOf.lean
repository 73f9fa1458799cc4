/-
  The contract of the reference's Of. Its statement bears its own conditions.
-/
import Derived.Test.YthcegmijphbhgaaDoorCrc
namespace Go.Proofs.YthcegmijphbhgaaDoor
open Go.RowKit
set_option linter.unusedSimpArgs false
set_option linter.unusedVariables false
theorem of_raw (b off n c : Nat) (x0 x1 x2 x3 : Int) (w : World) (hn : 4 ≤ n)
    (c0 : w.cell? ⟨b, off, none⟩ = some (.int .u8 x0)) (c1 : w.cell? ⟨b, off + 1, none⟩ = some (.int .u8 x1)) (c2 : w.cell? ⟨b, off + 2, none⟩ = some (.int .u8 x2)) (c3 : w.cell? ⟨b, off + 3, none⟩ = some (.int .u8 x3))
    (y0 : 0 ≤ x0 ∧ x0 ≤ 255) (y1 : 0 ≤ x1 ∧ x1 ≤ 255) (y2 : 0 ≤ x2 ∧ x2 ≤ 255) (y3 : 0 ≤ x3 ∧ x3 ≤ 255) :
    Calls Tryd.prog 22 #[.slice (some ⟨b, off, none⟩) n c] w fun e w' => e = .returned (.int .u32 (x0 * 16777216 + x1 * 65536 + x2 * 256 + x3)) ∧ Below w.heap.size w w' := by
  have n0 : 0 < n := by omega
  have n1 : (1 : Int) < n := by omega
  have n2 : (2 : Int) < n := by omega
  have n3 : (3 : Int) < n := by omega
  go_enter Tryd.func22, Tryd.ntmps22
  go_wp2_with fail
  go_loop [3, 4] (fun r i => (r = .int .u32 0 ∧ i = .int .i64 0) ∨ (r = .int .u32 x0 ∧ i = .int .i64 1) ∨ (r = .int .u32 (256 * x0 + x1) ∧ i = .int .i64 2) ∨ (r = .int .u32 (256 * (256 * x0 + x1) + x2) ∧ i = .int .i64 3) ∨ (r = .int .u32 (256 * (256 * (256 * x0 + x1) + x2) + x3) ∧ i = .int .i64 4)) (fun _ i => 4 - (intOf i).toNat)
  case atStart => exact .inl ⟨rfl, rfl⟩
  case round =>
    obtain ⟨rfl, rfl⟩ | ⟨rfl, rfl⟩ | ⟨rfl, rfl⟩ | ⟨rfl, rfl⟩ | ⟨rfl, rfl⟩ := hrel
    · have u : IntKind.u32.wrap x0 = x0 := wrap32 _ (by omega) (by omega)
      go_wp2_with fail
      go_round
      case rel => exact .inr (.inl ⟨by go_num, rfl⟩)
      case measure => simp [intOf]
    · have u : IntKind.u32.wrap x1 = x1 := wrap32 _ (by omega) (by omega)
      have v : IntKind.u32.wrap (256 * x0) = 256 * x0 := wrap32 _ (by omega) (by omega)
      have q : IntKind.u32.wrap (256 * x0 + x1) = 256 * x0 + x1 := wrap32 _ (by omega) (by omega)
      go_wp2_with fail
      go_round
      case rel => exact .inr (.inr (.inl ⟨rfl, rfl⟩))
      case measure => simp [intOf]
    · have u : IntKind.u32.wrap x2 = x2 := wrap32 _ (by omega) (by omega)
      have v : IntKind.u32.wrap (256 * (256 * x0 + x1)) = 256 * (256 * x0 + x1) := wrap32 _ (by omega) (by omega)
      have q : IntKind.u32.wrap (256 * (256 * x0 + x1) + x2) = 256 * (256 * x0 + x1) + x2 := wrap32 _ (by omega) (by omega)
      go_wp2_with fail
      go_round
      case rel => exact .inr (.inr (.inr (.inl ⟨rfl, rfl⟩)))
      case measure => simp [intOf]
    · have u : IntKind.u32.wrap x3 = x3 := wrap32 _ (by omega) (by omega)
      have v : IntKind.u32.wrap (256 * (256 * (256 * x0 + x1) + x2)) = 256 * (256 * (256 * x0 + x1) + x2) := wrap32 _ (by omega) (by omega)
      have q : IntKind.u32.wrap (256 * (256 * (256 * x0 + x1) + x2) + x3) = 256 * (256 * (256 * x0 + x1) + x2) + x3 := wrap32 _ (by omega) (by omega)
      go_wp2_with fail
      go_round
      case rel => exact .inr (.inr (.inr (.inr ⟨rfl, rfl⟩)))
      case measure => simp [intOf]
    · go_wp2_with fail
      go_ret
      exact ⟨int_ret (by omega), Below.refl _ _⟩
theorem of_any (A : Option Addr) (n c : Nat) (l : List Int) (w : World) (B : Nat) (h : Reads w B 1 A n (U l)) (hn : 4 ≤ n) (hy : Bytes l) :
    Calls Tryd.prog 22 #[.slice A n c] w fun e w' => e = .returned (.int .u32 (wordV l)) ∧ Below w.heap.size w w' := by
  obtain ⟨b, off, rfl, _, hlen, hc⟩ := place_of h (by omega)
  exact of_raw b off n c _ _ _ _ w hn (hc 0 (by omega)) (hc 1 (by omega)) (hc 2 (by omega)) (hc 3 (by omega)) (hy 0 (by omega)) (hy 1 (by omega)) (hy 2 (by omega)) (hy 3 (by omega))
end Go.Proofs.YthcegmijphbhgaaDoor
