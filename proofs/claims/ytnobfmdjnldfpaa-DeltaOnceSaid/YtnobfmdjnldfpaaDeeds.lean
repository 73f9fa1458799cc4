/-
  Slices of deeds with their bounds, and what the lists of timers keep. Each statement bears its own conditions.
-/
import Derived.Test.YtnobfmdjnldfpaaAgain
namespace Go.Proofs.Ytnobfmdjnldfpaa
open Go.RowKit Go.ChangeShapes Go.WideShapes Go.ChangeAt
set_option linter.unusedVariables false
set_option linter.unusedSimpArgs false
/-- A slice of deeds, with their bounds. -/
def DeedRow (w : World) (a : Option Addr) (len : Nat) : Prop := 0 < len → ∃ (b off : Nat) (K M T : Nat → Int), a = some ⟨b, off, none⟩ ∧
  ∀ r, r < len → w.cell? ⟨b, off + r * 3, none⟩ = some (.int .u8 (K r)) ∧ w.cell? ⟨b, off + r * 3 + 1, none⟩ = some (.int .i64 (M r)) ∧ w.cell? ⟨b, off + r * 3 + 2, none⟩ = some (.int .i64 (T r)) ∧ (0 ≤ K r ∧ K r ≤ 255) ∧ T r ≤ 9223372036854775807
theorem deedRow_of {H : Type} {enc : TypeId × Value → H} {W : World} {base : Nat} {held : Bool} {fuel : Nat} {a : Option Addr} {len cap : Nat} {x : DataW H × List MemPlace} (h : DataW.trod enc Try.prog W base (fun _ => true) held fuel 22 [.slice a len cap] = some x) : DeedRow W a len ∧ len ≤ maxLen := by
  obtain ⟨h1, h2⟩ := three_of Try.underlying22 Try.underlying28 (by kernel_rfl) ⟨rfl, rfl, rfl⟩ ⟨by kernel_rfl, by kernel_rfl, by kernel_rfl⟩ Try.underlying5 Try.underlying3 Try.underlying3 h
  refine ⟨fun hp => ?_, h1⟩
  obtain ⟨b, off, K, M, T, rfl, hc⟩ := h2 hp
  exact ⟨b, off, K, M, T, rfl, fun r hr => by
    obtain ⟨a0, a1, a2, f0, _, f2⟩ := hc r hr
    simp [Lit.wf] at f0 f2
    have e1 : IntKind.u8.min = 0 := rfl
    have e2 : IntKind.u8.max = 255 := rfl
    have e3 : IntKind.i64.max = 9223372036854775807 := rfl
    exact ⟨a0, a1, a2, ⟨by omega, by omega⟩, by omega⟩⟩
/-- No time above the greatest. -/
def Bnd (L : List (Int × Int)) : Prop := ∀ x ∈ L, x.2 ≤ 9223372036854775807
theorem setL_bnd {L : List (Int × Int)} (h : Bnd L) {id at_ : Int} (ha : at_ ≤ 9223372036854775807) : Bnd (setL L id at_) := by
  intro x hx
  rcases List.mem_cons.1 ((setL_perm L id at_).mem_iff.1 hx) with rfl | hx
  · exact ha
  · exact h x ((del_sub L id).subset hx)
theorem cnt_all {L : List (Int × Int)} (h : Bnd L) : cnt L 9223372036854775807 = L.length := by
  unfold cnt
  rw [List.countP_eq_length]
  intro x hx; simpa using h x hx
theorem cnt_pos {L : List (Int × Int)} (h : 0 < L.length) : 1 ≤ cnt L (L.headD (0, 0)).2 := by
  cases L with
  | nil => simp at h
  | cons x L => unfold cnt; simp
theorem head_late {L : List (Int × Int)} (h : Srt L) (a : Int) (hl : cnt L a < L.length) : a < ((L.drop (cnt L a)).headD (0, 0)).2 := by
  have := (cnt_cut h a).2
  obtain ⟨D, hD⟩ : ∃ D, L.drop (cnt L a) = D := ⟨_, rfl⟩
  rw [hD] at this ⊢
  have hn : 0 < D.length := by rw [← hD, List.length_drop]; omega
  cases D with
  | nil => simp at hn
  | cons x D => exact this x List.mem_cons_self
structure FlRel (n g : Nat) (w : World) (iv : Value) (wr : World) : Prop where
  ex : ∃ (j rb : Nat) (L : List (Int × Int)), j ≤ n ∧ iv = .int .i64 (j : Int) ∧ TF wr g rb L ∧ Srt L ∧ Dst L ∧ Bnd L ∧ L.length ≤ j ∧ Below w.heap.size w wr ∧ w.heap.size ≤ rb
end Go.Proofs.Ytnobfmdjnldfpaa
