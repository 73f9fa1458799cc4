/-
  Registers as a list of 45 numbers, and how they lie in cells. Each statement bears its own conditions.
-/
import Derived.Test.YthmalhakkdjilaaDoorIsD
namespace Go.Proofs.YthmalhakkdjilaaDoor
open Go.RowKit
set_option linter.unusedVariables false
set_option linter.unusedSimpArgs false
theorem i64_ok {n : Int} (h : -9223372036854775808 ≤ n) (h' : n ≤ 9223372036854775807) : IntKind.i64.wrap n = n := IntWalk.i64_in _ ⟨h, h'⟩
/-- The kind of each of the 45 numbers: 16 registers, Pc, Sp, Floor, Top, eight loops of three, Depth. -/
def kd (j : Nat) : IntKind := if j < 20 then .u32 else if j = 44 then .i64 else if (j - 20) % 3 = 2 then .i64 else .u32
def cells (r : List Int) : List Value := r.mapIdx fun j x => .int (kd j) x
theorem cells_len (r : List Int) : (cells r).length = r.length := by simp [cells]
theorem cells_at (r : List Int) (j : Nat) (h : j < r.length) : (cells r)[j]? = some (.int (kd j) (r.getD j 0)) := by
  simp [cells, List.getD_eq_getElem?_getD, List.getElem?_eq_getElem h]
theorem cells_set (r : List Int) (j : Nat) (x : Int) : (cells r).set j (.int (kd j) x) = cells (r.set j x) := by
  apply List.ext_getElem?
  intro i
  simp only [cells, List.getElem?_set, List.getElem?_mapIdx, List.length_mapIdx]
  by_cases h : j = i
  · subst h
    by_cases hl : j < r.length <;> simp [hl]
  · simp [h]
theorem cells_one (r : List Int) : ∀ v ∈ cells r, v.oneCell' = true := by
  intro v hv
  obtain ⟨i, hi, e⟩ := List.getElem_of_mem hv
  have := cells_at r i (by rw [← cells_len]; exact hi)
  rw [List.getElem?_eq_getElem hi, e] at this
  injection this with this
  subst this; rfl
/-- A number of a kind. -/
def Num (k : IntKind) (x : Int) : Prop := match k with | .u32 => 0 ≤ x ∧ x < 4294967296 | _ => -9223372036854775808 ≤ x ∧ x ≤ 9223372036854775807
/-- Registers: 45 numbers of their kinds. -/
structure RegOk (r : List Int) : Prop where
  len : r.length = 45
  num : ∀ j, j < 45 → Num (kd j) (r.getD j 0)
theorem RegOk.set {r : List Int} (h : RegOk r) (j : Nat) (x : Int) (hx : Num (kd j) x) : RegOk (r.set j x) := by
  refine ⟨by simp [h.len], fun i hi => ?_⟩
  by_cases e : i = j
  · subst e
    rw [List.getD_eq_getElem?_getD, List.getElem?_set_self (by rw [h.len]; exact hi)]
    exact hx
  · have := h.num i hi
    rw [List.getD_eq_getElem?_getD, List.getElem?_set_ne (fun e' => e e'.symm), ← List.getD_eq_getElem?_getD]
    exact this
theorem getD_set_self {r : List Int} {j : Nat} (x : Int) (h : j < r.length) : (r.set j x).getD j 0 = x := by
  rw [List.getD_eq_getElem?_getD, List.getElem?_set_self h]; rfl
theorem getD_set_ne {r : List Int} {i j : Nat} (x : Int) (h : i ≠ j) : (r.set j x).getD i 0 = r.getD i 0 := by
  rw [List.getD_eq_getElem?_getD, List.getElem?_set_ne (fun e' => h e'.symm), ← List.getD_eq_getElem?_getD]
theorem kd_reg {j : Nat} (h : j < 20) : kd j = .u32 := by unfold kd; rw [if_pos h]
theorem kd_from {d : Nat} (h : d < 8) : kd (20 + 3 * d) = .u32 := by unfold kd; rw [if_neg (by omega), if_neg (by omega), if_neg (by omega)]
theorem kd_end {d : Nat} (h : d < 8) : kd (20 + 3 * d + 1) = .u32 := by unfold kd; rw [if_neg (by omega), if_neg (by omega), if_neg (by omega)]
theorem kd_left {d : Nat} (h : d < 8) : kd (20 + 3 * d + 2) = .i64 := by unfold kd; rw [if_neg (by omega), if_neg (by omega), if_pos (by omega)]
theorem kd_dep : kd 44 = .i64 := rfl
theorem RegOk.u32 {r : List Int} (h : RegOk r) {j : Nat} (hj : j < 20) : 0 ≤ r.getD j 0 ∧ r.getD j 0 < 4294967296 := by
  have := h.num j (by omega)
  rw [kd_reg hj] at this
  exact this
theorem RegOk.dep {r : List Int} (h : RegOk r) : -9223372036854775808 ≤ r.getD 44 0 ∧ r.getD 44 0 ≤ 9223372036854775807 := h.num 44 (by omega)

/-! ### What instructions do, of registers alone -/
def rA (r : List Int) (j : Int) : Int := r.getD j.toNat 0
/-- Is there an innermost loop that ends at Pc? -/
def endsV (r : List Int) : Bool := decide (0 < r.getD 44 0) && decide (r.getD (20 + 3 * (r.getD 44 0 - 1).toNat + 1) 0 = r.getD 16 0)
/-- Without its innermost loop, if that ends and has no further repetitions. -/
def leftV (r : List Int) : List Int :=
  if endsV r = true ∧ r.getD (20 + 3 * (r.getD 44 0 - 1).toNat + 2) 0 = 0 then
    let d := (r.getD 44 0 - 1).toNat
    ((((r.set 44 (r.getD 44 0 - 1)).set (20 + 3 * d) 0).set (20 + 3 * d + 1) 0).set (20 + 3 * d + 2) 0)
  else r
/-- .. again and again, at most so often. -/
def leftsV : Nat → List Int → List Int
  | 0, r => r
  | n + 1, r => if leftV r = r then r else leftsV n (leftV r)
/-- Behind the loops that end at Pc. -/
def settledV (r : List Int) : List Int :=
  let r := leftsV 8 r
  if endsV r = true then
    let d := (r.getD 44 0 - 1).toNat
    (r.set (20 + 3 * d + 2) (IntKind.i64.wrap (r.getD (20 + 3 * d + 2) 0 - 1))).set 16 (r.getD (20 + 3 * d) 0)
  else r
end Go.Proofs.YthmalhakkdjilaaDoor
