/-
  Areas and words as plain things, and how they read in memory. Each statement bears its own conditions.
-/
import Derived.Test.YtehbcoopggpmjaaData
import Derived.IntWalk
import Derived.Laws.OwnMore
import Derived.Deep.QuietTactic
namespace Go.Proofs.Ytehbcoopggpmjaa
open Go.RowKit Go.ChangeShapes Go.WideShapes Go.ChangeAt
set_option linter.unusedVariables false
set_option linter.unusedSimpArgs false
def I64 (n : Int) : Prop := -9223372036854775808 ≤ n ∧ n ≤ 9223372036854775807
theorem I64.of_wf {n : Int} (h : (Lit.int .i64 n).wf = true) : I64 n := by
  simp only [Lit.wf, Bool.and_eq_true, decide_eq_true_eq] at h
  exact h
theorem wrap_ok {n : Int} (h : -9223372036854775808 ≤ n) (h' : n ≤ 9223372036854775807) : IntKind.i64.wrap n = n := IntWalk.i64_in _ ⟨h, h'⟩
/-- A 32-bit word. -/
def U32 (n : Int) : Prop := 0 ≤ n ∧ n ≤ 4294967295
theorem U32.of_wf {n : Int} (h : (Lit.int .u32 n).wf = true) : U32 n := by
  simp only [Lit.wf, Bool.and_eq_true, decide_eq_true_eq] at h
  exact h
theorem below_drewN {B : Nat} {w w' : World} (h : Below B w w') (k : Nat) : Below B w (w'.drewN k) := ⟨h.os, h.tape, h.output, h.size, h.block⟩
theorem Past.drewN {g : Nat} {a w : World} (h : Past g a w) (k : Nat) : Past g a (w.drewN k) := ⟨h.os, h.tape, h.output, h.size, h.block⟩
theorem Past.alloc {g : Nat} {a w : World} (h : Past g a w) (o : Obj) : Past g a (w.alloc o) := h.trans (Past.of_below ((Below.refl _ _).alloc (Nat.le_refl _) o))
theorem Past.then_ {g : Nat} {a w w' : World} (h : Past g a w) (k : Below w.heap.size w w') : Past g a w' := h.trans (Past.of_below k)
/-- An area. -/
structure MA where
  frm : Int
  wds : Int
  wr : Bool
  rn : Bool
  kp : Bool
def MA.cells (x : MA) : List Value := [.int .i64 x.frm, .int .i64 x.wds, .bool x.wr, .bool x.rn, .bool x.kp]
def MA.val (x : MA) : Value := .agg #[.int .i64 x.frm, .int .i64 x.wds, .bool x.wr, .bool x.rn, .bool x.kp]
def CA (l : List MA) : List Value := l.flatMap MA.cells
def CU (l : List Int) : List Value := l.map (Value.int .u32)
theorem CA_len (l : List MA) : (CA l).length = l.length * 5 := by
  induction l with
  | nil => rfl
  | cons x r ih => unfold CA at *; rw [List.flatMap_cons, List.length_append, ih, List.length_cons]; simp [MA.cells]; omega
theorem CA_app (a b : List MA) : CA (a ++ b) = CA a ++ CA b := by simp [CA]
theorem CA_at {l : List MA} {i : Nat} {x : MA} (h : l[i]? = some x) : ∀ j u, x.cells[j]? = some u → (CA l)[i * 5 + j]? = some u := by
  induction l generalizing i with
  | nil => simp at h
  | cons y r ih =>
    intro j u hu
    have hj : j < 5 := (List.getElem?_eq_some_iff.1 hu).1
    unfold CA at *
    rw [List.flatMap_cons]
    cases i with
    | zero =>
      simp at h; subst h
      rw [List.getElem?_append_left (by simp [MA.cells]; omega)]
      simpa using hu
    | succ i =>
      rw [List.getElem?_append_right (by simp [MA.cells]; omega)]
      have : (i + 1) * 5 + j - y.cells.length = i * 5 + j := by simp [MA.cells]; omega
      rw [this]
      exact ih (by simpa using h) j u hu
theorem CA_one (l : List MA) : ∀ u ∈ CA l, u.oneCell' = true := by
  intro u hu
  obtain ⟨x, _, hx⟩ := List.mem_flatMap.1 hu
  simp [MA.cells] at hx
  rcases hx with rfl | rfl | rfl | rfl | rfl <;> rfl
theorem CU_len (l : List Int) : (CU l).length = l.length := by simp [CU]
theorem CU_app (a b : List Int) : CU (a ++ b) = CU a ++ CU b := by simp [CU]
theorem CU_at {l : List Int} {i : Nat} {x : Int} (h : l[i]? = some x) : (CU l)[i]? = some (.int .u32 x) := by simp [CU, h]
theorem CU_one (l : List Int) : ∀ u ∈ CU l, u.oneCell' = true := by
  intro u hu
  obtain ⟨x, _, rfl⟩ := List.mem_map.1 hu
  rfl
theorem CU_set (l : List Int) (i : Nat) (x : Int) : CU (l.set i x) = (CU l).set i (.int .u32 x) := by simp [CU, List.map_set]
/-- A slice value reads as cells, in a block that is not g. -/
structure St (g : Nat) (w : World) (size : Nat) (v : Value) (n : Nat) (xs : List Value) : Prop where
  ex : ∃ (A : Option Addr) (c : Nat), v = .slice A n c ∧ xs.length = n * size ∧ (0 < n → ∃ b off : Nat, A = some ⟨b, off, none⟩ ∧ b < w.heap.size ∧ b ≠ g ∧ ∀ j u, xs[j]? = some u → w.cell? ⟨b, off + j, none⟩ = some u)
theorem cell_past {g : Nat} {w w' : World} {b o : Nat} {u : Value} (h : Past g w w') (hb : b < w.heap.size) (hg : b ≠ g) (hc : w.cell? ⟨b, o, none⟩ = some u) : w'.cell? ⟨b, o, none⟩ = some u :=
  (World.cell?_of_block (h.block b hb hg)).trans hc
section
variable {g size n : Nat} {w w' : World} {v : Value} {xs : List Value}
theorem St.past (h : St g w size v n xs) (hp : Past g w w') : St g w' size v n xs := by
  obtain ⟨A, c, e, hl, h1⟩ := h.ex
  refine ⟨A, c, e, hl, fun h0 => ?_⟩
  obtain ⟨b, off, e1, hb, hg, hc⟩ := h1 h0
  exact ⟨b, off, e1, Nat.lt_of_lt_of_le hb hp.size, hg, fun j u hu => cell_past hp hb hg (hc j u hu)⟩
theorem St.below (h : St g w size v n xs) (hp : Below w.heap.size w w') : St g w' size v n xs := h.past (Past.of_below hp)
theorem St.nil : St g w size (.slice none 0 0) 0 [] := ⟨none, 0, rfl, by simp, fun h => by omega⟩
theorem St.form (h : St g w size v n xs) : ∃ A c, v = .slice A n c := by
  obtain ⟨A, c, e, _⟩ := h.ex
  exact ⟨A, c, e⟩
theorem St.len (h : St g w size v n xs) : xs.length = n * size := by
  obtain ⟨A, c, e, hl, _⟩ := h.ex
  exact hl
theorem St.at_ {A : Option Addr} {m c : Nat} (h : St g w size (.slice A m c) n xs) {k : Nat} (hk : k < n) :
    m = n ∧ ∃ b off : Nat, A = some ⟨b, off, none⟩ ∧ b < w.heap.size ∧ b ≠ g ∧ ∀ j u, xs[j]? = some u → w.cell? ⟨b, off + j, none⟩ = some u := by
  obtain ⟨A', c', e, hl, h1⟩ := h.ex
  injection e with e1 e2 e3
  subst e1 e2 e3
  exact ⟨rfl, h1 (by omega)⟩
theorem St.reads {A : Option Addr} {m c : Nat} (h : St g w size (.slice A m c) n xs) : m = n ∧ Reads w w.heap.size size A n xs := by
  obtain ⟨A', c', e, hl, h1⟩ := h.ex
  injection e with e1 e2 e3
  subst e1 e2 e3
  refine ⟨rfl, hl, fun hp => ?_⟩
  obtain ⟨b, off, e1, hb, hg, hc⟩ := h1 hp
  refine ⟨_, e1, hb, fun j u hu => ?_⟩
  rw [Addr.add_lit]
  exact hc j u hu
theorem St.of_own {B : Nat} {e : TypeId} (h : w.ownsRow B e size v n xs) (hg : g < B) : St g w size v n xs := by
  obtain ⟨A, c, hv⟩ := slice_form h
  subst hv
  refine ⟨A, c, rfl, h.1, fun hn => ?_⟩
  obtain ⟨g', cap, hv, hB, hlt⟩ := h.form hn
  have hA : A = some ⟨g', 0, none⟩ := by injection hv
  subst hA
  refine ⟨g', 0, rfl, hlt, by omega, fun j u hu => ?_⟩
  have := h.cells (g := g') rfl j u hu
  rw [Addr.add_lit] at this
  simpa using this
/-- Off another block. -/
theorem St.off {g' : Nat} (h : St g w size v n xs) (hg : ∀ b off c, v = .slice (some ⟨b, off, none⟩) n c → 0 < n → b ≠ g') : St g' w size v n xs := by
  obtain ⟨A, c, e, hl, h1⟩ := h.ex
  subst e
  refine ⟨A, c, rfl, hl, fun h0 => ?_⟩
  obtain ⟨b, off, e1, hb, _, hc⟩ := h1 h0
  exact ⟨b, off, e1, hb, hg b off c (by rw [e1]) h0, hc⟩
theorem St.cut {A : Option Addr} {m c : Nat} (h : St g w 1 (.slice A n c) n xs) (hm : m ≤ n) : St g w 1 (.slice A m c) m (xs.take m) := by
  obtain ⟨A', c', e, hl, h1⟩ := h.ex
  injection e with e1 e2 e3
  subst e1 e3
  refine ⟨A, c, rfl, by rw [List.length_take, hl]; omega, fun h0 => ?_⟩
  obtain ⟨b, off, e1, hb, hg, hc⟩ := h1 (by omega)
  refine ⟨b, off, e1, hb, hg, fun j u hu => hc j u ?_⟩
  rw [List.getElem?_take] at hu
  split at hu
  · exact hu
  · cases hu
end
/-- Lists of lists of words. -/
structure SL (g : Nat) (w : World) (v : Value) (LL : List (List Int)) : Prop where
  ex : ∃ vs : List Value, St g w 1 v LL.length vs ∧ (∀ (j : Nat) u L, vs[j]? = some u → LL[j]? = some L → St g w 1 u L.length (CU L)) ∧ ∀ u ∈ vs, u.oneCell' = true
theorem SL.past {g : Nat} {w w' : World} {v : Value} {LL : List (List Int)} (h : SL g w v LL) (hp : Past g w w') : SL g w' v LL := by
  obtain ⟨vs, h1, h2, h3⟩ := h.ex
  exact ⟨vs, h1.past hp, fun j u L hu hL => (h2 j u L hu hL).past hp, h3⟩
theorem SL.below {g : Nat} {w w' : World} {v : Value} {LL : List (List Int)} (h : SL g w v LL) (hp : Below w.heap.size w w') : SL g w' v LL := h.past (Past.of_below hp)
/-- The first area that a place is in, and where in it. -/
def atL (at_ : Int) : List MA → Nat → Option (Nat × Nat)
  | [], _ => none
  | x :: r, i => if x.frm ≤ at_ ∧ at_ < x.frm + x.wds then some (i, (at_ - x.frm).toNat) else atL at_ r (i + 1)
/-- How many words lie ahead of an area's. -/
def sumW : List MA → Int
  | [] => 0
  | x :: r => x.wds + sumW r
def GA (l : List MA) : Prop := ∀ x ∈ l, 0 ≤ x.frm ∧ 1 ≤ x.wds ∧ x.frm + x.wds ≤ 65536
/-- Areas, and the words of each. -/
structure Sh (l : List MA) (LL : List (List Int)) : Prop where
  len : LL.length = l.length
  each : ∀ (i : Nat) x L, l[i]? = some x → LL[i]? = some L → (L.length : Int) = x.wds
  good : GA l
  few : l.length ≤ 16
  sum : sumW l ≤ 4096
  word : ∀ L ∈ LL, ∀ x ∈ L, U32 x
theorem sumW_app (a b : List MA) : sumW (a ++ b) = sumW a + sumW b := by
  induction a with
  | nil => simp [sumW]
  | cons x r ih => simp only [List.cons_append, sumW, ih]; omega
theorem sumW_nonneg {l : List MA} (h : GA l) : 0 ≤ sumW l := by
  induction l with
  | nil => simp [sumW]
  | cons x r ih =>
    have := h x (by simp)
    have := ih (fun y hy => h y (by simp [hy]))
    simp only [sumW]; omega
theorem GA.take {l : List MA} (h : GA l) (k : Nat) : GA (l.take k) := fun x hx => h x (List.mem_of_mem_take hx)
theorem GA.drop {l : List MA} (h : GA l) (k : Nat) : GA (l.drop k) := fun x hx => h x (List.mem_of_mem_drop hx)
theorem sumW_take {l : List MA} (h : GA l) (k : Nat) : 0 ≤ sumW (l.take k) ∧ sumW (l.take k) ≤ sumW l := by
  have h1 := sumW_app (l.take k) (l.drop k)
  rw [List.take_append_drop] at h1
  have := sumW_nonneg (h.take k)
  have := sumW_nonneg (h.drop k)
  omega
theorem take_snoc {α : Type} {xs : List α} {k : Nat} {x : α} (h : xs[k]? = some x) : xs.take (k + 1) = xs.take k ++ [x] := by
  rw [List.take_add_one, h]; rfl
theorem drop_cons {α : Type} {xs : List α} {k : Nat} {x : α} (h : xs[k]? = some x) : xs.drop k = x :: xs.drop (k + 1) := by
  obtain ⟨h1, rfl⟩ := List.getElem?_eq_some_iff.1 h
  exact List.drop_eq_getElem_cons h1
theorem sumW_snoc {l : List MA} {k : Nat} {x : MA} (h : l[k]? = some x) : sumW (l.take (k + 1)) = sumW (l.take k) + x.wds := by
  rw [take_snoc h, sumW_app]; simp [sumW]
theorem atL_some {at_ : Int} : ∀ {l : List MA} {i0 i k : Nat}, atL at_ l i0 = some (i, k) → i0 ≤ i ∧ ∃ x, l[i - i0]? = some x ∧ x.frm ≤ at_ ∧ at_ < x.frm + x.wds ∧ (k : Int) = at_ - x.frm
  | [], i0, i, k, h => by simp [atL] at h
  | x :: r, i0, i, k, h => by
    unfold atL at h
    split at h
    next hc =>
      simp at h
      obtain ⟨rfl, rfl⟩ := h
      exact ⟨Nat.le_refl _, x, by simp, hc.1, hc.2, by omega⟩
    next hc =>
      obtain ⟨h1, y, h2, h3⟩ := atL_some h
      refine ⟨by omega, y, ?_, h3⟩
      have : i - i0 = (i - (i0 + 1)) + 1 := by omega
      rw [this]; simpa using h2
/-- Words as one row: where an area's word stands. -/
theorem flat_at {l : List MA} : ∀ {LL : List (List Int)} {i k : Nat} {L : List Int} {x : Int}, LL.length = l.length → (∀ (i : Nat) x L, l[i]? = some x → LL[i]? = some L → (L.length : Int) = x.wds) → LL[i]? = some L → L[k]? = some x →
    LL.flatten[(sumW (l.take i)).toNat + k]? = some x ∧ 0 ≤ sumW (l.take i) ∧ ∀ y, (LL.set i (L.set k y)).flatten = LL.flatten.set ((sumW (l.take i)).toNat + k) y := by
  induction l with
  | nil => intro LL i k L x h1 h2 h3; simp at h1; subst h1; simp at h3
  | cons a r ih =>
    intro LL i k L x h1 h2 h3 h4
    match LL, h1 with
    | M :: LL, h1 =>
      have hk : k < L.length := (List.getElem?_eq_some_iff.1 h4).1
      cases i with
      | zero =>
        simp at h3; subst h3
        refine ⟨?_, by simp [sumW], fun y => ?_⟩
        · simp only [List.take_zero, sumW, List.flatten_cons]
          rw [List.getElem?_append_left (by simpa using hk)]
          simpa using h4
        · simp only [List.take_zero, sumW, List.flatten_cons, List.set_cons_zero]
          rw [List.set_append_left _ _ (by simpa using hk)]
          simp
      | succ i =>
        have hM := h2 0 a M rfl rfl
        obtain ⟨e1, e2, e3⟩ := ih (LL := LL) (i := i) (k := k) (L := L) (x := x) (by simpa using h1) (fun j y N hy hN => h2 (j + 1) y N (by simpa using hy) (by simpa using hN)) (by simpa using h3) h4
        have hs : (sumW ((a :: r).take (i + 1))).toNat + k = M.length + ((sumW (r.take i)).toNat + k) := by
          simp only [List.take_succ_cons, sumW]; omega
        refine ⟨?_, by simp only [List.take_succ_cons, sumW]; omega, fun y => ?_⟩
        · rw [hs, List.flatten_cons, List.getElem?_append_right (by omega)]
          rw [show M.length + ((sumW (r.take i)).toNat + k) - M.length = (sumW (r.take i)).toNat + k by omega]
          exact e1
        · rw [hs, List.flatten_cons, List.set_append_right _ _ (by omega)]
          rw [show M.length + ((sumW (r.take i)).toNat + k) - M.length = (sumW (r.take i)).toNat + k by omega]
          simp [e3]
theorem flat_len {l : List MA} : ∀ {LL : List (List Int)}, LL.length = l.length → (∀ (i : Nat) x L, l[i]? = some x → LL[i]? = some L → (L.length : Int) = x.wds) → (LL.flatten.length : Int) = sumW l := by
  induction l with
  | nil => intro LL h1 _; simp at h1; subst h1; simp [sumW]
  | cons a r ih =>
    intro LL h1 h2
    match LL, h1 with
    | M :: LL, h1 =>
      have := h2 0 a M rfl rfl
      have := ih (LL := LL) (by simpa using h1) (fun j y N hy hN => h2 (j + 1) y N (by simpa using hy) (by simpa using hN))
      simp only [List.flatten_cons, List.length_append, sumW]; omega
theorem Sh.flat {l : List MA} {LL : List (List Int)} (h : Sh l LL) : (LL.flatten.length : Int) = sumW l := flat_len h.len h.each
theorem Sh.set {l : List MA} {LL : List (List Int)} (h : Sh l LL) {i k : Nat} {L : List Int} {y : Int} (hL : LL[i]? = some L) (hy : U32 y) : Sh l (LL.set i (L.set k y)) := by
  refine ⟨by simpa using h.len, fun j x M hx hM => ?_, h.good, h.few, h.sum, fun M hM z hz => ?_⟩
  · rw [List.getElem?_set] at hM
    by_cases hj : i = j
    · subst hj
      rw [if_pos rfl] at hM
      split at hM
      · simp at hM; subst hM
        have := h.each i x L hx hL
        simpa using this
      · cases hM
    · rw [if_neg hj] at hM
      exact h.each j x M hx hM
  · rcases List.mem_or_eq_of_mem_set hM with h1 | rfl
    · exact h.word M h1 z hz
    · rcases List.mem_or_eq_of_mem_set hz with h2 | rfl
      · exact h.word L (List.mem_of_getElem? hL) z h2
      · exact hy
/-- What is found of a place, in a state. -/
theorem Sh.at_ {l : List MA} {LL : List (List Int)} (h : Sh l LL) {p : Int} {i k : Nat} (hp : atL p l 0 = some (i, k)) :
    ∃ x L u, l[i]? = some x ∧ LL[i]? = some L ∧ L[k]? = some u ∧ x.frm ≤ p ∧ p < x.frm + x.wds ∧ (k : Int) = p - x.frm := by
  obtain ⟨_, x, h1, h2, h3, h4⟩ := atL_some hp
  simp at h1
  have hi : i < LL.length := by rw [h.len]; exact (List.getElem?_eq_some_iff.1 h1).1
  have hL := List.getElem?_eq_getElem hi
  have := h.each i x _ h1 hL
  exact ⟨x, LL[i], LL[i][k], h1, hL, List.getElem?_eq_getElem (by omega), h2, h3, h4⟩
end Go.Proofs.Ytehbcoopggpmjaa
