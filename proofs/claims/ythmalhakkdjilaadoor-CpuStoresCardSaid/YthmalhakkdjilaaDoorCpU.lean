/-
  Registers as an argument. Each statement bears its own conditions.
-/
import Derived.Test.YthmalhakkdjilaaDoorCpF
import Derived.ChangeArms
import Derived.OpenShut
namespace Go.Proofs.YthmalhakkdjilaaDoor
open Go.RowKit Go.ChangeShapes Go.WideShapes Go.ChangeAt
set_option linter.unusedVariables false
set_option linter.unusedSimpArgs false
theorem one_cell {cs : List Value} {o : Nat} {v : Value} (h : (cs.drop o).take 1 = [v]) : cs[o]? = some v := by
  have : ((cs.drop o).take 1)[0]? = some v := by rw [h]; rfl
  rw [List.getElem?_take_of_lt (by omega), List.getElem?_drop] at this
  simpa using this
theorem cut_cut {cs : List Value} {a n b m : Nat} (h : b + m ≤ n) : (((cs.drop a).take n).drop b).take m = (cs.drop (a + b)).take m := by
  rw [List.drop_take, List.drop_drop, List.take_take, Nat.min_eq_left (by omega)]
theorem cut_zero {cs : List Value} {n b m : Nat} (h : b + m ≤ n) : ((cs.take n).drop b).take m = (cs.drop b).take m := by
  rw [List.drop_take, List.take_take, Nat.min_eq_left (by omega)]
/-- One of the 45 cells. -/
def CellOk (cs : List Value) (j : Nat) : Prop := ∃ x : Int, cs[j]? = some (.int (kd j) x) ∧ Num (kd j) x
section
variable {H : Type} {enc : TypeId × Value → H} {W : World} {base : Nat} {held : Bool} {fuel : Nat} {cs : List Value} {x : DataW H × List MemPlace}
theorem num_wf32 {a : Int} (h : (Lit.int .u32 a).wf = true) : 0 ≤ a ∧ a < 4294967296 := by
  have h' : (decide ((0 : Int) ≤ a) && decide (a ≤ 4294967295)) = true := h
  simp only [Bool.and_eq_true, decide_eq_true_eq] at h'
  omega
theorem num_wf64 {a : Int} (h : (Lit.int .i64 a).wf = true) : -9223372036854775808 ≤ a ∧ a ≤ 9223372036854775807 := by
  have h' : (decide ((-9223372036854775808 : Int) ≤ a) && decide (a ≤ 9223372036854775807)) = true := h
  simpa only [Bool.and_eq_true, decide_eq_true_eq] using h'
theorem cell_u32 {n o : Nat} {ds : List Value} {y : DataW H × List MemPlace} (h : DataW.trod enc Tryd.prog W base (fun _ => true) held n 22 ds = some y) (hd : ds = (cs.drop o).take 1) (hk : kd o = .u32) : CellOk cs o := by
  obtain ⟨z, e, _, hw⟩ := DataW.trod_int Tryd.underlying22 h
  rw [hd] at e
  exact ⟨z, by rw [hk]; exact one_cell e, by rw [hk]; exact num_wf32 hw⟩
theorem cell_i64 {n o : Nat} {ds : List Value} {y : DataW H × List MemPlace} (h : DataW.trod enc Tryd.prog W base (fun _ => true) held n 3 ds = some y) (hd : ds = (cs.drop o).take 1) (hk : kd o = .i64) : CellOk cs o := by
  obtain ⟨z, e, _, hw⟩ := DataW.trod_int Tryd.underlying3 h
  rw [hd] at e
  exact ⟨z, by rw [hk]; exact one_cell e, by rw [hk]; exact num_wf64 hw⟩
theorem regs_of_cells (hl : cs.length = 45) (h : ∀ j, j < 45 → CellOk cs j) : ∃ r, RegOk r ∧ cs = cells r := by
  refine ⟨cs.map intOf, ⟨by rw [List.length_map, hl], fun j hj => ?_⟩, ?_⟩
  · obtain ⟨x, hx, hn⟩ := h j hj
    rw [List.getD_eq_getElem?_getD, List.getElem?_map, hx]
    exact hn
  · apply List.ext_getElem?
    intro j
    by_cases hj : j < 45
    · obtain ⟨x, hx, hn⟩ := h j hj
      rw [cells_at _ j (by rw [List.length_map, hl]; exact hj), List.getD_eq_getElem?_getD, List.getElem?_map, hx]
      rfl
    · rw [List.getElem?_eq_none (by omega), List.getElem?_eq_none (by rw [cells_len, List.length_map, hl]; omega)]
theorem open_regs (h : DataW.trod enc Tryd.prog W base (fun _ => true) held fuel 28 cs = some x) (hl : cs.length = 45) : ∃ r, RegOk r ∧ cs = cells r := by
  obtain ⟨ys, n, _, _, _, hyl, hf⟩ := DataW.trod_struct Tryd.underlying28 h
  refine regs_of_cells hl (fun j hj => ?_)
  have g : ∀ i, i < 7 → ∃ y, ys[i]? = some y := fun i hi => ⟨_, List.getElem?_eq_getElem (by rw [hyl]; exact hi)⟩
  obtain ⟨y0, g0⟩ := g 0 (by omega)
  obtain ⟨y1, g1⟩ := g 1 (by omega)
  obtain ⟨y2, g2⟩ := g 2 (by omega)
  obtain ⟨y3, g3⟩ := g 3 (by omega)
  obtain ⟨y4, g4⟩ := g 4 (by omega)
  obtain ⟨y5, g5⟩ := g 5 (by omega)
  obtain ⟨y6, g6⟩ := g 6 (by omega)
  have cu : Tryd.prog.cellsOf 22 = 1 := by kernel_rfl
  have ci : Tryd.prog.cellsOf 3 = 1 := by kernel_rfl
  have ca : Tryd.prog.cellsOf 23 = 16 := by kernel_rfl
  have cb : Tryd.prog.cellsOf 26 = 24 := by kernel_rfl
  have cl : Tryd.prog.cellsOf 25 = 3 := by kernel_rfl
  have f0 : DataW.trod enc Tryd.prog W base (fun _ => true) held n 23 (cs.take 16) = some y0 := by simpa [ca, g0] using hf 0 _ rfl
  have f1 : DataW.trod enc Tryd.prog W base (fun _ => true) held n 22 ((cs.drop 16).take 1) = some y1 := by simpa [cu, g1] using hf 1 _ rfl
  have f2 : DataW.trod enc Tryd.prog W base (fun _ => true) held n 22 ((cs.drop 17).take 1) = some y2 := by simpa [cu, g2] using hf 2 _ rfl
  have f3 : DataW.trod enc Tryd.prog W base (fun _ => true) held n 22 ((cs.drop 18).take 1) = some y3 := by simpa [cu, g3] using hf 3 _ rfl
  have f4 : DataW.trod enc Tryd.prog W base (fun _ => true) held n 22 ((cs.drop 19).take 1) = some y4 := by simpa [cu, g4] using hf 4 _ rfl
  have f5 : DataW.trod enc Tryd.prog W base (fun _ => true) held n 26 ((cs.drop 20).take 24) = some y5 := by simpa [cb, g5] using hf 5 _ rfl
  have f6 : DataW.trod enc Tryd.prog W base (fun _ => true) held n 3 ((cs.drop 44).take 1) = some y6 := by simpa [ci, g6] using hf 6 _ rfl
  by_cases c0 : j < 16
  · obtain ⟨zs, m, _, _, _, hzl, hz⟩ := DataW.trod_array Tryd.underlying23 f0
    have q := hz j c0
    rw [cu, List.getElem?_eq_getElem (by rw [hzl]; exact c0), Nat.mul_one, cut_zero (by omega)] at q
    exact cell_u32 q rfl (kd_reg (by omega))
  by_cases c1 : j = 16
  · subst c1; exact cell_u32 f1 rfl rfl
  by_cases c2 : j = 17
  · subst c2; exact cell_u32 f2 rfl rfl
  by_cases c3 : j = 18
  · subst c3; exact cell_u32 f3 rfl rfl
  by_cases c4 : j = 19
  · subst c4; exact cell_u32 f4 rfl rfl
  by_cases c5 : j = 44
  · subst c5; exact cell_i64 f6 rfl rfl
  obtain ⟨zs, m, _, _, _, hzl, hz⟩ := DataW.trod_array Tryd.underlying26 f5
  obtain ⟨d, hd⟩ : ∃ d, (j - 20) / 3 = d := ⟨_, rfl⟩
  have hd8 : d < 8 := by omega
  have q := hz d hd8
  rw [cl, List.getElem?_eq_getElem (by rw [hzl]; exact hd8), cut_cut (by omega)] at q
  obtain ⟨us, k, _, _, _, hul, hu⟩ := DataW.trod_struct Tryd.underlying25 q
  have gu : ∀ i, i < 3 → ∃ y, us[i]? = some y := fun i hi => ⟨_, List.getElem?_eq_getElem (by rw [hul]; exact hi)⟩
  obtain ⟨u0, v0⟩ := gu 0 (by omega)
  obtain ⟨u1, v1⟩ := gu 1 (by omega)
  obtain ⟨u2, v2⟩ := gu 2 (by omega)
  have s0 := hu 0 _ rfl
  rw [v0] at s0
  replace s0 : DataW.trod enc Tryd.prog W base (fun _ => true) held k 22 ((((cs.drop (20 + d * 3)).take 3).drop 0).take 1) = some u0 := by
    have e : Tryd.prog.cellsOf 22 = 1 := cu
    rw [← e]; exact s0
  have s1 := hu 1 _ rfl
  rw [v1] at s1
  replace s1 : DataW.trod enc Tryd.prog W base (fun _ => true) held k 22 ((((cs.drop (20 + d * 3)).take 3).drop 1).take 1) = some u1 := by
    have e : Tryd.prog.cellsOf 22 = 1 := cu
    rw [← e]; exact s1
  have s2 := hu 2 _ rfl
  rw [v2] at s2
  replace s2 : DataW.trod enc Tryd.prog W base (fun _ => true) held k 3 ((((cs.drop (20 + d * 3)).take 3).drop 2).take 1) = some u2 := by
    have e : Tryd.prog.cellsOf 3 = 1 := ci
    rw [← e]; exact s2
  rw [cut_cut (by omega)] at s0 s1 s2
  have k0 := kd_from hd8
  have k1 := kd_end hd8
  have k2 := kd_left hd8
  rw [Nat.mul_comm 3 d] at k0 k1 k2
  have hm : j = 20 + d * 3 ∨ j = 20 + d * 3 + 1 ∨ j = 20 + d * 3 + 2 := by omega
  rcases hm with rfl | rfl | rfl
  · exact cell_u32 s0 rfl k0
  · exact cell_u32 s1 rfl k1
  · exact cell_i64 s2 rfl k2
end
end Go.Proofs.YthmalhakkdjilaaDoor
