/-
  Requests, answers and registers as arguments. Each statement bears its own conditions.
-/
import Derived.Test.YtglpbngdikfliaaDoorCaK
import Derived.ChangeArms
import Derived.OpenShut
namespace Go.Proofs.YtglpbngdikfliaaDoor.Ca
open Go.RowKit Go.Proofs.YtglpbngdikfliaaDoor.F Go.ChangeShapes Go.WideShapes Go.ChangeAt
set_option linter.unusedVariables false
set_option linter.unusedSimpArgs false
theorem one_cell {cs : List Value} {o : Nat} {v : Value} (h : (cs.drop o).take 1 = [v]) : cs[o]? = some v := by
  have : ((cs.drop o).take 1)[0]? = some v := by rw [h]; rfl
  rw [List.getElem?_take_of_lt (by omega), List.getElem?_drop] at this
  simpa using this
theorem cut_cut {cs : List Value} {a n b m : Nat} (h : b + m ≤ n) : (((cs.drop a).take n).drop b).take m = (cs.drop (a + b)).take m := by
  rw [List.drop_take, List.drop_drop, List.take_take, Nat.min_eq_left (by omega)]
theorem cut_zero {cs : List Value} {n b m : Nat} (h : b + m ≤ n) : ((cs.take n).drop b).take m = (cs.drop b).take m := by
  rw [List.drop_take, List.take_take, Nat.min_eq_left (by omega)]
section
variable {H : Type} {enc : TypeId × Value → H} {W : World} {base : Nat} {held : Bool} {fuel : Nat} {cs : List Value} {x : DataW H × List MemPlace}
theorem open_req (h : DataW.trod enc Tryd.prog W base (fun _ => true) held fuel 25 cs = some x) (hl : cs.length = 5) : ∃ n o a ws t : Int, cs = [.int .i64 n, .int .i64 o, .int .u32 a, .int .i64 ws, .int .i64 t] ∧ U32 a := by
  obtain ⟨ys, n, _, _, _, hyl, hf⟩ := DataW.trod_struct Tryd.underlying25 h
  have g : ∀ i, i < 5 → ∃ y, ys[i]? = some y := fun i hi => ⟨_, List.getElem?_eq_getElem (by rw [hyl]; exact hi)⟩
  have cu : Tryd.prog.cellsOf 22 = 1 := by kernel_rfl
  have ci : Tryd.prog.cellsOf 3 = 1 := by kernel_rfl
  obtain ⟨y0, g0⟩ := g 0 (by omega)
  have f0 : DataW.trod enc Tryd.prog W base (fun _ => true) held n 3 ((cs.drop 0).take 1) = some y0 := by simpa [ci, g0] using hf 0 _ rfl
  obtain ⟨b0, c0, _, w0⟩ := DataW.trod_int Tryd.underlying3 f0
  have d0 := one_cell c0
  obtain ⟨y1, g1⟩ := g 1 (by omega)
  have f1 : DataW.trod enc Tryd.prog W base (fun _ => true) held n 3 ((cs.drop 1).take 1) = some y1 := by simpa [ci, g1] using hf 1 _ rfl
  obtain ⟨b1, c1, _, w1⟩ := DataW.trod_int Tryd.underlying3 f1
  have d1 := one_cell c1
  obtain ⟨y2, g2⟩ := g 2 (by omega)
  have f2 : DataW.trod enc Tryd.prog W base (fun _ => true) held n 22 ((cs.drop 2).take 1) = some y2 := by simpa [cu, g2] using hf 2 _ rfl
  obtain ⟨b2, c2, _, w2⟩ := DataW.trod_int Tryd.underlying22 f2
  have d2 := one_cell c2
  obtain ⟨y3, g3⟩ := g 3 (by omega)
  have f3 : DataW.trod enc Tryd.prog W base (fun _ => true) held n 3 ((cs.drop 3).take 1) = some y3 := by simpa [ci, g3] using hf 3 _ rfl
  obtain ⟨b3, c3, _, w3⟩ := DataW.trod_int Tryd.underlying3 f3
  have d3 := one_cell c3
  obtain ⟨y4, g4⟩ := g 4 (by omega)
  have f4 : DataW.trod enc Tryd.prog W base (fun _ => true) held n 3 ((cs.drop 4).take 1) = some y4 := by simpa [ci, g4] using hf 4 _ rfl
  obtain ⟨b4, c4, _, w4⟩ := DataW.trod_int Tryd.underlying3 f4
  have d4 := one_cell c4
  refine ⟨b0, b1, b2, b3, b4, ?_, U32.of_wf w2⟩
  apply List.ext_getElem?
  intro j
  by_cases hj : j < 5
  · match j, hj with
    | 0, _ => rw [d0]; rfl
    | 1, _ => rw [d1]; rfl
    | 2, _ => rw [d2]; rfl
    | 3, _ => rw [d3]; rfl
    | 4, _ => rw [d4]; rfl
    | j + 5, h => omega
  · rw [List.getElem?_eq_none (by omega), List.getElem?_eq_none (by simp; omega)]
theorem open_ans (h : DataW.trod enc Tryd.prog W base (fun _ => true) held fuel 42 cs = some x) (hl : cs.length = 3) : ∃ n o a : Int, cs = [.int .i64 n, .int .u32 o, .int .i64 a] ∧ U32 o := by
  obtain ⟨ys, n, _, _, _, hyl, hf⟩ := DataW.trod_struct Tryd.underlying42 h
  have g : ∀ i, i < 3 → ∃ y, ys[i]? = some y := fun i hi => ⟨_, List.getElem?_eq_getElem (by rw [hyl]; exact hi)⟩
  have cu : Tryd.prog.cellsOf 22 = 1 := by kernel_rfl
  have ci : Tryd.prog.cellsOf 3 = 1 := by kernel_rfl
  have ce : Tryd.prog.cellsOf 26 = 1 := by kernel_rfl
  obtain ⟨y0, g0⟩ := g 0 (by omega)
  have f0 : DataW.trod enc Tryd.prog W base (fun _ => true) held n 26 ((cs.drop 0).take 1) = some y0 := by simpa [ci, g0, ce] using hf 0 _ rfl
  obtain ⟨b0, c0, _, w0⟩ := DataW.trod_int Tryd.underlying26 f0
  have d0 := one_cell c0
  obtain ⟨y1, g1⟩ := g 1 (by omega)
  have f1 : DataW.trod enc Tryd.prog W base (fun _ => true) held n 22 ((cs.drop 1).take 1) = some y1 := by simpa [cu, g1] using hf 1 _ rfl
  obtain ⟨b1, c1, _, w1⟩ := DataW.trod_int Tryd.underlying22 f1
  have d1 := one_cell c1
  obtain ⟨y2, g2⟩ := g 2 (by omega)
  have f2 : DataW.trod enc Tryd.prog W base (fun _ => true) held n 3 ((cs.drop 2).take 1) = some y2 := by simpa [ci, g2] using hf 2 _ rfl
  obtain ⟨b2, c2, _, w2⟩ := DataW.trod_int Tryd.underlying3 f2
  have d2 := one_cell c2
  refine ⟨b0, b1, b2, ?_, U32.of_wf w1⟩
  apply List.ext_getElem?
  intro j
  by_cases hj : j < 3
  · match j, hj with
    | 0, _ => rw [d0]; rfl
    | 1, _ => rw [d1]; rfl
    | 2, _ => rw [d2]; rfl
    | j + 3, h => omega
  · rw [List.getElem?_eq_none (by omega), List.getElem?_eq_none (by simp; omega)]
theorem open_rg (h : DataW.trod enc Tryd.prog W base (fun _ => true) held fuel 23 cs = some x) (hl : cs.length = 16) : ∃ r, Regs r ∧ cs = CU r := by
  obtain ⟨zs, m, _, _, _, hzl, hz⟩ := DataW.trod_array Tryd.underlying23 h
  have cu : Tryd.prog.cellsOf 22 = 1 := by kernel_rfl
  have key : ∀ j, j < 16 → ∃ v : Int, cs[j]? = some (.int .u32 v) ∧ U32 v := by
    intro j hj
    have q := hz j hj
    rw [cu, List.getElem?_eq_getElem (by rw [hzl]; exact hj), Nat.mul_one] at q
    obtain ⟨z, e, _, hw⟩ := DataW.trod_int Tryd.underlying22 q
    exact ⟨z, one_cell e, U32.of_wf hw⟩
  refine ⟨cs.map intOf, ⟨by rw [List.length_map, hl], fun y hy => ?_⟩, ?_⟩
  · obtain ⟨u, hu, rfl⟩ := List.mem_map.1 hy
    obtain ⟨i, hi, e⟩ := List.getElem_of_mem hu
    obtain ⟨v, hv, hb⟩ := key i (by omega)
    rw [List.getElem?_eq_getElem hi, e] at hv
    rw [Option.some.inj hv]
    exact hb
  · apply List.ext_getElem?
    intro j
    by_cases hj : j < 16
    · obtain ⟨v, hv, hb⟩ := key j hj
      have e2 : (cs.map intOf)[j]? = some v := by rw [List.getElem?_map, hv]; rfl
      rw [hv, CU_at e2]
    · rw [List.getElem?_eq_none (by omega), List.getElem?_eq_none (by rw [CU_len, List.length_map]; omega)]
end
end Go.Proofs.YtglpbngdikfliaaDoor.Ca
