/-
  What health does by the way. Each statement bears its own conditions.
-/
import Derived.Test.YthnlkfcfiieddaaHlM
import Derived.Laws.StructEq
namespace Go.Proofs.Ythnlkfcfiieddaa.Hl
open Go.RowKit Go.Proofs.Ythnlkfcfiieddaa.F 
set_option linter.unusedVariables false
set_option linter.unusedSimpArgs false
set_option maxRecDepth 100000 in
set_option maxHeartbeats 4000000 in
theorem ek_matter : EqK Try.prog 68 := by
  have u3 := Try.underlying3
  have a3 := Try.isAgg3
  have z3 := Try.sizeOf3
  have u4 := Try.underlying26
  have a4 := Try.isAgg26
  have z4 := Try.sizeOf26
  have hS : Try.prog.underlying 68 = some (.struct (Try.prog.fieldsOf 68)) := by kernel_rfl
  have hp : Try.prog.stoodInHeld 68 = false := by kernel_rfl
  refine ⟨⟨_, hS⟩, fun a c x y w => ?_, fun em a c w => ?_⟩
  · unfold kv
    simp only [Op.equal, Op.maxDepth]
    rw [show (10000 : Nat) = 9999 + 1 from rfl]
    rw [run_equalIn_agg w 9999 68 _ _ hS hp]
    simp only [Program.fieldsOf, Try.underlying68]
    go_simp
    by_cases h0 : a = x
    rotate_left
    · simp [h0]
    by_cases h1 : c = y
    rotate_left
    · simp [h0, h1]
    simp [h0, h1]
  · unfold kv
    rw [show (10000 : Nat) = 9999 + 1 from rfl]
    unfold Instr.checkKey
    simp only [Sem.run_bind, run_underlying hS, Result.andThen_ok]
    simp only [Program.fieldsOf, Try.underlying68]
    go_simp
    rw [show (9999 : Nat) = 9998 + 1 from rfl, MapKept.run_checkKey (k := Value.int .i64 a) u4 (show IntKind.i64 = IntKind.i64 from rfl)]
    simp only [Result.andThen_ok]
    rw [MapKept.run_checkKey (k := Value.int .i64 c) u3 (show IntKind.i64 = IntKind.i64 from rfl)]
    simp only [Result.andThen_ok]
set_option maxRecDepth 100000 in
set_option maxHeartbeats 4000000 in
theorem ek_event : EqK Try.prog 71 := by
  have u3 := Try.underlying3
  have a3 := Try.isAgg3
  have z3 := Try.sizeOf3
  have u4 := Try.underlying26
  have a4 := Try.isAgg26
  have z4 := Try.sizeOf26
  have hS : Try.prog.underlying 71 = some (.struct (Try.prog.fieldsOf 71)) := by kernel_rfl
  have hp : Try.prog.stoodInHeld 71 = false := by kernel_rfl
  refine ⟨⟨_, hS⟩, fun a c x y w => ?_, fun em a c w => ?_⟩
  · unfold kv
    simp only [Op.equal, Op.maxDepth]
    rw [show (10000 : Nat) = 9999 + 1 from rfl]
    rw [run_equalIn_agg w 9999 71 _ _ hS hp]
    simp only [Program.fieldsOf, Try.underlying71]
    go_simp
    by_cases h0 : a = x
    rotate_left
    · simp [h0]
    by_cases h1 : c = y
    rotate_left
    · simp [h0, h1]
    simp [h0, h1]
  · unfold kv
    rw [show (10000 : Nat) = 9999 + 1 from rfl]
    unfold Instr.checkKey
    simp only [Sem.run_bind, run_underlying hS, Result.andThen_ok]
    simp only [Program.fieldsOf, Try.underlying71]
    go_simp
    rw [show (9999 : Nat) = 9998 + 1 from rfl, MapKept.run_checkKey (k := Value.int .i64 a) u4 (show IntKind.i64 = IntKind.i64 from rfl)]
    simp only [Result.andThen_ok]
    rw [MapKept.run_checkKey (k := Value.int .i64 c) u3 (show IntKind.i64 = IntKind.i64 from rfl)]
    simp only [Result.andThen_ok]
/-- A monitor in block g, its rules' map in block rb, its counts' in block cb. -/
structure MV (w : World) (g rb cb : Nat) (mo : Bool) (R C : List ((Int × Int) × Int)) : Prop where
  hp : w.heap[g]? = some (.cells #[.bool mo, .map (some rb), .map (some cb)] 64 (0, 0))
  rl : MP w rb R
  ct : MP w cb C
  ne : g ≠ rb ∧ g ≠ cb ∧ rb ≠ cb
section
variable {w w' : World} {g rb cb : Nat} {mo : Bool} {R C C' R' : List ((Int × Int) × Int)} {q : Nat → Prop}
theorem MV.lt (h : MV w g rb cb mo R C) : g < w.heap.size := (Array.getElem?_eq_some_iff.1 h.hp).1
theorem MV.below (h : MV w g rb cb mo R C) (hb : Below w.heap.size w w') : MV w' g rb cb mo R C := ⟨(hb.block g h.lt).trans h.hp, h.rl.below hb, h.ct.below hb, h.ne⟩
theorem MV.fo (h : MV w g rb cb mo R C) (hf : Fo q w w') (h1 : ¬ q g) (h2 : ¬ q rb) (h3 : ¬ q cb) : MV w' g rb cb mo R C := ⟨(hf.block g h.lt h1).trans h.hp, h.rl.fo hf h2, h.ct.fo hf h3, h.ne⟩
theorem MV.count (h : MV w g rb cb mo R C) (hf : Fo (fun b => b = cb) w w') (hc : MP w' cb C') : MV w' g rb cb mo R C' := ⟨(hf.block g h.lt h.ne.2.1).trans h.hp, h.rl.fo hf h.ne.2.2, hc, h.ne⟩
theorem MV.rule (h : MV w g rb cb mo R C) (hf : Fo (fun b => b = rb) w w') (hc : MP w' rb R') : MV w' g rb cb mo R' C := ⟨(hf.block g h.lt h.ne.1).trans h.hp, hc, h.ct.fo hf (fun e => h.ne.2.2 e.symm), h.ne⟩
theorem MV.keep (h : MV w g rb cb mo R C) (hk : w'.heap = w.heap) : MV w' g rb cb mo R C := ⟨by rw [hk]; exact h.hp, h.rl.keep (by rw [hk]), h.ct.keep (by rw [hk]), h.ne⟩
end
def errP (e : Int) : Prop := 1 ≤ e ∧ e ≤ 27
instance (e : Int) : Decidable (errP e) := by unfold errP; exact inferInstance
theorem err_any (e : Int) (w : World) : Calls Try.prog 26 #[.int .i64 e] w fun r w' => r = .returned (.bool (decide (errP e))) ∧ w' = w := by
  by_cases h1 : 1 ≤ e
  · have g1 : decide (1 ≤ e) = true := by simpa using h1
    by_cases h2 : e ≤ 27
    · have g2 : decide (e ≤ 27) = true := by simpa using h2
      rw [decide_eq_true (show errP e from ⟨h1, h2⟩)]
      clear h1 h2
      go_enter Try.func26, Try.ntmps26
      go_wp2_with fail
      go_ret
      exact ⟨rfl, rfl⟩
    · have g2 : decide (e ≤ 27) = false := by simpa using h2
      rw [decide_eq_false (fun hh : errP e => h2 hh.2)]
      clear h1 h2
      go_enter Try.func26, Try.ntmps26
      go_wp2_with fail
      go_ret
      exact ⟨rfl, rfl⟩
  · have g1 : decide (1 ≤ e) = false := by simpa using h1
    rw [decide_eq_false (fun hh : errP e => h1 hh.1)]
    clear h1
    go_enter Try.func26, Try.ntmps26
    go_wp2_with fail
    go_ret
    exact ⟨rfl, rfl⟩
def lvB (mo : Bool) (l : Int) : Bool := if mo then l == 2 else (l == 0 || l == 1)
theorem lv_any (g rb cb : Nat) (mo : Bool) (R C : List ((Int × Int) × Int)) (l : Int) (w : World) (h : MV w g rb cb mo R C) : Calls Try.prog 31 #[.pointer (some ⟨g, 0, none⟩), .int .i64 l] w fun r w' => r = .returned (.bool (lvB mo l)) ∧ w' = w := by
  have hp := h.hp
  have d0 : w.cell? ⟨g, 0, none⟩ = some (.bool mo) := by rw [(row_cell hp 0).1]; rfl
  clear h hp
  cases mo
  · by_cases h0 : l = 0
    · subst h0
      go_enter Try.func31, Try.ntmps31
      go_wp2_with fail
      go_ret
      exact ⟨rfl, rfl⟩
    · have g0 : (l == 0) = false := by simpa using h0
      have e : lvB false l = (l == 1) := by unfold lvB; simp [h0]
      rw [e]
      clear h0
      go_enter Try.func31, Try.ntmps31
      go_wp2_with fail
      go_ret
      exact ⟨rfl, rfl⟩
  · rw [show lvB true l = (l == 2) from rfl]
    go_enter Try.func31, Try.ntmps31
    go_wp2_with fail
    go_ret
    exact ⟨rfl, rfl⟩
/-- May an action be done at a level? -/
def posB (l d : Int) : Bool := if d = 0 ∨ d = 1 then true else if d = 2 ∨ d = 3 then l == 0 else if d = 4 ∨ d = 5 ∨ d = 6 then l == 1 else false
theorem pos_any (l d : Int) (w : World) : Calls Try.prog 32 #[.int .i64 l, .int .i64 d] w fun r w' => r = .returned (.bool (posB l d)) ∧ w' = w := by
  by_cases h0 : d = 0
  · subst h0
    rw [show posB l 0 = true from rfl]
    go_enter Try.func32, Try.ntmps32
    go_wp2_with fail
    go_ret
    exact ⟨rfl, rfl⟩
  have g0 : (d == 0) = false := by simpa using h0
  by_cases h1 : d = 1
  · subst h1
    rw [show posB l 1 = true from rfl]
    go_enter Try.func32, Try.ntmps32
    go_wp2_with fail
    go_ret
    exact ⟨rfl, rfl⟩
  have g1 : (d == 1) = false := by simpa using h1
  by_cases h2 : d = 2
  · subst h2
    rw [show posB l 2 = (l == 0) from rfl]
    go_enter Try.func32, Try.ntmps32
    go_wp2_with fail
    go_ret
    exact ⟨rfl, rfl⟩
  have g2 : (d == 2) = false := by simpa using h2
  by_cases h3 : d = 3
  · subst h3
    rw [show posB l 3 = (l == 0) from rfl]
    go_enter Try.func32, Try.ntmps32
    go_wp2_with fail
    go_ret
    exact ⟨rfl, rfl⟩
  have g3 : (d == 3) = false := by simpa using h3
  by_cases h4 : d = 4
  · subst h4
    rw [show posB l 4 = (l == 1) from rfl]
    go_enter Try.func32, Try.ntmps32
    go_wp2_with fail
    go_ret
    exact ⟨rfl, rfl⟩
  have g4 : (d == 4) = false := by simpa using h4
  by_cases h5 : d = 5
  · subst h5
    rw [show posB l 5 = (l == 1) from rfl]
    go_enter Try.func32, Try.ntmps32
    go_wp2_with fail
    go_ret
    exact ⟨rfl, rfl⟩
  have g5 : (d == 5) = false := by simpa using h5
  by_cases h6 : d = 6
  · subst h6
    rw [show posB l 6 = (l == 1) from rfl]
    go_enter Try.func32, Try.ntmps32
    go_wp2_with fail
    go_ret
    exact ⟨rfl, rfl⟩
  have g6 : (d == 6) = false := by simpa using h6
  have e : posB l d = false := by unfold posB; rw [if_neg (by omega), if_neg (by omega), if_neg (by omega)]
  rw [e]
  clear h0 h1 h2 h3 h4 h5 h6 e
  go_enter Try.func32, Try.ntmps32
  go_wp2_with fail
  go_ret
  exact ⟨rfl, rfl⟩
/-- Of whom an error is counted. -/
def whoI (mo : Bool) (p : Int) : Int := if mo then -1 else if p < 0 then -1 else p
theorem who_any (g rb cb : Nat) (mo : Bool) (R C : List ((Int × Int) × Int)) (p : Int) (w : World) (h : MV w g rb cb mo R C) : Calls Try.prog 27 #[.pointer (some ⟨g, 0, none⟩), .int .i64 p] w fun r w' => r = .returned (.int .i64 (whoI mo p)) ∧ w' = w := by
  have hp := h.hp
  have d0 : w.cell? ⟨g, 0, none⟩ = some (.bool mo) := by rw [(row_cell hp 0).1]; rfl
  clear h hp
  cases mo
  · by_cases h0 : p < 0
    · have g0 : decide (p < 0) = true := by simpa using h0
      rw [show whoI false p = -1 by unfold whoI; simp [h0]]
      clear h0
      go_enter Try.func27, Try.ntmps27
      go_wp2_with fail
      go_ret
      exact ⟨rfl, rfl⟩
    · have g0 : decide (p < 0) = false := by simpa using h0
      rw [show whoI false p = p by unfold whoI; simp; omega]
      clear h0
      go_enter Try.func27, Try.ntmps27
      go_wp2_with fail
      go_ret
      exact ⟨rfl, rfl⟩
  · rw [show whoI true p = -1 from rfl]
    go_enter Try.func27, Try.ntmps27
    go_wp2_with fail
    go_ret
    exact ⟨rfl, rfl⟩
end Go.Proofs.Ythnlkfcfiieddaa.Hl
