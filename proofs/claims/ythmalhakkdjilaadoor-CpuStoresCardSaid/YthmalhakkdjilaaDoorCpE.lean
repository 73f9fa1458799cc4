/-
  Registers compared. Each statement bears its own conditions.
-/
import Derived.Test.YthmalhakkdjilaaDoorCpA
import Derived.Laws.StructEq
namespace Go.Proofs.YthmalhakkdjilaaDoor
open Go.RowKit
set_option linter.unusedVariables false
set_option linter.unusedSimpArgs false
section
variable {P : Program} {w : World}
theorem eq_array (d : Nat) (t elem : TypeId) (len n : Nat) (xs ys : Array Value) (ht : P.underlying t = some (.array len elem)) (hn : (sizeOf elem).run P w = .ok n w) (f : Nat → Bool)
    (hf : ∀ i, i < len → ∃ u v, (part elem xs (i * n)).run P w = .ok u w ∧ (part elem ys (i * n)).run P w = .ok v w ∧ (Op.equalIn d elem u v).run P w = .ok (f i) w) :
    (Op.equalIn (d + 1) t (.agg xs) (.agg ys)).run P w = .ok ((List.range len).all f) w := by
  simp only [Op.equalIn, Sem.run_bind, run_underlying ht, Result.andThen_ok, hn, Std.Legacy.Range.forIn_eq_forIn_range', Std.Legacy.Range.size, Nat.sub_zero, Nat.add_sub_cancel, Nat.div_one, List.range_eq_range']
  have key : ∀ (m s : Nat), s + m ≤ len → ∀ k : Bool, k = (List.range' s m).all f →
      ((forIn (List.range' s m) ((none, ()) : Option Bool × Unit) fun i r => do
        let __do_lift ← part elem xs (i * n)
        let __do_lift_1 ← part elem ys (i * n)
        let __do_lift ← Op.equalIn d elem __do_lift __do_lift_1
        if (!__do_lift) = true then pure (ForInStep.done (some false, ())) else pure (ForInStep.yield (none, ()))).run P w) = .ok (if k then (none, ()) else (some false, ())) w := by
    intro m
    induction m with
    | zero => intro s _ k hk; subst hk; simp
    | succ m ih =>
      intro s hs k hk
      obtain ⟨u, v, h1, h2, h3⟩ := hf s (by omega)
      rw [List.range'_succ, List.all_cons] at hk
      rw [List.range'_succ, List.forIn_cons]
      simp only [Sem.run_bind, h1, h2, h3, Result.andThen_ok]
      cases hfs : f s with
      | false =>
        rw [hfs] at hk
        subst hk
        simp
      | true =>
        rw [hfs] at hk
        simp only [Bool.not_true, Bool.false_eq_true, if_false, Sem.run_pure, Result.andThen_ok]
        exact ih (s + 1) (by omega) k (by simpa using hk)
  rw [key len 0 (by omega) _ rfl]
  cases (List.range' 0 len).all f <;> simp
end
theorem run_part_int {P : Program} {e : TypeId} {k : IntKind} (he : P.underlying e = some (.int k)) {xs : Array Value} {off : Nat} {v : Value} (w : World) (hx : xs[off]? = some v) : (part e xs off).run P w = .ok v w := by
  have ha : (isAgg e).run P w = .ok false w := by
    unfold isAgg
    rw [Sem.run_bind, run_underlying he w]
    rfl
  simp [part, ha, hx]
theorem run_part_agg {P : Program} {e : TypeId} {d : TypeDesc} (he : P.underlying e = some d) (hd : d.isRow = true) {n : Nat} (hn : (P.info? e).map (·.size) = some n) (xs : Array Value) (off : Nat) (w : World) : (part e xs off).run P w = .ok (.agg (xs.extract off (off + n))) w := by
  have ha : (isAgg e).run P w = .ok true w := by
    unfold isAgg
    rw [Sem.run_bind, run_underlying he w]
    cases d <;> simp_all
  cases hq : P.info? e with
  | none => simp [hq] at hn
  | some i =>
    have hs : i.size = n := by simpa [hq] using hn
    simp [part, ha, sizeOf, typeInfo, hq, hs]
theorem ext_at (a : List Int) (o m i : Nat) (hi : i < m) (hl : o + i < a.length) : ((cells a).toArray.extract o (o + m))[i]? = some (.int (kd (o + i)) (a.getD (o + i) 0)) := by
  rw [Array.getElem?_extract, if_pos (by simp [cells_len]; omega)]
  simpa only [List.getElem?_toArray] using cells_at a (o + i) hl
theorem three_of {α β : Type} {g : α → β} {fs : List α} {x y z : β} (h : fs.map g = [x, y, z]) : ∃ f0 f1 f2, fs = [f0, f1, f2] ∧ g f0 = x ∧ g f1 = y ∧ g f2 = z := by
  obtain ⟨f0, r0, rfl, h0, h⟩ := List.map_eq_cons_iff.1 h
  obtain ⟨f1, r1, rfl, h1, h⟩ := List.map_eq_cons_iff.1 h
  obtain ⟨f2, r2, rfl, h2, h⟩ := List.map_eq_cons_iff.1 h
  obtain rfl := List.map_eq_nil_iff.1 h
  exact ⟨f0, f1, f2, rfl, h0, h1, h2⟩
theorem seven_of {α β : Type} {g : α → β} {fs : List α} {x y z u v s t : β} (h : fs.map g = [x, y, z, u, v, s, t]) : ∃ f0 f1 f2 f3 f4 f5 f6, fs = [f0, f1, f2, f3, f4, f5, f6] ∧ g f0 = x ∧ g f1 = y ∧ g f2 = z ∧ g f3 = u ∧ g f4 = v ∧ g f5 = s ∧ g f6 = t := by
  obtain ⟨f0, r0, rfl, h0, h⟩ := List.map_eq_cons_iff.1 h
  obtain ⟨f1, r1, rfl, h1, h⟩ := List.map_eq_cons_iff.1 h
  obtain ⟨f2, r2, rfl, h2, h⟩ := List.map_eq_cons_iff.1 h
  obtain ⟨f3, r3, rfl, h3, h⟩ := List.map_eq_cons_iff.1 h
  obtain ⟨f4, f5, f6, rfl, h4, h5, h6⟩ := three_of h
  exact ⟨f0, f1, f2, f3, f4, f5, f6, rfl, h0, h1, h2, h3, h4, h5, h6⟩
theorem size_of {P : Program} {e : TypeId} {n : Nat} (hn : (P.info? e).map (·.size) = some n) (w : World) : (sizeOf e).run P w = .ok n w := by
  cases hq : P.info? e with
  | none => simp [hq] at hn
  | some i =>
    have hs : i.size = n := by simpa [hq] using hn
    simp [sizeOf, typeInfo, hq, hs]
theorem eqf_cons {P : Program} {w : World} {d : Nat} {xs ys : Array Value} {f : Field} {fs : List Field} {u v : Value} {x : Bool} (hn : f.name ≠ "_") (h1 : (part f.type xs f.offset).run P w = .ok u w) (h2 : (part f.type ys f.offset).run P w = .ok v w) (h3 : (Op.equalIn d f.type u v).run P w = .ok x w) :
    (Op.eqFields d xs ys (f :: fs)).run P w = if x = true then (Op.eqFields d xs ys fs).run P w else .ok false w := by
  simp only [Op.eqFields, hn, if_true, Sem.run_bind, h1, h2, h3, Result.andThen_ok, ne_eq, not_false_eq_true]
  cases x <;> simp
theorem eqf_nil {P : Program} {w : World} {d : Nat} {xs ys : Array Value} : (Op.eqFields d xs ys []).run P w = .ok true w := by simp [Op.eqFields]
/-- Are two loops the same? -/
def loopB (a b : List Int) (d : Nat) : Bool := a.getD (20 + d * 3) 0 == b.getD (20 + d * 3) 0 && (a.getD (20 + d * 3 + 1) 0 == b.getD (20 + d * 3 + 1) 0 && a.getD (20 + d * 3 + 2) 0 == b.getD (20 + d * 3 + 2) 0)
def sameR (a b : List Int) : Bool :=
  (List.range 16).all (fun i => a.getD i 0 == b.getD i 0) && (a.getD 16 0 == b.getD 16 0 && (a.getD 17 0 == b.getD 17 0 && (a.getD 18 0 == b.getD 18 0 && (a.getD 19 0 == b.getD 19 0 && ((List.range 8).all (loopB a b) && a.getD 44 0 == b.getD 44 0)))))
theorem sameR_iff {a b : List Int} (ha : a.length = 45) (hb : b.length = 45) : sameR a b = decide (a = b) := by
  rw [Bool.eq_iff_iff, decide_eq_true_iff]
  constructor
  · intro h
    unfold sameR loopB at h
    simp only [Bool.and_eq_true, List.all_eq_true, List.mem_range, beq_iff_eq] at h
    obtain ⟨h0, h1, h2, h3, h4, h5, h6⟩ := h
    have key : ∀ j, j < 45 → a.getD j 0 = b.getD j 0 := by
      intro j hj
      by_cases c : j < 16
      · exact h0 j c
      by_cases c1 : j = 16
      · subst c1; exact h1
      by_cases c2 : j = 17
      · subst c2; exact h2
      by_cases c3 : j = 18
      · subst c3; exact h3
      by_cases c4 : j = 19
      · subst c4; exact h4
      by_cases c5 : j = 44
      · subst c5; exact h6
      have h7 := h5 ((j - 20) / 3) (by omega)
      have hm : (j - 20) % 3 = 0 ∨ (j - 20) % 3 = 1 ∨ (j - 20) % 3 = 2 := by omega
      rcases hm with e | e | e
      · have : 20 + (j - 20) / 3 * 3 = j := by omega
        rw [this] at h7; exact h7.1
      · have : 20 + (j - 20) / 3 * 3 + 1 = j := by omega
        rw [this] at h7; exact h7.2.1
      · have : 20 + (j - 20) / 3 * 3 + 2 = j := by omega
        rw [this] at h7; exact h7.2.2
    refine List.ext_getElem (by omega) fun i h1 h2 => ?_
    have := key i (by omega)
    rw [List.getD_eq_getElem?_getD, List.getD_eq_getElem?_getD, List.getElem?_eq_getElem h1, List.getElem?_eq_getElem h2] at this
    exact this
  · rintro rfl
    unfold sameR loopB
    simp
section
variable (a b : List Int) (w : World) (ha : a.length = 45) (hb : b.length = 45)
include ha hb
theorem eq_regs16 (d : Nat) : (Op.equalIn (d + 2) 23 (.agg ((cells a).toArray.extract 0 16)) (.agg ((cells b).toArray.extract 0 16))).run Tryd.prog w = .ok ((List.range 16).all fun i => a.getD i 0 == b.getD i 0) w := by
  refine eq_array (d + 1) _ 22 16 1 _ _ Tryd.underlying23 (size_of (by kernel_rfl) w) _ (fun i hi => ?_)
  have h1 := ext_at a 0 16 i hi (by omega)
  have h2 := ext_at b 0 16 i hi (by omega)
  simp only [Nat.zero_add] at h1 h2
  refine ⟨_, _, run_part_int Tryd.underlying22 w (by rw [Nat.mul_one]; exact h1), run_part_int Tryd.underlying22 w (by rw [Nat.mul_one]; exact h2), ?_⟩
  exact run_equalIn_int w d _ _ _ _ _ Tryd.underlying22
theorem eq_loop1 (d i : Nat) (hi : i < 8) : (Op.equalIn (d + 2) 25 (.agg (((cells a).toArray.extract 20 44).extract (i * 3) (i * 3 + 3))) (.agg (((cells b).toArray.extract 20 44).extract (i * 3) (i * 3 + 3)))).run Tryd.prog w = .ok (loopB a b i) w := by
  have hx : ∀ (c : List Int), c.length = 45 → ∀ j, j < 3 → (((cells c).toArray.extract 20 44).extract (i * 3) (i * 3 + 3))[j]? = some (.int (kd (20 + i * 3 + j)) (c.getD (20 + i * 3 + j) 0)) := by
    intro c hc j hj
    rw [Array.getElem?_extract, if_pos (by simp [cells_len]; omega)]
    have := ext_at c 20 24 (i * 3 + j) (by omega) (by omega)
    rw [← Nat.add_assoc] at this
    exact this
  have k0 := kd_from hi
  have k1 := kd_end hi
  have k2 := kd_left hi
  rw [Nat.mul_comm 3 i] at k0 k1 k2
  have a0 := hx a ha 0 (by omega)
  have a1 := hx a ha 1 (by omega)
  have a2 := hx a ha 2 (by omega)
  have b0 := hx b hb 0 (by omega)
  have b1 := hx b hb 1 (by omega)
  have b2 := hx b hb 2 (by omega)
  simp only [Nat.add_zero, k0, k1, k2] at a0 a1 a2 b0 b1 b2
  rw [run_equalIn_struct w (d + 1) 25 _ _ (by kernel_rfl) (by kernel_rfl)]
  have hf : (Tryd.prog.fieldsOf 25).toList.map (fun f => (f.name, f.type, f.offset)) = [("From", 22, 0), ("End", 22, 1), ("Left", 3, 2)] := by kernel_rfl
  generalize (Tryd.prog.fieldsOf 25).toList = fs at hf
  obtain ⟨f0, f1, f2, rfl, q0, q1, q2⟩ := three_of hf
  simp only [Prod.mk.injEq] at q0 q1 q2
  obtain ⟨n0, t0, o0⟩ := q0
  obtain ⟨n1, t1, o1⟩ := q1
  obtain ⟨n2, t2, o2⟩ := q2
  have st : ∀ (x : Bool) (k : Sem Bool), (if (!x) = true then (pure false : Sem Bool) else k).run Tryd.prog w = if x = true then k.run Tryd.prog w else .ok false w := by
    intro x k; cases x <;> simp
  have E : ∀ (x y : Int), (Op.equalIn (d + 1) 22 (.int .u32 x) (.int .u32 y)).run Tryd.prog w = .ok (x == y) w := fun x y => run_equalIn_int w d _ _ _ _ _ Tryd.underlying22
  have E' : ∀ (x y : Int), (Op.equalIn (d + 1) 3 (.int .i64 x) (.int .i64 y)).run Tryd.prog w = .ok (x == y) w := fun x y => run_equalIn_int w d _ _ _ _ _ Tryd.underlying3
  unfold loopB
  simp only [Op.eqFields, n0, n1, n2, t0, t1, t2, o0, o1, o2, ne_eq, String.reduceEq, not_false_eq_true, if_true, Sem.run_bind, run_part_int Tryd.underlying22 w a0, run_part_int Tryd.underlying22 w a1, run_part_int Tryd.underlying3 w a2, run_part_int Tryd.underlying22 w b0, run_part_int Tryd.underlying22 w b1, run_part_int Tryd.underlying3 w b2, Result.andThen_ok, E, E', st, Sem.run_pure]
  generalize (a.getD (20 + i * 3) 0 == b.getD (20 + i * 3) 0) = x0
  generalize (a.getD (20 + i * 3 + 1) 0 == b.getD (20 + i * 3 + 1) 0) = x1
  generalize (a.getD (20 + i * 3 + 2) 0 == b.getD (20 + i * 3 + 2) 0) = x2
  cases x0 <;> cases x1 <;> cases x2 <;> rfl
theorem eq_loops (d : Nat) : (Op.equalIn (d + 3) 26 (.agg ((cells a).toArray.extract 20 44)) (.agg ((cells b).toArray.extract 20 44))).run Tryd.prog w = .ok ((List.range 8).all (loopB a b)) w := by
  refine eq_array (d + 2) _ 25 8 3 _ _ Tryd.underlying26 (size_of loop_info w) _ (fun i hi => ?_)
  exact ⟨_, _, run_part_agg Tryd.underlying25 rfl loop_info _ _ w, run_part_agg Tryd.underlying25 rfl loop_info _ _ w, eq_loop1 a b w ha hb d i hi⟩
theorem eq_regs (d : Nat) : (Op.equalIn (d + 4) 28 (.agg (cells a).toArray) (.agg (cells b).toArray)).run Tryd.prog w = .ok (sameR a b) w := by
  have hx : ∀ (c : List Int), c.length = 45 → ∀ j, j < 45 → (cells c).toArray[j]? = some (.int (kd j) (c.getD j 0)) := by
    intro c hc j hj
    simpa using cells_at c j (by omega)
  have R1 := eq_regs16 a b w ha hb (d + 1)
  have R5 := eq_loops a b w ha hb d
  have P1 : ∀ c : List Int, (part 23 (cells c).toArray 0).run Tryd.prog w = .ok (.agg ((cells c).toArray.extract 0 16)) w := fun c => run_part_agg (n := 16) Tryd.underlying23 rfl (by kernel_rfl) _ 0 w
  have P5 : ∀ c : List Int, (part 26 (cells c).toArray 20).run Tryd.prog w = .ok (.agg ((cells c).toArray.extract 20 44)) w := fun c => run_part_agg (n := 24) Tryd.underlying26 rfl (by kernel_rfl) _ 20 w
  have PU : ∀ c : List Int, c.length = 45 → ∀ j, j < 20 → (part 22 (cells c).toArray j).run Tryd.prog w = .ok (.int .u32 (c.getD j 0)) w := fun c hc j hj => run_part_int Tryd.underlying22 w (by rw [hx c hc j (by omega), kd_reg hj])
  have PI : ∀ c : List Int, c.length = 45 → (part 3 (cells c).toArray 44).run Tryd.prog w = .ok (.int .i64 (c.getD 44 0)) w := fun c hc => run_part_int Tryd.underlying3 w (by rw [hx c hc 44 (by omega), kd_dep])
  rw [run_equalIn_struct w (d + 3) 28 _ _ (by kernel_rfl) (by kernel_rfl)]
  have hf : (Tryd.prog.fieldsOf 28).toList.map (fun f => (f.name, f.type, f.offset)) = [("R", 23, 0), ("Pc", 22, 16), ("Sp", 22, 17), ("Floor", 22, 18), ("Top", 22, 19), ("Loops", 26, 20), ("Depth", 3, 44)] := by kernel_rfl
  generalize (Tryd.prog.fieldsOf 28).toList = fs at hf
  obtain ⟨f0, f1, f2, f3, f4, f5, f6, rfl, q0, q1, q2, q3, q4, q5, q6⟩ := seven_of hf
  simp only [Prod.mk.injEq] at q0 q1 q2 q3 q4 q5 q6
  obtain ⟨n0, t0, o0⟩ := q0
  obtain ⟨n1, t1, o1⟩ := q1
  obtain ⟨n2, t2, o2⟩ := q2
  obtain ⟨n3, t3, o3⟩ := q3
  obtain ⟨n4, t4, o4⟩ := q4
  obtain ⟨n5, t5, o5⟩ := q5
  obtain ⟨n6, t6, o6⟩ := q6
  have E : ∀ (x y : Int) (k k' : IntKind), (Op.equalIn (d + 3) 22 (.int k x) (.int k y)).run Tryd.prog w = .ok (x == y) w := fun x y k k' => run_equalIn_int w (d + 2) _ _ _ _ _ Tryd.underlying22
  have E' : ∀ (x y : Int), (Op.equalIn (d + 3) 3 (.int .i64 x) (.int .i64 y)).run Tryd.prog w = .ok (x == y) w := fun x y => run_equalIn_int w (d + 2) _ _ _ _ _ Tryd.underlying3
  unfold sameR
  rw [eqf_cons (by rw [n0]; decide) (by rw [t0, o0]; exact P1 a) (by rw [t0, o0]; exact P1 b) (by rw [t0]; exact R1),
    eqf_cons (by rw [n1]; decide) (by rw [t1, o1]; exact PU a ha 16 (by omega)) (by rw [t1, o1]; exact PU b hb 16 (by omega)) (by rw [t1]; exact E _ _ .u32 .u32),
    eqf_cons (by rw [n2]; decide) (by rw [t2, o2]; exact PU a ha 17 (by omega)) (by rw [t2, o2]; exact PU b hb 17 (by omega)) (by rw [t2]; exact E _ _ .u32 .u32),
    eqf_cons (by rw [n3]; decide) (by rw [t3, o3]; exact PU a ha 18 (by omega)) (by rw [t3, o3]; exact PU b hb 18 (by omega)) (by rw [t3]; exact E _ _ .u32 .u32),
    eqf_cons (by rw [n4]; decide) (by rw [t4, o4]; exact PU a ha 19 (by omega)) (by rw [t4, o4]; exact PU b hb 19 (by omega)) (by rw [t4]; exact E _ _ .u32 .u32),
    eqf_cons (by rw [n5]; decide) (by rw [t5, o5]; exact P5 a) (by rw [t5, o5]; exact P5 b) (by rw [t5]; exact R5),
    eqf_cons (by rw [n6]; decide) (by rw [t6, o6]; exact PI a ha) (by rw [t6, o6]; exact PI b hb) (by rw [t6]; exact E' _ _), eqf_nil]
  generalize ((List.range 16).all fun i => a.getD i 0 == b.getD i 0) = x0
  generalize (a.getD 16 0 == b.getD 16 0) = x1
  generalize (a.getD 17 0 == b.getD 17 0) = x2
  generalize (a.getD 18 0 == b.getD 18 0) = x3
  generalize (a.getD 19 0 == b.getD 19 0) = x4
  generalize (List.range 8).all (loopB a b) = x5
  generalize (a.getD 44 0 == b.getD 44 0) = x6
  cases x0 <;> cases x1 <;> cases x2 <;> cases x3 <;> cases x4 <;> cases x5 <;> cases x6 <;> rfl
theorem run_neq_regs : (binOp .neq 28 (.agg (cells a).toArray) (.agg (cells b).toArray)).run Tryd.prog w = .ok (.bool (!decide (a = b))) w := by
  rw [run_neq_struct, eq_regs a b w ha hb 9996, sameR_iff ha hb]; rfl
theorem run_eql_regs : (binOp .eql 28 (.agg (cells a).toArray) (.agg (cells b).toArray)).run Tryd.prog w = .ok (.bool (decide (a = b))) w := by
  rw [run_eql_struct, eq_regs a b w ha hb 9996, sameR_iff ha hb]; rfl
end
end Go.Proofs.YthmalhakkdjilaaDoor
