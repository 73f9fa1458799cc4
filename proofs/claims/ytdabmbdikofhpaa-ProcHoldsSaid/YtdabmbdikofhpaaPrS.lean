/-
  Processes compared; Same and Clone of tables. Each statement bears its own conditions.
-/
import Derived.Test.YtdabmbdikofhpaaPrD
import Derived.Laws.StructEq
import Derived.BigQuiet
namespace Go.Proofs.Ytdabmbdikofhpaa.P
open Go.RowKit
set_option linter.unusedVariables false
set_option linter.unusedSimpArgs false
theorem pr_part_int {P : Program} {e : TypeId} {k : IntKind} (he : P.underlying e = some (.int k)) {xs : Array Value} {off : Nat} {v : Value} (w : World) (hx : xs[off]? = some v) : (part e xs off).run P w = .ok v w := by
  have ha : (isAgg e).run P w = .ok false w := by
    unfold isAgg
    rw [Sem.run_bind, run_underlying he w]
    rfl
  simp [part, ha, hx]
theorem pr_part_bool {P : Program} {e : TypeId} (he : P.underlying e = some .bool) {xs : Array Value} {off : Nat} {v : Value} (w : World) (hx : xs[off]? = some v) : (part e xs off).run P w = .ok v w := by
  have ha : (isAgg e).run P w = .ok false w := by
    unfold isAgg
    rw [Sem.run_bind, run_underlying he w]
    rfl
  simp [part, ha, hx]
theorem pr_part_agg {P : Program} {e : TypeId} {d : TypeDesc} (he : P.underlying e = some d) (hd : d.isRow = true) {n : Nat} (hn : (P.info? e).map (·.size) = some n) (xs : Array Value) (off : Nat) (w : World) : (part e xs off).run P w = .ok (.agg (xs.extract off (off + n))) w := by
  have ha : (isAgg e).run P w = .ok true w := by
    unfold isAgg
    rw [Sem.run_bind, run_underlying he w]
    cases d <;> simp_all
  cases hq : P.info? e with
  | none => simp [hq] at hn
  | some i =>
    have hs : i.size = n := by simpa [hq] using hn
    simp [part, ha, sizeOf, typeInfo, hq, hs]
theorem pr_eqf_cons {P : Program} {w : World} {d : Nat} {xs ys : Array Value} {f : Field} {fs : List Field} {u v : Value} {x : Bool} (hn : f.name ≠ "_") (h1 : (part f.type xs f.offset).run P w = .ok u w) (h2 : (part f.type ys f.offset).run P w = .ok v w) (h3 : (Op.equalIn d f.type u v).run P w = .ok x w) :
    (Op.eqFields d xs ys (f :: fs)).run P w = if x = true then (Op.eqFields d xs ys fs).run P w else .ok false w := by
  simp only [Op.eqFields, hn, if_true, Sem.run_bind, h1, h2, h3, Result.andThen_ok, ne_eq, not_false_eq_true]
  cases x <;> simp
theorem pr_eqf_nil {P : Program} {w : World} {d : Nat} {xs ys : Array Value} : (Op.eqFields d xs ys []).run P w = .ok true w := by simp [Op.eqFields]
theorem pr_of3 {α β : Type} {g : α → β} {fs : List α} {x0 x1 x2 : β} (h : fs.map g = [x0, x1, x2]) : ∃ f0 f1 f2, fs = [f0, f1, f2] ∧ g f0 = x0 ∧ g f1 = x1 ∧ g f2 = x2 := by
  obtain ⟨f0, r0, rfl, h0, h⟩ := List.map_eq_cons_iff.1 h
  obtain ⟨f1, r1, rfl, h1, h⟩ := List.map_eq_cons_iff.1 h
  obtain ⟨f2, r2, rfl, h2, h⟩ := List.map_eq_cons_iff.1 h
  obtain rfl := List.map_eq_nil_iff.1 h
  exact ⟨f0, f1, f2, rfl, h0, h1, h2⟩
theorem pr_of5 {α β : Type} {g : α → β} {fs : List α} {x0 x1 x2 x3 x4 : β} (h : fs.map g = [x0, x1, x2, x3, x4]) : ∃ f0 f1 f2 f3 f4, fs = [f0, f1, f2, f3, f4] ∧ g f0 = x0 ∧ g f1 = x1 ∧ g f2 = x2 ∧ g f3 = x3 ∧ g f4 = x4 := by
  obtain ⟨f0, r0, rfl, h0, h⟩ := List.map_eq_cons_iff.1 h
  obtain ⟨f1, r1, rfl, h1, h⟩ := List.map_eq_cons_iff.1 h
  obtain ⟨f2, r2, rfl, h2, h⟩ := List.map_eq_cons_iff.1 h
  obtain ⟨f3, r3, rfl, h3, h⟩ := List.map_eq_cons_iff.1 h
  obtain ⟨f4, r4, rfl, h4, h⟩ := List.map_eq_cons_iff.1 h
  obtain rfl := List.map_eq_nil_iff.1 h
  exact ⟨f0, f1, f2, f3, f4, rfl, h0, h1, h2, h3, h4⟩
theorem eq_Attr (d : Nat) (w : World) (x0 : Int) (x1 : Int) (x2 : Int) (x3 : Int) (x4 : Int) (y0 : Int) (y1 : Int) (y2 : Int) (y3 : Int) (y4 : Int) : (Op.equalIn (d + 2) 48 (.agg #[.int .i64 x0, .int .i64 x1, .int .i64 x2, .int .i64 x3, .int .i64 x4]) (.agg #[.int .i64 y0, .int .i64 y1, .int .i64 y2, .int .i64 y3, .int .i64 y4])).run Try.prog w = .ok ((x0 == y0) && ((x1 == y1) && ((x2 == y2) && ((x3 == y3) && (x4 == y4))))) w := by
  rw [run_equalIn_struct w (d + 1) 48 _ _ (by kernel_rfl) (by kernel_rfl)]
  have hf : (Try.prog.fieldsOf 48).toList.map (fun f => (f.name, f.type, f.offset)) = [("Priority", 3, 0), ("Period", 3, 1), ("Capacity", 3, 2), ("Deadline", 3, 3), ("Offset", 3, 4)] := by kernel_rfl
  generalize (Try.prog.fieldsOf 48).toList = fs at hf
  obtain ⟨f0, f1, f2, f3, f4, rfl, q0, q1, q2, q3, q4⟩ := pr_of5 hf
  simp only [Prod.mk.injEq] at q0 q1 q2 q3 q4
  obtain ⟨n0, t0, o0⟩ := q0
  obtain ⟨n1, t1, o1⟩ := q1
  obtain ⟨n2, t2, o2⟩ := q2
  obtain ⟨n3, t3, o3⟩ := q3
  obtain ⟨n4, t4, o4⟩ := q4
  rw [pr_eqf_cons (by rw [n0]; decide) (by rw [t0, o0]; exact pr_part_int Try.underlying3 w rfl) (by rw [t0, o0]; exact pr_part_int Try.underlying3 w rfl) (by rw [t0]; exact run_equalIn_int w d _ _ _ _ _ Try.underlying3),
    pr_eqf_cons (by rw [n1]; decide) (by rw [t1, o1]; exact pr_part_int Try.underlying3 w rfl) (by rw [t1, o1]; exact pr_part_int Try.underlying3 w rfl) (by rw [t1]; exact run_equalIn_int w d _ _ _ _ _ Try.underlying3),
    pr_eqf_cons (by rw [n2]; decide) (by rw [t2, o2]; exact pr_part_int Try.underlying3 w rfl) (by rw [t2, o2]; exact pr_part_int Try.underlying3 w rfl) (by rw [t2]; exact run_equalIn_int w d _ _ _ _ _ Try.underlying3),
    pr_eqf_cons (by rw [n3]; decide) (by rw [t3, o3]; exact pr_part_int Try.underlying3 w rfl) (by rw [t3, o3]; exact pr_part_int Try.underlying3 w rfl) (by rw [t3]; exact run_equalIn_int w d _ _ _ _ _ Try.underlying3),
    pr_eqf_cons (by rw [n4]; decide) (by rw [t4, o4]; exact pr_part_int Try.underlying3 w rfl) (by rw [t4, o4]; exact pr_part_int Try.underlying3 w rfl) (by rw [t4]; exact run_equalIn_int w d _ _ _ _ _ Try.underlying3), pr_eqf_nil]
  generalize (x0 == y0) = b0
  generalize (x1 == y1) = b1
  generalize (x2 == y2) = b2
  generalize (x3 == y3) = b3
  generalize (x4 == y4) = b4
  cases b0 <;> cases b1 <;> cases b2 <;> cases b3 <;> cases b4 <;> rfl
theorem eq_started (d : Nat) (w : World) (x0 : Int) (x1 : Bool) (x2 : Int) (x3 : Int) (x4 : Int) (y0 : Int) (y1 : Bool) (y2 : Int) (y3 : Int) (y4 : Int) : (Op.equalIn (d + 2) 69 (.agg #[.int .i64 x0, .bool x1, .int .i64 x2, .int .i64 x3, .int .i64 x4]) (.agg #[.int .i64 y0, .bool y1, .int .i64 y2, .int .i64 y3, .int .i64 y4])).run Try.prog w = .ok ((x0 == y0) && ((x1 == y1) && ((x2 == y2) && ((x3 == y3) && (x4 == y4))))) w := by
  rw [run_equalIn_struct w (d + 1) 69 _ _ (by kernel_rfl) (by kernel_rfl)]
  have hf : (Try.prog.fieldsOf 69).toList.map (fun f => (f.name, f.type, f.offset)) = [("state", 3, 0), ("held", 4, 1), ("base", 3, 2), ("raised", 3, 3), ("until", 3, 4)] := by kernel_rfl
  generalize (Try.prog.fieldsOf 69).toList = fs at hf
  obtain ⟨f0, f1, f2, f3, f4, rfl, q0, q1, q2, q3, q4⟩ := pr_of5 hf
  simp only [Prod.mk.injEq] at q0 q1 q2 q3 q4
  obtain ⟨n0, t0, o0⟩ := q0
  obtain ⟨n1, t1, o1⟩ := q1
  obtain ⟨n2, t2, o2⟩ := q2
  obtain ⟨n3, t3, o3⟩ := q3
  obtain ⟨n4, t4, o4⟩ := q4
  rw [pr_eqf_cons (by rw [n0]; decide) (by rw [t0, o0]; exact pr_part_int Try.underlying3 w rfl) (by rw [t0, o0]; exact pr_part_int Try.underlying3 w rfl) (by rw [t0]; exact run_equalIn_int w d _ _ _ _ _ Try.underlying3),
    pr_eqf_cons (by rw [n1]; decide) (by rw [t1, o1]; exact pr_part_bool Try.underlying4 w rfl) (by rw [t1, o1]; exact pr_part_bool Try.underlying4 w rfl) (by rw [t1]; exact run_equalIn_bool' w d _ _ _ Try.underlying4),
    pr_eqf_cons (by rw [n2]; decide) (by rw [t2, o2]; exact pr_part_int Try.underlying3 w rfl) (by rw [t2, o2]; exact pr_part_int Try.underlying3 w rfl) (by rw [t2]; exact run_equalIn_int w d _ _ _ _ _ Try.underlying3),
    pr_eqf_cons (by rw [n3]; decide) (by rw [t3, o3]; exact pr_part_int Try.underlying3 w rfl) (by rw [t3, o3]; exact pr_part_int Try.underlying3 w rfl) (by rw [t3]; exact run_equalIn_int w d _ _ _ _ _ Try.underlying3),
    pr_eqf_cons (by rw [n4]; decide) (by rw [t4, o4]; exact pr_part_int Try.underlying3 w rfl) (by rw [t4, o4]; exact pr_part_int Try.underlying3 w rfl) (by rw [t4]; exact run_equalIn_int w d _ _ _ _ _ Try.underlying3), pr_eqf_nil]
  generalize (x0 == y0) = b0
  generalize (x1 == y1) = b1
  generalize (x2 == y2) = b2
  generalize (x3 == y3) = b3
  generalize (x4 == y4) = b4
  cases b0 <;> cases b1 <;> cases b2 <;> cases b3 <;> cases b4 <;> rfl
theorem eq_release (d : Nat) (w : World) (x0 : Int) (x1 : Int) (x2 : Bool) (y0 : Int) (y1 : Int) (y2 : Bool) : (Op.equalIn (d + 2) 71 (.agg #[.int .i64 x0, .int .i64 x1, .bool x2]) (.agg #[.int .i64 y0, .int .i64 y1, .bool y2])).run Try.prog w = .ok ((x0 == y0) && ((x1 == y1) && (x2 == y2))) w := by
  rw [run_equalIn_struct w (d + 1) 71 _ _ (by kernel_rfl) (by kernel_rfl)]
  have hf : (Try.prog.fieldsOf 71).toList.map (fun f => (f.name, f.type, f.offset)) = [("from", 3, 0), ("used", 3, 1), ("missed", 4, 2)] := by kernel_rfl
  generalize (Try.prog.fieldsOf 71).toList = fs at hf
  obtain ⟨f0, f1, f2, rfl, q0, q1, q2⟩ := pr_of3 hf
  simp only [Prod.mk.injEq] at q0 q1 q2
  obtain ⟨n0, t0, o0⟩ := q0
  obtain ⟨n1, t1, o1⟩ := q1
  obtain ⟨n2, t2, o2⟩ := q2
  rw [pr_eqf_cons (by rw [n0]; decide) (by rw [t0, o0]; exact pr_part_int Try.underlying3 w rfl) (by rw [t0, o0]; exact pr_part_int Try.underlying3 w rfl) (by rw [t0]; exact run_equalIn_int w d _ _ _ _ _ Try.underlying3),
    pr_eqf_cons (by rw [n1]; decide) (by rw [t1, o1]; exact pr_part_int Try.underlying3 w rfl) (by rw [t1, o1]; exact pr_part_int Try.underlying3 w rfl) (by rw [t1]; exact run_equalIn_int w d _ _ _ _ _ Try.underlying3),
    pr_eqf_cons (by rw [n2]; decide) (by rw [t2, o2]; exact pr_part_bool Try.underlying4 w rfl) (by rw [t2, o2]; exact pr_part_bool Try.underlying4 w rfl) (by rw [t2]; exact run_equalIn_bool' w d _ _ _ Try.underlying4), pr_eqf_nil]
  generalize (x0 == y0) = b0
  generalize (x1 == y1) = b1
  generalize (x2 == y2) = b2
  cases b0 <;> cases b1 <;> cases b2 <;> rfl
/-- Are two processes the same? -/
def eqP (x y : MP) : Bool := (((x.pri == y.pri) && ((x.per == y.per) && ((x.cap == y.cap) && ((x.dea == y.dea) && (x.off == y.off))))) && (((x.sta == y.sta) && ((x.hel == y.hel) && ((x.bas == y.bas) && ((x.rai == y.rai) && (x.unt == y.unt))))) && ((x.frm == y.frm) && ((x.usd == y.usd) && (x.mis == y.mis)))))
theorem eqP_iff {x y : MP} : eqP x y = true ↔ x = y := by
  unfold eqP
  obtain ⟨x0, x1, x2, x3, x4, x5, x6, x7, x8, x9, x10, x11, x12⟩ := x
  obtain ⟨y0, y1, y2, y3, y4, y5, y6, y7, y8, y9, y10, y11, y12⟩ := y
  simp only [MP.mk.injEq, Bool.and_eq_true, beq_iff_eq, and_assoc]
theorem neq_proc (w : World) (x0 : Int) (x1 : Int) (x2 : Int) (x3 : Int) (x4 : Int) (x5 : Int) (x6 : Bool) (x7 : Int) (x8 : Int) (x9 : Int) (x10 : Int) (x11 : Int) (x12 : Bool) (y0 : Int) (y1 : Int) (y2 : Int) (y3 : Int) (y4 : Int) (y5 : Int) (y6 : Bool) (y7 : Int) (y8 : Int) (y9 : Int) (y10 : Int) (y11 : Int) (y12 : Bool) : (binOp .neq 73 (.agg #[.int .i64 x0, .int .i64 x1, .int .i64 x2, .int .i64 x3, .int .i64 x4, .int .i64 x5, .bool x6, .int .i64 x7, .int .i64 x8, .int .i64 x9, .int .i64 x10, .int .i64 x11, .bool x12]) (.agg #[.int .i64 y0, .int .i64 y1, .int .i64 y2, .int .i64 y3, .int .i64 y4, .int .i64 y5, .bool y6, .int .i64 y7, .int .i64 y8, .int .i64 y9, .int .i64 y10, .int .i64 y11, .bool y12])).run Try.prog w = .ok (.bool (!eqP ⟨x0, x1, x2, x3, x4, x5, x6, x7, x8, x9, x10, x11, x12⟩ ⟨y0, y1, y2, y3, y4, y5, y6, y7, y8, y9, y10, y11, y12⟩)) w := by
  rw [run_neq_struct, run_equalIn_struct w 9999 73 _ _ (by kernel_rfl) (by kernel_rfl)]
  have hf : (Try.prog.fieldsOf 73).toList.map (fun f => (f.name, f.type, f.offset)) = [("Attr", 48, 0), ("started", 69, 5), ("release", 71, 10)] := by kernel_rfl
  generalize (Try.prog.fieldsOf 73).toList = fs at hf
  obtain ⟨f0, f1, f2, rfl, q0, q1, q2⟩ := pr_of3 hf
  simp only [Prod.mk.injEq] at q0 q1 q2
  obtain ⟨n0, t0, o0⟩ := q0
  obtain ⟨n1, t1, o1⟩ := q1
  obtain ⟨n2, t2, o2⟩ := q2
  have A1 := pr_part_agg (n := 5) Try.underlying48 rfl (by kernel_rfl) #[.int .i64 x0, .int .i64 x1, .int .i64 x2, .int .i64 x3, .int .i64 x4, .int .i64 x5, .bool x6, .int .i64 x7, .int .i64 x8, .int .i64 x9, .int .i64 x10, .int .i64 x11, .bool x12] 0 w
  have A2 := pr_part_agg (n := 5) Try.underlying48 rfl (by kernel_rfl) #[.int .i64 y0, .int .i64 y1, .int .i64 y2, .int .i64 y3, .int .i64 y4, .int .i64 y5, .bool y6, .int .i64 y7, .int .i64 y8, .int .i64 y9, .int .i64 y10, .int .i64 y11, .bool y12] 0 w
  have B1 := pr_part_agg (n := 5) Try.underlying69 rfl (by kernel_rfl) #[.int .i64 x0, .int .i64 x1, .int .i64 x2, .int .i64 x3, .int .i64 x4, .int .i64 x5, .bool x6, .int .i64 x7, .int .i64 x8, .int .i64 x9, .int .i64 x10, .int .i64 x11, .bool x12] 5 w
  have B2 := pr_part_agg (n := 5) Try.underlying69 rfl (by kernel_rfl) #[.int .i64 y0, .int .i64 y1, .int .i64 y2, .int .i64 y3, .int .i64 y4, .int .i64 y5, .bool y6, .int .i64 y7, .int .i64 y8, .int .i64 y9, .int .i64 y10, .int .i64 y11, .bool y12] 5 w
  have C1 := pr_part_agg (n := 3) Try.underlying71 rfl (by kernel_rfl) #[.int .i64 x0, .int .i64 x1, .int .i64 x2, .int .i64 x3, .int .i64 x4, .int .i64 x5, .bool x6, .int .i64 x7, .int .i64 x8, .int .i64 x9, .int .i64 x10, .int .i64 x11, .bool x12] 10 w
  have C2 := pr_part_agg (n := 3) Try.underlying71 rfl (by kernel_rfl) #[.int .i64 y0, .int .i64 y1, .int .i64 y2, .int .i64 y3, .int .i64 y4, .int .i64 y5, .bool y6, .int .i64 y7, .int .i64 y8, .int .i64 y9, .int .i64 y10, .int .i64 y11, .bool y12] 10 w
  rw [pr_eqf_cons (by rw [n0]; decide) (by rw [t0, o0]; exact A1) (by rw [t0, o0]; exact A2) (by rw [t0]; exact eq_Attr 9997 w x0 x1 x2 x3 x4 y0 y1 y2 y3 y4),
    pr_eqf_cons (by rw [n1]; decide) (by rw [t1, o1]; exact B1) (by rw [t1, o1]; exact B2) (by rw [t1]; exact eq_started 9997 w x5 x6 x7 x8 x9 y5 y6 y7 y8 y9),
    pr_eqf_cons (by rw [n2]; decide) (by rw [t2, o2]; exact C1) (by rw [t2, o2]; exact C2) (by rw [t2]; exact eq_release 9997 w x10 x11 x12 y10 y11 y12), pr_eqf_nil]
  have hq : eqP ⟨x0, x1, x2, x3, x4, x5, x6, x7, x8, x9, x10, x11, x12⟩ ⟨y0, y1, y2, y3, y4, y5, y6, y7, y8, y9, y10, y11, y12⟩ = (((x0 == y0) && ((x1 == y1) && ((x2 == y2) && ((x3 == y3) && (x4 == y4))))) && (((x5 == y5) && ((x6 == y6) && ((x7 == y7) && ((x8 == y8) && (x9 == y9))))) && ((x10 == y10) && ((x11 == y11) && (x12 == y12))))) := rfl
  rw [hq]
  generalize ((x0 == y0) && ((x1 == y1) && ((x2 == y2) && ((x3 == y3) && (x4 == y4))))) = b0
  generalize ((x5 == y5) && ((x6 == y6) && ((x7 == y7) && ((x8 == y8) && (x9 == y9))))) = b1
  generalize ((x10 == y10) && ((x11 == y11) && (x12 == y12))) = b2
  cases b0 <;> cases b1 <;> cases b2 <;> rfl
end Go.Proofs.Ytdabmbdikofhpaa.P
