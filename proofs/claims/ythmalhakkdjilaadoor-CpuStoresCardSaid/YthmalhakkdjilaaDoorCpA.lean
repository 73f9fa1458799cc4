/-
  Registers in a block of memory; contracts of ends and left. Each statement bears its own conditions.
-/
import Derived.Test.YthmalhakkdjilaaDoorCpM
import Derived.BigQuiet
import Derived.Deep.QuietTactic
namespace Go.Proofs.YthmalhakkdjilaaDoor
open Go.RowKit
set_option linter.unusedVariables false
set_option linter.unusedSimpArgs false
/-- Registers at the head of a block, and what else it holds. -/
def RB (w : World) (g : Nat) (r : List Int) (tl : List Value) (t : TypeId) : Prop := w.heap[g]? = some (.cells (cells r ++ tl).toArray t (0, 0))
section
variable {w w' : World} {g : Nat} {r : List Int} {tl : List Value} {t : TypeId}
theorem RB.lt (h : RB w g r tl t) : g < w.heap.size := (Array.getElem?_eq_some_iff.1 h).1
theorem RB.cell (h : RB w g r tl t) {o : Nat} (ho : o < r.length) : w.cell? ⟨g, o, none⟩ = some (.int (kd o) (r.getD o 0)) := by
  rw [(row_cell h o).1]
  simp only [List.getElem?_toArray]
  rw [List.getElem?_append_left (by rw [cells_len]; exact ho), cells_at r o ho]
theorem RB.cellk (h : RB w g r tl t) {o : Nat} {k : IntKind} (ho : o < r.length) (hk : kd o = k) : w.cell? ⟨g, o, none⟩ = some (.int k (r.getD o 0)) := by rw [← hk]; exact h.cell ho
theorem RB.tail (h : RB w g r tl t) (j : Nat) : w.cell? ⟨g, r.length + j, none⟩ = tl[j]? := by
  rw [(row_cell h _).1]
  simp only [List.getElem?_toArray]
  rw [List.getElem?_append_right (by rw [cells_len]; omega), cells_len, Nat.add_sub_cancel_left]
theorem RB.frozen (h : RB w g r tl t) (o : Nat) : w.frozen? ⟨g, o, none⟩ = false := (row_cell h o).2
theorem RB.set (h : RB w g r tl t) {o : Nat} {k : IntKind} (ho : o < r.length) (hk : kd o = k) (x : Int) : RB (w.setCell ⟨g, o, none⟩ (.int k x)) g (r.set o x) tl t := by
  unfold RB
  rw [set_at h]
  congr 2
  rw [← hk, ← cells_set]
  simp [List.set_append, cells_len, ho]
theorem RB.keep (h : RB w g r tl t) (hk : w'.heap[g]? = w.heap[g]?) : RB w' g r tl t := hk.trans h
theorem RB.below (h : RB w g r tl t) (hb : Below w.heap.size w w') : RB w' g r tl t := h.keep (hb.block g h.lt)
theorem RB.range (h : RB w g r tl t) : w.rangeAt g 0 (cells r) := by
  intro j v hv
  have hj : j < (cells r).length := (List.getElem?_eq_some_iff.1 hv).1
  rw [Nat.zero_add, (row_cell h j).1]
  simp only [List.getElem?_toArray]
  rw [List.getElem?_append_left hj]; exact hv
theorem RB.new (w : World) (r : List Int) (t : TypeId) : RB (w.alloc (.cells (cells r).toArray t)) w.heap.size r [] t := by
  unfold RB; rw [List.append_nil]; exact heap_alloc_new _ _
end
theorem below_drewN {B : Nat} {a w : World} (h : Below B a w) (n : Nat) : Below B a (w.drewN n) := ⟨h.os, h.tape, h.output, h.size, h.block⟩
theorem past_drewN {g : Nat} {a w : World} (h : Past g a w) (n : Nat) : Past g a (w.drewN n) := ⟨h.os, h.tape, h.output, h.size, h.block⟩
/-- A list of cells, from a place on others. -/
def setL : List Value → Nat → List Value → List Value
  | L, _, [] => L
  | L, o, v :: r => setL (L.set o v) (o + 1) r
theorem setL_eq : ∀ (vs : List Value) (L : List Value) (o : Nat), o + vs.length ≤ L.length → setL L o vs = L.take o ++ vs ++ L.drop (o + vs.length)
  | [], L, o, h => by simp [setL]
  | v :: r, L, o, h => by
    rw [setL, setL_eq r _ _ (by simp at h ⊢; omega)]
    have ho : o < L.length := by simp at h; omega
    rw [List.take_set, List.drop_set_of_lt (by omega)]
    rw [show (L.take (o + 1)).set o v = L.take o ++ [v] by
      rw [List.take_succ_eq_append_getElem ho, List.set_append_right _ _ (by simp; omega)]
      have : o - (L.take o).length = 0 := by simp; omega
      rw [this]; rfl]
    simp only [List.append_assoc, List.singleton_append, List.length_cons]
    rw [show o + 1 + r.length = o + (r.length + 1) by omega]
theorem heap_setCells {g : Nat} {t : TypeId} {fr : Nat × Nat} : ∀ (vs : List Value) (L : List Value) (o : Nat) (w : World), w.heap[g]? = some (.cells L.toArray t fr) → (w.setCells g o vs).heap[g]? = some (.cells (setL L o vs).toArray t fr)
  | [], L, o, w, h => h
  | v :: r, L, o, w, h => by
    rw [World.setCells, setL]
    refine heap_setCells r _ _ _ ?_
    rw [set_at h]
    simp
theorem size_setCells (g : Nat) : ∀ (vs : List Value) (o : Nat) (w : World), (w.setCells g o vs).heap.size = w.heap.size
  | [], _, _ => rfl
  | v :: r, o, w => by rw [World.setCells, size_setCells g r]; simp [World.setCell]
theorem past_setCells (g : Nat) : ∀ (vs : List Value) (o : Nat) (w : World), Past g w (w.setCells g o vs)
  | [], _, w => Past.refl _ _
  | v :: r, o, w => by rw [World.setCells]; exact ((Past.refl g w).setCell o v).trans (past_setCells g r (o + 1) _)
theorem RB.store {w : World} {g : Nat} {r0 : List Int} {tl : List Value} {t : TypeId} (h : RB w g r0 tl t) (r : List Int) (hl : r.length = r0.length) : RB (w.setCells g 0 (cells r)) g r tl t := by
  unfold RB
  rw [heap_setCells _ _ _ _ h, setL_eq _ _ _ (by simp [cells_len]; omega)]
  simp [cells_len, hl]
theorem regs_info : (Tryd.prog.info? 28).map (·.size) = some 45 := by kernel_rfl
theorem RB.run_load {w : World} {g : Nat} {r : List Int} {tl : List Value} {t : TypeId} (h : RB w g r tl t) (hl : r.length = 45) : (Instr.loadAt 28 (.pointer (some ⟨g, 0, none⟩))).run Tryd.prog w = .ok (.agg (cells r).toArray) w :=
  run_loadAt_mid w g 0 28 (cells r) _ h.range Tryd.underlying28 rfl (by rw [cells_len, hl]; exact regs_info)
theorem RB.there {w : World} {g : Nat} {r : List Int} {tl : List Value} {t : TypeId} (h : RB w g r tl t) : w.there g 0 r.length := by
  intro j hj
  rw [Nat.zero_add]
  exact ⟨by rw [h.cell hj]; rfl, h.frozen j⟩
theorem RB.run_store {w : World} {g : Nat} {r0 : List Int} {tl : List Value} {t : TypeId} (h : RB w g r0 tl t) (r : List Int) (h0 : r0.length = 45) (hl : r.length = 45) : (Instr.storeAt 28 (.pointer (some ⟨g, 0, none⟩)) (.agg (cells r).toArray)).run Tryd.prog w = .ok () (w.setCells g 0 (cells r)) := by
  have := run_storeAt_mid (P := Tryd.prog) w g 0 28 (cells r).toArray (by rw [List.size_toArray, cells_len, hl, ← h0]; exact h.there) (by rw [List.size_toArray, cells_len, hl]; exact regs_info) (all_oneCell_toArray (cells_one r))
  simpa using this
/-- The registers' loops are within their bounds. -/
def DepOk (r : List Int) : Prop := 0 ≤ r.getD 44 0 ∧ r.getD 44 0 ≤ 8
theorem ends_eq {r : List Int} {dp fp pc : Int} {d : Nat} (h0 : r.getD 44 0 = dp) (hd : dp - 1 = (d : Int)) (h1 : r.getD (20 + 3 * d + 1) 0 = fp) (h2 : r.getD 16 0 = pc) : endsV r = decide (fp = pc) := by
  unfold endsV
  have e : (r.getD 44 0 - 1).toNat = d := by omega
  rw [e, h1, h2, decide_eq_true (by omega : 0 < r.getD 44 0)]
  simp
theorem ends_no {r : List Int} (h : r.getD 44 0 ≤ 0) : endsV r = false := by
  unfold endsV; rw [decide_eq_false (by omega)]; simp
set_option maxRecDepth 100000 in
set_option maxHeartbeats 8000000 in
theorem ends_any (r : List Int) (w : World) (hr : RegOk r) (hd : DepOk r) : Calls Tryd.prog 55 #[.agg (cells r).toArray] w fun e w' => e = .returned (.bool (endsV r)) ∧ Below w.heap.size w w' := by
  obtain ⟨W1, hW1⟩ : ∃ W1, w.alloc (.cells (cells r).toArray 28) = W1 := ⟨_, rfl⟩
  have H1 : Hid (RB W1 w.heap.size r [] 28) := by rw [← hW1]; exact RB.new _ _ _
  have HB : Hid (Below w.heap.size w W1) := by rw [← hW1]; exact (Below.refl _ _).alloc (Nat.le_refl _) _
  obtain ⟨dp, hdp⟩ : ∃ dp, r.getD 44 0 = dp := ⟨_, rfl⟩
  have hl := hr.len
  have i44 := H1.out.cellk (o := 44) (by omega) kd_dep
  unfold DepOk at hd
  rw [hdp] at i44 hd
  by_cases h0 : 0 < dp
  · obtain ⟨d, hdd⟩ : ∃ d : Nat, dp - 1 = (d : Int) := ⟨(dp - 1).toNat, by omega⟩
    have hd8 : d < 8 := by omega
    have i16 := H1.out.cellk (o := 16) (by omega) (kd_reg (by omega))
    have ien := H1.out.cellk (o := 20 + 3 * d + 1) (by omega) (kd_end hd8)
    obtain ⟨pc, hpc⟩ : ∃ pc, r.getD 16 0 = pc := ⟨_, rfl⟩
    obtain ⟨fp, hfp⟩ : ∃ fp, r.getD (20 + 3 * d + 1) 0 = fp := ⟨_, rfl⟩
    have hE := ends_eq hdp hdd hfp hpc
    rw [hE]
    rw [hpc] at i16
    rw [hfp] at ien
    obtain rfl : dp = (d : Int) + 1 := by omega
    have hwd : IntKind.i64.wrap (d : Int) = d := i64_ok (by omega) (by omega)
    have hdI : (d : Int) < 8 := by omega
    have hd0 : (0 : Int) ≤ d := by omega
    rw [Nat.mul_comm 3 d] at ien
    clear hdp hdd hpc hfp hE hl hr hd h0
    go_enter Tryd.func55, Tryd.ntmps55
    go_wp2_with fail
    go_quiet (fail)
    go_wp2_with fail
    go_ret
    exact ⟨bool_ret (by by_cases e : fp = pc <;> simp [e]), below_drewN HB.out _⟩
  · rw [ends_no (by omega)]
    have h0' : decide (0 < dp) = false := by simpa using h0
    clear hdp hl hr hd h0
    go_enter Tryd.func55, Tryd.ntmps55
    go_wp2_with fail
    go_quiet (fail)
    go_wp2_with fail
    go_ret
    exact ⟨rfl, below_drewN HB.out _⟩
theorem left_yes {r : List Int} {d : Nat} (he : endsV r = true) (hd : r.getD 44 0 = (d : Int) + 1) (h0 : r.getD (20 + d * 3 + 2) 0 = 0) : leftV r = (((r.set 44 d).set (20 + d * 3) 0).set (20 + d * 3 + 1) 0).set (20 + d * 3 + 2) 0 := by
  unfold leftV
  have e : (r.getD 44 0 - 1).toNat = d := by omega
  rw [Nat.mul_comm d 3] at h0 ⊢
  rw [e, if_pos ⟨he, h0⟩, hd]
  simp
theorem left_no {r : List Int} (h : endsV r = false) : leftV r = r := by
  unfold leftV; rw [h]; simp
theorem left_no' {r : List Int} {d : Nat} (hd : r.getD 44 0 = (d : Int) + 1) (h0 : ¬ r.getD (20 + d * 3 + 2) 0 = 0) : leftV r = r := by
  unfold leftV
  have e : (r.getD 44 0 - 1).toNat = d := by omega
  rw [Nat.mul_comm d 3] at h0
  rw [e, if_neg (fun h => h0 h.2)]
theorem ends_dep {r : List Int} (h : endsV r = true) : 0 < r.getD 44 0 := by
  unfold endsV at h
  simp only [Bool.and_eq_true, decide_eq_true_eq] at h
  exact h.1
theorem results_regs {fn : Func} {p : Tmp} (h : fn.results = #[.cell p 28]) (tmps : Array Value) (w : World) (g : Nat) (r : List Int) (tl : List Value) (t : TypeId) (hl : r.length = 45)
    (hp : tmps.getD p undef = .pointer (some ⟨g, 0, none⟩)) (hc : RB w g r tl t) : (results fn tmps).run Tryd.prog w = .ok (.agg (cells r).toArray) w := by
  have hp' : tmps[p]?.getD undef = .pointer (some ⟨g, 0, none⟩) := by simpa using hp
  simp [results, h, hp', asAddr, run_loadVar_mid w g 0 28 (cells r) _ hc.range Tryd.underlying28 rfl (by rw [cells_len, hl]; exact regs_info)]
def R0 : List Int := List.replicate 45 0
theorem r0_len : R0.length = 45 := by simp [R0]
theorem r0_cells : (cells R0).toArray = #[.int .u32 0, .int .u32 0, .int .u32 0, .int .u32 0, .int .u32 0, .int .u32 0, .int .u32 0, .int .u32 0, .int .u32 0, .int .u32 0, .int .u32 0, .int .u32 0, .int .u32 0, .int .u32 0, .int .u32 0, .int .u32 0, .int .u32 0, .int .u32 0, .int .u32 0, .int .u32 0, .int .u32 0, .int .u32 0, .int .i64 0, .int .u32 0, .int .u32 0, .int .i64 0, .int .u32 0, .int .u32 0, .int .i64 0, .int .u32 0, .int .u32 0, .int .i64 0, .int .u32 0, .int .u32 0, .int .i64 0, .int .u32 0, .int .u32 0, .int .i64 0, .int .u32 0, .int .u32 0, .int .i64 0, .int .u32 0, .int .u32 0, .int .i64 0, .int .i64 0] := by rfl
theorem RB.zero (w : World) (t : TypeId) : RB (w.alloc (.cells #[.int .u32 0, .int .u32 0, .int .u32 0, .int .u32 0, .int .u32 0, .int .u32 0, .int .u32 0, .int .u32 0, .int .u32 0, .int .u32 0, .int .u32 0, .int .u32 0, .int .u32 0, .int .u32 0, .int .u32 0, .int .u32 0, .int .u32 0, .int .u32 0, .int .u32 0, .int .u32 0, .int .u32 0, .int .u32 0, .int .i64 0, .int .u32 0, .int .u32 0, .int .i64 0, .int .u32 0, .int .u32 0, .int .i64 0, .int .u32 0, .int .u32 0, .int .i64 0, .int .u32 0, .int .u32 0, .int .i64 0, .int .u32 0, .int .u32 0, .int .i64 0, .int .u32 0, .int .u32 0, .int .i64 0, .int .u32 0, .int .u32 0, .int .i64 0, .int .i64 0] t)) w.heap.size R0 [] t := by rw [← r0_cells]; exact RB.new _ _ _
theorem RB.setLoop {w : World} {g : Nat} {r : List Int} {tl : List Value} {t : TypeId} (h : RB w g r tl t) (hl : r.length = 45) {d : Nat} (hd : d < 8) (a b c : Int) : RB (w.setCells g (20 + d * 3) [.int .u32 a, .int .u32 b, .int .i64 c]) g (((r.set (20 + d * 3) a).set (20 + d * 3 + 1) b).set (20 + d * 3 + 2) c) tl t := by
  have k0 := kd_from hd
  have k1 := kd_end hd
  have k2 := kd_left hd
  rw [Nat.mul_comm 3 d] at k0 k1 k2
  exact ((h.set (by omega) k0 a).set (by rw [List.length_set]; omega) k1 b).set (by rw [List.length_set, List.length_set]; omega) k2 c
theorem loop_info : (Tryd.prog.info? 25).map (·.size) = some 3 := by kernel_rfl
theorem RB.run_loop {w : World} {g : Nat} {r : List Int} {tl : List Value} {t : TypeId} (h : RB w g r tl t) (hl : r.length = 45) {d : Nat} (hd : d < 8) (a b c : Int) : (Instr.storeAt 25 (.pointer (some ⟨g, 20 + d * 3, none⟩)) (.agg #[.int .u32 a, .int .u32 b, .int .i64 c])).run Tryd.prog w = .ok () (w.setCells g (20 + d * 3) [.int .u32 a, .int .u32 b, .int .i64 c]) := by
  refine run_storeAt_mid (P := Tryd.prog) w g (20 + d * 3) 25 #[.int .u32 a, .int .u32 b, .int .i64 c] (fun j hj => ?_) loop_info (all_oneCell_toArray (cs := [.int .u32 a, .int .u32 b, .int .i64 c]) (by simp [Value.oneCell']))
  have hj' : j < 3 := hj
  exact ⟨by rw [h.cell (by omega)]; rfl, h.frozen _⟩
section
variable {ops : Array Oper} {rest : List Oper} {op : Oper} {a : Act} {w : World} {Q : Exit → Act → World → Prop} {g : Nat} {r r0 : List Int} {tl : List Value} {t : TypeId}
theorem wpList_load_regs (hgd : op.guard = none) (x : Operand) (ho : op.op = .load 28 x) (hx : a.eval x = .pointer (some ⟨g, 0, none⟩)) (h : RB w g r tl t) (hl : r.length = 45)
    (K : wpList Tryd.prog ops Q rest (a.put op.dst (.agg (cells r).toArray)) w) : wpList Tryd.prog ops Q (op :: rest) a w :=
  wpList_load_mid hgd 28 x ho g 0 hx (cells r) _ h.range Tryd.underlying28 rfl (by rw [cells_len, hl]; exact regs_info) K
theorem wpList_store_regs (hgd : op.guard = none) (x y : Operand) (ho : op.op = .store 28 x y) (hx : a.eval x = .pointer (some ⟨g, 0, none⟩)) (hy : a.eval y = .agg (cells r).toArray) (h : RB w g r0 tl t) (h0 : r0.length = 45) (hl : r.length = 45)
    (K : wpList Tryd.prog ops Q rest (a.put op.dst undef) (w.setCells g 0 (cells r))) : wpList Tryd.prog ops Q (op :: rest) a w := by
  refine wpList_store_mid hgd 28 x y ho g 0 (cells r).toArray hx hy (by rw [List.size_toArray, cells_len, hl, ← h0]; exact h.there) (by rw [List.size_toArray, cells_len, hl]; exact regs_info) (all_oneCell_toArray (cells_one r)) ?_
  simpa using K
theorem wpList_store_loop (hgd : op.guard = none) (x y : Operand) (ho : op.op = .store 25 x y) {d : Nat} {p q s : Int} (hx : a.eval x = .pointer (some ⟨g, 20 + d * 3, none⟩)) (hy : a.eval y = .agg #[.int .u32 p, .int .u32 q, .int .i64 s]) (h : RB w g r tl t) (hl : r.length = 45) (hd : d < 8)
    (K : wpList Tryd.prog ops Q rest (a.put op.dst undef) (w.setCells g (20 + d * 3) [.int .u32 p, .int .u32 q, .int .i64 s])) : wpList Tryd.prog ops Q (op :: rest) a w := by
  refine wpList_store_mid hgd 25 x y ho g (20 + d * 3) #[.int .u32 p, .int .u32 q, .int .i64 s] hx hy (fun j hj => ?_) loop_info (all_oneCell_toArray (cs := [.int .u32 p, .int .u32 q, .int .i64 s]) (by simp [Value.oneCell'])) K
  have hj' : j < 3 := hj
  exact ⟨by rw [h.cell (by omega)]; rfl, h.frozen _⟩
end
theorem RegOk.left {r : List Int} (h : RegOk r) (hd : DepOk r) : RegOk (leftV r) ∧ DepOk (leftV r) := by
  unfold leftV
  split
  next hc =>
    have h0 := ends_dep hc.1
    have hl := h.len
    unfold DepOk at hd ⊢
    have hd8 : (r.getD 44 0 - 1).toNat < 8 := by omega
    refine ⟨(((h.set 44 _ (by show Num (kd 44) _; rw [kd_dep]; constructor <;> omega)).set _ 0 (by rw [kd_from hd8]; exact ⟨by omega, by omega⟩)).set _ 0 (by rw [kd_end hd8]; exact ⟨by omega, by omega⟩)).set _ 0 (by rw [kd_left hd8]; exact ⟨by omega, by omega⟩), ?_⟩
    rw [getD_set_ne _ (by omega), getD_set_ne _ (by omega), getD_set_ne _ (by omega), getD_set_self _ (by omega)]
    omega
  next => exact ⟨h, hd⟩
set_option maxRecDepth 100000 in
set_option maxHeartbeats 8000000 in
theorem left_any (r : List Int) (w : World) (hr : RegOk r) (hd : DepOk r) : Calls Tryd.prog 54 #[.agg (cells r).toArray] w fun e w' => e = .returned (.agg (cells (leftV r)).toArray) ∧ Below w.heap.size w w' := by
  obtain ⟨W1, hW1⟩ : ∃ W1, w.alloc (.cells (cells r).toArray 28) = W1 := ⟨_, rfl⟩
  obtain ⟨g1, hg1⟩ : ∃ g1, w.heap.size = g1 := ⟨_, rfl⟩
  have h1 : RB W1 g1 r [] 28 := by rw [← hW1, ← hg1]; exact RB.new _ _ _
  have b1 : Below g1 w W1 := by rw [← hW1, ← hg1]; exact (Below.refl _ _).alloc (Nat.le_refl _) _
  obtain ⟨W2, hW2⟩ : ∃ W2, W1.alloc (.cells #[.int .u32 0, .int .u32 0, .int .u32 0, .int .u32 0, .int .u32 0, .int .u32 0, .int .u32 0, .int .u32 0, .int .u32 0, .int .u32 0, .int .u32 0, .int .u32 0, .int .u32 0, .int .u32 0, .int .u32 0, .int .u32 0, .int .u32 0, .int .u32 0, .int .u32 0, .int .u32 0, .int .u32 0, .int .u32 0, .int .i64 0, .int .u32 0, .int .u32 0, .int .i64 0, .int .u32 0, .int .u32 0, .int .i64 0, .int .u32 0, .int .u32 0, .int .i64 0, .int .u32 0, .int .u32 0, .int .i64 0, .int .u32 0, .int .u32 0, .int .i64 0, .int .u32 0, .int .u32 0, .int .i64 0, .int .u32 0, .int .u32 0, .int .i64 0, .int .i64 0] 28) = W2 := ⟨_, rfl⟩
  obtain ⟨g2, hg2⟩ : ∃ g2, W1.heap.size = g2 := ⟨_, rfl⟩
  have h2 : RB W2 g2 R0 [] 28 := by rw [← hW2, ← hg2]; exact RB.zero _ _
  have b12 : Below W1.heap.size W1 W2 := by rw [← hW2]; exact (Below.refl _ _).alloc (Nat.le_refl _) _
  have h12 := h1.below b12
  have b2 : Below g1 w W2 := b1.trans (b12.mono (by have := h1.lt; omega))
  have hl := hr.len
  have hne : g1 ≠ g2 := by have := h1.lt; omega
  have H12 := Lib.hid h12
  have H2 := Lib.hid h2
  have HB2 := Lib.hid b2
  have HNE := Lib.hid (And.intro hne (show g1 ≤ g2 by have := h1.lt; omega))
  have CE := Lib.hid (ends_any r W2 hr hd)
  obtain ⟨t, ht⟩ : ∃ t, endsV r = t := ⟨_, rfl⟩
  rw [ht] at CE
  have HT := Lib.hid ht
  have HL := Lib.hid hl
  have HR := Lib.hid (And.intro hr hd)
  clear h1 h2 b1 b2 b12 h12 hne ht hl hr hd
  go_enter Tryd.func54, Tryd.ntmps54
  go_wp2_with (refine wpList_load_regs rfl _ rfl rfl H12.out HL.out ?_)
  refine CE.out.mono ?_
  rintro e W3 ⟨rfl, b3⟩
  have HG := Lib.hid hg1
  clear hW1 hW2 hg1 hg2
  have h13 := H12.out.below b3
  have h23 := H2.out.below b3
  have HB3 : Hid (Below g1 w W3) := HB2.out.trans (b3.mono (by have := H12.out.lt; omega))
  have HB23 : Hid (g2 < W3.heap.size) := h23.lt
  clear b3 CE H12 H2
  have H13 := Lib.hid h13
  have H23 := Lib.hid h23
  cases t with
  | false =>
    have h6 := Lib.hid (h23.store r HL.out)
    clear h13 h23
    go_upto_region 4 with (fail)
    go_wp2_with (first | (refine wpList_load_regs rfl _ rfl rfl H13.out HL.out ?_) | (refine wpList_store_regs rfl _ _ rfl rfl rfl H23.out r0_len HL.out ?_))
    refine bodyPost_ret (results_regs rfl _ _ g2 r _ _ HL.out rfl h6.out) rfl ⟨?_, ?_⟩
    · rw [left_no HT.out]
    · rw [HG.out]; exact HB3.out.trans ((past_setCells g2 _ _ _).below HNE.out.2 (Nat.le_of_lt H13.out.lt))
  | true =>
    obtain ⟨d, hdd⟩ : ∃ d : Nat, r.getD 44 0 = (d : Int) + 1 := ⟨(r.getD 44 0 - 1).toNat, by have := ends_dep HT.out; omega⟩
    have hd8 : d < 8 := by have := HR.out.2; unfold DepOk at this; omega
    have hd8I : (d : Int) < 8 := by omega
    have hd0 : (0 : Int) ≤ d := by omega
    have hwd : IntKind.i64.wrap (d : Int) = d := i64_ok (by omega) (by omega)
    obtain ⟨lf, hlf⟩ : ∃ lf, r.getD (20 + d * 3 + 2) 0 = lf := ⟨_, rfl⟩
    have HLN := HL.out
    have i44 := h13.cellk (o := 44) (by omega) kd_dep
    have ilf := h13.cellk (k := .i64) (o := 20 + d * 3 + 2) (by omega) (by rw [Nat.mul_comm d 3]; exact kd_left hd8)
    have f44 := h13.frozen 44
    rw [hdd] at i44
    rw [hlf] at ilf
    by_cases h0 : lf = 0
    · subst h0
      obtain ⟨W4, hW4⟩ : ∃ W4, W3.setCell ⟨g1, 44, none⟩ (.int .i64 d) = W4 := ⟨_, rfl⟩
      have h14 : RB W4 g1 (r.set 44 d) [] 28 := by rw [← hW4]; exact h13.set (by omega) kd_dep _
      have h24 : RB W4 g2 R0 [] 28 := by rw [← hW4]; exact h23.keep (set_far _ _ (fun e => HNE.out.1 e.symm))
      have p4 : Past g1 W3 W4 := by rw [← hW4]; exact (Past.refl _ _).setCell _ _
      obtain ⟨W5, hW5⟩ : ∃ W5, W4.setCells g1 (20 + d * 3) [.int .u32 0, .int .u32 0, .int .i64 0] = W5 := ⟨_, rfl⟩
      have h15 : RB W5 g1 (leftV r) [] 28 := by rw [← hW5, left_yes HT.out hdd hlf]; exact h14.setLoop (by rw [List.length_set]; exact HLN) hd8 0 0 0
      have p5 : Past g1 W4 W5 := by rw [← hW5]; exact past_setCells _ _ _ _
      have h25 : RB W5 g2 R0 [] 28 := h24.keep (p5.block g2 h24.lt (fun e => HNE.out.1 e.symm))
      have hll : (leftV r).length = 45 := (HR.out.1.left HR.out.2).1.len
      have j44 := h14.cellk (o := 44) (by rw [List.length_set]; omega) kd_dep
      rw [getD_set_self _ (by omega)] at j44
      have H14 := Lib.hid h14
      have H15 := Lib.hid h15
      have H25 := Lib.hid h25
      have HW := Lib.hid hW5
      have HS : Hid ((r.set 44 (d : Int)).length = 45) := by unfold Hid; rw [List.length_set]; exact HLN
      have h6 := Lib.hid (h25.store (leftV r) hll)
      have HP : Hid (Below g1 w W5) := HB3.out.trans ((p4.trans p5).below (Nat.le_refl _) (by have := H13.out.lt; omega))
      have HW5 : Hid (g1 < W5.heap.size) := h15.lt
      have HLL := Lib.hid hll
      clear h13 h23 h14 h24 p4 p5 h15 h25 hll hlf hdd HLN hW5 H13 H23
      go_upto_region 2 with (fail)
      go_wp2_with (first | (refine wpList_load_regs rfl _ rfl rfl H15.out HLL.out ?_) | (refine wpList_store_regs rfl _ _ rfl rfl rfl H25.out r0_len HLL.out ?_) | (refine wpList_store_loop rfl _ _ rfl rfl rfl H14.out HS.out hd8 ?_; rw [HW.out]))
      refine bodyPost_ret (results_regs rfl _ _ g2 (leftV r) _ _ HLL.out rfl h6.out) rfl ⟨rfl, ?_⟩
      rw [HG.out]; exact HP.out.trans ((past_setCells g2 _ _ _).below HNE.out.2 (by have := HW5.out; omega))
    · have h0' : (lf == 0) = false := by simpa using h0
      have hln := Lib.hid (left_no' hdd (by rw [hlf]; exact h0))
      have h6 := Lib.hid (h23.store r HL.out)
      clear h13 h23 hlf hdd HLN h0
      go_upto_region 4 with (fail)
      go_wp2_with (first | (refine wpList_load_regs rfl _ rfl rfl H13.out HL.out ?_) | (refine wpList_store_regs rfl _ _ rfl rfl rfl H23.out r0_len HL.out ?_))
      refine bodyPost_ret (results_regs rfl _ _ g2 r _ _ HL.out rfl h6.out) rfl ⟨?_, ?_⟩
      · rw [hln.out]
      · rw [HG.out]; exact HB3.out.trans ((past_setCells g2 _ _ _).below HNE.out.2 (by have := HB23.out; have := HNE.out; omega))
theorem RB.setTail {w : World} {g : Nat} {r : List Int} {tl : List Value} {t : TypeId} (h : RB w g r tl t) (j : Nat) (v : Value) : RB (w.setCell ⟨g, r.length + j, none⟩ v) g r (tl.set j v) t := by
  unfold RB
  rw [set_at h]
  congr 2
  simp [List.set_append, cells_len]
attribute [irreducible] RB
end Go.Proofs.YthmalhakkdjilaaDoor
