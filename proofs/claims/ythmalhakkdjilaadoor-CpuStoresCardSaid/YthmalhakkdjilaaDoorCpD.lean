/-
  The map of effects: how it is made and asked. Each statement bears its own conditions.
-/
import Derived.Test.YthmalhakkdjilaaDoorCpC
import Derived.Maps.Own
import Derived.Maps.OwnOps
namespace Go.Proofs.YthmalhakkdjilaaDoor
open Go.RowKit Go.ChangeMaps Go.MapKept
set_option linter.unusedVariables false
set_option linter.unusedSimpArgs false
/-- Of each operation: 0 a plain function, 1 to 3 what number, word, jump make of one; which function. -/
def effT : List (Nat × Nat) := [(0, 18), (1, 20), (2, 22), (2, 23), (1, 24), (2, 25), (2, 26), (0, 27), (2, 28), (2, 29), (2, 30), (1, 31), (1, 32), (0, 33), (0, 34), (3, 36), (3, 37), (3, 38), (0, 39), (0, 40), (0, 41), (0, 42), (0, 43), (0, 44)]
def cloF (k : Nat) : Nat := if k = 1 then 47 else if k = 2 then 48 else 49
def cloT (k : Nat) : Nat := if k = 3 then 65 else 63
/-- An effect's value: a function, or a closure whose box lies from block B on, apart from the map. -/
structure IsEff (w : World) (B mb : Nat) (p : Nat × Nat) (v : Value) : Prop where
  ex : (p.1 = 0 ∧ v = .func (.func p.2) #[] #[]) ∨ (0 < p.1 ∧ ∃ fb, B ≤ fb ∧ fb ≠ mb ∧ v = .func (.func (cloF p.1)) #[] #[.pointer (some ⟨fb, 0, none⟩)] ∧ w.heap[fb]? = some (.cells #[.func (.func p.2) #[] #[]] (cloT p.1) (0, 0)))
theorem IsEff.keep {w w' : World} {B mb : Nat} {p : Nat × Nat} {v : Value} (h : IsEff w B mb p v) (hk : ∀ b, B ≤ b → b < w.heap.size → b ≠ mb → w'.heap[b]? = w.heap[b]?) : IsEff w' B mb p v := by
  rcases h.ex with h | ⟨h0, fb, h1, h2, h3, h4⟩
  · exact ⟨.inl h⟩
  · exact ⟨.inr ⟨h0, fb, h1, h2, h3, (hk fb h1 (Array.getElem?_eq_some_iff.1 h4).1 h2).trans h4⟩⟩
/-- A map in block mb that holds effects of operations 0 to n - 1. -/
structure EI (w : World) (B mb n : Nat) : Prop where
  lo : B ≤ mb
  ex : ∃ (es : Array MapEntry) (clock : Nat), w.heap[mb]? = some (.map es clock) ∧ es.size = n ∧ ∀ i, i < n → ∃ e, es[i]? = some e ∧ e.key = .int .i64 (i : Int) ∧ IsEff w B mb (effT.getD i (0, 0)) e.val
theorem EI.lt {w : World} {B mb n : Nat} (h : EI w B mb n) : mb < w.heap.size := by
  obtain ⟨es, c, h1, _⟩ := h.ex
  exact (Array.getElem?_eq_some_iff.1 h1).1
theorem EI.keep {w w' : World} {B mb n : Nat} (h : EI w B mb n) (hk : ∀ b, B ≤ b → b < w.heap.size → w'.heap[b]? = w.heap[b]?) : EI w' B mb n := by
  have hlt := h.lt
  obtain ⟨es, c, h1, h2, h3⟩ := h.ex
  refine ⟨h.lo, es, c, (hk mb h.lo hlt).trans h1, h2, fun i hi => ?_⟩
  obtain ⟨e, e1, e2, e3⟩ := h3 i hi
  exact ⟨e, e1, e2, e3.keep fun b hb hb' _ => hk b hb hb'⟩
theorem EI.below {w w' : World} {B mb n : Nat} (h : EI w B mb n) (hb : Below w.heap.size w w') : EI w' B mb n := h.keep fun b _ hb' => hb.block b hb'
theorem findNow_none {k : Int} : ∀ (es : List MapEntry) (i : Nat), (∀ e ∈ es, ∃ x : Int, e.key = .int .i64 x ∧ x ≠ k) → Instr.findNow (.int .i64) (.int .i64 k) es i = some none
  | [], i, h => rfl
  | e :: es, i, h => by
    obtain ⟨x, hx, hn⟩ := h e (by simp)
    have : (k == x) = false := by simpa using fun e => hn e.symm
    simp [Instr.findNow, Instr.sameNow, hx, this, findNow_none es (i + 1) (fun e he => h e (by simp [he]))]
theorem findNow_some {k : Int} {e : MapEntry} (he : e.key = .int .i64 k) : ∀ (es : List MapEntry) (i j : Nat), es[j]? = some e → (∀ q, q < j → ∃ e', es[q]? = some e' ∧ ∃ x : Int, e'.key = .int .i64 x ∧ x ≠ k) → ∃ q, Instr.findNow (.int .i64) (.int .i64 k) es i = some (some (q, e.val))
  | [], i, j, h, _ => by simp at h
  | a :: es, i, 0, h, _ => by
    simp at h; subst h
    exact ⟨i, by simp [Instr.findNow, Instr.sameNow, he]⟩
  | a :: es, i, j + 1, h, hq => by
    obtain ⟨e', h1, x, hx, hn⟩ := hq 0 (by omega)
    simp at h1; subst h1
    have : (k == x) = false := by simpa using fun e => hn e.symm
    obtain ⟨q, hh⟩ := findNow_some he es (i + 1) j (by simpa using h) (fun q hq' => by have := hq (q + 1) (by omega); simpa using this)
    exact ⟨q, by simp [Instr.findNow, Instr.sameNow, hx, this, hh]⟩
theorem check_int (k : Int) (b : Bool) (w : World) : (Instr.checkKey b 10000 3 (.int .i64 k)).run Tryd.prog w = .ok () w := by
  have : ∀ n : Nat, (Instr.checkKey b (n + 1) 3 (.int .i64 k)).run Tryd.prog w = .ok () w := fun n => by simp [Instr.checkKey, run_underlying Tryd.underlying3]
  exact this 9999
theorem EI.add {w : World} {B mb n : Nat} {v : Value} (h : EI w B mb n) (hv : IsEff w B mb (effT.getD n (0, 0)) v) : ∃ w', (Instr.mapUpdate 57 (.map (some mb)) (.int .i64 (n : Int)) v).run Tryd.prog w = .ok () w' ∧ EI w' B mb (n + 1) ∧ Past mb w w' := by
  obtain ⟨es, c, h1, h2, h3⟩ := h.ex
  have hf : (Instr.findKey 3 (.int .i64 (n : Int)) es.toList).run Tryd.prog w = .ok none w := by
    have := findNow_none (k := (n : Int)) es.toList 0 (fun e he => by
      obtain ⟨i, hi, e1⟩ := List.getElem_of_mem he
      have hi' : i < n := by simpa [h2] using hi
      obtain ⟨e', q1, q2, _⟩ := h3 i hi'
      have : e' = e := by
        have h4 : es.toList[i]? = some e := by rw [List.getElem?_eq_getElem hi, e1]
        rw [Array.getElem?_toList] at h4
        exact Option.some.inj (q1.symm.trans h4)
      subst this
      exact ⟨i, q2, by omega⟩)
    simp [Instr.findKey, run_underlying Tryd.underlying3, this]
  refine ⟨setBlock w mb (.map (es.push ⟨.int .i64 n, v, c⟩) (c + 1)), ?_, ⟨h.lo, es.push ⟨.int .i64 n, v, c⟩, c + 1, heap_setBlock_same h1 _, by simp [h2], fun i hi => ?_⟩, ⟨rfl, rfl, rfl, by simp [setBlock], fun i _ hi => heap_setBlock_other h1 _ hi⟩⟩
  · simp [Instr.mapUpdate, run_underlying Tryd.underlying57, MapKept.run_getObj_map h1, check_int, hf, MapKept.run_setObj_map _ h1, Result.andThen, setBlock]
  · by_cases e : i = n
    · subst e
      refine ⟨⟨.int .i64 i, v, c⟩, by rw [← h2]; simp, rfl, hv.keep fun b _ _ hn => heap_setBlock_other h1 _ hn⟩
    · obtain ⟨x, q1, q2, q3⟩ := h3 i (by omega)
      refine ⟨x, ?_, q2, q3.keep fun b _ _ hn => heap_setBlock_other h1 _ hn⟩
      rw [Array.getElem?_push_lt (by omega)]
      rw [← q1, Array.getElem?_eq_getElem (by omega)]
theorem wpList_ins {ops : Array Oper} {rest : List Oper} {op : Oper} {a : Act} {w : World} {Q : Exit → Act → World → Prop} {B mb n : Nat} {v : Value} (h : Hid (EI w B mb n)) (hgd : op.guard = none) (m k x : Operand) (ho : op.op = .insert 57 m k x)
    (hm : a.eval m = .map (some mb)) (hk : a.eval k = .int .i64 (n : Int)) (hx : a.eval x = v) (hv : IsEff w B mb (effT.getD n (0, 0)) v) (K : ∀ w', Hid (EI w' B mb (n + 1)) → Below mb w w' → wpList Tryd.prog ops Q rest (a.put op.dst undef) w') : wpList Tryd.prog ops Q (op :: rest) a w := by
  obtain ⟨w', hrun, h1, h2⟩ := h.out.add hv
  refine wpList_plain hgd fun _ hK => ?_
  unfold Oper.wp
  simp [execOp, ho, hm, hk, hx, hrun, Result.andThen]
  exact hK _ _ (K w' h1 (h2.below (Nat.le_refl _) (Nat.le_of_lt h.out.lt)))
theorem plain_eff (w : World) (B mb : Nat) {n K : Nat} (h : effT.getD n (0, 0) = (0, K)) : IsEff w B mb (effT.getD n (0, 0)) (.func (.func K) #[] #[]) := by
  rw [h]; exact ⟨.inl ⟨rfl, rfl⟩⟩
theorem number_mk (F B mb n : Nat) (w : World) (h : Hid (EI w B mb n)) : Calls Tryd.prog 19 #[.func (.func F) #[] #[]] w fun e w' => ∃ v, e = .returned v ∧ IsEff w' B mb (1, F) v ∧ Hid (EI w' B mb n) ∧ Below mb w w' := by
  have hm := h.out.lt
  have hB : B ≤ w.heap.size := Nat.le_of_lt (Nat.lt_of_le_of_lt h.out.lo hm)
  have HE : Hid (EI (w.alloc (.cells #[.func (.func F) #[] #[]] 63)) B mb n) := h.out.below ((Below.refl _ _).alloc (Nat.le_refl _) _)
  have HBB : Hid (Below mb w (w.alloc (.cells #[.func (.func F) #[] #[]] 63))) := (Below.refl _ _).alloc (Nat.le_of_lt hm) _
  have HI : Hid (IsEff (w.alloc (.cells #[.func (.func F) #[] #[]] 63)) B mb (1, F) (.func (.func 47) #[] #[.pointer (some ⟨w.heap.size, 0, none⟩)])) :=
    ⟨.inr ⟨by simp, w.heap.size, hB, by omega, rfl, heap_alloc_new _ _⟩⟩
  clear hB hm h
  go_enter Tryd.func19, Tryd.ntmps19
  go_wp2_with fail
  go_ret
  exact ⟨_, rfl, HI.out, HE, HBB.out⟩
theorem word_mk (F B mb n : Nat) (w : World) (h : Hid (EI w B mb n)) : Calls Tryd.prog 21 #[.func (.func F) #[] #[]] w fun e w' => ∃ v, e = .returned v ∧ IsEff w' B mb (2, F) v ∧ Hid (EI w' B mb n) ∧ Below mb w w' := by
  have hm := h.out.lt
  have hB : B ≤ w.heap.size := Nat.le_of_lt (Nat.lt_of_le_of_lt h.out.lo hm)
  have HE : Hid (EI (w.alloc (.cells #[.func (.func F) #[] #[]] 63)) B mb n) := h.out.below ((Below.refl _ _).alloc (Nat.le_refl _) _)
  have HBB : Hid (Below mb w (w.alloc (.cells #[.func (.func F) #[] #[]] 63))) := (Below.refl _ _).alloc (Nat.le_of_lt hm) _
  have HI : Hid (IsEff (w.alloc (.cells #[.func (.func F) #[] #[]] 63)) B mb (2, F) (.func (.func 48) #[] #[.pointer (some ⟨w.heap.size, 0, none⟩)])) :=
    ⟨.inr ⟨by simp, w.heap.size, hB, by omega, rfl, heap_alloc_new _ _⟩⟩
  clear hB hm h
  go_enter Tryd.func21, Tryd.ntmps21
  go_wp2_with fail
  go_ret
  exact ⟨_, rfl, HI.out, HE, HBB.out⟩
theorem jump_mk (F B mb n : Nat) (w : World) (h : Hid (EI w B mb n)) : Calls Tryd.prog 35 #[.func (.func F) #[] #[]] w fun e w' => ∃ v, e = .returned v ∧ IsEff w' B mb (3, F) v ∧ Hid (EI w' B mb n) ∧ Below mb w w' := by
  have hm := h.out.lt
  have hB : B ≤ w.heap.size := Nat.le_of_lt (Nat.lt_of_le_of_lt h.out.lo hm)
  have HE : Hid (EI (w.alloc (.cells #[.func (.func F) #[] #[]] 65)) B mb n) := h.out.below ((Below.refl _ _).alloc (Nat.le_refl _) _)
  have HBB : Hid (Below mb w (w.alloc (.cells #[.func (.func F) #[] #[]] 65))) := (Below.refl _ _).alloc (Nat.le_of_lt hm) _
  have HI : Hid (IsEff (w.alloc (.cells #[.func (.func F) #[] #[]] 65)) B mb (3, F) (.func (.func 49) #[] #[.pointer (some ⟨w.heap.size, 0, none⟩)])) :=
    ⟨.inr ⟨by simp, w.heap.size, hB, by omega, rfl, heap_alloc_new _ _⟩⟩
  clear hB hm h
  go_enter Tryd.func35, Tryd.ntmps35
  go_wp2_with fail
  go_ret
  exact ⟨_, rfl, HI.out, HE, HBB.out⟩
/-- The map of all effects, its memory from block B on. -/
structure Eff (w : World) (B : Nat) (mv : Value) : Prop where
  ex : ∃ mb, mv = .map (some mb) ∧ EI w B mb 24
theorem Eff.keep {w w' : World} {B : Nat} {mv : Value} (h : Eff w B mv) (hk : ∀ b, B ≤ b → b < w.heap.size → w'.heap[b]? = w.heap[b]?) : Eff w' B mv := by
  obtain ⟨mb, h1, h2⟩ := h.ex
  exact ⟨mb, h1, h2.keep hk⟩
theorem Eff.below {w w' : World} {B : Nat} {mv : Value} (h : Eff w B mv) (hb : Below w.heap.size w w') : Eff w' B mv := h.keep fun b _ hb' => hb.block b hb'
theorem Eff.lookup {w : World} {B : Nat} {mv : Value} (h : Eff w B mv) {k : Nat} (hk : k < 24) : ∃ mb v, IsEff w B mb (effT.getD k (0, 0)) v ∧ (Instr.lookup 57 mv (.int .i64 (k : Int)) false).run Tryd.prog w = .ok v w := by
  obtain ⟨mb, rfl, h1⟩ := h.ex
  obtain ⟨es, c, h2, h3, h4⟩ := h1.ex
  obtain ⟨e, e1, e2, e3⟩ := h4 k hk
  obtain ⟨q, hq⟩ := findNow_some e2 es.toList 0 k (by simpa using e1) (fun i hi => by
    obtain ⟨e', q1, q2, _⟩ := h4 i (by omega)
    exact ⟨e', by simpa using q1, i, q2, by omega⟩)
  have hf : (Instr.findKey 3 (.int .i64 (k : Int)) es.toList).run Tryd.prog w = .ok (some (q, e.val)) w := by
    simp [Instr.findKey, run_underlying Tryd.underlying3, hq]
  exact ⟨mb, e.val, e3, by simp [Instr.lookup, run_underlying Tryd.underlying57, MapKept.run_getObj_map h2, check_int, hf, Result.andThen]⟩
set_option maxRecDepth 100000 in
set_option maxHeartbeats 8000000 in
theorem effects_any (B : Nat) (w : World) (hB : B ≤ w.heap.size) : Calls Tryd.prog 16 #[] w fun e w' => (∃ v, e = .returned v ∧ Eff w' B v) ∧ Below w.heap.size w w' := by
  have hmm := @run_makeMap Tryd.prog
  obtain ⟨mb, hmb⟩ : ∃ mb, w.heap.size = mb := ⟨_, rfl⟩
  obtain ⟨W0, hW0⟩ : ∃ W0, w.alloc (.map #[] 0) = W0 := ⟨_, rfl⟩
  have H0 : Hid (EI W0 B mb 0) := by
    rw [← hW0, ← hmb]
    exact ⟨hB, #[], 0, (MapKept.heap_alloc w _).1, rfl, fun i hi => by omega⟩
  have HBw : Hid (Below mb w W0) := by rw [← hW0, ← hmb]; exact (Below.refl _ _).alloc (Nat.le_refl _) _
  have HQ := Lib.hid (And.intro hB hmb)
  clear hB
  go_enter Tryd.func16, Tryd.ntmps16
  go_wp2_with (refine wpList_ins (by assumption) rfl _ _ _ rfl rfl rfl rfl (by first | exact plain_eff _ _ _ rfl | exact hv) ?_; intro wI HI hP; have HBw : Hid (Below mb w wI) := HBw.out.trans hP; clear hP; try dsimp only [Act.put])
  refine (number_mk 20 B mb _ _ (by assumption)).mono ?_
  rintro e V ⟨v, rfl, hv, HI, hP⟩
  have HBw : Hid (Below mb w V) := HBw.out.trans hP
  clear hP
  dsimp only
  go_wp2_with (refine wpList_ins (by assumption) rfl _ _ _ rfl rfl rfl rfl (by first | exact plain_eff _ _ _ rfl | exact hv) ?_; intro wI HI hP; have HBw : Hid (Below mb w wI) := HBw.out.trans hP; clear hP; try dsimp only [Act.put])
  refine (word_mk 22 B mb _ _ (by assumption)).mono ?_
  rintro e V ⟨v, rfl, hv, HI, hP⟩
  have HBw : Hid (Below mb w V) := HBw.out.trans hP
  clear hP
  dsimp only
  go_wp2_with (refine wpList_ins (by assumption) rfl _ _ _ rfl rfl rfl rfl (by first | exact plain_eff _ _ _ rfl | exact hv) ?_; intro wI HI hP; have HBw : Hid (Below mb w wI) := HBw.out.trans hP; clear hP; try dsimp only [Act.put])
  refine (word_mk 23 B mb _ _ (by assumption)).mono ?_
  rintro e V ⟨v, rfl, hv, HI, hP⟩
  have HBw : Hid (Below mb w V) := HBw.out.trans hP
  clear hP
  dsimp only
  go_wp2_with (refine wpList_ins (by assumption) rfl _ _ _ rfl rfl rfl rfl (by first | exact plain_eff _ _ _ rfl | exact hv) ?_; intro wI HI hP; have HBw : Hid (Below mb w wI) := HBw.out.trans hP; clear hP; try dsimp only [Act.put])
  refine (number_mk 24 B mb _ _ (by assumption)).mono ?_
  rintro e V ⟨v, rfl, hv, HI, hP⟩
  have HBw : Hid (Below mb w V) := HBw.out.trans hP
  clear hP
  dsimp only
  go_wp2_with (refine wpList_ins (by assumption) rfl _ _ _ rfl rfl rfl rfl (by first | exact plain_eff _ _ _ rfl | exact hv) ?_; intro wI HI hP; have HBw : Hid (Below mb w wI) := HBw.out.trans hP; clear hP; try dsimp only [Act.put])
  refine (word_mk 25 B mb _ _ (by assumption)).mono ?_
  rintro e V ⟨v, rfl, hv, HI, hP⟩
  have HBw : Hid (Below mb w V) := HBw.out.trans hP
  clear hP
  dsimp only
  go_wp2_with (refine wpList_ins (by assumption) rfl _ _ _ rfl rfl rfl rfl (by first | exact plain_eff _ _ _ rfl | exact hv) ?_; intro wI HI hP; have HBw : Hid (Below mb w wI) := HBw.out.trans hP; clear hP; try dsimp only [Act.put])
  refine (word_mk 26 B mb _ _ (by assumption)).mono ?_
  rintro e V ⟨v, rfl, hv, HI, hP⟩
  have HBw : Hid (Below mb w V) := HBw.out.trans hP
  clear hP
  dsimp only
  go_wp2_with (refine wpList_ins (by assumption) rfl _ _ _ rfl rfl rfl rfl (by first | exact plain_eff _ _ _ rfl | exact hv) ?_; intro wI HI hP; have HBw : Hid (Below mb w wI) := HBw.out.trans hP; clear hP; try dsimp only [Act.put])
  refine (word_mk 28 B mb _ _ (by assumption)).mono ?_
  rintro e V ⟨v, rfl, hv, HI, hP⟩
  have HBw : Hid (Below mb w V) := HBw.out.trans hP
  clear hP
  dsimp only
  go_wp2_with (refine wpList_ins (by assumption) rfl _ _ _ rfl rfl rfl rfl (by first | exact plain_eff _ _ _ rfl | exact hv) ?_; intro wI HI hP; have HBw : Hid (Below mb w wI) := HBw.out.trans hP; clear hP; try dsimp only [Act.put])
  refine (word_mk 29 B mb _ _ (by assumption)).mono ?_
  rintro e V ⟨v, rfl, hv, HI, hP⟩
  have HBw : Hid (Below mb w V) := HBw.out.trans hP
  clear hP
  dsimp only
  go_wp2_with (refine wpList_ins (by assumption) rfl _ _ _ rfl rfl rfl rfl (by first | exact plain_eff _ _ _ rfl | exact hv) ?_; intro wI HI hP; have HBw : Hid (Below mb w wI) := HBw.out.trans hP; clear hP; try dsimp only [Act.put])
  refine (word_mk 30 B mb _ _ (by assumption)).mono ?_
  rintro e V ⟨v, rfl, hv, HI, hP⟩
  have HBw : Hid (Below mb w V) := HBw.out.trans hP
  clear hP
  dsimp only
  go_wp2_with (refine wpList_ins (by assumption) rfl _ _ _ rfl rfl rfl rfl (by first | exact plain_eff _ _ _ rfl | exact hv) ?_; intro wI HI hP; have HBw : Hid (Below mb w wI) := HBw.out.trans hP; clear hP; try dsimp only [Act.put])
  refine (number_mk 31 B mb _ _ (by assumption)).mono ?_
  rintro e V ⟨v, rfl, hv, HI, hP⟩
  have HBw : Hid (Below mb w V) := HBw.out.trans hP
  clear hP
  dsimp only
  go_wp2_with (refine wpList_ins (by assumption) rfl _ _ _ rfl rfl rfl rfl (by first | exact plain_eff _ _ _ rfl | exact hv) ?_; intro wI HI hP; have HBw : Hid (Below mb w wI) := HBw.out.trans hP; clear hP; try dsimp only [Act.put])
  refine (number_mk 32 B mb _ _ (by assumption)).mono ?_
  rintro e V ⟨v, rfl, hv, HI, hP⟩
  have HBw : Hid (Below mb w V) := HBw.out.trans hP
  clear hP
  dsimp only
  go_wp2_with (refine wpList_ins (by assumption) rfl _ _ _ rfl rfl rfl rfl (by first | exact plain_eff _ _ _ rfl | exact hv) ?_; intro wI HI hP; have HBw : Hid (Below mb w wI) := HBw.out.trans hP; clear hP; try dsimp only [Act.put])
  refine (jump_mk 36 B mb _ _ (by assumption)).mono ?_
  rintro e V ⟨v, rfl, hv, HI, hP⟩
  have HBw : Hid (Below mb w V) := HBw.out.trans hP
  clear hP
  dsimp only
  go_wp2_with (refine wpList_ins (by assumption) rfl _ _ _ rfl rfl rfl rfl (by first | exact plain_eff _ _ _ rfl | exact hv) ?_; intro wI HI hP; have HBw : Hid (Below mb w wI) := HBw.out.trans hP; clear hP; try dsimp only [Act.put])
  refine (jump_mk 37 B mb _ _ (by assumption)).mono ?_
  rintro e V ⟨v, rfl, hv, HI, hP⟩
  have HBw : Hid (Below mb w V) := HBw.out.trans hP
  clear hP
  dsimp only
  go_wp2_with (refine wpList_ins (by assumption) rfl _ _ _ rfl rfl rfl rfl (by first | exact plain_eff _ _ _ rfl | exact hv) ?_; intro wI HI hP; have HBw : Hid (Below mb w wI) := HBw.out.trans hP; clear hP; try dsimp only [Act.put])
  refine (jump_mk 38 B mb _ _ (by assumption)).mono ?_
  rintro e V ⟨v, rfl, hv, HI, hP⟩
  have HBw : Hid (Below mb w V) := HBw.out.trans hP
  clear hP
  dsimp only
  go_wp2_with (refine wpList_ins (by assumption) rfl _ _ _ rfl rfl rfl rfl (by first | exact plain_eff _ _ _ rfl | exact hv) ?_; intro wI HI hP; have HBw : Hid (Below mb w wI) := HBw.out.trans hP; clear hP; try dsimp only [Act.put])
  go_ret
  refine ⟨⟨_, rfl, ⟨mb, rfl, HI.out⟩⟩, ?_⟩
  exact HBw.out
end Go.Proofs.YthmalhakkdjilaaDoor
