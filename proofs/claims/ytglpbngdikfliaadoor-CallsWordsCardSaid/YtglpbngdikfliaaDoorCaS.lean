/-
  The call with a word. Each statement bears its own conditions.
-/
import Derived.Test.YtglpbngdikfliaaDoorCaK
import Derived.Laws.StructEq
import Derived.Deep.MidRow
namespace Go.Proofs.YtglpbngdikfliaaDoor.Ca
open Go.RowKit Go.Proofs.YtglpbngdikfliaaDoor.F
set_option linter.unusedVariables false
set_option linter.unusedSimpArgs false
def eqS (k : Nat) (s : ByteArray) : Bool := decide (byteL.getD k #[] = s.data)
def numJ (j : Nat) (s : ByteArray) : Int × Bool := match (List.range j).find? (fun k => eqS k s) with | some k => ((k : Int), true) | none => (0, false)
theorem numJ_zero (s : ByteArray) : numJ 0 s = (0, false) := rfl
theorem numJ_none {j : Nat} {s : ByteArray} (h : ∀ i, i < j → eqS i s = false) : numJ j s = (0, false) := by
  unfold numJ
  rw [show (List.range j).find? (fun k => eqS k s) = none from List.find?_eq_none.2 (fun x hx => by rw [h x (by simpa using hx)]; simp)]
theorem numJ_step {j : Nat} {s : ByteArray} (h : eqS j s = false) : numJ (j + 1) s = numJ j s := by
  unfold numJ
  rw [List.range_succ, List.find?_append]
  cases hf : (List.range j).find? (fun k => eqS k s) with
  | some k => rfl
  | none => simp [h]
theorem numJ_hit {j : Nat} {s : ByteArray} (h : eqS j s = true) (h0 : ∀ i, i < j → eqS i s = false) : ∀ m, j < m → numJ m s = ((j : Int), true) := by
  intro m hm
  unfold numJ
  have hf : (List.range m).find? (fun k => eqS k s) = some j := by
    rw [List.find?_range_eq_some]
    exact ⟨h, by simpa using hm, fun i hi => by rw [h0 i hi]; rfl⟩
  rw [hf]
theorem words_apart : ((List.range 28).all fun i => (List.range 28).all fun k => decide (byteL.getD i #[] = byteL.getD k #[]) == decide (i = k)) = true := by kernel_rfl
theorem eqS_word {i k : Nat} (hi : i < 28) (hk : k < 28) : eqS i ⟨byteL.getD k #[]⟩ = decide (i = k) := by
  have h1 := List.all_eq_true.1 words_apart i (by simpa using hi)
  have h2 := List.all_eq_true.1 h1 k (by simpa using hk)
  simpa [eqS] using h2
theorem eqS_one {i k : Nat} {s : ByteArray} (hi : i < 28) (hk : k < 28) (h1 : eqS i s = true) (h2 : eqS k s = true) : i = k := by
  have e1 : byteL.getD i #[] = s.data := by simpa [eqS] using h1
  have e2 : byteL.getD k #[] = s.data := by simpa [eqS] using h2
  have h3 := eqS_word hi hk
  have h4 : eqS i ⟨byteL.getD k #[]⟩ = true := by unfold eqS; rw [e1, e2]; simp
  rw [h4] at h3
  simpa using h3.symm
theorem bytes_eq (a b : ByteArray) : (a == b) = decide (a.data = b.data) := by
  obtain ⟨x⟩ := a
  obtain ⟨y⟩ := b
  show (x == y) = decide (x = y)
  by_cases h : x = y <;> simp [h]
theorem run_streq (i : Nat) (s : ByteArray) (w : World) : (binOp .eql 9 (wordV i) (.string s)).run Tryd.prog w = .ok (.bool (eqS i s)) w := by
  unfold wordV
  show (Op.stringOp .eql ⟨byteL.getD i #[]⟩ s).run Tryd.prog w = _
  simp only [Op.stringOp, Sem.run_pure]
  rw [← beq_toListBytes, bytes_eq]
  rfl
def tabL : List Value := (List.range 28).flatMap fun k => [wordV k, .int .i64 (fieldL.getD k 0), .int .i64 (priceL.getD k 0)]
theorem tab_at (k : Nat) (hk : k < 28) : tabL[k * 3]? = some (wordV k) ∧ tabL[k * 3 + 1]? = some (.int .i64 (fieldL.getD k 0)) ∧ tabL[k * 3 + 2]? = some (.int .i64 (priceL.getD k 0)) := by
  have key : ∀ (m s : Nat), k < m → ((List.range' s m).flatMap fun k => [wordV k, .int .i64 (fieldL.getD k 0), .int .i64 (priceL.getD k 0)])[k * 3]? = some (wordV (s + k)) ∧ ((List.range' s m).flatMap fun k => [wordV k, .int .i64 (fieldL.getD k 0), .int .i64 (priceL.getD k 0)])[k * 3 + 1]? = some (.int .i64 (fieldL.getD (s + k) 0)) ∧ ((List.range' s m).flatMap fun k => [wordV k, .int .i64 (fieldL.getD k 0), .int .i64 (priceL.getD k 0)])[k * 3 + 2]? = some (.int .i64 (priceL.getD (s + k) 0)) := by
    clear hk
    induction k with
    | zero =>
      intro m s hm
      cases m with
      | zero => omega
      | succ m => rw [List.range'_succ]; exact ⟨rfl, rfl, rfl⟩
    | succ k ih =>
      intro m s hm
      cases m with
      | zero => omega
      | succ m =>
        rw [List.range'_succ, List.flatMap_cons]
        have h := ih m (s + 1) (by omega)
        rw [show s + 1 + k = s + (k + 1) by omega] at h
        refine ⟨?_, ?_, ?_⟩
        · rw [List.getElem?_append_right (by simp; omega)]; simpa [show (k + 1) * 3 - 3 = k * 3 by omega] using h.1
        · rw [List.getElem?_append_right (by simp; omega)]; simpa [show (k + 1) * 3 + 1 - 3 = k * 3 + 1 by omega] using h.2.1
        · rw [List.getElem?_append_right (by simp; omega)]; simpa [show (k + 1) * 3 + 2 - 3 = k * 3 + 2 by omega] using h.2.2
  have := key 28 0 hk
  rw [Nat.zero_add, ← List.range_eq_range'] at this
  exact this
theorem tab_len : tabL.length = 84 := by kernel_rfl
theorem Laid.range {W : World} (h : Laid W) : W.rangeAt 0 0 tabL := by
  intro j v hv
  have hj : j < 84 := by rw [← tab_len]; exact (List.getElem?_eq_some_iff.1 hv).1
  obtain ⟨d, hd⟩ : ∃ d, j / 3 = d := ⟨_, rfl⟩
  have hd8 : d < 28 := by omega
  obtain ⟨a0, a1, a2⟩ := tab_at d hd8
  obtain ⟨b0, b1, b2⟩ := h.row d hd8
  rw [Nat.zero_add]
  have hm : j = d * 3 ∨ j = d * 3 + 1 ∨ j = d * 3 + 2 := by omega
  rcases hm with rfl | rfl | rfl
  · rw [b0, ← a0, hv]
  · rw [b1, ← a1, hv]
  · rw [b2, ← a2, hv]
theorem run_row (k : Nat) (hk : k < 28) (w : World) : (Instr.index 62 (.agg tabL.toArray) (.int .i64 (k : Int))).run Tryd.prog w = .ok (.agg #[wordV k, .int .i64 (fieldL.getD k 0), .int .i64 (priceL.getD k 0)]) w := by
  obtain ⟨a0, a1, a2⟩ := tab_at k hk
  have hp : (part 61 tabL.toArray (k * 3)).run Tryd.prog w = .ok (.agg (tabL.toArray.extract (k * 3) (k * 3 + 3))) w := by
    have ha : (isAgg 61).run Tryd.prog w = .ok true w := by kernel_rfl
    have h3 : (sizeOf 61).run Tryd.prog w = .ok 3 w := by kernel_rfl
    simp only [part, Sem.run_bind, ha, Result.andThen_ok, if_true, h3, Sem.run_pure]
  have he : tabL.toArray.extract (k * 3) (k * 3 + 3) = #[wordV k, .int .i64 (fieldL.getD k 0), .int .i64 (priceL.getD k 0)] := by
    have hl := tab_len
    apply Array.ext_getElem?
    intro j
    rw [Array.getElem?_extract]
    by_cases hj : j < 3
    · rw [if_pos (by simp [hl]; omega)]
      match j, hj with
      | 0, _ => simpa using a0
      | 1, _ => simpa using a1
      | 2, _ => simpa using a2
      | j + 3, h => omega
    · rw [if_neg (by simp [hl]; omega)]
      simp; omega
  rw [he] at hp
  have hu : (underlying 62).run Tryd.prog w = .ok (.array 28 61) w := by kernel_rfl
  have h3 : (sizeOf 61).run Tryd.prog w = .ok 3 w := by kernel_rfl
  unfold Instr.index
  simp only [asIntOf, Sem.run_bind, Sem.run_pure, Result.andThen_ok, hu]
  rw [if_pos ⟨by omega, by omega⟩]
  simp only [Sem.run_bind, h3, Result.andThen_ok, Int.toNat_natCast, hp]
structure NR (s : ByteArray) (X : Nat) (w0 : World) (iv : Value) (wr : World) : Prop where
  ex : ∃ j : Nat, j ≤ 28 ∧ iv = .int .i64 (j : Int) ∧ (∀ i, i < j → eqS i s = false) ∧ Below X w0 wr ∧ X ≤ wr.heap.size
set_option maxRecDepth 100000 in
set_option maxHeartbeats 32000000 in
theorem number_any (s : ByteArray) (w : World) (hL : Laid w) : Calls Tryd.prog 22 #[.string s] w fun e w' => e = .returned (.tuple #[.int .i64 (numJ 28 s).1, .bool (numJ 28 s).2]) ∧ Below w.heap.size w w' := by
  have hr := hL.range
  have hi : (Tryd.prog.info? 62).map (·.size) = some tabL.length := by rw [tab_len]; kernel_rfl
  obtain ⟨X, hX⟩ : ∃ X, w.heap.size = X := ⟨_, rfl⟩
  simp only [hX]
  have B0 : Hid (Below X w w) := by rw [← hX]; exact Below.refl _ _
  have S0 : Hid (X ≤ w.heap.size) := by rw [hX]; exact Nat.le_refl _
  clear hX hL
  go_enter Tryd.func22, Tryd.ntmps22
  go_wp2_with (refine wpList_load_mid rfl 62 _ rfl 0 0 rfl tabL _ hr Tryd.underlying62 rfl hi ?_)
  clear hr hi
  go_loopw [7] (fun iv wr => NR s X w iv wr) (fun i _ => 28 - (intOf i).toNat)
  case atStart => exact ⟨⟨0, Nat.zero_le _, rfl, fun i h => by omega, B0.out, S0.out⟩⟩
  case round =>
    clear B0 S0
    obtain ⟨⟨j, hj, rfl, hn, hb, hs⟩⟩ := hrel
    have HN := Lib.hid hn
    have HB := Lib.hid hb
    have HS := Lib.hid hs
    clear hn hb hs
    by_cases hlt : j < 28
    rotate_left
    · have hjI : ¬ (j : Int) < 28 := by omega
      have k0 : decide ((j : Int) < 28) = false := by simp only [hjI, decide_false]
      have e28 : j = 28 := by omega
      have HE : Hid (numJ 28 s = (0, false)) := numJ_none (by rw [← e28]; exact HN.out)
      clear hlt hj e28
      go_wp2_with fail
      go_ret2
      exact ⟨by rw [HE.out]; rfl, HB.out⟩
    have hjI : (j : Int) < 28 := by omega
    have k0 : decide ((j : Int) < 28) = true := by simp only [hjI, decide_true]
    have HJ : Hid (j < 28) := hlt
    obtain ⟨by_, hby⟩ : ∃ x, byteL.getD j #[] = x := ⟨_, rfl⟩
    obtain ⟨fv, hfv⟩ : ∃ x, fieldL.getD j 0 = x := ⟨_, rfl⟩
    obtain ⟨pv, hpv⟩ : ∃ x, priceL.getD j 0 = x := ⟨_, rfl⟩
    have hix : ∀ w, (Instr.index 62 (.agg tabL.toArray) (.int .i64 (j : Int))).run Tryd.prog w = .ok (.agg #[.string ⟨by_⟩, .int .i64 fv, .int .i64 pv]) w := fun w => by
      have := run_row j hlt w
      unfold wordV at this
      rw [hby, hfv, hpv] at this
      exact this
    obtain ⟨c, hc⟩ : ∃ c, eqS j s = c := ⟨_, rfl⟩
    have HC := Lib.hid hc
    have heq2 : ((⟨by_⟩ : ByteArray).toList == s.toList) = c := by
      rw [← beq_toListBytes, bytes_eq, ← hc, ← hby]; rfl
    obtain ⟨Z, hZ⟩ : ∃ Z, wr.heap.size = Z := ⟨_, rfl⟩
    have HXZ : Hid (X ≤ Z) := by rw [← hZ]; exact HS.out
    clear hlt hj hby hfv hpv hc
    generalize tabL.toArray = TA at hix
    go_upto_region 4 with fail
    obtain ⟨w2, hw2⟩ : ∃ W, wr.alloc (.cells #[.string ⟨by_⟩, .int .i64 fv, .int .i64 pv] 61) = W := ⟨_, rfl⟩
    rw [hw2]
    have B2 : Hid (Below X w w2) := by rw [← hw2]; exact HB.out.alloc (by rw [hZ]; exact HXZ.out) _
    have S2 : Hid (X ≤ w2.heap.size) := by rw [← hw2]; have := HS.out; unfold Hid; simp; omega
    have z0 : w2.cell? ⟨Z, 0, none⟩ = some (.string ⟨by_⟩) := by rw [← hw2, ← hZ]; simp
    clear hw2 hZ hix
    cases c
    · go_wp2_with fail
      have Q : NR s X w (.int .i64 ((j : Int) + 1)) w2 := ⟨⟨j + 1, HJ.out, by go_num, fun i hi => (by
          by_cases e : i = j
          · rw [e]; exact HC.out
          · exact HN.out i (by omega)), B2.out, S2.out⟩⟩
      refine ⟨Q, ?_⟩
      have := HJ.out
      simp [intOf]
      omega
    · have HE : Hid (numJ 28 s = ((j : Int), true)) := numJ_hit HC.out HN.out 28 HJ.out
      go_wp2_with fail
      go_ret2
      exact ⟨by rw [HE.out]; rfl, B2.out⟩
end Go.Proofs.YtglpbngdikfliaaDoor.Ca
