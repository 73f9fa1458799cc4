/-
  What a valid request is asked by; registers compared; the example. Each statement bears its own conditions.
-/
import Derived.Test.YtglpbngdikfliaaDoorCaJ
import Derived.Laws.StructEq
namespace Go.Proofs.YtglpbngdikfliaaDoor.Ca
open Go.RowKit Go.Proofs.YtglpbngdikfliaaDoor.F
set_option linter.unusedVariables false
set_option linter.unusedSimpArgs false
section
variable {P : Program} {w : World}
theorem eq_array (d : Nat) (t elem : TypeId) (len n : Nat) (xs ys : Array Value) (ht : P.underlying t = some (.array len elem)) (hn : (sizeOf elem).run P w = .ok n w) (f : Nat → Bool)
    (hf : ∀ i, i < len → ∃ u v, (part elem xs (i * n)).run P w = .ok u w ∧ (part elem ys (i * n)).run P w = .ok v w ∧ (Op.equalIn d elem u v).run P w = .ok (f i) w) :
    (Op.equalIn (d + 1) t (.agg xs) (.agg ys)).run P w = .ok ((List.range len).all f) w := by
  simp only [Op.equalIn, Sem.run_bind, run_underlying ht, Result.andThen_ok, hn, Std.Legacy.Range.forIn_eq_forIn_range', Std.Legacy.Range.size, Nat.sub_zero, Nat.add_sub_cancel, Nat.div_one, List.range_eq_range']
  have key : ∀ (m s : Nat), s + m ≤ len → ∀ k : Bool, k = (List.range' s m).all f →
      ((forIn (List.range' s m) ((none, ()) : Option Bool × Unit) fun i r => do
        let __do_lift ← part elem xs (i * n)
        let __do_lift_1 ← part elem ys (i * n)
        let __do_lift ← Op.equalIn d elem __do_lift __do_lift_1
        if (!__do_lift) = true then pure (ForInStep.done (some false, ())) else pure (ForInStep.yield (none, ()))).run P w) = .ok (if k then (none, ()) else (some false, ())) w := by
    intro m
    induction m with
    | zero => intro s _ k hk; subst hk; simp
    | succ m ih =>
      intro s hs k hk
      obtain ⟨u, v, h1, h2, h3⟩ := hf s (by omega)
      rw [List.range'_succ, List.all_cons] at hk
      rw [List.range'_succ, List.forIn_cons]
      simp only [Sem.run_bind, h1, h2, h3, Result.andThen_ok]
      cases hfs : f s with
      | false =>
        rw [hfs] at hk
        subst hk
        simp
      | true =>
        rw [hfs] at hk
        simp only [Bool.not_true, Bool.false_eq_true, if_false, Sem.run_pure, Result.andThen_ok]
        exact ih (s + 1) (by omega) k (by simpa using hk)
  rw [key len 0 (by omega) _ rfl]
  cases (List.range' 0 len).all f <;> simp
end
theorem run_part_int {P : Program} {e : TypeId} {k : IntKind} (he : P.underlying e = some (.int k)) {xs : Array Value} {off : Nat} {v : Value} (w : World) (hx : xs[off]? = some v) : (part e xs off).run P w = .ok v w := by
  have ha : (isAgg e).run P w = .ok false w := by
    unfold isAgg
    rw [Sem.run_bind, run_underlying he w]
    rfl
  simp [part, ha, hx]
theorem run_neq16 (C D : List Int) (hC : Regs C) (hD : Regs D) (w : World) : (binOp .neq 23 (.agg (RG C)) (.agg (RG D))).run Tryd.prog w = .ok (.bool (!((List.range 16).all fun i => C.getD i 0 == D.getD i 0))) w := by
  have q : (Op.equalIn 10000 23 (.agg (RG C)) (.agg (RG D))).run Tryd.prog w = .ok ((List.range 16).all fun i => C.getD i 0 == D.getD i 0) w := by
    refine eq_array 9999 _ 22 16 1 _ _ Tryd.underlying23 (by kernel_rfl) _ (fun i hi => ?_)
    refine ⟨_, _, run_part_int Tryd.underlying22 w (by rw [Nat.mul_one]; exact RG_at (by rw [hC.len]; exact hi)), run_part_int Tryd.underlying22 w (by rw [Nat.mul_one]; exact RG_at (by rw [hD.len]; exact hi)), ?_⟩
    exact run_equalIn_int w 9998 _ _ _ _ _ Tryd.underlying22
  rw [run_neq_struct, q]; rfl
theorem run_eql16 (C D : List Int) (hC : Regs C) (hD : Regs D) (w : World) : (binOp .eql 23 (.agg (RG C)) (.agg (RG D))).run Tryd.prog w = .ok (.bool ((List.range 16).all fun i => C.getD i 0 == D.getD i 0)) w := by
  have q : (Op.equalIn 10000 23 (.agg (RG C)) (.agg (RG D))).run Tryd.prog w = .ok ((List.range 16).all fun i => C.getD i 0 == D.getD i 0) w := by
    refine eq_array 9999 _ 22 16 1 _ _ Tryd.underlying23 (by kernel_rfl) _ (fun i hi => ?_)
    refine ⟨_, _, run_part_int Tryd.underlying22 w (by rw [Nat.mul_one]; exact RG_at (by rw [hC.len]; exact hi)), run_part_int Tryd.underlying22 w (by rw [Nat.mul_one]; exact RG_at (by rw [hD.len]; exact hi)), ?_⟩
    exact run_equalIn_int w 9998 _ _ _ _ _ Tryd.underlying22
  rw [run_eql_struct, q]; rfl
theorem all16 (C : List Int) : ((List.range 16).all fun i => C.getD i 0 == C.getD i 0) = true := by simp
theorem sameB_self (q : Rq) : sameB q q = true := by simp [sameB]
theorem sameB_eq {p q : Rq} (h : sameB p q = true) : p = q := by
  obtain ⟨a, b, c, d, e⟩ := p
  obtain ⟨a', b', c', d', e'⟩ := q
  simp [sameB] at h
  obtain ⟨rfl, rfl, rfl, rfl, rfl⟩ := h
  rfl
theorem ownV_call (q : Rq) : (ownV q).call = q.call := rfl
theorem ownV_idem (q : Rq) : ownV (ownV q) = ownV q := by
  obtain ⟨n, o, a, ws, t⟩ := q
  unfold ownV
  simp only
  cases oB n <;> cases aB n <;> cases wB n <;> cases tB n <;> simp
theorem dec_bad {n : Int} {r : List Int} (h : ¬ decE n r = 0) : decQ n r = zeroQ := by
  unfold decE at h
  unfold decQ
  split at h
  · rename_i h1
    rw [if_pos h1]
    split at h
    · exact absurd rfl h
    · rename_i h2; rw [if_neg h2]
  · rename_i h1; rw [if_neg h1]
theorem dec_good {n : Int} {r : List Int} (h : decE n r = 0) : is n = true ∧ decQ n r = ownV (askQ n r) ∧ fitsV (ownV (askQ n r)) = true := by
  unfold decE at h
  split at h
  · rename_i h1
    split at h
    · rename_i h2
      exact ⟨h1, by unfold decQ; rw [if_pos h1, if_pos h2], h2⟩
    · omega
  · omega
theorem dec_valid {n : Int} {r : List Int} (h : decE n r = 0) : validV (decQ n r) = true ∧ (decQ n r).call = n := by
  obtain ⟨h1, h2, h3⟩ := dec_good h
  rw [h2]
  refine ⟨?_, rfl⟩
  unfold validV
  rw [ownV_idem, sameB_self, h3]
  rw [show is ((ownV (askQ n r)).call) = true from h1]
  rfl
theorem tick_back {t : Int} (h : -1 ≤ t ∧ t ≤ 4294967294) : tickV (backT t) = t := by
  unfold tickV backT
  split <;> split <;> omega
theorem enc_regs {q : Rq} {r : List Int} (hv : validV q = true) (ha : 0 ≤ q.at_ ∧ q.at_ ≤ 4294967295) (hr : Regs r) : Regs (encV q r) := by
  obtain ⟨_, h2, _⟩ := valid_fits hv
  have hb := fits_wds h2
  unfold encV
  rw [if_pos hv]
  unfold encR
  have hbk : 0 ≤ backT q.tks ∧ backT q.tks ≤ 4294967295 := by unfold backT; split <;> omega
  have h1 : Regs (if oB q.call then r.set 0 q.obj else r) := by split; exact hr.set 0 (by omega); exact hr
  have h3 : Regs (if aB q.call then (if oB q.call then r.set 0 q.obj else r).set 1 q.at_ else (if oB q.call then r.set 0 q.obj else r)) := by split; exact h1.set 1 ha; exact h1
  have h4 : Regs (if wB q.call then (if aB q.call then (if oB q.call then r.set 0 q.obj else r).set 1 q.at_ else (if oB q.call then r.set 0 q.obj else r)).set 2 q.wds else (if aB q.call then (if oB q.call then r.set 0 q.obj else r).set 1 q.at_ else (if oB q.call then r.set 0 q.obj else r))) := by split; exact h3.set 2 (by omega); exact h3
  show Regs (if tB q.call then _ else _)
  split
  · exact h4.set 3 hbk
  · exact h4
/-- A valid request is what its registers ask for. -/
theorem back_dec {q : Rq} {r : List Int} (hv : validV q = true) (hr : Regs r) : decE q.call (encV q r) = 0 ∧ decQ q.call (encV q r) = q := by
  obtain ⟨h1, h2, h3⟩ := valid_fits hv
  have hb := fits_wds h2
  have hs := sameB_eq h3
  have hl := hr.len
  have key : ownV (askQ q.call (encV q r)) = q := by
    unfold encV
    rw [if_pos hv]
    rw [hs]
    obtain ⟨n, o, a, ws, t⟩ := q
    have tb := tick_back (t := t) hb.2.2.2.2
    unfold ownV askQ encR
    simp only
    cases oB n <;> cases aB n <;> cases wB n <;> cases tB n <;> simp [getD_set, hl, tb]
  unfold decE decQ
  rw [if_pos h1, if_pos h1, key, if_pos h2, if_pos h2]
  exact ⟨rfl, rfl⟩
theorem price_bounds {q : Rq} (hv : validV q = true) : 1 ≤ priceV q ∧ priceV q ≤ mostV q.call := by
  obtain ⟨h1, h2, h3⟩ := valid_fits hv
  have hb := fits_wds h2
  obtain ⟨k, hk, hk2⟩ := is_nat h1
  have hp := price_le k hk2
  have hs := sameB_eq h3
  have hw : wB q.call = false → q.wds = 0 := fun h => by
    have : q.wds = (ownV q).wds := by rw [← hs]
    rw [this]; unfold ownV; simp [h]
  unfold priceV mostV
  rw [if_pos hv, if_pos h1, hk]
  rw [hk] at hw
  simp only [Int.toNat_natCast]
  generalize priceL.getD k 0 = p at hp ⊢
  cases hwb : wB (k : Int) with
  | true => simp; omega
  | false => have := hw hwb; simp; omega
def kr : List Int := [3, 0, 0, 4294967295, 0, 0, 0, 0, 0, 0, 0, 0, 0, 0, 0, 0]
theorem kr_ok : Regs kr := ⟨rfl, by decide⟩
set_option maxRecDepth 100000 in
set_option maxHeartbeats 8000000 in
theorem known_any (w : World) (hL : Laid w) : Calls Tryd.prog 11 #[] w fun e w' => e = .returned (.bool true) ∧ Below w.heap.size w w' := by
  have CD0 := decode_any 9 kr kr_ok w hL
  rw [show decQ 9 kr = ⟨9, 3, 0, 0, -1⟩ by kernel_rfl, show decE 9 kr = 0 by kernel_rfl] at CD0
  have CD : Calls Tryd.prog 9 #[.int .i64 9, .agg #[.int .u32 3, .int .u32 0, .int .u32 0, .int .u32 4294967295, .int .u32 0, .int .u32 0, .int .u32 0, .int .u32 0, .int .u32 0, .int .u32 0, .int .u32 0, .int .u32 0, .int .u32 0, .int .u32 0, .int .u32 0, .int .u32 0]] w fun e w' => e = .returned (.tuple #[.agg #[.int .i64 9, .int .i64 3, .int .u32 0, .int .i64 0, .int .i64 (-1)], .int .i64 0]) ∧ Below w.heap.size w w' := CD0
  have HD := Lib.hid CD
  have EQ : ∀ W, (binOp .eql 25 (.agg #[.int .i64 9, .int .i64 3, .int .u32 0, .int .i64 0, .int .i64 (-1)]) (.agg #[.int .i64 9, .int .i64 3, .int .u32 0, .int .i64 0, .int .i64 (-1)])).run Tryd.prog W = .ok (.bool true) W := fun W => by have := req_eql ⟨9, 3, 0, 0, -1⟩ ⟨9, 3, 0, 0, -1⟩ W; rw [sameB_self] at this; exact this
  obtain ⟨X, hX⟩ : ∃ X, w.heap.size = X := ⟨_, rfl⟩
  clear CD CD0
  have HLw := Lib.hid hL
  clear hL
  rw [hX] at HD ⊢
  go_enter Tryd.func11, Tryd.ntmps11
  go_wp2_with fail
  refine HD.out.mono ?_
  rintro e w1 ⟨rfl, hb⟩
  obtain ⟨Z, hZ⟩ : ∃ Z, w1.heap.size = Z := ⟨_, rfl⟩
  have B1 := Lib.hid hb
  have hXZ : Hid (X ≤ Z) := by have := hb.size; unfold Hid; omega
  clear hb HD
  go_upto_region 2 with fail
  obtain ⟨w2, hw2⟩ : ∃ W, w1.alloc (.cells #[.int .i64 9, .int .i64 3, .int .u32 0, .int .i64 0, .int .i64 (-1)] 25) = W := ⟨_, rfl⟩
  rw [hw2]
  have HZ2 : Hid (w2.heap[Z]? = some (.cells #[.int .i64 9, .int .i64 3, .int .u32 0, .int .i64 0, .int .i64 (-1)] 25 (0, 0))) := by unfold Hid; rw [← hw2, ← hZ]; exact heap_alloc_new _ _
  have B2 : Hid (Below X w w2) := by rw [← hw2]; exact B1.out.alloc (by rw [hZ]; exact hXZ.out) _
  have HL2 : Hid (Laid w2) := HLw.out.below (by rw [hX]; exact B2.out)
  have CP := Lib.hid (price_any ⟨9, 3, 0, 0, -1⟩ w2 HL2.out)
  rw [show priceV ⟨9, 3, 0, 0, -1⟩ = 3 by kernel_rfl] at CP
  clear hw2 hZ B1
  have z0 : w2.cell? ⟨Z, 0, none⟩ = some (.int .i64 9) := by rw [(row_cell HZ2.out 0).1]; rfl
  have z1 : w2.cell? ⟨Z, 1, none⟩ = some (.int .i64 3) := by rw [(row_cell HZ2.out 1).1]; rfl
  have z2 : w2.cell? ⟨Z, 2, none⟩ = some (.int .u32 0) := by rw [(row_cell HZ2.out 2).1]; rfl
  have z3 : w2.cell? ⟨Z, 3, none⟩ = some (.int .i64 0) := by rw [(row_cell HZ2.out 3).1]; rfl
  have z4 : w2.cell? ⟨Z, 4, none⟩ = some (.int .i64 (-1)) := by rw [(row_cell HZ2.out 4).1]; rfl
  go_wp2_with fail
  refine CP.out.mono ?_
  rintro e w3 ⟨rfl, hb⟩
  have B3 : Hid (Below X w w3) := B2.out.trans (hb.mono (by have := (Array.getElem?_eq_some_iff.1 HZ2.out).1; have := hXZ.out; omega))
  have HL3 : Hid (Laid w3) := HL2.out.below hb
  have CM := Lib.hid (most_any 16 w3 HL3.out)
  rw [show mostV 16 = 34 by kernel_rfl] at CM
  have s3 : Hid (X ≤ w3.heap.size) := by have := hb.size; have := (Array.getElem?_eq_some_iff.1 HZ2.out).1; have := hXZ.out; unfold Hid; omega
  clear hb CP z0 z1 z2 z3 z4 HZ2 B2 HL2
  go_wp2_with fail
  refine CM.out.mono ?_
  rintro e w4 ⟨rfl, hb⟩
  have B4 : Hid (Below X w w4) := B3.out.trans (hb.mono s3.out)
  clear hb CM
  go_wp2_with fail
  go_ret
  exact ⟨rfl, B4.out⟩
end Go.Proofs.YtglpbngdikfliaaDoor.Ca
