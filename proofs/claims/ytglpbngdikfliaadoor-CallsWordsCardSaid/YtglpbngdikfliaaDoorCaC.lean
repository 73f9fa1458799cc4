/-
  What a request costs; words. Each statement bears its own conditions.
-/
import Derived.Test.YtglpbngdikfliaaDoorCaB
namespace Go.Proofs.YtglpbngdikfliaaDoor.Ca
open Go.RowKit Go.Proofs.YtglpbngdikfliaaDoor.F
set_option linter.unusedVariables false
set_option linter.unusedSimpArgs false
def priceV (q : Rq) : Int := if validV q then priceL.getD q.call.toNat 0 + q.wds else 0
def mostV (n : Int) : Int := if is n then priceL.getD n.toNat 0 + (if wB n then 32 else 0) else 0
def wordA (n : Int) : Value := if is n then wordV n.toNat else .string ⟨#[]⟩
theorem price_bd : ((List.range 28).all fun k => decide (1 ≤ priceL.getD k 0 ∧ priceL.getD k 0 ≤ 6)) = true := by decide
theorem price_le (k : Nat) (hk : k < 28) : 1 ≤ priceL.getD k 0 ∧ priceL.getD k 0 ≤ 6 := by
  have h := List.all_eq_true.1 price_bd k (by simpa using hk)
  simpa using h
theorem is_nat {n : Int} (h : is n = true) : ∃ k : Nat, n = (k : Int) ∧ k < 28 := by
  have h : 0 ≤ n ∧ n < 28 := by simpa [is] using h
  exact ⟨n.toNat, by omega, by omega⟩
theorem valid_fits {q : Rq} (h : validV q = true) : is q.call = true ∧ fitsV q = true ∧ sameB q (ownV q) = true := by
  unfold validV at h
  simp only [Bool.and_eq_true] at h
  exact ⟨h.1.1, h.2, h.1.2⟩
theorem fits_wds {q : Rq} (h : fitsV q = true) : 0 ≤ q.obj ∧ q.obj ≤ 15 ∧ 0 ≤ q.wds ∧ q.wds ≤ 32 ∧ -1 ≤ q.tks ∧ q.tks ≤ 4294967294 := by
  have h : 0 ≤ q.obj ∧ q.obj ≤ 15 ∧ 0 ≤ q.wds ∧ q.wds ≤ 32 ∧ -1 ≤ q.tks ∧ q.tks ≤ 4294967294 ∧ (q.call = 26 → 1 ≤ q.at_ ∧ q.at_ ≤ 27) := by simpa only [fitsV, decide_eq_true_eq] using h
  omega
set_option maxRecDepth 100000 in
set_option maxHeartbeats 8000000 in
theorem price_any (q : Rq) (w : World) (hL : Laid w) : Calls Tryd.prog 13 #[q.val] w fun e w' => e = .returned (.int .i64 (priceV q)) ∧ Below w.heap.size w w' := by
  obtain ⟨v, hv⟩ : ∃ v, validV q = v := ⟨_, rfl⟩
  have VF := fun h : v = true => valid_fits (hv.trans h)
  have HP : Hid (priceV q = if v then priceL.getD q.call.toNat 0 + q.wds else 0) := by unfold Hid priceV; rw [hv]
  have CV0 := fun W hl => valid_any q W hl
  rw [hv] at CV0
  obtain ⟨n, o, a, ws, t⟩ := q
  show Calls Tryd.prog 13 #[.agg #[.int .i64 n, .int .i64 o, .int .u32 a, .int .i64 ws, .int .i64 t]] w _
  obtain ⟨X, hX⟩ : ∃ X, w.heap.size = X := ⟨_, rfl⟩
  obtain ⟨W0, hW0⟩ : ∃ W0, w.alloc (.cells #[.int .i64 n, .int .i64 o, .int .u32 a, .int .i64 ws, .int .i64 t] 25) = W0 := ⟨_, rfl⟩
  have B0 : Hid (Below X w W0) := by rw [← hW0, ← hX]; exact (Below.refl _ _).alloc (Nat.le_refl _) _
  have HX0 : Hid (W0.heap[X]? = some (.cells #[.int .i64 n, .int .i64 o, .int .u32 a, .int .i64 ws, .int .i64 t] 25 (0, 0))) := by rw [← hW0, ← hX]; exact heap_alloc_new _ _
  have S0 : Hid (X < W0.heap.size) := by rw [← hW0, ← hX]; unfold Hid; simp
  have HL0 : Hid (Laid W0) := hL.below (by rw [hX]; exact B0.out)
  have CV := Lib.hid (CV0 W0 HL0.out)
  clear CV0 hv hL
  have x0 : W0.cell? ⟨X, 0, none⟩ = some (.int .i64 n) := by rw [(row_cell HX0.out 0).1]; rfl
  have x1 : W0.cell? ⟨X, 1, none⟩ = some (.int .i64 o) := by rw [(row_cell HX0.out 1).1]; rfl
  have x2 : W0.cell? ⟨X, 2, none⟩ = some (.int .u32 a) := by rw [(row_cell HX0.out 2).1]; rfl
  have x3 : W0.cell? ⟨X, 3, none⟩ = some (.int .i64 ws) := by rw [(row_cell HX0.out 3).1]; rfl
  have x4 : W0.cell? ⟨X, 4, none⟩ = some (.int .i64 t) := by rw [(row_cell HX0.out 4).1]; rfl
  simp only [hX]
  go_enter Tryd.func13, Tryd.ntmps13
  go_wp2_with fail
  refine CV.out.mono ?_
  rintro e w1 ⟨rfl, hb⟩
  have HX1 : Hid (w1.heap[X]? = some (.cells #[.int .i64 n, .int .i64 o, .int .u32 a, .int .i64 ws, .int .i64 t] 25 (0, 0))) := (hb.block X S0.out).trans HX0.out
  have B1 : Hid (Below X w w1) := B0.out.trans (hb.mono (Nat.le_of_lt S0.out))
  have HL1 : Hid (Laid w1) := HL0.out.below hb
  clear hb x0 x1 x2 x3 x4 hW0
  cases v
  · go_wp2_with fail
    go_ret
    exact ⟨by rw [HP.out]; rfl, B1.out⟩
  · obtain ⟨h1, h2, _⟩ := VF rfl
    obtain ⟨k, hk0, hk⟩ := is_nat h1
    replace hk0 : n = (k : Int) := hk0
    subst hk0
    have hw := fits_wds h2
    replace hw : 0 ≤ ws ∧ ws ≤ 32 := ⟨hw.2.2.1, hw.2.2.2.1⟩
    have hp := price_le k hk
    obtain ⟨p, hpp⟩ : ∃ p, priceL.getD k 0 = p := ⟨_, rfl⟩
    have c2 : w1.cell? ⟨0, k * 3 + 2, none⟩ = some (.int .i64 p) := by rw [← hpp]; exact (HL1.out.row k hk).2.2
    have HQ : Hid (priceV ⟨(k : Int), o, a, ws, t⟩ = p + ws) := by unfold Hid; rw [HP.out, ← hpp]; rfl
    rw [hpp] at hp
    have e1 : IntKind.i64.wrap (p + ws) = p + ws := by rw [IntKind.wrap_i64]; omega
    have hkI : (k : Int) < 28 := by omega
    clear VF h1 h2 hpp hp hw
    have x0 : w1.cell? ⟨X, 0, none⟩ = some (.int .i64 (k : Int)) := by rw [(row_cell HX1.out 0).1]; rfl
    have x1 : w1.cell? ⟨X, 1, none⟩ = some (.int .i64 o) := by rw [(row_cell HX1.out 1).1]; rfl
    have x2 : w1.cell? ⟨X, 2, none⟩ = some (.int .u32 a) := by rw [(row_cell HX1.out 2).1]; rfl
    have x3 : w1.cell? ⟨X, 3, none⟩ = some (.int .i64 ws) := by rw [(row_cell HX1.out 3).1]; rfl
    have x4 : w1.cell? ⟨X, 4, none⟩ = some (.int .i64 t) := by rw [(row_cell HX1.out 4).1]; rfl
    go_upto_region 3 with fail
    go_quiet (fail)
    go_wp2_with fail
    go_ret
    exact ⟨by rw [HQ.out]; rfl, below_drewN B1.out _⟩
set_option maxRecDepth 100000 in
set_option maxHeartbeats 8000000 in
theorem most_any (n : Int) (w : World) (hL : Laid w) : Calls Tryd.prog 15 #[.int .i64 n] w fun e w' => e = .returned (.int .i64 (mostV n)) ∧ Below w.heap.size w w' := by
  have CX := Lib.hid (exists_any n w)
  obtain ⟨v, hv⟩ : ∃ v, is n = v := ⟨_, rfl⟩
  have HP : Hid (mostV n = if v then priceL.getD n.toNat 0 + (if wB n then 32 else 0) else 0) := by unfold Hid mostV; rw [hv]
  rw [hv] at CX
  obtain ⟨X, hX⟩ : ∃ X, w.heap.size = X := ⟨_, rfl⟩
  rw [hX] at CX ⊢
  go_enter Tryd.func15, Tryd.ntmps15
  go_wp2_with fail
  refine CX.out.mono ?_
  rintro e w1 ⟨rfl, hb⟩
  have B1 := Lib.hid hb
  have HL1 : Hid (Laid w1) := hL.below (by rw [hX]; exact hb)
  clear hb CX hL
  cases v
  · go_wp2_with fail
    go_ret
    exact ⟨by rw [HP.out]; rfl, B1.out⟩
  · obtain ⟨k, hk0, hk⟩ := is_nat hv
    subst hk0
    have hkI : (k : Int) < 28 := by omega
    have CH := Lib.hid (has_any (k : Int) 0 0 0 0 4 hv (.inr (.inr (.inl rfl))) w1 HL1.out)
    rw [show hasV (k : Int) 4 = wB (k : Int) from rfl] at CH
    obtain ⟨b, hb⟩ : ∃ b, wB (k : Int) = b := ⟨_, rfl⟩
    rw [hb] at CH
    have hp := price_le k hk
    obtain ⟨p, hpp⟩ : ∃ p, priceL.getD k 0 = p := ⟨_, rfl⟩
    have HQ : Hid (mostV (k : Int) = p + (if b then 32 else 0)) := by unfold Hid; rw [HP.out, ← hpp, hb]; rfl
    rw [hpp] at hp
    have e1 : IntKind.i64.wrap (p + 32) = p + 32 := by rw [IntKind.wrap_i64]; omega
    clear hb hp
    go_wp2_with fail
    refine CH.out.mono ?_
    rintro e w2 ⟨rfl, hb⟩
    have c2 : w2.cell? ⟨0, k * 3 + 2, none⟩ = some (.int .i64 p) := by rw [← hpp]; exact ((HL1.out.below hb).row k hk).2.2
    have B2 : Hid (Below X w w2) := B1.out.trans (hb.mono (by rw [← hX]; exact (hX ▸ B1.out).size))
    clear hb CH hpp
    cases b
    · go_wp2_with fail
      go_ret
      exact ⟨by rw [HQ.out]; simp, B2.out⟩
    · go_wp2_with fail
      go_ret
      exact ⟨by rw [HQ.out]; rfl, B2.out⟩
set_option maxRecDepth 100000 in
set_option maxHeartbeats 8000000 in
theorem word_any (n : Int) (w : World) (hL : Laid w) : Calls Tryd.prog 20 #[.int .i64 n] w fun e w' => e = .returned (wordA n) ∧ Below w.heap.size w w' := by
  have CX := Lib.hid (exists_any n w)
  obtain ⟨v, hv⟩ : ∃ v, is n = v := ⟨_, rfl⟩
  have HP : Hid (wordA n = if v then wordV n.toNat else .string ⟨#[]⟩) := by unfold Hid wordA; rw [hv]
  rw [hv] at CX
  obtain ⟨X, hX⟩ : ∃ X, w.heap.size = X := ⟨_, rfl⟩
  rw [hX] at CX ⊢
  go_enter Tryd.func20, Tryd.ntmps20
  go_wp2_with fail
  refine CX.out.mono ?_
  rintro e w1 ⟨rfl, hb⟩
  have B1 := Lib.hid hb
  have HL1 : Hid (Laid w1) := hL.below (by rw [hX]; exact hb)
  clear hb CX hL
  cases v
  · go_wp2_with fail
    go_ret
    exact ⟨by rw [HP.out]; rfl, B1.out⟩
  · obtain ⟨k, hk0, hk⟩ := is_nat hv
    subst hk0
    have hkI : (k : Int) < 28 := by omega
    obtain ⟨p, hpp⟩ : ∃ p, byteL.getD k #[] = p := ⟨_, rfl⟩
    have c2 : w1.cell? ⟨0, k * 3, none⟩ = some (.string ⟨p⟩) := by rw [← hpp]; exact (HL1.out.row k hk).1
    have E : Hid (wordA (k : Int) = .string ⟨p⟩) := by unfold Hid; rw [HP.out]; show wordV k = _; unfold wordV; rw [hpp]
    clear hpp
    go_wp2_with fail
    go_ret
    exact ⟨by rw [E.out]; rfl, B1.out⟩
end Go.Proofs.YtglpbngdikfliaaDoor.Ca
