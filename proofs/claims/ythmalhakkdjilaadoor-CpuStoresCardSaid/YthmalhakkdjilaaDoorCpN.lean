/-
  Step where there is no memory, and over the statements' memory. Each statement bears its own conditions.
-/
import Derived.Test.YthmalhakkdjilaaDoorCpL
namespace Go.Proofs.YthmalhakkdjilaaDoor
open Go.RowKit
set_option linter.unusedVariables false
set_option linter.unusedSimpArgs false
def MemNil (w : World) (μ : MS) (ng : Nat → Prop) : Prop := True
theorem domNil : Dom MemNil (fun _ => False) := ⟨fun _ _ _ _ => trivial⟩
def stNil (r : List Int) (μ : MS) : SR := ⟨r, 0, -1, 1, μ⟩
theorem scNil : SC MemNil (fun _ => False) .nilIface (fun _ _ => True) stNil := by
  intro r μ W em ng B hr _ _ _ _ _ _
  refine ⟨hr, (step_err r .nilIface em ⟨0, 0, 0, 0, 0, 1⟩ W hr (by decide) (fun V _ => next_nil r V)).mono ?_⟩
  rintro e w' ⟨rfl, hb⟩
  exact ⟨rfl, trivial, PS.of_below hb⟩
/-- A step over words. -/
def stV1 (r : List Int) (μ : MS) : SR :=
  let x := nextV r μ
  if x.e = 0 then
    let y := effV x.o.toNat x.a x.b x.n (r.set 16 (IntKind.u32.wrap (r.getD 16 0 + 1))) μ
    if y.e = 0 then ⟨settledV y.r, x.t, y.c, 0, y.μ⟩ else ⟨r, x.t, -1, y.e, y.μ⟩
  else ⟨r, x.t, -1, x.e, μ⟩
theorem dec_ok {x : Int} (h : (decV x).e = 0) : ∃ k : Nat, (decV x).o = (k : Int) ∧ k < 24 ∧ InOk (decV x).a (decV x).b (decV x).n ∧ validV (decV x).o (decV x).a (decV x).b (decV x).n = true := by
  unfold decV at h ⊢
  split at h
  next hv =>
    rw [if_pos hv]
    have := valid_of hv
    exact ⟨(x / 134217728).toNat, by dsimp only; omega, by omega, ⟨by dsimp only; omega, by dsimp only; omega, by dsimp only; omega⟩, hv⟩
  next => cases h
theorem next_ok {r : List Int} {μ : MS} (h : (nextV r μ).e = 0) : DepOk r ∧ ∃ k : Nat, (nextV r μ).o = (k : Int) ∧ k < 24 ∧ InOk (nextV r μ).a (nextV r μ).b (nextV r μ).n ∧ validV (nextV r μ).o (nextV r μ).a (nextV r μ).b (nextV r μ).n = true := by
  unfold nextV at h ⊢
  split at h
  next => cases h
  next hd =>
    rw [if_neg hd]
    refine ⟨⟨by omega, by omega⟩, ?_⟩
    split at h
    next he => rw [if_pos he]; exact dec_ok h
    next he => exact absurd h he
/-- Effects that leave registers as they must be. -/
def Fine (k : Nat) : Prop := ∀ (a b n : Int) (r : List Int) (μ : MS), (∀ x ∈ μ.W, 0 ≤ x ∧ x < 4294967296) → RegOk r → DepOk r → InOk a b n → (effV k a b n r μ).e = 0 → RegOk (effV k a b n r μ).r ∧ DepOk (effV k a b n r μ).r
theorem RegOk.settled {r : List Int} (hr : RegOk r) (hd : DepOk r) : RegOk (settledV r) := by
  have h := hr.lefts 8 hd
  have hl := h.1.len
  unfold settledV
  show RegOk (if endsV (leftsV 8 r) = true then ((leftsV 8 r).set (20 + 3 * ((leftsV 8 r).getD 44 0 - 1).toNat + 2) (IntKind.i64.wrap ((leftsV 8 r).getD (20 + 3 * ((leftsV 8 r).getD 44 0 - 1).toNat + 2) 0 - 1))).set 16 ((leftsV 8 r).getD (20 + 3 * ((leftsV 8 r).getD 44 0 - 1).toNat) 0) else leftsV 8 r)
  split
  next he =>
    have h0 := ends_dep he
    have hd2 := h.2
    unfold DepOk at hd2
    have hd8 : ((leftsV 8 r).getD 44 0 - 1).toNat < 8 := by omega
    refine (h.1.set _ _ ?_).set 16 _ ?_
    · rw [kd_left hd8, IntKind.wrap_i64]; exact ⟨by omega, by omega⟩
    · rw [kd_reg (by omega)]
      have := h.1.num (20 + 3 * ((leftsV 8 r).getD 44 0 - 1).toNat) (by omega)
      rw [kd_from hd8] at this
      exact this
  next => exact h.1
theorem domMem (gm : Nat) (mv : Value) : Dom (fun w μ ng => MM w gm mv μ ng) (fun b => b = gm) := ⟨fun h hs hk hg => h.keep _ hs hk hg⟩
/-- A step over words is what is said, where the operation's effect is. -/
theorem scMem (gm : Nat) (mv : Value) : SC (fun w μ ng => MM w gm mv μ ng) (fun b => b = gm) mv (fun r μ => (nextV r μ).e = 0 → EffC (nextV r μ).o.toNat (effV (nextV r μ).o.toNat) ∧ Fine (nextV r μ).o.toNat) stV1 := by
  intro r μ W em ng B hr hok hm hng hL hE hB
  have CN : ∀ V, Below W.heap.size W V → Calls Tryd.prog 45 #[.agg (cells r).toArray, mv] V fun e w' => e = .returned (nextV r μ).val ∧ Below V.heap.size V w' := fun V hb => next_any r V gm mv μ ng hr (hm.below hb) (hL.below hb)
  by_cases hx : (nextV r μ).e = 0
  · obtain ⟨hd, k, hk, hk24, hi, hv⟩ := next_ok hx
    obtain ⟨hec, hfi⟩ := hok hx
    have hkt : (nextV r μ).o.toNat = k := by rw [hk]; simp
    rw [hkt] at hec hfi
    have hr1 : RegOk (r.set 16 (IntKind.u32.wrap (r.getD 16 0 + 1))) := hr.set 16 _ (by rw [kd_reg (by omega), IntKind.wrap_u32]; exact ⟨by omega, by omega⟩)
    have hd1 : DepOk (r.set 16 (IntKind.u32.wrap (r.getD 16 0 + 1))) := by unfold DepOk at hd ⊢; rw [getD_set_ne _ (by omega)]; exact hd
    have hs : stV1 r μ = if (effV k (nextV r μ).a (nextV r μ).b (nextV r μ).n (r.set 16 (IntKind.u32.wrap (r.getD 16 0 + 1))) μ).e = 0 then ⟨settledV (effV k (nextV r μ).a (nextV r μ).b (nextV r μ).n (r.set 16 (IntKind.u32.wrap (r.getD 16 0 + 1))) μ).r, (nextV r μ).t, (effV k (nextV r μ).a (nextV r μ).b (nextV r μ).n (r.set 16 (IntKind.u32.wrap (r.getD 16 0 + 1))) μ).c, 0, (effV k (nextV r μ).a (nextV r μ).b (nextV r μ).n (r.set 16 (IntKind.u32.wrap (r.getD 16 0 + 1))) μ).μ⟩ else ⟨r, (nextV r μ).t, -1, (effV k (nextV r μ).a (nextV r μ).b (nextV r μ).n (r.set 16 (IntKind.u32.wrap (r.getD 16 0 + 1))) μ).e, (effV k (nextV r μ).a (nextV r μ).b (nextV r μ).n (r.set 16 (IntKind.u32.wrap (r.getD 16 0 + 1))) μ).μ⟩ := by
      unfold stV1
      simp only [hx, if_true, hkt]
    have hfin := hfi (nextV r μ).a (nextV r μ).b (nextV r μ).n (r.set 16 (IntKind.u32.wrap (r.getD 16 0 + 1))) μ hm.u32 hr1 hd1 hi
    have C := step_go r mv em (nextV r μ) k gm B μ (effV k) W hr hd hx hk hk24 hi ng hm hng hE (hB gm rfl) hec hfin CN
    rw [hs]
    obtain ⟨y, hy⟩ : ∃ y, effV k (nextV r μ).a (nextV r μ).b (nextV r μ).n (r.set 16 (IntKind.u32.wrap (r.getD 16 0 + 1))) μ = y := ⟨_, rfl⟩
    rw [hy] at hfin C ⊢
    by_cases hz : y.e = 0
    · rw [if_pos hz]
      refine ⟨(hfin hz).1.settled (hfin hz).2, C.mono ?_⟩
      rintro e w' ⟨rfl, h1, h2⟩
      refine ⟨?_, h1, ⟨h2.os, h2.tape, h2.output, h2.size, h2.block⟩⟩
      unfold stepVal SR.val; rw [if_pos hz]
    · rw [if_neg hz]
      refine ⟨hr, C.mono ?_⟩
      rintro e w' ⟨rfl, h1, h2⟩
      refine ⟨?_, h1, ⟨h2.os, h2.tape, h2.output, h2.size, h2.block⟩⟩
      unfold stepVal SR.val; rw [if_neg hz]
  · have hs : stV1 r μ = ⟨r, (nextV r μ).t, -1, (nextV r μ).e, μ⟩ := by unfold stV1; simp only [hx, if_false]
    rw [hs]
    refine ⟨hr, (step_err r mv em (nextV r μ) W hr hx CN).mono ?_⟩
    rintro e w' ⟨rfl, hb⟩
    exact ⟨rfl, hm.below hb, PS.of_below hb⟩
theorem num_u32 (x : Int) : Num .u32 (IntKind.u32.wrap x) := by rw [IntKind.wrap_u32]; exact ⟨by omega, by omega⟩
theorem depOk_reg {r : List Int} {j : Nat} {x : Int} (h : DepOk r) (hj : j < 44) : DepOk (r.set j x) := by unfold DepOk at h ⊢; rw [getD_set_ne _ (by omega)]; exact h
theorem word_u32 (k : Nat) (hk : k ≤ 6) {x y : Int} (hx : U32 x) (hy : U32 y) (h0 : k ≠ 0) : U32 (wordF k x y) := by
  unfold wordF
  split
  · exact hy
  split
  · exact num_u32 _
  split
  · exact num_u32 _
  split
  · exact num_u32 _
  · omega
theorem fine_reg (k : Nat) (h0 : k ≠ 0) (hk : k ≤ 6) : Fine k := by
  intro a b n r μ _ hr hd hi _
  have hA : a.toNat < 16 := by have := hi.a; omega
  have hB : b.toNat < 16 := by have := hi.b; omega
  have hx := hr.u32 (j := a.toNat) (by omega)
  have hy := hr.u32 (j := b.toNat) (by omega)
  unfold effV
  rw [if_neg h0]
  by_cases h1 : k = 1 ∨ k = 4 ∨ k = 11 ∨ k = 12
  · rw [if_pos h1]
    exact ⟨hr.set _ _ (by rw [kd_reg (by omega)]; exact word_u32 k hk hx (num_u32 n) h0), depOk_reg hd (by omega)⟩
  · rw [if_neg h1, if_pos (by omega)]
    exact ⟨hr.set _ _ (by rw [kd_reg (by omega)]; exact word_u32 k hk hx hy h0), depOk_reg hd (by omega)⟩
theorem fine_trap : Fine 23 := fun a b n r μ _ hr hd hi _ => ⟨hr, hd⟩
theorem fine_loop : Fine 18 := by
  intro a b n r μ _ hr hd hi he
  have e1 : effV 18 a b n r μ = if r.getD 44 0 = 8 then (⟨21, r, -1, μ⟩ : ER) else ⟨0, loopR r a b n, -1, μ⟩ := rfl
  rw [e1] at he ⊢
  split at he
  next => cases he
  next h8 =>
    rw [if_neg h8]
    have hl := hr.len
    have ha := hi.a
    have hb := hi.b
    have hn := hi.n
    unfold DepOk at hd
    obtain ⟨d, hdd⟩ : ∃ d : Nat, r.getD 44 0 = (d : Int) := ⟨(r.getD 44 0).toNat, by omega⟩
    have hd8 : d < 8 := by omega
    have k0 := kd_from hd8
    have k1 := kd_end hd8
    have k2 := kd_left hd8
    rw [Nat.mul_comm 3 d] at k0 k1 k2
    unfold loopR
    rw [hdd]
    simp only [Int.toNat_natCast]
    refine ⟨(((hr.set _ _ ?_).set _ _ ?_).set _ _ ?_).set _ _ ?_, ?_⟩
    · rw [k0]; exact hr.u32 (by omega)
    · rw [k1]; exact num_u32 _
    · rw [k2]; exact ⟨by omega, by omega⟩
    · rw [kd_dep]; exact ⟨by omega, by omega⟩
    · unfold DepOk
      rw [getD_set_self _ (by simp; omega)]
      omega
end Go.Proofs.YthmalhakkdjilaaDoor
