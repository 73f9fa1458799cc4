/-
  The statements' memory's Store of any memory; a word pushed, a word popped. Each statement bears its own conditions.
-/
import Derived.Test.YthmalhakkdjilaaDoorCpZ
namespace Go.Proofs.YthmalhakkdjilaaDoor
open Go.RowKit
set_option linter.unusedVariables false
set_option linter.unusedSimpArgs false
theorem store_any (gm : Nat) (mv : Value) (μ : MS) (ng : Nat → Prop) (a x : Int) (w : World) (h : MM w gm mv μ ng) (hng : ∀ q, ng q → q < w.heap.size) (ha : U32 a) (hx : U32 x) :
    Calls Tryd.prog 76 #[.pointer (some ⟨gm, 0, none⟩), .int .u32 a, .int .u32 x] w fun e w' => e = .returned (.int .i64 (stV μ a x).2) ∧ MM w' gm mv (stV μ a x).1 ng ∧ Past gm w w' := by
  obtain ⟨v, hmv, h1, h2, h3⟩ := h.ex
  obtain ⟨A, cap, rfl, hc⟩ := h3.ex
  obtain ⟨W, code, st⟩ := μ
  have hlen := h.len
  have hcode := h.code
  have hst := h.st
  have hu := h.u32
  dsimp only at h1 h3 hc hlen hcode hst hu ⊢
  obtain ⟨k, rfl⟩ : ∃ k : Nat, a = (k : Int) := ⟨a.toNat, by have := ha.1; omega⟩
  obtain ⟨n, hn⟩ : ∃ n, W.length = n := ⟨_, rfl⟩
  have hk2 := ha.2
  unfold stV
  dsimp only
  rw [hn] at h1 hc hlen ⊢
  by_cases hkn : k < n
  · have hkI : (k : Int) < n := by omega
    rw [if_pos hkI]
    by_cases hkc : k < code
    · have hcI : (k : Int) < code := by omega
      rw [if_pos hcI]
      refine (store_bad gm A n cap code k st x w h1 hlen hcode hk2 (.inr hkc)).mono ?_
      rintro e w' ⟨rfl, hb⟩
      rw [if_neg (by omega)]
      exact ⟨rfl, h.below hb, Past.of_below hb⟩
    · have hcI : ¬ (k : Int) < code := by omega
      rw [if_neg hcI]
      obtain ⟨rb, off, hA, hr1, hr2, hr3⟩ := hc (by omega)
      have hR : Reads w w.heap.size 1 A n (CW W) := ⟨by rw [CW_len]; omega, fun _ => ⟨_, hA, hr2, fun j u hj => by
        have hjl : j < W.length := by have := (List.getElem?_eq_some_iff.1 hj).1; rw [CW_len] at this; exact this
        rw [CW_at W j hjl] at hj
        injection hj with hj
        subst hj
        rw [Addr.add_lit]
        exact hr3 j (by omega)⟩⟩
      refine (store_ok gm A n cap code k st x W w h1 hR hlen hcode hkn (by omega)).mono ?_
      rintro e w' ⟨rfl, ⟨v', hg', ho'⟩, hp⟩
      refine ⟨rfl, ⟨⟨v', hmv, hg', h2, ?_⟩, ?_, ?_, ?_, ?_⟩, hp⟩
      · simp only [Int.toNat_natCast]
        refine SlW.of_own (B := w.heap.size) (e := 22) (by rw [List.length_set, hn]; exact ho') ?_
        rintro b hb _ (e | e)
        · have := h.lt; omega
        · have := hng b e; omega
      · simp only [List.length_set]; omega
      · intro y hy
        dsimp only at hy
        rcases List.mem_or_eq_of_mem_set hy with hy | hy
        · exact hu y hy
        · rw [hy]; exact hx
      · exact hcode
      · dsimp only; rw [IntKind.wrap_i64]; exact ⟨by omega, by omega⟩
  · have hkI : ¬ (k : Int) < n := by omega
    rw [if_neg hkI]
    refine (store_bad gm A n cap code k st x w h1 hlen hcode hk2 (.inl (by omega))).mono ?_
    rintro e w' ⟨rfl, hb⟩
    rw [if_pos (by omega)]
    exact ⟨rfl, h.below hb, Past.of_below hb⟩
end Go.Proofs.YthmalhakkdjilaaDoor
