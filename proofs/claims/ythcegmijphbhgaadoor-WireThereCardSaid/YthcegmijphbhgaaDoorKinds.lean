/-
  The four reads, case by case, of the reader and of the document's. Each statement bears its own conditions.
-/
import Derived.Test.YthcegmijphbhgaaDoorRStr
namespace Go.Proofs.YthcegmijphbhgaaDoor
open Go.RowKit
set_option linter.unusedSimpArgs false
set_option linter.unusedVariables false
def failE (er : Int) : Int := if er = 0 then 4 else er
theorem drop_nil {l : List Int} {at_ : Nat} (h : ¬ at_ + 1 ≤ l.length) : l.drop at_ = [] := List.drop_eq_nil_of_le (by omega)
theorem byte_bad (w : World) (r at_ : Nat) (er : Int) (l : List Int) (h : RdF w r at_ er l) (hb : ¬ (er = 0 ∧ at_ + 1 ≤ l.length)) :
    Calls Tryd.prog 19 #[.pointer (some ⟨r, 0, none⟩)] w fun e w' => e = .returned (.int .u8 0) ∧ RdF w' r at_ (failE er) l ∧ Past r w w' := by
  refine (byte_any w r at_ er l h).mono ?_
  rintro e w' ⟨h1, h2, h3⟩
  by_cases he : er = 0
  · have hn := drop_nil (l := l) (at_ := at_) (fun hh => hb ⟨he, hh⟩)
    simp only [if_pos he, hn] at h1 h2
    refine ⟨h1, ?_, h3⟩
    simpa [byteK, byteR, failE, he] using h2
  · simp only [if_neg he] at h1 h2
    exact ⟨h1, by simpa [failE, he] using h2, h3⟩
theorem byte_good (w : World) (r at_ : Nat) (l : List Int) (h : RdF w r at_ 0 l) (hb : at_ + 1 ≤ l.length) :
    Calls Tryd.prog 19 #[.pointer (some ⟨r, 0, none⟩)] w fun e w' => e = .returned (.int .u8 (l.getD at_ 0)) ∧ RdF w' r (at_ + 1) 0 l ∧ Past r w w' := by
  refine (byte_any w r at_ 0 l h).mono ?_
  rintro e w' ⟨h1, h2, h3⟩
  have hn : l.drop at_ ≠ [] := fun e => by have := congrArg List.length e; simp at this; omega
  have hh : byteV (l.drop at_) = l.getD at_ 0 := by
    unfold byteV
    rw [List.headD_eq_head?_getD, List.head?_drop, List.getD_eq_getElem?_getD]
  simp only [if_true, hh, byteK, byteR, if_neg hn] at h1 h2
  exact ⟨h1, h2, h3⟩
theorem word_bad (w : World) (r at_ : Nat) (er : Int) (l : List Int) (h : RdF w r at_ er l) (hb : ¬ (er = 0 ∧ at_ + 4 ≤ l.length)) :
    Calls Tryd.prog 21 #[.pointer (some ⟨r, 0, none⟩)] w fun e w' => e = .returned (.int .u32 0) ∧ RdF w' r at_ (failE er) l ∧ Past r w w' := by
  refine (word_any w r at_ er l h).mono ?_
  rintro e w' ⟨h1, h2, h3⟩
  by_cases he : er = 0
  · have hn : (l.drop at_).length < 4 := by rw [List.length_drop]; have : ¬ at_ + 4 ≤ l.length := fun hh => hb ⟨he, hh⟩; omega
    simp only [if_pos he, wordW, wordK, wordR, if_pos hn] at h1 h2
    exact ⟨h1, by simpa [failE, he] using h2, h3⟩
  · simp only [if_neg he] at h1 h2
    exact ⟨h1, by simpa [failE, he] using h2, h3⟩
theorem word_good (w : World) (r at_ : Nat) (l : List Int) (h : RdF w r at_ 0 l) (hb : at_ + 4 ≤ l.length) :
    Calls Tryd.prog 21 #[.pointer (some ⟨r, 0, none⟩)] w fun e w' => e = .returned (.int .u32 (wordV (l.drop at_))) ∧ RdF w' r (at_ + 4) 0 l ∧ Past r w w' := by
  refine (word_any w r at_ 0 l h).mono ?_
  rintro e w' ⟨h1, h2, h3⟩
  have hn : ¬ (l.drop at_).length < 4 := by rw [List.length_drop]; omega
  simp only [if_true, wordW, wordK, wordR, if_neg hn] at h1 h2
  exact ⟨h1, h2, h3⟩
theorem take_bad (A : Option Addr) (n c at_ q : Nat) (er : Int) (w : World) (hn : n ≤ 1048576) (ha : at_ ≤ n) (hb : ¬ (er = 0 ∧ at_ + q ≤ n)) :
    Calls Tryd.prog 20 #[.agg #[.slice A n c, .int .i64 (at_ : Int), .int .i64 er], .int .i64 (q : Int)] w fun e w' => e = .returned (.tuple #[.agg #[.slice A n c, .int .i64 (at_ : Int), .int .i64 (failE er)], .slice none 0 0]) ∧ Below w.heap.size w w' := by
  by_cases he : er = 0
  · subst he
    exact rtake_short A n c at_ q w hn ha (by omega)
  · have := rtake_err A n c at_ er q w he
    rw [show failE er = er by simp [failE, he]]
    exact this
theorem wordV_wrap (l : List Int) (h : Bytes l) (h4 : 4 ≤ l.length) : IntKind.u64.wrap (wordV l) = wordV l := by
  have a := h 0 (by omega); have b := h 1 (by omega); have c := h 2 (by omega); have d := h 3 (by omega)
  unfold wordV
  rw [IntKind.wrap_u64]; omega
end Go.Proofs.YthcegmijphbhgaaDoor
