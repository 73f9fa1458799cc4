/-
  Receivers as plain things. Each statement bears its own conditions.
-/
import Derived.Test.YtkbjonblflhkoaaLnV
namespace Go.Proofs.Ytkbjonblflhkoaa.Ln
open Go.RowKit Go.Proofs.Ytkbjonblflhkoaa.F Go.Proofs.Ytkbjonblflhkoaa.U Go.Proofs.Ytkbjonblflhkoaa.Q
set_option linter.unusedVariables false
set_option linter.unusedSimpArgs false
/-- One number on. -/
def shN (A : Nat) : Nat := (2 * A) % 18446744073709551616
def advA (A : Nat) : Nat → Nat
  | 0 => A
  | k + 1 => shN (advA A k)
def advL (A : Nat) : Nat → Nat
  | 0 => 0
  | k + 1 => advL A k + if (advA A k).testBit 63 = true then 0 else 1
theorem shN_lt (A : Nat) : shN A < 18446744073709551616 := Nat.mod_lt _ (by decide)
theorem advA_lt {A : Nat} (h : A < 18446744073709551616) : ∀ d, advA A d < 18446744073709551616
  | 0 => h
  | k + 1 => shN_lt _
theorem advL_le (A : Nat) : ∀ d, advL A d ≤ d
  | 0 => Nat.le_refl _
  | k + 1 => by
    have := advL_le A k
    unfold advL
    split <;> omega
theorem shN_int (B : Nat) : IntKind.u64.wrap ((B : Int) * 2) = ((shN B : Nat) : Int) := by
  rw [IntKind.wrap_u64]
  unfold shN
  omega
theorem top_bit {B : Nat} (h : B < 18446744073709551616) : B.testBit 63 = decide (9223372036854775808 ≤ B) := by
  rw [Nat.testBit_eq_decide_div_mod_eq]
  congr 1
  rw [eq_iff_iff]
  omega
structure AdR (g : Nat) (n nw : Int) (A d : Nat) (ls : Int) (w : World) (iv : Value) (wr : World) : Prop where
  ex : ∃ j : Nat, j ≤ d ∧ iv = .int .i64 (j : Int) ∧ wr.heap[g]? = some (.cells #[.int .i64 n, .int .i64 nw, .int .u64 (((advA A j) : Nat) : Int), .int .i64 (ls + (advL A j : Int))] 90 (0, 0)) ∧ Fo (fun b => b = g) w wr
set_option maxRecDepth 100000 in
set_option maxHeartbeats 8000000 in
theorem advance_any (g : Nat) (n nw : Int) (A d : Nat) (ls : Int) (w : World) (h : w.heap[g]? = some (.cells #[.int .i64 n, .int .i64 nw, .int .u64 ((A : Nat) : Int), .int .i64 ls] 90 (0, 0))) (hd : 1 ≤ d ∧ d ≤ 127) (hA : A < 18446744073709551616) (hn : 0 ≤ nw ∧ nw < 256) (hl : 0 ≤ ls ∧ ls ≤ 1099511627776) :
    Calls Try.prog 37 #[.pointer (some ⟨g, 0, none⟩), .int .i64 (d : Int)] w fun e w' => e = .returned (.tuple #[]) ∧ w'.heap[g]? = some (.cells #[.int .i64 n, .int .i64 ((nw + (d : Int)).tmod 256), .int .u64 (((advA A d) : Nat) : Int), .int .i64 (ls + (advL A d : Int))] 90 (0, 0)) ∧ Fo (fun b => b = g) w w' := by
  have HD := Lib.hid hd
  have HN := Lib.hid hn
  have HL := Lib.hid hl
  have HH := Lib.hid h
  have HA := Lib.hid hA
  have hd1 : (d : Int) ≤ 127 := by omega
  clear h hd hn hl hA
  go_enter Try.func37, Try.ntmps37
  go_wp2_with fail
  go_loopw [5] (fun iv wr => AdR g n nw A d ls w iv wr) (fun i _ => d - (intOf i).toNat)
  case atStart => exact ⟨⟨0, Nat.zero_le _, rfl, by simpa [advA, advL] using HH.out, Fo.refl _ _⟩⟩
  case round =>
    obtain ⟨⟨j, hj, rfl, hg, hf⟩⟩ := hrel
    have HG := Lib.hid hg
    have HF := Lib.hid hf
    clear hg hf
    by_cases hlt : j < d
    rotate_left
    · have hjd : j = d := by omega
      subst hjd
      have hjI : ¬ (j : Int) < (j : Int) := by omega
      have HRM : Hid (0 ≤ nw + (j : Int) ∧ nw + (j : Int) < 400) := by have := HN.out; have := HD.out; unfold Hid; omega
      have hW : IntKind.i64.wrap (nw + (j : Int)) = nw + (j : Int) := by have := HRM.out; rw [IntKind.wrap_i64]; omega
      have d0 : wr.cell? ⟨g, 0, none⟩ = some (.int .i64 n) := by rw [(row_cell HG.out 0).1]; rfl
      have d1 : wr.cell? ⟨g, 1, none⟩ = some (.int .i64 nw) := by rw [(row_cell HG.out 1).1]; rfl
      have d2 : wr.cell? ⟨g, 2, none⟩ = some (.int .u64 (((advA A j) : Nat) : Int)) := by rw [(row_cell HG.out 2).1]; rfl
      have d3 : wr.cell? ⟨g, 3, none⟩ = some (.int .i64 (ls + (advL A j : Int))) := by rw [(row_cell HG.out 3).1]; rfl
      have df1 : wr.frozen? ⟨g, 1, none⟩ = false := (row_cell HG.out 1).2
      have Q : Hid ((wr.setCell ⟨g, 1, none⟩ (.int .i64 ((nw + (j : Int)).tmod 256))).heap[g]? = some (.cells #[.int .i64 n, .int .i64 ((nw + (j : Int)).tmod 256), .int .u64 (((advA A j) : Nat) : Int), .int .i64 (ls + (advL A j : Int))] 90 (0, 0)) ∧ Fo (fun b => b = g) w (wr.setCell ⟨g, 1, none⟩ (.int .i64 ((nw + (j : Int)).tmod 256)))) :=
        ⟨by simpa using set_at HG.out 1 (.int .i64 ((nw + (j : Int)).tmod 256)), HF.out.setCell (.inl rfl) 1 _⟩
      clear hlt hj
      go_wp2_with (first | go_end0)
      try go_end0
      all_goals first | exact ⟨rfl, Q.out⟩ | exact Q.out
    have hjI : (j : Int) < (d : Int) := by omega
    have HX : Hid (j < d) := hlt
    obtain ⟨B, hB⟩ : ∃ B, advA A j = B := ⟨_, rfl⟩
    obtain ⟨l1, hl1⟩ : ∃ l1, ls + (advL A j : Int) = l1 := ⟨_, rfl⟩
    have HB : Hid (B < 18446744073709551616) := by rw [← hB]; exact advA_lt HA.out j
    have HL1 : Hid (0 ≤ l1 ∧ l1 ≤ 1099511627903) := by have h1 := advL_le A j; have h2 := HL.out; unfold Hid; omega
    rw [hB, hl1] at HG
    have HSH := Lib.hid (shN_int B)
    have HEQ : Hid (advA A j = B ∧ ls + (advL A j : Int) = l1) := ⟨hB, hl1⟩
    have d0 : wr.cell? ⟨g, 0, none⟩ = some (.int .i64 n) := by rw [(row_cell HG.out 0).1]; rfl
    have d1 : wr.cell? ⟨g, 1, none⟩ = some (.int .i64 nw) := by rw [(row_cell HG.out 1).1]; rfl
    have d2 : wr.cell? ⟨g, 2, none⟩ = some (.int .u64 ((B : Nat) : Int)) := by rw [(row_cell HG.out 2).1]; rfl
    have d3 : wr.cell? ⟨g, 3, none⟩ = some (.int .i64 l1) := by rw [(row_cell HG.out 3).1]; rfl
    have df2 : wr.frozen? ⟨g, 2, none⟩ = false := (row_cell HG.out 2).2
    have df3 : wr.frozen? ⟨g, 3, none⟩ = false := (row_cell HG.out 3).2
    clear hlt hj hB hl1
    have hs := HSH.out
    by_cases hbit : 9223372036854775808 ≤ B
    · have hb : ((B : Int) / 9223372036854775808 == 0) = false := by rw [beq_eq_false_iff_ne]; have := HB.out; omega
      have hb2 : ¬ (B : Int) / 9223372036854775808 = 0 := by simpa using hb
      have HT : Hid (B.testBit 63 = true) := by unfold Hid; rw [top_bit HB.out]; simpa using hbit
      have Q : AdR g n nw A d ls w (.int .i64 ((j : Int) + 1)) (wr.setCell ⟨g, 2, none⟩ (.int .u64 ((shN B : Nat) : Int))) := by
        refine ⟨⟨j + 1, HX.out, by go_num, ?_, HF.out.setCell (.inl rfl) 2 _⟩⟩
        have h1 := set_at HG.out 2 (.int .u64 ((shN B : Nat) : Int))
        have e1 : advA A (j + 1) = shN B := by unfold advA; rw [HEQ.out.1]
        have e2 : advL A (j + 1) = advL A j := by
          show advL A j + (if (advA A j).testBit 63 = true then 0 else 1) = advL A j
          rw [HEQ.out.1, HT.out]; rfl
        rw [e1, e2, HEQ.out.2]
        simpa using h1
      have HQ := Lib.hid Q
      clear hbit Q
      go_wp2_with fail
      go_roundw
      case rel => first | exact HQ.out | ((repeat apply Exists.intro); exact ⟨HQ.out, rfl⟩)
      case measure => have := HX.out; simp [intOf]; omega
    · have hb : ((B : Int) / 9223372036854775808 == 0) = true := by rw [beq_iff_eq]; omega
      have hb2 : (B : Int) / 9223372036854775808 = 0 := by simpa using hb
      have HT : Hid (B.testBit 63 = false) := by unfold Hid; rw [top_bit HB.out]; simpa using hbit
      have hW : IntKind.i64.wrap (l1 + 1) = l1 + 1 := by have := HL1.out; rw [IntKind.wrap_i64]; omega
      have Q : AdR g n nw A d ls w (.int .i64 ((j : Int) + 1)) ((wr.setCell ⟨g, 3, none⟩ (.int .i64 (l1 + 1))).setCell ⟨g, 2, none⟩ (.int .u64 ((shN B : Nat) : Int))) := by
        refine ⟨⟨j + 1, HX.out, by go_num, ?_, (HF.out.setCell (.inl rfl) 3 _).setCell (.inl rfl) 2 _⟩⟩
        have h1 := set_at (set_at HG.out 3 (.int .i64 (l1 + 1))) 2 (.int .u64 ((shN B : Nat) : Int))
        have e1 : advA A (j + 1) = shN B := by unfold advA; rw [HEQ.out.1]
        have e2 : advL A (j + 1) = advL A j + 1 := by
          show advL A j + (if (advA A j).testBit 63 = true then 0 else 1) = advL A j + 1
          rw [HEQ.out.1, HT.out]; rfl
        have e3 : ls + ((advL A (j + 1) : Nat) : Int) = l1 + 1 := by rw [e2]; have := HEQ.out.2; omega
        rw [e1, e3]
        simpa using h1
      have HQ := Lib.hid Q
      clear hbit Q
      go_wp2_with fail
      go_roundw
      case rel => first | exact HQ.out | ((repeat apply Exists.intro); exact ⟨HQ.out, rfl⟩)
      case measure => have := HX.out; simp [intOf]; omega
end Go.Proofs.Ytkbjonblflhkoaa.Ln
