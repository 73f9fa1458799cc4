/-
  The chapter's examples, run. Each statement bears its own conditions.
-/
import Derived.Test.YthmalhakkdjilaaDoorCpQ
namespace Go.Proofs.YthmalhakkdjilaaDoor
open Go.RowKit
set_option linter.unusedVariables false
set_option linter.unusedSimpArgs false
theorem PS.below {S : Nat → Prop} {B : Nat} {a b : World} (h : PS S a b) (hs : ∀ k, S k → B ≤ k) (hB : B ≤ a.heap.size) : Below B a b := ⟨h.os, h.tape, h.output, h.size, fun k hk => h.block k (by omega) (fun e => by have := hs k e; omega)⟩
theorem encode_lit (o a b n v : Int) (w : World) (hv : o * 134217728 + a * 8388608 + b * 524288 + n = v) (ho : 0 ≤ o ∧ o ≤ 23) (ha : 0 ≤ a ∧ a ≤ 15) (hb : 0 ≤ b ∧ b ≤ 15) (hn : 0 ≤ n ∧ n ≤ 262143) :
    Calls Tryd.prog 14 #[.agg #[.int .i64 o, .int .i64 a, .int .i64 b, .int .i64 n]] w fun e w' => e = .returned (.int .u32 v) ∧ Below w.heap.size w w' := by
  have := encode_ref o a b n w ho ha hb hn
  rwa [hv] at this
theorem creads_lit (xs : List Int) (t : TypeId) (w : World) : Reads (w.alloc (.cells (CW xs).toArray t)) (w.alloc (.cells (CW xs).toArray t)).heap.size 1 (some ⟨w.heap.size, 0, none⟩) xs.length (CW xs) := by
  refine ⟨by rw [CW_len]; omega, fun _ => ⟨_, rfl, by simp, fun j u hu => ?_⟩⟩
  have h := heap_alloc_new w (.cells (CW xs).toArray t)
  rw [Addr.add_lit, Nat.zero_add, (row_cell h j).1]
  simpa using hu
def ws1 : List Int := [142606341, 814219264, 3087007753]
def ws2 : List Int := [2416443395, 553648130]
def KR1 : List Int := [0, 25, 0, 0, 0, 0, 0, 0, 0, 0, 0, 0, 0, 0, 0, 0, 3, 0, 0, 0, 0, 0, 0, 0, 0, 0, 0, 0, 0, 0, 0, 0, 0, 0, 0, 0, 0, 0, 0, 0, 0, 0, 0, 0, 0]
def KR2 : List Int := [0, 0, 6, 0, 0, 0, 0, 0, 0, 0, 0, 0, 0, 0, 0, 0, 2, 0, 0, 0, 0, 0, 0, 0, 0, 0, 0, 0, 0, 0, 0, 0, 0, 0, 0, 0, 0, 0, 0, 0, 0, 0, 0, 0, 0]
def okMem (r : List Int) (μ : MS) : Prop := (nextV r μ).e = 0 → EffC (nextV r μ).o.toNat (effV (nextV r μ).o.toNat) ∧ Fine (nextV r μ).o.toNat
theorem ok_of {r : List Int} {μ : MS} (k : Nat) (h : (nextV r μ).o = (k : Int)) (hE : EffC k (effV k)) (hF : Fine k) : okMem r μ := by
  intro _
  have : (nextV r μ).o.toNat = k := by rw [h]; simp
  rw [this]; exact ⟨hE, hF⟩
theorem x1_run : runGo stV1 10 10 (RS.start (freshR 0 0 0) ⟨ws1, 3, 0⟩) = ⟨KR1, ⟨ws1, 3, 0⟩, 3, 5, 1, 9, 0⟩ := by kernel_rfl
theorem x2_run : runGo stV1 4 4 (RS.start (freshR 0 0 0) ⟨ws2, 2, 0⟩) = ⟨KR2, ⟨ws2, 2, 0⟩, 4, 4, 1, -1, 0⟩ := by kernel_rfl
theorem x1_ok : okGo stV1 okMem 10 10 (RS.start (freshR 0 0 0) ⟨ws1, 3, 0⟩) := by
  intro _
  refine ⟨ok_of 1 (by kernel_rfl) effC_1 (fine_reg 1 (by decide) (by decide)), fun _ => ⟨ok_of 6 (by kernel_rfl) effC_6 (fine_reg 6 (by decide) (by decide)), fun _ => ⟨ok_of 23 (by kernel_rfl) effC_trap fine_trap, fun h => ?_⟩⟩⟩
  have hh : (RS.next stV1 (RS.next stV1 (RS.next stV1 (RS.start (freshR 0 0 0) ⟨ws1, 3, 0⟩)))).lc = 9 := by kernel_rfl
  have := h.2.1
  rw [hh] at this
  cases this
theorem x2_ok : okGo stV1 okMem 4 4 (RS.start (freshR 0 0 0) ⟨ws2, 2, 0⟩) := by
  intro _
  refine ⟨ok_of 18 (by kernel_rfl) effC_loop fine_loop, fun _ => ⟨ok_of 4 (by kernel_rfl) effC_4 (fine_reg 4 (by decide) (by decide)), fun _ => ⟨ok_of 4 (by kernel_rfl) effC_4 (fine_reg 4 (by decide) (by decide)), fun _ => ⟨ok_of 4 (by kernel_rfl) effC_4 (fine_reg 4 (by decide) (by decide)), trivial⟩⟩⟩⟩
theorem x1_any (gm : Nat) (w : World) (hm : MM w gm (.iface 31 (.pointer (some ⟨gm, 0, none⟩))) ⟨ws1 ++ [], 3, 0⟩ (fun _ => False)) (hL : Laid w) (h0 : 0 < gm) :
    Calls Tryd.prog 10 #[.agg (cells (freshR 0 0 0)).toArray, .iface 31 (.pointer (some ⟨gm, 0, none⟩)), .int .i64 10] w fun e w' =>
      e = .returned (.tuple #[.agg (cells KR1).toArray, .int .i64 3, .int .i64 5, .agg #[.int .i64 1, .int .i64 (9), .int .i64 0]]) ∧ PS (fun b => b = gm) w w' := by
  rw [List.append_nil] at hm
  have C := run_any (domMem gm (.iface 31 (.pointer (some ⟨gm, 0, none⟩)))) (scMem gm (.iface 31 (.pointer (some ⟨gm, 0, none⟩)))) (freshR 0 0 0) ⟨ws1, 3, 0⟩ 10 w (fun _ => False)
    (fresh_ok ⟨by decide, by decide⟩ ⟨by decide, by decide⟩ ⟨by decide, by decide⟩) x1_ok hm (fun _ h => h.elim) hL (fun b h => by rw [h]; exact hm.lt) (by omega) ⟨by decide, by decide⟩
  have e : (10 : Int).toNat = 10 := rfl
  rw [e, x1_run] at C
  refine C.mono ?_
  rintro e w' ⟨rfl, _, h2⟩
  exact ⟨rfl, h2⟩
theorem x2_any (gm : Nat) (w : World) (hm : MM w gm (.iface 31 (.pointer (some ⟨gm, 0, none⟩))) ⟨ws2 ++ [], 2, 0⟩ (fun _ => False)) (hL : Laid w) (h0 : 0 < gm) :
    Calls Tryd.prog 10 #[.agg (cells (freshR 0 0 0)).toArray, .iface 31 (.pointer (some ⟨gm, 0, none⟩)), .int .i64 4] w fun e w' =>
      e = .returned (.tuple #[.agg (cells KR2).toArray, .int .i64 4, .int .i64 4, .agg #[.int .i64 1, .int .i64 (-1), .int .i64 0]]) ∧ PS (fun b => b = gm) w w' := by
  rw [List.append_nil] at hm
  have C := run_any (domMem gm (.iface 31 (.pointer (some ⟨gm, 0, none⟩)))) (scMem gm (.iface 31 (.pointer (some ⟨gm, 0, none⟩)))) (freshR 0 0 0) ⟨ws2, 2, 0⟩ 4 w (fun _ => False)
    (fresh_ok ⟨by decide, by decide⟩ ⟨by decide, by decide⟩ ⟨by decide, by decide⟩) x2_ok hm (fun _ h => h.elim) hL (fun b h => by rw [h]; exact hm.lt) (by omega) ⟨by decide, by decide⟩
  have e : (4 : Int).toNat = 4 := rfl
  rw [e, x2_run] at C
  refine C.mono ?_
  rintro e w' ⟨rfl, _, h2⟩
  exact ⟨rfl, h2⟩
end Go.Proofs.YthmalhakkdjilaaDoor
