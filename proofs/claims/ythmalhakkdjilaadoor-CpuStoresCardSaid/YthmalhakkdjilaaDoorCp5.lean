/-
  What the operations call, ret and divide do. Each statement bears its own conditions.
-/
import Derived.Test.YthmalhakkdjilaaDoorCp2
namespace Go.Proofs.YthmalhakkdjilaaDoor
open Go.RowKit
set_option linter.unusedVariables false
set_option linter.unusedSimpArgs false
theorem putV_len (r : List Int) (μ : MS) (x : Int) : (putV r μ x).r.length = r.length := by unfold putV; split <;> simp
theorem putV_call (r : List Int) (μ : MS) (x : Int) : (putV r μ x).c = -1 := by unfold putV; split <;> rfl
theorem run_call (args : Array Value) (W : World) : (callFunc 40 args).run Tryd.prog W = .ok (.enter 40 args) W := by go_simp
theorem run_ret (args : Array Value) (W : World) : (callFunc 41 args).run Tryd.prog W = .ok (.enter 41 args) W := by go_simp
theorem run_divide (args : Array Value) (W : World) : (callFunc 27 args).run Tryd.prog W = .ok (.enter 27 args) W := by go_simp
set_option maxRecDepth 100000 in
set_option maxHeartbeats 8000000 in
theorem call_any (g gm : Nat) (r : List Int) (mv : Value) (μ : MS) (ng : Nat → Prop) (o a b n : Int) (w : World) (hs : ST w g r mv (-1)) (hm : MM w gm mv μ ng) (hg : ng g) (hng : ∀ q, ng q → q < w.heap.size) (hr : RegOk r) (hi : InOk a b n) :
    Calls Tryd.prog 40 #[.pointer (some ⟨g, 0, none⟩), .agg #[.int .i64 o, .int .i64 a, .int .i64 b, .int .i64 n]] w fun e w' => EPost w w' g gm mv ng ⟨(putV r μ (r.getD 16 0)).e, (putV r μ (r.getD 16 0)).r.set 16 (IntKind.u32.wrap n), -1, (putV r μ (r.getD 16 0)).μ⟩ e := by
  obtain ⟨W1, hW1⟩ : ∃ W1, w.alloc (.cells #[.int .i64 o, .int .i64 a, .int .i64 b, .int .i64 n] 66) = W1 := ⟨_, rfl⟩
  obtain ⟨g1, hg1⟩ : ∃ g1, w.heap.size = g1 := ⟨_, rfl⟩
  have b1 : Below w.heap.size w W1 := by rw [← hW1]; exact (Below.refl _ _).alloc (Nat.le_refl _) _
  have h1 : W1.heap[g1]? = some (.cells #[.int .i64 o, .int .i64 a, .int .i64 b, .int .i64 n] 66 (0, 0)) := by rw [← hW1, ← hg1]; exact heap_alloc_new _ _
  have hs1 : RB W1 g r [mv, .int .i64 (-1)] 70 := RB.below hs b1
  have hm1 := hm.below b1
  have hng1 : ∀ q, ng q → q < W1.heap.size := fun q hq => Nat.lt_of_lt_of_le (hng q hq) b1.size
  have hgw : g < W1.heap.size := RB.lt hs1
  have hne : g1 ≠ g := by have := RB.lt hs; omega
  have hl := hr.len
  have hn := hi.n
  have i16 := hs1.cellk (o := 16) (by omega) (kd_reg (by omega))
  have hx := hr.u32 (j := 16) (by omega)
  have hpl := putV_len r μ (r.getD 16 0)
  obtain ⟨x, hxe⟩ : ∃ x, r.getD 16 0 = x := ⟨_, rfl⟩
  rw [hxe] at i16 hx hpl ⊢
  have CP := Lib.hid (put_any g gm r mv μ ng x W1 hs1 hm1 hg hng1 hr hx)
  have HB := Lib.hid b1
  have HI := Lib.hid h1
  have HNE : Hid (g1 ≠ g ∧ g1 ≠ gm ∧ g1 < W1.heap.size) := ⟨hne, by have := hm.lt; omega, (Array.getElem?_eq_some_iff.1 h1).1⟩
  have HL : Hid ((putV r μ x).r.length = 45) := by rw [hpl]; exact hl
  have HG := Lib.hid hg
  obtain ⟨N, hN⟩ : ∃ N, IntKind.u32.wrap n = N := ⟨_, rfl⟩
  rw [hN]
  clear hs hm hr hi b1 h1 hs1 hl hx hxe hng hng1 hm1 hne hg hpl hgw hn
  go_enter Tryd.func40, Tryd.ntmps40
  go_wp2_with fail
  refine CP.out.mono ?_
  intro e W3 hE
  obtain ⟨rfl, q1, q2, q3⟩ := hE
  have HQ1 := Lib.hid q1
  have HQ2 := Lib.hid q2
  have HQ3 := Lib.hid q3
  have h3 : W3.heap[g1]? = some (.cells #[.int .i64 o, .int .i64 a, .int .i64 b, .int .i64 n] 66 (0, 0)) := (q3.block g1 HNE.out.2.2 HNE.out.1 HNE.out.2.1).trans HI.out
  have i3 := (row_cell h3 3).1
  simp at i3
  have c16 := RB.cellk (k := .u32) (o := 16) q1 (by rw [HL.out]; decide) (kd_reg (by decide))
  have f16 := RB.frozen q1 16
  clear q1 q2 q3 CP hW1 hg1 i16 HI h3
  go_upto_region 3 with (fail)
  obtain ⟨W4, hW4⟩ : ∃ W, W3.setCell ⟨g, 16, none⟩ (.int .u32 N) = W := ⟨_, rfl⟩
  have HE : Hid (EPost w W4 g gm mv ng ⟨(putV r μ x).e, (putV r μ x).r.set 16 N, -1, (putV r μ x).μ⟩ (.returned (.int .i64 (putV r μ x).e))) := by
    rw [← hW4]
    have hc := putV_call r μ x
    refine ⟨rfl, ?_, HQ2.out.past ((Past.refl g W3).setCell 16 _) HG.out, (P2.of_past (Past.of_below HB.out)).trans (HQ3.out.trans (P2.of_past ((Past.refl g W3).setCell 16 _)))⟩
    have := RB.set (k := .u32) (o := 16) HQ1.out (by rw [HL.out]; decide) (kd_reg (by decide)) N
    rw [hc] at this
    exact this
  try rw [hW4]
  clear hW4 HQ1 HQ2 HQ3 c16 f16 i3 hN HB HG HNE HL
  go_wp2_with fail
  go_ret
  exact HE.out
set_option maxRecDepth 100000 in
set_option maxHeartbeats 8000000 in
theorem ret_any (g gm : Nat) (r : List Int) (mv : Value) (μ : MS) (ng : Nat → Prop) (o a b n : Int) (w : World) (hs : ST w g r mv (-1)) (hm : MM w gm mv μ ng) (hg : ng g) (hng : ∀ q, ng q → q < w.heap.size) (hr : RegOk r) (hi : InOk a b n) :
    Calls Tryd.prog 41 #[.pointer (some ⟨g, 0, none⟩), .agg #[.int .i64 o, .int .i64 a, .int .i64 b, .int .i64 n]] w fun e w' => e = .returned (.int .i64 (takeV r μ).1) ∧ ST w' g ((takeV r μ).2.2.set 16 (takeV r μ).2.1) mv (-1) ∧ Past g w w' := by
  obtain ⟨W1, hW1⟩ : ∃ W1, w.alloc (.cells #[.int .i64 o, .int .i64 a, .int .i64 b, .int .i64 n] 66) = W1 := ⟨_, rfl⟩
  obtain ⟨g1, hg1⟩ : ∃ g1, w.heap.size = g1 := ⟨_, rfl⟩
  have b1 : Below w.heap.size w W1 := by rw [← hW1]; exact (Below.refl _ _).alloc (Nat.le_refl _) _
  have h1 : W1.heap[g1]? = some (.cells #[.int .i64 o, .int .i64 a, .int .i64 b, .int .i64 n] 66 (0, 0)) := by rw [← hW1, ← hg1]; exact heap_alloc_new _ _
  have hs1 : RB W1 g r [mv, .int .i64 (-1)] 70 := RB.below hs b1
  have hm1 := hm.below b1
  have hng1 : ∀ q, ng q → q < W1.heap.size := fun q hq => Nat.lt_of_lt_of_le (hng q hq) b1.size
  have hgw : g < W1.heap.size := RB.lt hs1
  have hne : g1 ≠ g := by have := RB.lt hs; omega
  have hl := hr.len
  have hn := hi.n
  have CP := Lib.hid (take_any g gm r mv μ ng W1 hs1 hm1 hg hng1 hr)
  have HB := Lib.hid b1
  have HL : Hid ((takeV r μ).2.2.length = 45) := by unfold Hid; rw [takeV_len]; exact hl
  obtain ⟨te, hte⟩ : ∃ te, (takeV r μ).1 = te := ⟨_, rfl⟩
  obtain ⟨tx, htx⟩ : ∃ tx, (takeV r μ).2.1 = tx := ⟨_, rfl⟩
  obtain ⟨tr, htr⟩ : ∃ tr, (takeV r μ).2.2 = tr := ⟨_, rfl⟩
  rw [hte, htx, htr] at CP ⊢
  rw [htr] at HL
  clear hs hm hr hi b1 h1 hs1 hl hng hng1 hm1 hne hg hte htx htr hgw hn
  go_enter Tryd.func41, Tryd.ntmps41
  go_wp2_with fail
  refine CP.out.mono ?_
  rintro e W3 ⟨rfl, q1, q2⟩
  have HQ := Lib.hid q1
  have HP := Lib.hid q2
  have c16 := RB.cellk (k := .u32) (o := 16) q1 (by rw [HL.out]; decide) (kd_reg (by decide))
  have f16 := RB.frozen q1 16
  clear q1 q2 CP hW1 hg1
  go_upto_region 2 with (fail)
  obtain ⟨W4, hW4⟩ : ∃ W, W3.setCell ⟨g, 16, none⟩ (.int .u32 tx) = W := ⟨_, rfl⟩
  have HS : Hid (ST W4 g (tr.set 16 tx) mv (-1)) := by rw [← hW4]; exact RB.set HQ.out (by rw [HL.out]; decide) (kd_reg (by decide)) tx
  have HPP : Hid (Past g w W4) := by rw [← hW4]; exact (Past.of_below HB.out).trans (HP.out.setCell 16 _)
  try rw [hW4]
  clear hW4 HQ HP c16 f16 HB HL
  go_wp2_with fail
  go_ret
  exact ⟨rfl, HS.out, HPP.out⟩
end Go.Proofs.YthmalhakkdjilaaDoor
