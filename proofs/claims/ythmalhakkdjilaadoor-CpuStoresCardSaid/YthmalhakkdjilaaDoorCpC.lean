/-
  What operations do to registers: contracts. Each statement bears its own conditions.
-/
import Derived.Test.YthmalhakkdjilaaDoorCpA
import Derived.StillTailTactics
namespace Go.Proofs.YthmalhakkdjilaaDoor
open Go.RowKit
set_option linter.unusedVariables false
set_option linter.unusedSimpArgs false
/-- The state that an effect works on: registers, the memory, the call. -/
def ST (w : World) (g : Nat) (r : List Int) (mv : Value) (call : Int) : Prop := RB w g r [mv, .int .i64 call] 70
def U32 (x : Int) : Prop := 0 ≤ x ∧ x < 4294967296
/-- An instruction's fields are within their bounds. -/
structure InOk (a b n : Int) : Prop where
  a : 0 ≤ a ∧ a ≤ 15
  b : 0 ≤ b ∧ b ≤ 15
  n : -262144 ≤ n ∧ n ≤ 262143
set_option maxRecDepth 100000 in
set_option maxHeartbeats 4000000 in
theorem number_any (F : Nat) (f : Int → Int → Int) (fb : Nat) (g : Nat) (r : List Int) (mv : Value) (call o a b n : Int) (w : World) (hs : ST w g r mv call) (hr : RegOk r) (hi : InOk a b n)
    (hf : w.heap[fb]? = some (.cells #[.func (.func F) #[] #[]] 63 (0, 0)))
    (RF : ∀ (args : Array Value) (W : World), (callFunc F args).run Tryd.prog W = .ok (.enter F args) W)
    (CF : ∀ (x y : Int) (W : World), U32 x → U32 y → Calls Tryd.prog F #[.int .u32 x, .int .u32 y] W fun e w' => e = .returned (.int .u32 (f x y)) ∧ W = w') :
    Calls Tryd.prog 47 #[.pointer (some ⟨g, 0, none⟩), .agg #[.int .i64 o, .int .i64 a, .int .i64 b, .int .i64 n], .pointer (some ⟨fb, 0, none⟩)] w fun e w' =>
      e = .returned (.int .i64 0) ∧ ST w' g (r.set a.toNat (f (r.getD a.toNat 0) (IntKind.u32.wrap n))) mv call ∧ Past g w w' := by
  obtain ⟨A, rfl⟩ : ∃ A : Nat, a = (A : Int) := ⟨a.toNat, by have := hi.a; omega⟩
  have hA : A < 16 := by have := hi.a; omega
  have hAI : (A : Int) < 16 := by omega
  have hA0 : (0 : Int) ≤ A := by omega
  simp only [Int.toNat_natCast]
  obtain ⟨W1, hW1⟩ : ∃ W1, w.alloc (.cells #[.int .i64 o, .int .i64 (A : Int), .int .i64 b, .int .i64 n] 66) = W1 := ⟨_, rfl⟩
  obtain ⟨g1, hg1⟩ : ∃ g1, w.heap.size = g1 := ⟨_, rfl⟩
  have b1 : Below w.heap.size w W1 := by rw [← hW1]; exact (Below.refl _ _).alloc (Nat.le_refl _) _
  have h1 : W1.heap[g1]? = some (.cells #[.int .i64 o, .int .i64 (A : Int), .int .i64 b, .int .i64 n] 66 (0, 0)) := by rw [← hW1, ← hg1]; exact heap_alloc_new _ _
  have hs1 : RB W1 g r [mv, .int .i64 call] 70 := RB.below hs b1
  have hne : g1 ≠ g := by have := RB.lt hs; omega
  have hl := hr.len
  have i1 := (row_cell h1 1).1
  have i2 := (row_cell h1 2).1
  have i3 := (row_cell h1 3).1
  simp at i1 i2 i3
  have hf1 := heap_keep b1 hf
  have iA := hs1.cellk (o := A) (by omega) (kd_reg (by omega))
  have fA := hs1.frozen A
  have c0 := (row_cell hf1 0).1
  simp at c0
  have hx := hr.u32 (j := A) (by omega)
  obtain ⟨x, hxe⟩ : ∃ x, r.getD A 0 = x := ⟨_, rfl⟩
  obtain ⟨y, hy⟩ : ∃ y, IntKind.u32.wrap n = y := ⟨_, rfl⟩
  have hyU : U32 y := by rw [← hy]; unfold U32; rw [IntKind.wrap_u32]; omega
  rw [hy]
  rw [hxe] at iA hx ⊢
  have C := Lib.hid (CF x y W1.drew hx hyU)
  have hcf := RF #[.int .u32 x, .int .u32 y] W1.drew
  have hs2 : RB W1.drew g r [mv, .int .i64 call] 70 := hs1.keep rfl
  have HS : Hid (∀ v, ST (W1.drew.setCell ⟨g, A, none⟩ (.int .u32 v)) g (r.set A v) mv call) := fun v => hs2.set (by omega) (kd_reg (by omega)) v
  have HP : Hid (∀ v, Past g w (W1.drew.setCell ⟨g, A, none⟩ (.int .u32 v))) := fun v => (Past.of_below (b1.drew)).trans ((Past.refl g W1.drew).setCell A _)
  have jA : W1.drew.cell? ⟨g, A, none⟩ = some (.int .u32 x) := iA
  have jF : W1.drew.frozen? ⟨g, A, none⟩ = false := fA
  have HJ := Lib.hid (And.intro jA jF)
  clear hs hr hi hf CF RF b1 h1 hs1 hf1 hl hx hyU hxe hs2 jA jF hne
  go_enter Tryd.func47, Tryd.ntmps47
  go_wp2_with fail
  go_still_tail 20, (by kernel_rfl)
  still_call ((C.out).mono fun _ _ h => ⟨h.1, h.2.symm⟩)
  repeat still_step
  refine wpStill_nil ?_
  change wpList _ _ _ _ _ W1.drew
  clear iA fA i1 i2 i3 c0 C hW1 hcf
  generalize W1.drew = W2 at HS HP HJ ⊢
  obtain ⟨jA, jF⟩ := HJ.out
  go_wp2_with fail
  go_ret
  exact ⟨rfl, HS.out _, HP.out _⟩
set_option maxRecDepth 100000 in
set_option maxHeartbeats 4000000 in
theorem word_any (F : Nat) (f : Int → Int → Int) (fb : Nat) (g : Nat) (r : List Int) (mv : Value) (call o a b n : Int) (w : World) (hs : ST w g r mv call) (hr : RegOk r) (hi : InOk a b n)
    (hf : w.heap[fb]? = some (.cells #[.func (.func F) #[] #[]] 63 (0, 0)))
    (RF : ∀ (args : Array Value) (W : World), (callFunc F args).run Tryd.prog W = .ok (.enter F args) W)
    (CF : ∀ (x y : Int) (W : World), U32 x → U32 y → Calls Tryd.prog F #[.int .u32 x, .int .u32 y] W fun e w' => e = .returned (.int .u32 (f x y)) ∧ W = w') :
    Calls Tryd.prog 48 #[.pointer (some ⟨g, 0, none⟩), .agg #[.int .i64 o, .int .i64 a, .int .i64 b, .int .i64 n], .pointer (some ⟨fb, 0, none⟩)] w fun e w' =>
      e = .returned (.int .i64 0) ∧ ST w' g (r.set a.toNat (f (r.getD a.toNat 0) (r.getD b.toNat 0))) mv call ∧ Past g w w' := by
  obtain ⟨A, rfl⟩ : ∃ A : Nat, a = (A : Int) := ⟨a.toNat, by have := hi.a; omega⟩
  have hA : A < 16 := by have := hi.a; omega
  have hAI : (A : Int) < 16 := by omega
  have hA0 : (0 : Int) ≤ A := by omega
  obtain ⟨B, rfl⟩ : ∃ B : Nat, b = (B : Int) := ⟨b.toNat, by have := hi.b; omega⟩
  have hB : B < 16 := by have := hi.b; omega
  have hBI : (B : Int) < 16 := by omega
  have hB0 : (0 : Int) ≤ B := by omega
  simp only [Int.toNat_natCast]
  obtain ⟨W1, hW1⟩ : ∃ W1, w.alloc (.cells #[.int .i64 o, .int .i64 (A : Int), .int .i64 (B : Int), .int .i64 n] 66) = W1 := ⟨_, rfl⟩
  obtain ⟨g1, hg1⟩ : ∃ g1, w.heap.size = g1 := ⟨_, rfl⟩
  have b1 : Below w.heap.size w W1 := by rw [← hW1]; exact (Below.refl _ _).alloc (Nat.le_refl _) _
  have h1 : W1.heap[g1]? = some (.cells #[.int .i64 o, .int .i64 (A : Int), .int .i64 (B : Int), .int .i64 n] 66 (0, 0)) := by rw [← hW1, ← hg1]; exact heap_alloc_new _ _
  have hs1 : RB W1 g r [mv, .int .i64 call] 70 := RB.below hs b1
  have hne : g1 ≠ g := by have := RB.lt hs; omega
  have hl := hr.len
  have i1 := (row_cell h1 1).1
  have i2 := (row_cell h1 2).1
  have i3 := (row_cell h1 3).1
  simp at i1 i2 i3
  have hf1 := heap_keep b1 hf
  have iA := hs1.cellk (o := A) (by omega) (kd_reg (by omega))
  have fA := hs1.frozen A
  have c0 := (row_cell hf1 0).1
  simp at c0
  have hx := hr.u32 (j := A) (by omega)
  obtain ⟨x, hxe⟩ : ∃ x, r.getD A 0 = x := ⟨_, rfl⟩
  have iB := hs1.cellk (o := B) (by omega) (kd_reg (by omega))
  have hyU := hr.u32 (j := B) (by omega)
  obtain ⟨y, hy⟩ : ∃ y, r.getD B 0 = y := ⟨_, rfl⟩
  rw [hy] at iB hyU ⊢
  rw [hxe] at iA hx ⊢
  have C := Lib.hid (CF x y W1.drew hx hyU)
  have hcf := RF #[.int .u32 x, .int .u32 y] W1.drew
  have hs2 : RB W1.drew g r [mv, .int .i64 call] 70 := hs1.keep rfl
  have HS : Hid (∀ v, ST (W1.drew.setCell ⟨g, A, none⟩ (.int .u32 v)) g (r.set A v) mv call) := fun v => hs2.set (by omega) (kd_reg (by omega)) v
  have HP : Hid (∀ v, Past g w (W1.drew.setCell ⟨g, A, none⟩ (.int .u32 v))) := fun v => (Past.of_below (b1.drew)).trans ((Past.refl g W1.drew).setCell A _)
  have jA : W1.drew.cell? ⟨g, A, none⟩ = some (.int .u32 x) := iA
  have jF : W1.drew.frozen? ⟨g, A, none⟩ = false := fA
  have HJ := Lib.hid (And.intro jA jF)
  clear hs hr hi hf CF RF b1 h1 hs1 hf1 hl hx hyU hxe hs2 jA jF hne hy
  go_enter Tryd.func48, Tryd.ntmps48
  go_wp2_with fail
  go_still_tail 25, (by kernel_rfl)
  still_call ((C.out).mono fun _ _ h => ⟨h.1, h.2.symm⟩)
  repeat still_step
  refine wpStill_nil ?_
  change wpList _ _ _ _ _ W1.drew
  clear iA fA i1 i2 i3 c0 C hW1 hcf iB
  generalize W1.drew = W2 at HS HP HJ ⊢
  obtain ⟨jA, jF⟩ := HJ.out
  go_wp2_with fail
  go_ret
  exact ⟨rfl, HS.out _, HP.out _⟩
set_option maxRecDepth 100000 in
set_option maxHeartbeats 4000000 in
theorem trap_any (g : Nat) (r : List Int) (mv : Value) (call o a b n : Int) (w : World) (hs : ST w g r mv call) (hr : RegOk r) (hi : InOk a b n) :
    Calls Tryd.prog 44 #[.pointer (some ⟨g, 0, none⟩), .agg #[.int .i64 o, .int .i64 a, .int .i64 b, .int .i64 n]] w fun e w' => e = .returned (.int .i64 0) ∧ ST w' g r mv n ∧ Past g w w' := by
  obtain ⟨W1, hW1⟩ : ∃ W1, w.alloc (.cells #[.int .i64 o, .int .i64 a, .int .i64 b, .int .i64 n] 66) = W1 := ⟨_, rfl⟩
  obtain ⟨g1, hg1⟩ : ∃ g1, w.heap.size = g1 := ⟨_, rfl⟩
  have b1 : Below w.heap.size w W1 := by rw [← hW1]; exact (Below.refl _ _).alloc (Nat.le_refl _) _
  have h1 : W1.heap[g1]? = some (.cells #[.int .i64 o, .int .i64 a, .int .i64 b, .int .i64 n] 66 (0, 0)) := by rw [← hW1, ← hg1]; exact heap_alloc_new _ _
  have hs1 : RB W1 g r [mv, .int .i64 call] 70 := RB.below hs b1
  have hne : g1 ≠ g := by have := RB.lt hs; omega
  have hl := hr.len
  have i1 := (row_cell h1 1).1
  have i2 := (row_cell h1 2).1
  have i3 := (row_cell h1 3).1
  simp at i1 i2 i3
  have c46 := hs1.tail 1
  have f46 := hs1.frozen 46
  rw [hl] at c46
  simp at c46
  have HS : Hid (ST (W1.setCell ⟨g, 46, none⟩ (.int .i64 n)) g r mv n) := by
    have := hs1.setTail 1 (.int .i64 n)
    rw [hl] at this
    exact this
  have HP : Hid (Past g w (W1.setCell ⟨g, 46, none⟩ (.int .i64 n))) := (Past.of_below b1).trans ((Past.refl g W1).setCell 46 _)
  clear hs hr hi b1 h1 hs1 hl hne
  go_enter Tryd.func44, Tryd.ntmps44
  go_wp2_with fail
  go_ret
  exact ⟨rfl, HS.out, HP.out⟩
set_option maxRecDepth 100000 in
set_option maxHeartbeats 4000000 in
theorem nop_any (g : Nat) (r : List Int) (mv : Value) (call o a b n : Int) (w : World) (hs : ST w g r mv call) (hr : RegOk r) (hi : InOk a b n) :
    Calls Tryd.prog 18 #[.pointer (some ⟨g, 0, none⟩), .agg #[.int .i64 o, .int .i64 a, .int .i64 b, .int .i64 n]] w fun e w' => e = .returned (.int .i64 0) ∧ ST w' g r mv call ∧ Past g w w' := by
  have HS := Lib.hid hs
  clear hs hr hi
  go_enter Tryd.func18, Tryd.ntmps18
  go_wp2_with fail
  go_ret
  exact ⟨rfl, RB.below HS.out ((Below.refl _ _).alloc (Nat.le_refl _) _), Past.of_below ((Below.refl _ _).alloc (Nat.le_refl _) _)⟩
/-- What a loop's beginning does to registers. -/
def loopR (r : List Int) (a b n : Int) : List Int := ((((r.set (20 + (r.getD 44 0).toNat * 3) (r.getD 16 0)).set (20 + (r.getD 44 0).toNat * 3 + 1) (IntKind.u32.wrap (r.getD 16 0 + IntKind.u32.wrap (16 * a + b)))).set (20 + (r.getD 44 0).toNat * 3 + 2) (n - 1)).set 44 (r.getD 44 0 + 1))
set_option maxRecDepth 100000 in
set_option maxHeartbeats 4000000 in
theorem loop_no (g : Nat) (r : List Int) (mv : Value) (call o a b n : Int) (w : World) (hs : ST w g r mv call) (hr : RegOk r) (hi : InOk a b n) (hd : r.getD 44 0 = 8) :
    Calls Tryd.prog 39 #[.pointer (some ⟨g, 0, none⟩), .agg #[.int .i64 o, .int .i64 a, .int .i64 b, .int .i64 n]] w fun e w' => e = .returned (.int .i64 21) ∧ ST w' g r mv call ∧ Past g w w' := by
  obtain ⟨W1, hW1⟩ : ∃ W1, w.alloc (.cells #[.int .i64 o, .int .i64 a, .int .i64 b, .int .i64 n] 66) = W1 := ⟨_, rfl⟩
  obtain ⟨g1, hg1⟩ : ∃ g1, w.heap.size = g1 := ⟨_, rfl⟩
  have b1 : Below w.heap.size w W1 := by rw [← hW1]; exact (Below.refl _ _).alloc (Nat.le_refl _) _
  have h1 : W1.heap[g1]? = some (.cells #[.int .i64 o, .int .i64 a, .int .i64 b, .int .i64 n] 66 (0, 0)) := by rw [← hW1, ← hg1]; exact heap_alloc_new _ _
  have hs1 : RB W1 g r [mv, .int .i64 call] 70 := RB.below hs b1
  have hne : g1 ≠ g := by have := RB.lt hs; omega
  have hl := hr.len
  have i1 := (row_cell h1 1).1
  have i2 := (row_cell h1 2).1
  have i3 := (row_cell h1 3).1
  simp at i1 i2 i3
  have c44 := hs1.cellk (o := 44) (by omega) kd_dep
  rw [hd] at c44
  have HS := Lib.hid hs1
  have HP := Lib.hid (Past.of_below (g := g) b1)
  clear hs hr hi b1 h1 hs1 hl hne hd
  go_enter Tryd.func39, Tryd.ntmps39
  go_wp2_with fail
  go_ret
  exact ⟨rfl, HS.out, HP.out⟩
set_option maxRecDepth 100000 in
set_option maxHeartbeats 4000000 in
theorem loop_ok (g : Nat) (r : List Int) (mv : Value) (call o a b n : Int) (w : World) (hs : ST w g r mv call) (hr : RegOk r) (hi : InOk a b n) (hd : DepOk r) (h8 : ¬ r.getD 44 0 = 8) :
    Calls Tryd.prog 39 #[.pointer (some ⟨g, 0, none⟩), .agg #[.int .i64 o, .int .i64 a, .int .i64 b, .int .i64 n]] w fun e w' => e = .returned (.int .i64 0) ∧ ST w' g (loopR r a b n) mv call ∧ Past g w w' := by
  obtain ⟨W1, hW1⟩ : ∃ W1, w.alloc (.cells #[.int .i64 o, .int .i64 a, .int .i64 b, .int .i64 n] 66) = W1 := ⟨_, rfl⟩
  obtain ⟨g1, hg1⟩ : ∃ g1, w.heap.size = g1 := ⟨_, rfl⟩
  have b1 : Below w.heap.size w W1 := by rw [← hW1]; exact (Below.refl _ _).alloc (Nat.le_refl _) _
  have h1 : W1.heap[g1]? = some (.cells #[.int .i64 o, .int .i64 a, .int .i64 b, .int .i64 n] 66 (0, 0)) := by rw [← hW1, ← hg1]; exact heap_alloc_new _ _
  have hs1 : RB W1 g r [mv, .int .i64 call] 70 := RB.below hs b1
  have hne : g1 ≠ g := by have := RB.lt hs; omega
  have hl := hr.len
  have i1 := (row_cell h1 1).1
  have i2 := (row_cell h1 2).1
  have i3 := (row_cell h1 3).1
  simp at i1 i2 i3
  obtain ⟨d, hdd⟩ : ∃ d : Nat, r.getD 44 0 = (d : Int) := ⟨(r.getD 44 0).toNat, by have := hd.1; omega⟩
  have hd8 : d < 8 := by have := hd.2; omega
  have hdI : (d : Int) < 8 := by omega
  have hd0 : (0 : Int) ≤ d := by omega
  have hdn : ((d : Int) == 8) = false := by simp; omega
  have c44 := hs1.cellk (o := 44) (by omega) kd_dep
  have c16 := hs1.cellk (k := .u32) (o := 16) (by omega) (kd_reg (by omega))
  have f44 := hs1.frozen 44
  rw [hdd] at c44
  unfold loopR
  rw [hdd]
  simp only [Int.toNat_natCast]
  obtain ⟨pc, hpc⟩ : ∃ pc, r.getD 16 0 = pc := ⟨_, rfl⟩
  rw [hpc] at c16 ⊢
  have ha := hi.a
  have hb := hi.b
  have hn := hi.n
  obtain ⟨bd, hbd⟩ : ∃ bd, 16 * a + b = bd := ⟨_, rfl⟩
  have hw1 : IntKind.i64.wrap (16 * a) = 16 * a := i64_ok (by omega) (by omega)
  have hw2 : IntKind.i64.wrap (16 * a + b) = bd := by rw [← hbd]; exact i64_ok (by omega) (by omega)
  have hw3 : IntKind.i64.wrap (n - 1) = n - 1 := i64_ok (by omega) (by omega)
  have hw4 : IntKind.i64.wrap ((d : Int) + 1) = (d : Int) + 1 := i64_ok (by omega) (by omega)
  rw [hbd]
  obtain ⟨en, hen⟩ : ∃ en, IntKind.u32.wrap (pc + IntKind.u32.wrap bd) = en := ⟨_, rfl⟩
  rw [hen]
  obtain ⟨W2, hW2⟩ : ∃ W2, W1.drew = W2 := ⟨_, rfl⟩
  have hs2 : RB W2 g r [mv, .int .i64 call] 70 := by rw [← hW2]; exact hs1.keep rfl
  have p2 : Past g w W2 := by rw [← hW2]; exact Past.of_below b1.drew
  obtain ⟨W3, hW3⟩ : ∃ W3, W2.setCells g (20 + d * 3) [.int .u32 pc, .int .u32 en, .int .i64 (n - 1)] = W3 := ⟨_, rfl⟩
  have hs3 : RB W3 g (((r.set (20 + d * 3) pc).set (20 + d * 3 + 1) en).set (20 + d * 3 + 2) (n - 1)) [mv, .int .i64 call] 70 := by rw [← hW3]; exact hs2.setLoop hl hd8 _ _ _
  have p3 : Past g w W3 := p2.trans (by rw [← hW3]; exact past_setCells _ _ _ _)
  have d44 := hs3.cellk (o := 44) (by simp; omega) kd_dep
  rw [getD_set_ne _ (by omega), getD_set_ne _ (by omega), getD_set_ne _ (by omega), hdd] at d44
  have g44 := hs3.frozen 44
  have HS : Hid (ST (W3.setCell ⟨g, 44, none⟩ (.int .i64 ((d : Int) + 1))) g ((((r.set (20 + d * 3) pc).set (20 + d * 3 + 1) en).set (20 + d * 3 + 2) (n - 1)).set 44 ((d : Int) + 1)) mv call) := hs3.set (by simp; omega) kd_dep _
  have HP : Hid (Past g w (W3.setCell ⟨g, 44, none⟩ (.int .i64 ((d : Int) + 1)))) := p3.trans ((Past.refl g W3).setCell 44 _)
  have HS2 := Lib.hid hs2
  have HE := Lib.hid hW3
  have HL := Lib.hid hl
  have H8 := Lib.hid hd8
  have HD := Lib.hid (And.intro d44 g44)
  have HW := Lib.hid hW2
  clear hs hr hi b1 h1 hs1 hl hne hd h8 hs2 p2 hs3 p3 hW3 d44 g44 hdd hpc hbd hd8 ha hb hn hW2
  go_enter Tryd.func39, Tryd.ntmps39
  go_wp2_with fail
  go_still_tail 32, (by kernel_rfl)
  change wpList _ _ _ _ _ W1.drew
  rw [HW.out]
  clear c44 c16 f44 i1 i2 i3
  obtain ⟨d44, g44⟩ := HD.out
  go_wp2_with (refine wpList_store_loop rfl _ _ rfl rfl rfl HS2.out HL.out H8.out ?_; rw [HE.out]; dsimp only [Act.put])
  go_ret
  exact ⟨rfl, HS.out, HP.out⟩
end Go.Proofs.YthmalhakkdjilaaDoor
