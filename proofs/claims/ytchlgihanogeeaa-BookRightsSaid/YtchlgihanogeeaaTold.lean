/-
  told: a module that is told right. Each statement bears its own conditions.
-/
import Derived.Test.YtchlgihanogeeaaN3
import Derived.Test.YtchlgihanogeeaaN4
import Derived.Test.YtchlgihanogeeaaR6
import Derived.Test.YtchlgihanogeeaaZ2
namespace Go.Proofs.Ytchlgihanogeeaa
open Go.RowKit
set_option linter.unusedVariables false
set_option linter.unusedSimpArgs false
def MQ0 : MPort := ⟨(⟨#[113]⟩ : ByteArray), false, false, 1, 0, 0⟩
def MP0 : MPartition := ⟨(⟨#[112]⟩ : ByteArray), [], [], [], [], [], [], [], [MQ0], [], 0, 0, 0⟩
def MM0 : MModule := ⟨(⟨#[109]⟩ : ByteArray), [MP0], [], 0, [], [], []⟩
def MZ0 : MModule := ⟨(⟨#[]⟩ : ByteArray), [], [], 0, [], [], []⟩
theorem right_told : rightModule MM0 = true := by decide +kernel
theorem right_none : rightModule MZ0 = false := by decide +kernel
theorem size_told : szModule MM0 = 2 := by decide +kernel
theorem name_told1 : nameB (⟨#[97, 95, 49]⟩ : ByteArray) = true := by decide +kernel
theorem name_told2 : nameB (⟨#[49, 97]⟩ : ByteArray) = false := by decide +kernel
theorem nmP_told : nmP MP0 (⟨#[112, 111, 114, 116]⟩ : ByteArray) = [(⟨#[113]⟩ : ByteArray)] := by decide +kernel
theorem nmM_told : nmM MM0 (⟨#[112, 97, 114, 116, 105, 116, 105, 111, 110]⟩ : ByteArray) = [(⟨#[112]⟩ : ByteArray)] := by decide +kernel
set_option maxRecDepth 100000 in
set_option maxHeartbeats 4000000 in
theorem same_told_walk (v : Value) (W : World) (hv : ∃ a n c, v = .slice a n c := by exact ⟨_, _, _, rfl⟩) : Calls Try.prog 14 #[.agg #[.string ⟨#[109]⟩, v, .slice none 0 0, .int .i64 0, .slice none 0 0, .slice none 0 0, .slice none 0 0], .agg #[.string ⟨#[]⟩, .slice none 0 0, .slice none 0 0, .int .i64 0, .slice none 0 0, .slice none 0 0, .slice none 0 0]] W fun e w' => e = .returned (.bool false) ∧ Below W.heap.size W w' := by
  obtain ⟨a, n, c, rfl⟩ := hv
  go_enter Try.func14, Try.ntmps14
  go_wp2_with fail
  go_ret
  exact ⟨rfl, ((Below.refl _ _).alloc (Nat.le_refl _) _).alloc (by simp) _⟩
theorem fi_one {s t : ByteArray} {r : Int} (h : FI [s] t r) : (s = t → r = 0) ∧ (s ≠ t → r = -1) := by
  rcases h with ⟨h1, h2⟩ | ⟨i, h1, h2, h3⟩
  · refine ⟨fun e => absurd (show ([s] : List ByteArray)[0]? = some t by rw [e]; rfl) (h2 0), fun _ => h1⟩
  · have hi : i = 0 := by have := (List.getElem?_eq_some_iff.1 h2).1; simpa using this
    subst hi
    refine ⟨fun _ => h1, fun e => absurd ?_ e⟩
    simpa using h2
theorem row_one {α : Type} {w : World} {k b : Nat} {R : α → List Value → Prop} {x : α} {cs : List Value} (hb : b < w.heap.size) (hR : R x cs) (hk : cs.length = k) (hc : ∀ (j : Nat) u, cs[j]? = some u → w.cell? ⟨b, j, none⟩ = some u) : Row w k R (.slice (some ⟨b, 0, none⟩) 1 1) [x] := by
  refine ⟨_, 1, rfl, by show 1 ≤ rowMax; unfold rowMax; omega, fun _ => ⟨b, 0, rfl, hb, fun i y hy => ?_⟩⟩
  have hi : i = 0 := by have := (List.getElem?_eq_some_iff.1 hy).1; simpa using this
  subst hi
  have hy' : x = y := by simpa using hy
  subst hy'
  exact ⟨cs, hR, hk, fun j u hu => by simpa using hc j u hu⟩
set_option maxRecDepth 100000 in
set_option maxHeartbeats 8000000 in
theorem told_any (w : World) : Calls Try.prog 7 #[] w fun e w' => e = .returned (.bool true) ∧ Below w.heap.size w w' := by
  go_enter Try.func7, Try.ntmps7
  go_wp2_with fail
  obtain ⟨W0, hW0⟩ : ∃ W0, (((w.alloc (.cells #[.string ⟨#[113]⟩, .bool false, .bool false, .int .i64 1, .int .i64 0, .int .i64 0] 57)).alloc (.cells #[.string ⟨#[112]⟩, .slice none 0 0, .slice none 0 0, .slice none 0 0, .slice none 0 0, .slice none 0 0, .slice none 0 0, .slice none 0 0, .slice (some ⟨w.heap.size, 0, none⟩) 1 1, .slice none 0 0, .int .i64 0, .int .i64 0, .int .i64 0] 52)).alloc (.cells #[.string ⟨#[109]⟩, .slice (some ⟨w.heap.size + 1, 0, none⟩) 1 1, .slice none 0 0, .int .i64 0, .slice none 0 0, .slice none 0 0, .slice none 0 0] 30)) = W0 := ⟨_, rfl⟩
  have HSZ : Hid (W0.heap.size = w.heap.size + 1 + 1 + 1) := by rw [← hW0]; unfold Hid; simp
  have HC : Hid (∀ (j : Nat) u, [.string ⟨#[109]⟩, .slice (some ⟨w.heap.size + 1, 0, none⟩) 1 1, .slice none 0 0, .int .i64 0, .slice none 0 0, .slice none 0 0, .slice none 0 0][j]? = some u → W0.cell? ⟨w.heap.size + 1 + 1, j, none⟩ = some u) := fun j u hu => by
    rw [← hW0, show w.heap.size + 1 + 1 = ((w.alloc (.cells #[.string ⟨#[113]⟩, .bool false, .bool false, .int .i64 1, .int .i64 0, .int .i64 0] 57)).alloc (.cells #[.string ⟨#[112]⟩, .slice none 0 0, .slice none 0 0, .slice none 0 0, .slice none 0 0, .slice none 0 0, .slice none 0 0, .slice none 0 0, .slice (some ⟨w.heap.size, 0, none⟩) 1 1, .slice none 0 0, .int .i64 0, .int .i64 0, .int .i64 0] 52)).heap.size by simp, World.cell?_alloc_new]; simpa using hu
  have HP : Hid (∀ (j : Nat) u, [.string ⟨#[112]⟩, .slice none 0 0, .slice none 0 0, .slice none 0 0, .slice none 0 0, .slice none 0 0, .slice none 0 0, .slice none 0 0, .slice (some ⟨w.heap.size, 0, none⟩) 1 1, .slice none 0 0, .int .i64 0, .int .i64 0, .int .i64 0][j]? = some u → W0.cell? ⟨w.heap.size + 1, j, none⟩ = some u) := fun j u hu => by
    rw [← hW0]
    refine cell_al _ ?_
    rw [show w.heap.size + 1 = (w.alloc (.cells #[.string ⟨#[113]⟩, .bool false, .bool false, .int .i64 1, .int .i64 0, .int .i64 0] 57)).heap.size by simp, World.cell?_alloc_new]; simpa using hu
  have HQ : Hid (∀ (j : Nat) u, [.string ⟨#[113]⟩, .bool false, .bool false, .int .i64 1, .int .i64 0, .int .i64 0][j]? = some u → W0.cell? ⟨w.heap.size, j, none⟩ = some u) := fun j u hu => by
    rw [← hW0]
    refine cell_al _ (cell_al _ ?_)
    rw [World.cell?_alloc_new]; simpa using hu
  have BW : Hid (Below w.heap.size w W0) := by rw [← hW0]; exact (((Below.refl _ _).alloc (Nat.le_refl _) _).alloc (by simp) _).alloc (by simp; omega) _
  have HRP : Hid (Row W0 6 RPort (.slice (some ⟨w.heap.size, 0, none⟩) 1 1) [MQ0]) := row_one (by rw [HSZ.out]; omega) (cs := [.string ⟨#[113]⟩, .bool false, .bool false, .int .i64 1, .int .i64 0, .int .i64 0]) ⟨rfl, by decide +kernel⟩ rfl HQ.out
  have HRB : Hid (Row W0 13 (RPartition W0) (.slice (some ⟨w.heap.size + 1, 0, none⟩) 1 1) [MP0]) := row_one (by rw [HSZ.out]; omega) (cs := [.string ⟨#[112]⟩, .slice none 0 0, .slice none 0 0, .slice none 0 0, .slice none 0 0, .slice none 0 0, .slice none 0 0, .slice none 0 0, .slice (some ⟨w.heap.size, 0, none⟩) 1 1, .slice none 0 0, .int .i64 0, .int .i64 0, .int .i64 0]) ⟨_, _, _, _, _, _, _, _, _, rfl, by decide +kernel, Row.nil _ _ _, Row.nil _ _ _, Row.nil _ _ _, Row.nil _ _ _, Row.nil _ _ _, Row.nil _ _ _, Row.nil _ _ _, HRP.out, Row.nil _ _ _⟩ rfl HP.out
  have C3 : Hid (∀ W, Below W0.heap.size W0 W → Calls Try.prog 11 #[.agg #[.string ⟨#[109]⟩, .slice (some ⟨w.heap.size + 1, 0, none⟩) 1 1, .slice none 0 0, .int .i64 0, .slice none 0 0, .slice none 0 0, .slice none 0 0]] W fun e w' => e = .returned (.bool true) ∧ Below W.heap.size W w') := fun W hB => by
    have h := rightModule_core (⟨#[109]⟩ : ByteArray) [MP0] [] 0 [] [] [] (.slice (some ⟨w.heap.size + 1, 0, none⟩) 1 1) (.slice none 0 0) (.slice none 0 0) (.slice none 0 0) (.slice none 0 0) W (by decide +kernel) (HRB.out.keep hB (fun _ _ h => h.below hB)) (Row.nil _ _ _) (Row.nil _ _ _) (Row.nil _ _ _) (Row.nil _ _ _)
    rw [show rightModule ⟨(⟨#[109]⟩ : ByteArray), [MP0], [], 0, [], [], []⟩ = true from right_told] at h
    exact h
  have C4 : Hid (∀ W, Below W0.heap.size W0 W → Calls Try.prog 11 #[.agg #[.string ⟨#[]⟩, .slice none 0 0, .slice none 0 0, .int .i64 0, .slice none 0 0, .slice none 0 0, .slice none 0 0]] W fun e w' => e = .returned (.bool false) ∧ Below W.heap.size W w') := fun W hB => by
    have h := rightModule_core (⟨#[]⟩ : ByteArray) [] [] 0 [] [] [] (.slice none 0 0) (.slice none 0 0) (.slice none 0 0) (.slice none 0 0) (.slice none 0 0) W (by decide +kernel) (Row.nil _ _ _) (Row.nil _ _ _) (Row.nil _ _ _) (Row.nil _ _ _) (Row.nil _ _ _)
    rw [show rightModule ⟨(⟨#[]⟩ : ByteArray), [], [], 0, [], [], []⟩ = false from right_none] at h
    exact h
  have C5 : Hid (∀ W, Below W0.heap.size W0 W → Calls Try.prog 25 #[.agg #[.string ⟨#[112]⟩, .slice none 0 0, .slice none 0 0, .slice none 0 0, .slice none 0 0, .slice none 0 0, .slice none 0 0, .slice none 0 0, .slice (some ⟨w.heap.size, 0, none⟩) 1 1, .slice none 0 0, .int .i64 0, .int .i64 0, .int .i64 0], .string ⟨#[112, 111, 114, 116]⟩, .string ⟨#[113]⟩] W fun e w' => e = .returned (.int .i64 0) ∧ Below W.heap.size W w') := fun W hB => by
    refine (findP_core (⟨#[112]⟩ : ByteArray) [] [] [] [] [] [] [] [MQ0] [] 0 0 0 (.slice none 0 0) (.slice none 0 0) (.slice none 0 0) (.slice none 0 0) (.slice none 0 0) (.slice none 0 0) (.slice none 0 0) (.slice (some ⟨w.heap.size, 0, none⟩) 1 1) (.slice none 0 0) (⟨#[112, 111, 114, 116]⟩ : ByteArray) (⟨#[113]⟩ : ByteArray) W (Row.nil _ _ _) (Row.nil _ _ _) (Row.nil _ _ _) (Row.nil _ _ _) (Row.nil _ _ _) (Row.nil _ _ _) (Row.nil _ _ _) (HRP.out.below hB) (Row.nil _ _ _)).mono fun e w' h => ?_
    obtain ⟨⟨r, he, hf⟩, hb⟩ := h
    rw [show nmP ⟨(⟨#[112]⟩ : ByteArray), [], [], [], [], [], [], [], [MQ0], [], 0, 0, 0⟩ (⟨#[112, 111, 114, 116]⟩ : ByteArray) = _ from nmP_told] at hf
    exact ⟨by rw [he, (fi_one hf).1 rfl], hb⟩
  have C6 : Hid (∀ W, Below W0.heap.size W0 W → Calls Try.prog 20 #[.agg #[.string ⟨#[109]⟩, .slice (some ⟨w.heap.size + 1, 0, none⟩) 1 1, .slice none 0 0, .int .i64 0, .slice none 0 0, .slice none 0 0, .slice none 0 0], .string ⟨#[112, 97, 114, 116, 105, 116, 105, 111, 110]⟩, .string ⟨#[113]⟩] W fun e w' => e = .returned (.int .i64 (-1)) ∧ Below W.heap.size W w') := fun W hB => by
    refine (findM_core (⟨#[109]⟩ : ByteArray) [MP0] [] 0 [] [] [] (.slice (some ⟨w.heap.size + 1, 0, none⟩) 1 1) (.slice none 0 0) (.slice none 0 0) (.slice none 0 0) (.slice none 0 0) (⟨#[112, 97, 114, 116, 105, 116, 105, 111, 110]⟩ : ByteArray) (⟨#[113]⟩ : ByteArray) W (HRB.out.keep hB (fun _ _ h => h.below hB)) (Row.nil _ _ _) (Row.nil _ _ _) (Row.nil _ _ _) (Row.nil _ _ _)).mono fun e w' h => ?_
    obtain ⟨⟨r, he, hf⟩, hb⟩ := h
    rw [show nmM ⟨(⟨#[109]⟩ : ByteArray), [MP0], [], 0, [], [], []⟩ (⟨#[112, 97, 114, 116, 105, 116, 105, 111, 110]⟩ : ByteArray) = _ from nmM_told] at hf
    exact ⟨by rw [he, (fi_one hf).2 (by decide +kernel)], hb⟩
  have C7 : Hid (∀ W, Below W0.heap.size W0 W → Calls Try.prog 15 #[.agg #[.string ⟨#[109]⟩, .slice (some ⟨w.heap.size + 1, 0, none⟩) 1 1, .slice none 0 0, .int .i64 0, .slice none 0 0, .slice none 0 0, .slice none 0 0]] W fun e w' => e = .returned (.int .i64 2) ∧ Below W.heap.size W w') := fun W hB => by
    have h := size_core (⟨#[109]⟩ : ByteArray) [MP0] [] 0 [] [] [] (.slice (some ⟨w.heap.size + 1, 0, none⟩) 1 1) (.slice none 0 0) (.slice none 0 0) (.slice none 0 0) (.slice none 0 0) W (HRB.out.keep hB (fun _ _ h => h.below hB)) (Row.nil _ _ _) (Row.nil _ _ _) (Row.nil _ _ _) (Row.nil _ _ _) (by simp) (by simp) (by simp)
    rw [show szModule ⟨(⟨#[109]⟩ : ByteArray), [MP0], [], 0, [], [], []⟩ = 2 from size_told] at h
    exact h
  have C8 : Hid (∀ W, Below W0.heap.size W0 W → Calls Try.prog 14 #[.agg #[.string ⟨#[109]⟩, .slice (some ⟨w.heap.size + 1, 0, none⟩) 1 1, .slice none 0 0, .int .i64 0, .slice none 0 0, .slice none 0 0, .slice none 0 0], .agg #[.string ⟨#[]⟩, .slice none 0 0, .slice none 0 0, .int .i64 0, .slice none 0 0, .slice none 0 0, .slice none 0 0]] W fun e w' => e = .returned (.bool false) ∧ Below W.heap.size W w') := fun W hB => by
    exact same_told_walk _ W
  have N1 : Hid (∀ W, Calls Try.prog 8 #[.string ⟨#[97, 95, 49]⟩] W fun e w' => e = .returned (.bool true) ∧ w' = W) := fun W => by rw [← name_told1]; exact name_any _ W (by decide +kernel)
  have N2 : Hid (∀ W, Calls Try.prog 8 #[.string ⟨#[49, 97]⟩] W fun e w' => e = .returned (.bool false) ∧ w' = W) := fun W => by rw [← name_told2]; exact name_any _ W (by decide +kernel)
  have B0 : Hid (Below W0.heap.size W0 W0) := Below.refl _ _
  rw [hW0]
  clear hW0
  with_reducible refine (N1.out _).mono ?_
  rintro e W ⟨rfl, h⟩
  have h := h.symm
  subst h
  go_wp2_with fail
  with_reducible refine (N2.out _).mono ?_
  rintro e W ⟨rfl, h⟩
  have h := h.symm
  subst h
  have d0 := cell_later B0.out (HC.out 0 _ rfl)
  have d1 := cell_later B0.out (HC.out 1 _ rfl)
  have d2 := cell_later B0.out (HC.out 2 _ rfl)
  have d3 := cell_later B0.out (HC.out 3 _ rfl)
  have d4 := cell_later B0.out (HC.out 4 _ rfl)
  have d5 := cell_later B0.out (HC.out 5 _ rfl)
  have d6 := cell_later B0.out (HC.out 6 _ rfl)
  go_wp2_with fail
  clear d0 d1 d2 d3 d4 d5 d6
  with_reducible refine (C3.out _ B0.out).mono ?_
  rintro e W1 ⟨rfl, b⟩
  have B1 : Hid (Below W0.heap.size W0 W1) := B0.out.trans (b.mono B0.out.size)
  clear b
  go_wp2_with fail
  with_reducible refine (C4.out _ B1.out).mono ?_
  rintro e W2 ⟨rfl, b⟩
  have B2 : Hid (Below W0.heap.size W0 W2) := B1.out.trans (b.mono B1.out.size)
  clear b
  have d0 := cell_later B2.out (HC.out 0 _ rfl)
  have d1 := cell_later B2.out (HC.out 1 _ rfl)
  have d2 := cell_later B2.out (HC.out 2 _ rfl)
  have d3 := cell_later B2.out (HC.out 3 _ rfl)
  have d4 := cell_later B2.out (HC.out 4 _ rfl)
  have d5 := cell_later B2.out (HC.out 5 _ rfl)
  have d6 := cell_later B2.out (HC.out 6 _ rfl)
  have p0 := cell_later B2.out (HP.out 0 _ rfl)
  have p1 := cell_later B2.out (HP.out 1 _ rfl)
  have p2 := cell_later B2.out (HP.out 2 _ rfl)
  have p3 := cell_later B2.out (HP.out 3 _ rfl)
  have p4 := cell_later B2.out (HP.out 4 _ rfl)
  have p5 := cell_later B2.out (HP.out 5 _ rfl)
  have p6 := cell_later B2.out (HP.out 6 _ rfl)
  have p7 := cell_later B2.out (HP.out 7 _ rfl)
  have p8 := cell_later B2.out (HP.out 8 _ rfl)
  have p9 := cell_later B2.out (HP.out 9 _ rfl)
  have p10 := cell_later B2.out (HP.out 10 _ rfl)
  have p11 := cell_later B2.out (HP.out 11 _ rfl)
  have p12 := cell_later B2.out (HP.out 12 _ rfl)
  go_wp2_with fail
  clear p0 p1 p2 p3 p4 p5 p6 p7 p8 p9 p10 p11 p12
  clear d0 d1 d2 d3 d4 d5 d6
  with_reducible refine (C5.out _ B2.out).mono ?_
  rintro e W3 ⟨rfl, b⟩
  have B3 : Hid (Below W0.heap.size W0 W3) := B2.out.trans (b.mono B2.out.size)
  clear b
  have d0 := cell_later B3.out (HC.out 0 _ rfl)
  have d1 := cell_later B3.out (HC.out 1 _ rfl)
  have d2 := cell_later B3.out (HC.out 2 _ rfl)
  have d3 := cell_later B3.out (HC.out 3 _ rfl)
  have d4 := cell_later B3.out (HC.out 4 _ rfl)
  have d5 := cell_later B3.out (HC.out 5 _ rfl)
  have d6 := cell_later B3.out (HC.out 6 _ rfl)
  go_wp2_with fail
  clear d0 d1 d2 d3 d4 d5 d6
  with_reducible refine (C6.out _ B3.out).mono ?_
  rintro e W4 ⟨rfl, b⟩
  have B4 : Hid (Below W0.heap.size W0 W4) := B3.out.trans (b.mono B3.out.size)
  clear b
  have d0 := cell_later B4.out (HC.out 0 _ rfl)
  have d1 := cell_later B4.out (HC.out 1 _ rfl)
  have d2 := cell_later B4.out (HC.out 2 _ rfl)
  have d3 := cell_later B4.out (HC.out 3 _ rfl)
  have d4 := cell_later B4.out (HC.out 4 _ rfl)
  have d5 := cell_later B4.out (HC.out 5 _ rfl)
  have d6 := cell_later B4.out (HC.out 6 _ rfl)
  go_wp2_with fail
  clear d0 d1 d2 d3 d4 d5 d6
  with_reducible refine (C7.out _ B4.out).mono ?_
  rintro e W5 ⟨rfl, b⟩
  have B5 : Hid (Below W0.heap.size W0 W5) := B4.out.trans (b.mono B4.out.size)
  clear b
  have d0 := cell_later B5.out (HC.out 0 _ rfl)
  have d1 := cell_later B5.out (HC.out 1 _ rfl)
  have d2 := cell_later B5.out (HC.out 2 _ rfl)
  have d3 := cell_later B5.out (HC.out 3 _ rfl)
  have d4 := cell_later B5.out (HC.out 4 _ rfl)
  have d5 := cell_later B5.out (HC.out 5 _ rfl)
  have d6 := cell_later B5.out (HC.out 6 _ rfl)
  go_wp2_with fail
  clear d0 d1 d2 d3 d4 d5 d6
  with_reducible refine (C8.out _ B5.out).mono ?_
  rintro e W6 ⟨rfl, b⟩
  have B6 : Hid (Below W0.heap.size W0 W6) := B5.out.trans (b.mono B5.out.size)
  clear b
  go_wp2_with fail
  go_ret
  exact ⟨rfl, BW.out.trans (B6.out.mono BW.out.size)⟩
end Go.Proofs.Ytchlgihanogeeaa
