/-
  A word pushed, a word popped: contracts. Each statement bears its own conditions.
-/
import Derived.Test.YthmalhakkdjilaaDoorCp0
import Derived.Test.YthmalhakkdjilaaDoorCpJ
namespace Go.Proofs.YthmalhakkdjilaaDoor
open Go.RowKit
set_option linter.unusedVariables false
set_option linter.unusedSimpArgs false
theorem meth_store (gm : Nat) (W : World) : (method 209 31 (.pointer (some ⟨gm, 0, none⟩)) "Store").run Tryd.prog W = .ok (76, .pointer (some ⟨gm, 0, none⟩)) W := by kernel_rfl
theorem meth_load (gm : Nat) (W : World) : (method 209 31 (.pointer (some ⟨gm, 0, none⟩)) "Load").run Tryd.prog W = .ok (75, .pointer (some ⟨gm, 0, none⟩)) W := by kernel_rfl
set_option maxRecDepth 100000 in
set_option maxHeartbeats 8000000 in
theorem put_no (g gm : Nat) (r : List Int) (mv : Value) (μ : MS) (ng : Nat → Prop) (x : Int) (w : World) (hs : ST w g r mv (-1)) (hm : MM w gm mv μ ng) (hr : RegOk r) (hn : r.getD 17 0 ≤ r.getD 18 0 ∨ r.getD 19 0 < r.getD 17 0) :
    Calls Tryd.prog 50 #[.pointer (some ⟨g, 0, none⟩), .int .u32 x] w fun e w' => EPost w w' g gm mv ng (putV r μ x) e := by
  have he : putV r μ x = ⟨13, r, -1, μ⟩ := if_pos hn
  rw [he]
  have hl := hr.len
  have i17 := RB.cellk (k := .u32) (o := 17) hs (by omega) (kd_reg (by omega))
  have i18 := RB.cellk (k := .u32) (o := 18) hs (by omega) (kd_reg (by omega))
  have i19 := RB.cellk (k := .u32) (o := 19) hs (by omega) (kd_reg (by omega))
  obtain ⟨sp, hsp⟩ : ∃ sp, r.getD 17 0 = sp := ⟨_, rfl⟩
  obtain ⟨fl, hfl⟩ : ∃ fl, r.getD 18 0 = fl := ⟨_, rfl⟩
  obtain ⟨tp, htp⟩ : ∃ tp, r.getD 19 0 = tp := ⟨_, rfl⟩
  rw [hsp] at i17 hn
  rw [hfl] at i18 hn
  rw [htp] at i19 hn
  have HS := Lib.hid hs
  have HM := Lib.hid hm
  by_cases h1 : sp ≤ fl
  · have d1 : decide (sp ≤ fl) = true := by simpa using h1
    clear hs hm hr hn he hl hsp hfl htp h1
    go_enter Tryd.func50, Tryd.ntmps50
    go_wp2_with fail
    go_quiet (fail)
    go_wp2_with fail
    go_ret
    exact ⟨rfl, RB.below HS.out (below_drewN (Below.refl _ _) _), HM.out.below (below_drewN (Below.refl _ _) _), P2.of_past (past_drewN (Past.refl _ _) _)⟩
  · have d1 : decide (sp ≤ fl) = false := by simpa using h1
    have d2 : decide (tp < sp) = true := by simp; omega
    clear hs hm hr hn he hl hsp hfl htp h1
    go_enter Tryd.func50, Tryd.ntmps50
    go_wp2_with fail
    go_quiet (fail)
    go_wp2_with fail
    go_ret
    exact ⟨rfl, RB.below HS.out (below_drewN (Below.refl _ _) _), HM.out.below (below_drewN (Below.refl _ _) _), P2.of_past (past_drewN (Past.refl _ _) _)⟩
set_option maxRecDepth 100000 in
set_option maxHeartbeats 8000000 in
theorem put_ok (g gm : Nat) (r : List Int) (mv : Value) (μ : MS) (ng : Nat → Prop) (x : Int) (w : World) (hs : ST w g r mv (-1)) (hm : MM w gm mv μ ng) (hg : ng g) (hng : ∀ q, ng q → q < w.heap.size) (hr : RegOk r) (hx : U32 x) (hn : ¬ (r.getD 17 0 ≤ r.getD 18 0 ∨ r.getD 19 0 < r.getD 17 0)) :
    Calls Tryd.prog 50 #[.pointer (some ⟨g, 0, none⟩), .int .u32 x] w fun e w' => EPost w w' g gm mv ng (putV r μ x) e := by
  have he : putV r μ x = ⟨(stV μ (r.getD 17 0 - 1) x).2, r.set 17 (r.getD 17 0 - 1), -1, (stV μ (r.getD 17 0 - 1) x).1⟩ := if_neg hn
  rw [he]
  have hl := hr.len
  have i17 := RB.cellk (k := .u32) (o := 17) hs (by omega) (kd_reg (by omega))
  have i18 := RB.cellk (k := .u32) (o := 18) hs (by omega) (kd_reg (by omega))
  have i19 := RB.cellk (k := .u32) (o := 19) hs (by omega) (kd_reg (by omega))
  have f17 := RB.frozen hs 17
  have u17 := hr.u32 (j := 17) (by omega)
  have u18 := hr.u32 (j := 18) (by omega)
  obtain ⟨sp, hsp⟩ : ∃ sp, r.getD 17 0 = sp := ⟨_, rfl⟩
  obtain ⟨fl, hfl⟩ : ∃ fl, r.getD 18 0 = fl := ⟨_, rfl⟩
  obtain ⟨tp, htp⟩ : ∃ tp, r.getD 19 0 = tp := ⟨_, rfl⟩
  have hsp' := hsp
  rw [hsp] at i17 hn u17 ⊢
  rw [hfl] at i18 hn u18
  rw [htp] at i19 hn
  have d1 : decide (sp ≤ fl) = false := by simp; omega
  have d2 : decide (tp < sp) = false := by simp; omega
  obtain ⟨s1, hs1⟩ : ∃ s1, sp - 1 = s1 := ⟨_, rfl⟩
  rw [hs1]
  have hw1 : IntKind.u32.wrap (sp - 1) = s1 := by rw [IntKind.wrap_u32]; omega
  have us1 : U32 s1 := ⟨by omega, by omega⟩
  obtain ⟨v, rfl, _⟩ := hm.ex
  have hne : g ≠ gm := fun e => hm.ne (e ▸ hg)
  have HA := Lib.hid (And.intro hs (And.intro hm (And.intro hg (And.intro hng (And.intro hl (And.intro us1 (And.intro hx hne)))))))
  have HW := Lib.hid hw1
  clear hs hm hr hn he hl hsp hfl htp hne us1 u17 u18 hng hg hx hs1 f17 hw1
  go_enter Tryd.func50, Tryd.ntmps50
  go_wp2_with fail
  go_quiet (fail)
  obtain ⟨W0, hW0⟩ : ∃ W0, w.drewN nq = W0 := ⟨_, rfl⟩
  have b0 : Below w.heap.size w W0 := by rw [← hW0]; exact below_drewN (Below.refl _ _) _
  obtain ⟨hs, hm, hg, hng, hl, us1, hx, hne⟩ := HA.out
  have hs0 := RB.below hs b0
  have hm0 := hm.below b0
  have c17 := RB.cellk (k := .u32) (o := 17) hs0 (by omega) (kd_reg (by omega))
  rw [hsp'] at c17
  have f17 := RB.frozen hs0 17
  obtain ⟨W1, hW1⟩ : ∃ W1, W0.setCell ⟨g, 17, none⟩ (.int .u32 s1) = W1 := ⟨_, rfl⟩
  have hs2 : ST W1 g (r.set 17 s1) (.iface 31 (.pointer (some ⟨gm, 0, none⟩))) (-1) := by rw [← hW1]; exact RB.set hs0 (by omega) (kd_reg (by omega)) s1
  have hp1 : Past g w W1 := by rw [← hW1]; exact (Past.of_below b0).setCell 17 _
  have hm1 := hm.past hp1 hg
  have hl2 : (r.set 17 s1).length = 45 := by simp [hl]
  have j17 := RB.cellk (k := .u32) (o := 17) hs2 (by omega) (kd_reg (by omega))
  rw [getD_set_self _ (by omega)] at j17
  have j45 := RB.tail hs2 0
  rw [hl2] at j45
  simp at j45
  have CS := Lib.hid (store_any gm _ μ ng s1 x W1.drew (hm1.keep ng (Nat.le_refl _) (fun _ _ _ => rfl) (fun _ _ h => h)) (fun q hq => Nat.lt_of_lt_of_le (hng q hq) hp1.size) us1 hx)
  have HF := Lib.hid (And.intro hs2 (And.intro hp1 hne))
  have hms := fun (W : World) => meth_store gm W
  have hw1 := HW.out
  simp only [hW0]
  clear hs hm hs0 hm0 hs2 hp1 hm1 hl hl2 hne us1 hng hg hx HA b0 hW0 i17 i18 i19 d1 d2
  go_upto_region 4 with (fail)
  try simp only [hW1]
  clear hW1 hw1 HW f17 c17
  go_still_tail 12, (by kernel_rfl)
  repeat still_step
  go_wp2_with fail
  refine CS.out.mono ?_
  rintro e W3 ⟨rfl, m3, p3⟩
  have HR : Hid (EPost w W3 g gm (.iface 31 (.pointer (some ⟨gm, 0, none⟩))) ng ⟨(stV μ s1 x).2, r.set 17 s1, -1, (stV μ s1 x).1⟩ (.returned (.int .i64 (stV μ s1 x).2))) := by
    refine ⟨rfl, ?_, m3, ?_⟩
    · exact RB.keep HF.out.1 (p3.block g (RB.lt (w := W1) HF.out.1) HF.out.2.2)
    · exact (P2.of_past HF.out.2.1).trans ⟨p3.os, p3.tape, p3.output, p3.size, fun i hi _ h2 => p3.block i hi h2⟩
  clear m3 p3 CS HF hms
  go_wp2_with fail
  go_ret
  exact HR.out
set_option maxRecDepth 100000 in
set_option maxHeartbeats 8000000 in
theorem take_no (g : Nat) (r : List Int) (mv : Value) (μ : MS) (w : World) (hs : ST w g r mv (-1)) (hr : RegOk r) (hn : r.getD 19 0 ≤ r.getD 17 0 ∨ r.getD 17 0 < r.getD 18 0) :
    Calls Tryd.prog 51 #[.pointer (some ⟨g, 0, none⟩)] w fun e w' => e = .returned (.tuple #[.int .u32 (takeV r μ).2.1, .int .i64 (takeV r μ).1]) ∧ ST w' g (takeV r μ).2.2 mv (-1) ∧ Past g w w' := by
  have he : takeV r μ = (13, 0, r) := if_pos hn
  rw [he]
  have hl := hr.len
  have i17 := RB.cellk (k := .u32) (o := 17) hs (by omega) (kd_reg (by omega))
  have i18 := RB.cellk (k := .u32) (o := 18) hs (by omega) (kd_reg (by omega))
  have i19 := RB.cellk (k := .u32) (o := 19) hs (by omega) (kd_reg (by omega))
  obtain ⟨sp, hsp⟩ : ∃ sp, r.getD 17 0 = sp := ⟨_, rfl⟩
  obtain ⟨fl, hfl⟩ : ∃ fl, r.getD 18 0 = fl := ⟨_, rfl⟩
  obtain ⟨tp, htp⟩ : ∃ tp, r.getD 19 0 = tp := ⟨_, rfl⟩
  rw [hsp] at i17 hn
  rw [hfl] at i18 hn
  rw [htp] at i19 hn
  have HS := Lib.hid hs
  by_cases h1 : tp ≤ sp
  · have d1 : decide (tp ≤ sp) = true := by simpa using h1
    clear hs hr hn he hl hsp hfl htp h1
    go_enter Tryd.func51, Tryd.ntmps51
    go_wp2_with fail
    go_quiet (fail)
    go_wp2_with fail
    go_ret2
    exact ⟨rfl, RB.below HS.out (below_drewN (Below.refl _ _) _), past_drewN (Past.refl _ _) _⟩
  · have d1 : decide (tp ≤ sp) = false := by simpa using h1
    have d2 : decide (sp < fl) = true := by simp; omega
    clear hs hr hn he hl hsp hfl htp h1
    go_enter Tryd.func51, Tryd.ntmps51
    go_wp2_with fail
    go_quiet (fail)
    go_wp2_with fail
    go_ret2
    exact ⟨rfl, RB.below HS.out (below_drewN (Below.refl _ _) _), past_drewN (Past.refl _ _) _⟩
set_option maxRecDepth 100000 in
set_option maxHeartbeats 8000000 in
theorem take_ok (g gm : Nat) (r : List Int) (mv : Value) (μ : MS) (ng : Nat → Prop) (w : World) (hs : ST w g r mv (-1)) (hm : MM w gm mv μ ng) (hg : ng g) (hng : ∀ q, ng q → q < w.heap.size) (hr : RegOk r) (hn : ¬ (r.getD 19 0 ≤ r.getD 17 0 ∨ r.getD 17 0 < r.getD 18 0)) :
    Calls Tryd.prog 51 #[.pointer (some ⟨g, 0, none⟩)] w fun e w' => e = .returned (.tuple #[.int .u32 (takeV r μ).2.1, .int .i64 (takeV r μ).1]) ∧ ST w' g (takeV r μ).2.2 mv (-1) ∧ Past g w w' := by
  have he : takeV r μ = (ldE μ.W (r.getD 17 0), ldX μ.W (r.getD 17 0), r.set 17 (r.getD 17 0 + 1)) := if_neg hn
  rw [he]
  have hl := hr.len
  have i17 := RB.cellk (k := .u32) (o := 17) hs (by omega) (kd_reg (by omega))
  have i18 := RB.cellk (k := .u32) (o := 18) hs (by omega) (kd_reg (by omega))
  have i19 := RB.cellk (k := .u32) (o := 19) hs (by omega) (kd_reg (by omega))
  have f17 := RB.frozen hs 17
  have u17 := hr.u32 (j := 17) (by omega)
  have u19 := hr.u32 (j := 19) (by omega)
  obtain ⟨sp, hsp⟩ : ∃ sp, r.getD 17 0 = sp := ⟨_, rfl⟩
  obtain ⟨fl, hfl⟩ : ∃ fl, r.getD 18 0 = fl := ⟨_, rfl⟩
  obtain ⟨tp, htp⟩ : ∃ tp, r.getD 19 0 = tp := ⟨_, rfl⟩
  have hsp' := hsp
  rw [hsp] at i17 hn u17 ⊢
  rw [hfl] at i18 hn
  rw [htp] at i19 hn u19
  have d1 : decide (tp ≤ sp) = false := by simp; omega
  have d2 : decide (sp < fl) = false := by simp; omega
  obtain ⟨s1, hs1⟩ : ∃ s1, sp + 1 = s1 := ⟨_, rfl⟩
  rw [hs1]
  have hw1 : IntKind.u32.wrap (sp + 1) = s1 := by rw [IntKind.wrap_u32]; omega
  have us1 : U32 sp := ⟨by omega, by omega⟩
  have hw2 : IntKind.u32.wrap (s1 - 1) = sp := by rw [IntKind.wrap_u32]; clear hw1; omega
  obtain ⟨v, rfl, _⟩ := hm.ex
  have hne : g ≠ gm := fun e => hm.ne (e ▸ hg)
  have HA := Lib.hid (And.intro hs (And.intro hm (And.intro hg (And.intro hng (And.intro hl (And.intro us1 hne))))))
  have HW := Lib.hid (And.intro hw1 hw2)
  clear hs hm hr hn he hl hsp hfl htp hne us1 u17 u19 hng hg hs1 f17 hw1 hw2
  go_enter Tryd.func51, Tryd.ntmps51
  go_wp2_with fail
  go_quiet (fail)
  obtain ⟨W0, hW0⟩ : ∃ W0, w.drewN nq = W0 := ⟨_, rfl⟩
  have b0 : Below w.heap.size w W0 := by rw [← hW0]; exact below_drewN (Below.refl _ _) _
  obtain ⟨hs, hm, hg, hng, hl, us1, hne⟩ := HA.out
  have hs0 := RB.below hs b0
  have hm0 := hm.below b0
  have c17 := RB.cellk (k := .u32) (o := 17) hs0 (by omega) (kd_reg (by omega))
  rw [hsp'] at c17
  have f17 := RB.frozen hs0 17
  obtain ⟨W1, hW1⟩ : ∃ W1, W0.setCell ⟨g, 17, none⟩ (.int .u32 s1) = W1 := ⟨_, rfl⟩
  have hs2 : ST W1 g (r.set 17 s1) (.iface 31 (.pointer (some ⟨gm, 0, none⟩))) (-1) := by rw [← hW1]; exact RB.set hs0 (by omega) (kd_reg (by omega)) s1
  have hp1 : Past g w W1 := by rw [← hW1]; exact (Past.of_below b0).setCell 17 _
  have hm1 := hm.past hp1 hg
  have hl2 : (r.set 17 s1).length = 45 := by simp [hl]
  have j17 := RB.cellk (k := .u32) (o := 17) hs2 (by omega) (kd_reg (by omega))
  rw [getD_set_self _ (by omega)] at j17
  have j45 := RB.tail hs2 0
  rw [hl2] at j45
  simp at j45
  have CS := Lib.hid (fun (W : World) (hb : Below W1.heap.size W1 W) => load_any gm _ μ ng sp W (hm1.below hb) us1)
  have HF := Lib.hid (And.intro hs2 (And.intro hp1 hne))
  have hms := fun (W : World) => meth_load gm W
  obtain ⟨hw1, hw2⟩ := HW.out
  simp only [hW0]
  clear hs hm hs0 hm0 hs2 hp1 hm1 hl hl2 hne us1 hng hg HA b0 hW0 i17 i18 i19 d1 d2
  go_upto_region 4 with (fail)
  try simp only [hW1]
  clear hW1 hw1 HW f17 c17
  refine wp_region_held_drew (S := fun w' => Below W1.heap.size W1 w' ∧ w'.cell? ⟨g, 17, none⟩ = some (.int .u32 s1) ∧ w'.cell? ⟨g, 45, none⟩ = some (.iface 31 (.pointer (some ⟨gm, 0, none⟩)))) (by kernel_rfl) ?_ (fun hHeld => ?_)
  · exact ⟨(Below.refl _ _).drew, j17, j45⟩
  refine takeD (i := 0) (d := some 37) (v := ?_) _ rfl rfl (by kernel_rfl) (by kernel_rfl) (by kernel_rfl) (fun _ _ _ h => h) (by rfl) ?_ (by assumption) ?_
  rotate_left
  · (intro w hSw; (try dsimp only at hSw); go_simp) <;> with_reducible rfl
  try simp only [Act.put, List.setIfInBounds_toArray, List.set_cons_zero, List.set_cons_succ]
  refine takeD (i := 1) (d := some 38) (v := ?_) _ rfl rfl (by kernel_rfl) (by kernel_rfl) (by kernel_rfl) (fun _ _ _ h => h) (by rfl) ?_ (by assumption) ?_
  rotate_left
  · (intro w hSw; (try dsimp only at hSw); go_simp) <;> with_reducible rfl
  try simp only [Act.put, List.setIfInBounds_toArray, List.set_cons_zero, List.set_cons_succ]
  refine takeD (i := 2) (d := some 39) (v := ?_) _ rfl rfl (by kernel_rfl) (by kernel_rfl) (by kernel_rfl) (fun _ _ _ h => h) (by rfl) ?_ (by assumption) ?_
  rotate_left
  · (intro w hSw; (try dsimp only at hSw); go_simp) <;> with_reducible rfl
  try simp only [Act.put, List.setIfInBounds_toArray, List.set_cons_zero, List.set_cons_succ]
  refine takeD (i := 3) (d := some 40) (v := ?_) _ rfl rfl (by kernel_rfl) (by kernel_rfl) (by kernel_rfl) (fun _ _ _ h => h) (by rfl) ?_ (by assumption) ?_
  rotate_left
  · (intro w hSw; (try dsimp only at hSw); go_simp) <;> with_reducible rfl
  try simp only [Act.put, List.setIfInBounds_toArray, List.set_cons_zero, List.set_cons_succ]
  refine takeD (i := 4) (d := some 41) (v := ?_) _ rfl rfl (by kernel_rfl) (by kernel_rfl) (by kernel_rfl) (fun _ _ _ h => h) (by rfl) ?_ (by assumption) ?_
  rotate_left
  · (intro w hSw; (try dsimp only at hSw); go_simp) <;> with_reducible rfl
  try simp only [Act.put, List.setIfInBounds_toArray, List.set_cons_zero, List.set_cons_succ]
  refine takeD (i := 5) (d := some 42) (v := ?_) _ rfl rfl (by kernel_rfl) (by kernel_rfl) (by kernel_rfl) (fun _ _ _ h => h) (by rfl) ?_ (by assumption) ?_
  rotate_left
  · (intro w hSw; (try dsimp only at hSw); go_simp) <;> with_reducible rfl
  try simp only [Act.put, List.setIfInBounds_toArray, List.set_cons_zero, List.set_cons_succ]
  refine takeD (i := 6) (d := some 43) (v := ?_) _ rfl rfl (by kernel_rfl) (by kernel_rfl) (by kernel_rfl) (fun _ _ _ h => h) (by rfl) ?_ (by assumption) ?_
  rotate_left
  · (intro w hSw; (try dsimp only at hSw); go_simp) <;> with_reducible rfl
  try simp only [Act.put, List.setIfInBounds_toArray, List.set_cons_zero, List.set_cons_succ]
  refine takeD (i := 7) (d := some 44) (v := ?_) _ rfl rfl (by kernel_rfl) (by kernel_rfl) (by kernel_rfl) (fun _ _ _ h => h) (by rfl) ?_ (by assumption) ?_
  rotate_left
  · (intro w hSw; (try dsimp only at hSw); go_simp) <;> with_reducible rfl
  try simp only [Act.put, List.setIfInBounds_toArray, List.set_cons_zero, List.set_cons_succ]
  refine takeD (i := 8) (d := some 45) (v := ?_) _ rfl rfl (by kernel_rfl) (by kernel_rfl) (by kernel_rfl) (fun _ _ _ h => h) (by rfl) ?_ (by assumption) ?_
  rotate_left
  · (intro w hSw; (try dsimp only at hSw); go_simp) <;> with_reducible rfl
  try simp only [Act.put, List.setIfInBounds_toArray, List.set_cons_zero, List.set_cons_succ]
  refine takeD (i := 9) (d := some 46) (v := ?_) _ rfl rfl (by kernel_rfl) (by kernel_rfl) (by kernel_rfl) (fun _ _ _ h => h) (by rfl) ?_ (by assumption) ?_
  rotate_left
  · (intro w hSw; (try dsimp only at hSw); go_simp) <;> with_reducible rfl
  try simp only [Act.put, List.setIfInBounds_toArray, List.set_cons_zero, List.set_cons_succ]
  refine takeD (i := 10) (d := some 47) (v := ?_) _ rfl rfl (by kernel_rfl) (by kernel_rfl) (by kernel_rfl) (fun _ _ _ h => h) (by rfl) ?_ (by assumption) ?_
  rotate_left
  · (intro w hSw; (try dsimp only at hSw); go_simp) <;> with_reducible rfl
  try simp only [Act.put, List.setIfInBounds_toArray, List.set_cons_zero, List.set_cons_succ]
  refine takeD (i := 11) (d := some 48) (v := ?_) _ rfl rfl (by kernel_rfl) (by kernel_rfl) (by kernel_rfl) (fun _ _ _ h => h) (by rfl) ?_ (by assumption) ?_
  rotate_left
  · (intro w hSw; (try dsimp only at hSw); go_simp) <;> with_reducible rfl
  try simp only [Act.put, List.setIfInBounds_toArray, List.set_cons_zero, List.set_cons_succ]
  refine wpAnyH_ready (rs := [12]) (by kernel_rfl) (by simp) ?_
  refine AllReadyH.cons rfl (fun K hK => ?_) AllReadyH.nil
  (go_simp; refine (CS.out _ hHeld.1).mono ?_; rintro e wt ⟨rfl, hbt⟩; try go_wp2_with fail)
  refine hK.out _ _ ?_ (fun hHeld => ?_)
  · exact ⟨hHeld.1.trans (hbt.mono hHeld.1.size), cell_later hbt hHeld.2.1, cell_later hbt hHeld.2.2⟩
  clear hK K
  try simp only [Act.put, List.setIfInBounds_toArray, List.set_cons_zero, List.set_cons_succ]
  refine takeD (i := 13) (d := some 50) (v := ?_) _ rfl rfl (by kernel_rfl) (by kernel_rfl) (by kernel_rfl) (fun _ _ _ h => h) (by rfl) ?_ (by assumption) ?_
  rotate_left
  · (intro w hSw; (try dsimp only at hSw); go_simp) <;> with_reducible rfl
  try simp only [Act.put, List.setIfInBounds_toArray, List.set_cons_zero, List.set_cons_succ]
  refine takeD (i := 14) (d := some 51) (v := ?_) _ rfl rfl (by kernel_rfl) (by kernel_rfl) (by kernel_rfl) (fun _ _ _ h => h) (by rfl) ?_ (by assumption) ?_
  rotate_left
  · (intro w hSw; (try dsimp only at hSw); go_simp) <;> with_reducible rfl
  try simp only [Act.put, List.setIfInBounds_toArray, List.set_cons_zero, List.set_cons_succ]
  refine takeD (i := 15) (d := some 2) (v := ?_) _ rfl rfl (by kernel_rfl) (by kernel_rfl) (by kernel_rfl) (fun _ _ _ h => h) (by rfl) ?_ (by assumption) ?_
  rotate_left
  · (intro w hSw; (try dsimp only at hSw); go_simp) <;> with_reducible rfl
  try simp only [Act.put, List.setIfInBounds_toArray, List.set_cons_zero, List.set_cons_succ]
  refine takeD (i := 16) (d := some 3) (v := ?_) _ rfl rfl (by kernel_rfl) (by kernel_rfl) (by kernel_rfl) (fun _ _ _ h => h) (by rfl) ?_ (by assumption) ?_
  rotate_left
  · (intro w hSw; (try dsimp only at hSw); go_simp) <;> with_reducible rfl
  try simp only [Act.put, List.setIfInBounds_toArray, List.set_cons_zero, List.set_cons_succ]
  refine wpAnyH_done (by kernel_rfl) ?_ _
  have HR := Lib.hid (And.intro (RB.below HF.out.1 hHeld.1) (HF.out.2.1.trans (Past.of_below hHeld.1)))
  clear hHeld CS HF hms hw2
  go_wp2_with fail
  go_ret2
  exact ⟨rfl, HR.out.1, HR.out.2⟩
end Go.Proofs.YthmalhakkdjilaaDoor
