/-
  SpanTells, the walk: for any two spans and any tick the Go text answers true, and writes nothing that was there. No conditions but that the tick is an int.
-/
import Derived.Test.YthcoldehpaambaaAnds
namespace Go.Proofs.Ythcoldehpaambaa
open Go.RowKit
set_option linter.unusedSimpArgs false

/-- Is t a tick of the span from a to b? -/
def hasB (a b t : Int) : Bool := decide (a ≤ t) && decide (t < b)
theorem hasB_any (a b t : Int) (w : World) :
    Calls Try.prog 15 #[.agg #[.int .i64 a, .int .i64 b], .int .i64 t] w fun e w' => e = .returned (.bool (hasB a b t)) ∧ Below w.heap.size w w' := has_any a b t w
theorem rhasB_any (a b t : Int) (w : World) :
    Calls Try.prog 16 #[.agg #[.int .i64 a, .int .i64 b], .int .i64 t] w fun e w' => e = .returned (.bool (hasB a b t)) ∧ Below w.heap.size w w' := rhas_any a b t w
theorem hasB_and (a b c d t : Int) : hasB (andFrom a b c d) (andTo a b c d) t = (hasB a b t && hasB c d t) := by
  unfold hasB
  rw [Bool.eq_iff_iff]
  rcases and_cases a b c d with ⟨h, e1, e2⟩ | ⟨h, e1, e2⟩ <;> rw [e1, e2] <;> simp <;> omega
theorem bstep {n : Nat} {W w1 w2 : World} {P : Prop} (hb : Below n w1 w2) (hn : n = w1.heap.size) (h : Below W.heap.size W w1 ∧ P) : Below W.heap.size W w2 := by
  subst hn; exact h.1.trans (hb.mono h.1.size)
theorem of4 {W w1 : World} {p0 p1 p2 p3 : Addr} {xp0 xp1 xp2 xp3 : Value} (hB : Below W.heap.size W w1) (k0 : W.cell? p0 = some xp0) (k1 : W.cell? p1 = some xp1) (k2 : W.cell? p2 = some xp2) (k3 : W.cell? p3 = some xp3) :
    Below W.heap.size W w1 ∧ w1.cell? p0 = some xp0 ∧ w1.cell? p1 = some xp1 ∧ w1.cell? p2 = some xp2 ∧ w1.cell? p3 = some xp3 :=
  ⟨hB, cell_later hB k0, cell_later hB k1, cell_later hB k2, cell_later hB k3⟩
theorem of8 {W w1 : World} {p0 p1 p2 p3 p4 p5 p6 p7 : Addr} {xp0 xp1 xp2 xp3 xp4 xp5 xp6 xp7 : Value} (hB : Below W.heap.size W w1) (k0 : W.cell? p0 = some xp0) (k1 : W.cell? p1 = some xp1) (k2 : W.cell? p2 = some xp2) (k3 : W.cell? p3 = some xp3) (k4 : W.cell? p4 = some xp4) (k5 : W.cell? p5 = some xp5) (k6 : W.cell? p6 = some xp6) (k7 : W.cell? p7 = some xp7) :
    Below W.heap.size W w1 ∧ w1.cell? p0 = some xp0 ∧ w1.cell? p1 = some xp1 ∧ w1.cell? p2 = some xp2 ∧ w1.cell? p3 = some xp3 ∧ w1.cell? p4 = some xp4 ∧ w1.cell? p5 = some xp5 ∧ w1.cell? p6 = some xp6 ∧ w1.cell? p7 = some xp7 :=
  ⟨hB, cell_later hB k0, cell_later hB k1, cell_later hB k2, cell_later hB k3, cell_later hB k4, cell_later hB k5, cell_later hB k6, cell_later hB k7⟩

theorem far_four (a b c d : Int) (w : World) : Calls Try.prog 11 #[.slice (some ⟨w.heap.size, 0, none⟩) 4 4] (w.alloc (.cells #[.int .i64 a, .int .i64 b, .int .i64 c, .int .i64 d] 3)) fun x w' => x = .returned (.bool (farB [a, b, c, d])) ∧ Below (w.alloc (.cells #[.int .i64 a, .int .i64 b, .int .i64 c, .int .i64 d] 3)).heap.size (w.alloc (.cells #[.int .i64 a, .int .i64 b, .int .i64 c, .int .i64 d] 3)) w' :=
  far_some w.heap.size 0 4 4 [a, b, c, d] _ rfl (by omega) (fun i hi => by match i, hi with | 0, _ => simp | 1, _ => simp | 2, _ => simp | 3, _ => simp)

set_option maxRecDepth 100000 in
set_option maxHeartbeats 4000000 in
theorem tells_walk (a b c d t : Int) (w : World) :
    Calls Try.prog 3 #[.agg #[.int .i64 a, .int .i64 b], .agg #[.int .i64 c, .int .i64 d], .int .i64 t] w fun x w' => x = .returned (.bool true) ∧ Below w.heap.size w w' := by
  obtain ⟨B, HB⟩ : ∃ B, Hid (farB [a, b, c, d] = B) := ⟨_, rfl⟩
  go_enter Try.func3, Try.ntmps3
  go_wp2_with fail
  refine (speaks_any _).mono ?_
  rintro _ w1 ⟨rfl, hb⟩
  have k0 := cell_later hb (a := ⟨w.heap.size, 0, none⟩) (v := .int .i64 a) (by simp [go_sem, World.cell?_alloc_past])
  have k1 := cell_later hb (a := ⟨w.heap.size, 1, none⟩) (v := .int .i64 b) (by simp [go_sem, World.cell?_alloc_past])
  have k2 := cell_later hb (a := ⟨w.heap.size + 1, 0, none⟩) (v := .int .i64 c) (by simp [go_sem, World.cell?_alloc_past])
  have k3 := cell_later hb (a := ⟨w.heap.size + 1, 1, none⟩) (v := .int .i64 d) (by simp [go_sem, World.cell?_alloc_past])
  have bel1 : Below w.heap.size w w1 := (((Below.refl _ _).alloc (Nat.le_refl _) _).alloc (by simp) _).trans (hb.mono (by simp; omega))
  clear hb
  go_wp2_with fail
  have fs := far_four a b c d w1
  rw [HB.out] at fs
  refine fs.mono ?_
  clear fs
  rintro _ w2 ⟨rfl, hb⟩
  replace k0 := cell_later hb (cell_al _ k0)
  replace k1 := cell_later hb (cell_al _ k1)
  replace k2 := cell_later hb (cell_al _ k2)
  replace k3 := cell_later hb (cell_al _ k3)
  have bel2 : Below w.heap.size w w2 := (bel1.alloc bel1.size _).trans (hb.mono (by have := bel1.size; simp; omega))
  clear hb bel1
  cases B with
  | true =>
    go_wp2_with fail
    refine (speaks_any _).mono ?_
    rintro _ w3 ⟨rfl, hb⟩
    go_wp2_with fail
    go_ret
    exact ⟨rfl, bel2.trans (hb.mono bel2.size)⟩
  | false =>
    have hf := HB.out
    obtain ⟨a1, a2⟩ := farB_no hf 0 (by simp)
    obtain ⟨b1, b2⟩ := farB_no hf 1 (by simp)
    obtain ⟨c1, c2⟩ := farB_no hf 2 (by simp)
    obtain ⟨d1, d2⟩ := farB_no hf 3 (by simp)
    simp only [List.getD_cons_zero, List.getD_cons_succ] at a1 a2 b1 b2 c1 c2 d1 d2
    clear hf HB
    go_upto_region 3 with fail
    go_cut [7, 8] (fun s7 s8 wx => ∃ x y : Nat, s7 = .pointer (some ⟨x, 0, none⟩) ∧ s8 = .pointer (some ⟨y, 0, none⟩) ∧
      Below w2.heap.size w2 wx ∧ wx.cell? ⟨x, 0, none⟩ = some (.int .i64 a) ∧ wx.cell? ⟨x, 1, none⟩ = some (.int .i64 b) ∧ wx.cell? ⟨y, 0, none⟩ = some (.int .i64 c) ∧ wx.cell? ⟨y, 1, none⟩ = some (.int .i64 d))
    case first =>
      have bel3 := Lib.hid bel2
      clear bel2
      go_region_held3 (fun w' => Below w2.heap.size w2 w' ∧ w'.cell? ⟨w.heap.size, 0, none⟩ = some (.int .i64 a) ∧ w'.cell? ⟨w.heap.size, 1, none⟩ = some (.int .i64 b) ∧ w'.cell? ⟨w.heap.size + 1, 0, none⟩ = some (.int .i64 c) ∧ w'.cell? ⟨w.heap.size + 1, 1, none⟩ = some (.int .i64 d))
        ((refine of4 ?_ k0 k1 k2 k3; repeat (first | exact Below.refl _ _ | apply Below.drew | refine Below.alloc ?_ (by simp; try omega) _ | refine Below.setCell ?_ (by simp; try omega) _)))
        (fail)
      all_goals
        go_wp2_with fail
        go_meet
        refine ⟨_, _, rfl, rfl, ?_, ?_, ?_, ?_, ?_⟩
        · repeat (first | exact Below.refl _ _ | apply Below.drew | refine Below.alloc ?_ (by simp; try omega) _ | refine Below.setCell ?_ (by simp; try omega) _)
        all_goals simp [go_sem, World.cell?_alloc_past]
    case rest =>
      obtain ⟨x, y, rfl, rfl, hw⟩ := hcut
      obtain ⟨hbel, k4, k5, k6, k7⟩ := hw
      replace k0 := cell_later hbel k0
      replace k1 := cell_later hbel k1
      replace k2 := cell_later hbel k2
      replace k3 := cell_later hbel k3
      replace bel2 := bel2.trans (hbel.mono bel2.size)
      clear hbel
      have hw : IntKind.i64.wrap (b - a) = b - a := IntWalk.i64_in _ (by omega)
      obtain ⟨L, hL, hm⟩ : ∃ L, lenT a b = L ∧ (if b - a < 0 then 0 else b - a) = L := ⟨_, rfl, by unfold lenT; split <;> omega⟩
      go_upto_region 4 with fail
      go_cut [45] (fun s wx => s = .bool false ∧ Below wc.heap.size wc wx)
      case first =>
        go_region_held3 (fun w' => Below wc.heap.size wc w' ∧ w'.cell? ⟨w.heap.size, 0, none⟩ = some (.int .i64 a) ∧ w'.cell? ⟨w.heap.size, 1, none⟩ = some (.int .i64 b) ∧ w'.cell? ⟨w.heap.size + 1, 0, none⟩ = some (.int .i64 c) ∧ w'.cell? ⟨w.heap.size + 1, 1, none⟩ = some (.int .i64 d) ∧ w'.cell? ⟨x, 0, none⟩ = some (.int .i64 a) ∧ w'.cell? ⟨x, 1, none⟩ = some (.int .i64 b) ∧ w'.cell? ⟨y, 0, none⟩ = some (.int .i64 c) ∧ w'.cell? ⟨y, 1, none⟩ = some (.int .i64 d))
          (first | assumption | exact of8 (bstep hb rfl (by assumption)) k0 k1 k2 k3 k4 k5 k6 k7 | exact of8 (Below.refl _ _).drew k0 k1 k2 k3 k4 k5 k6 k7)
          (first | (go_at_call 12; refine (lenT_any _ _ _ (by omega) (by omega) (by omega) (by omega)).mono ?_; rintro _ w3 ⟨rfl, hb⟩) | (go_at_call 13; refine (and_any _ _ _ _ _ (by omega) (by omega) (by omega) (by omega) (by omega) (by omega) (by omega) (by omega)).mono ?_; rintro _ w3 ⟨rfl, hb⟩) | (go_at_call 14; refine (rand_any _ _ _ _ _).mono ?_; rintro _ w3 ⟨rfl, hb⟩))
        all_goals
          rename_i hH
          go_wp2_with fail
          go_meet
          exact ⟨rfl, hH.1⟩
      case rest =>
        obtain ⟨rfl, hbel⟩ := hcut
        clear hw hL hm
        replace bel2 := bel2.trans (hbel.mono bel2.size)
        replace k0 := cell_later hbel k0
        replace k1 := cell_later hbel k1
        replace k2 := cell_later hbel k2
        replace k3 := cell_later hbel k3
        replace k4 := cell_later hbel k4
        replace k5 := cell_later hbel k5
        replace k6 := cell_later hbel k6
        replace k7 := cell_later hbel k7
        clear hbel
        have HC : Hid (∀ i, i < 7 → (wc.alloc (.cells #[.int .i64 t, .int .i64 a, .int .i64 b, .int .i64 (a - 1), .int .i64 (b - 1), .int .i64 c, .int .i64 (d - 1)] 3)).cell? ⟨wc.heap.size, i, none⟩ = some (.int .i64 ([t, a, b, a - 1, b - 1, c, d - 1].getD i 0))) := fun i hi => by
          match i, hi with
          | 0, _ => simp
          | 1, _ => simp
          | 2, _ => simp
          | 3, _ => simp
          | 4, _ => simp
          | 5, _ => simp
          | 6, _ => simp
        obtain ⟨zs, hzs⟩ : ∃ zs : List Int, Hid (zs = [t, a, b, a - 1, b - 1, c, d - 1]) := ⟨_, rfl⟩
        rw [← hzs.out] at HC
        go_wp2_with fail
        go_loopw [64] (fun i wr => ∃ k : Nat, k ≤ 7 ∧ i = .int .i64 k ∧ Below wc.heap.size wc wr ∧ Hid (∀ i, i < 7 → wr.cell? ⟨wc.heap.size, i, none⟩ = some (.int .i64 (zs.getD i 0)))) (fun i _ => 7 - (intOf i).toNat)
        case atStart => exact ⟨0, by omega, rfl, (Below.refl _ _).alloc (Nat.le_refl _) _, HC⟩
        case round =>
          obtain ⟨k, hk, rfl, hbel, hcs⟩ := hrel
          by_cases hlt : k < 7
          · have hcell := hcs.out k hlt
            obtain ⟨z, hz⟩ : ∃ z, Hid (zs.getD k 0 = z) := ⟨_, rfl⟩
            rw [hz.out] at hcell
            clear hz
            replace k0 := cell_later hbel k0
            replace k1 := cell_later hbel k1
            replace k2 := cell_later hbel k2
            replace k3 := cell_later hbel k3
            replace k4 := cell_later hbel k4
            replace k5 := cell_later hbel k5
            replace k6 := cell_later hbel k6
            replace k7 := cell_later hbel k7
            have hand := hasB_and a b c d z
            have hbs : hasB a b z = true ∨ hasB a b z = false := by cases hasB a b z <;> simp
            rcases hbs with hab | hab
            · rw [hab, Bool.true_and] at hand
              go_wp2_with fail
              go_region_held3 (fun w' => Below wr.heap.size wr w' ∧ w'.cell? ⟨w.heap.size, 0, none⟩ = some (.int .i64 a) ∧ w'.cell? ⟨w.heap.size, 1, none⟩ = some (.int .i64 b) ∧ w'.cell? ⟨w.heap.size + 1, 0, none⟩ = some (.int .i64 c) ∧ w'.cell? ⟨w.heap.size + 1, 1, none⟩ = some (.int .i64 d) ∧ w'.cell? ⟨x, 0, none⟩ = some (.int .i64 a) ∧ w'.cell? ⟨x, 1, none⟩ = some (.int .i64 b) ∧ w'.cell? ⟨y, 0, none⟩ = some (.int .i64 c) ∧ w'.cell? ⟨y, 1, none⟩ = some (.int .i64 d))
                (first | assumption | exact of8 (bstep hb rfl (by assumption)) k0 k1 k2 k3 k4 k5 k6 k7 | exact of8 (Below.refl _ _).drew k0 k1 k2 k3 k4 k5 k6 k7)
                (first | (go_at_call 15; refine (hasB_any _ _ _ _).mono ?_; rintro _ w3 ⟨rfl, hb⟩) | (go_at_call 16; refine (rhasB_any _ _ _ _).mono ?_; rintro _ w3 ⟨rfl, hb⟩) | (go_at_call 13; refine (and_any _ _ _ _ _ (by omega) (by omega) (by omega) (by omega) (by omega) (by omega) (by omega) (by omega)).mono ?_; rintro _ w3 ⟨rfl, hb⟩))
              rename_i hH
              obtain ⟨hbel2, _⟩ := hH
              go_wp2_with fail
              go_roundw
              case rel => first | exact ⟨k + 1, by omega, by go_num, hbel.trans (hbel2.mono hbel.size), fun i hi => cell_later hbel2 (hcs.out i hi)⟩ | ((repeat apply Exists.intro); exact ⟨⟨k + 1, by omega, by go_num, hbel.trans (hbel2.mono hbel.size), fun i hi => cell_later hbel2 (hcs.out i hi)⟩, rfl⟩)
              case measure => simp [intOf]; omega
            · rw [hab, Bool.false_and] at hand
              go_wp2_with fail
              refine wp_region_held_drew (S := (fun w' => Below wr.heap.size wr w' ∧ w'.cell? ⟨w.heap.size, 0, none⟩ = some (.int .i64 a) ∧ w'.cell? ⟨w.heap.size, 1, none⟩ = some (.int .i64 b) ∧ w'.cell? ⟨w.heap.size + 1, 0, none⟩ = some (.int .i64 c) ∧ w'.cell? ⟨w.heap.size + 1, 1, none⟩ = some (.int .i64 d) ∧ w'.cell? ⟨x, 0, none⟩ = some (.int .i64 a) ∧ w'.cell? ⟨x, 1, none⟩ = some (.int .i64 b) ∧ w'.cell? ⟨y, 0, none⟩ = some (.int .i64 c) ∧ w'.cell? ⟨y, 1, none⟩ = some (.int .i64 d))) (by kernel_rfl) ?_ (fun hHeld => ?_)
              · exact of8 (Below.refl _ _).drew k0 k1 k2 k3 k4 k5 k6 k7
              refine takeD (i := 0) (d := some 68) (v := ?_) _ rfl rfl (by kernel_rfl) (by kernel_rfl) (by kernel_rfl) (fun _ _ _ h => h) (by rfl) ?_ (by assumption) ?_
              rotate_left
              · (intro w hSw; (try dsimp only at hSw); go_simp) <;> with_reducible rfl
              try simp only [Act.put, List.setIfInBounds_toArray, List.set_cons_zero, List.set_cons_succ]
              refine takeD (i := 1) (d := some 69) (v := ?_) _ rfl rfl (by kernel_rfl) (by kernel_rfl) (by kernel_rfl) (fun _ _ _ h => h) (by rfl) ?_ (by assumption) ?_
              rotate_left
              · (intro w hSw; (try dsimp only at hSw); go_simp) <;> with_reducible rfl
              try simp only [Act.put, List.setIfInBounds_toArray, List.set_cons_zero, List.set_cons_succ]
              refine takeD (i := 3) (d := some 71) (v := ?_) _ rfl rfl (by kernel_rfl) (by kernel_rfl) (by kernel_rfl) (fun _ _ _ h => h) (by rfl) ?_ (by assumption) ?_
              rotate_left
              · (intro w hSw; (try dsimp only at hSw); go_simp) <;> with_reducible rfl
              try simp only [Act.put, List.setIfInBounds_toArray, List.set_cons_zero, List.set_cons_succ]
              refine takeD (i := 4) (d := some 72) (v := ?_) _ rfl rfl (by kernel_rfl) (by kernel_rfl) (by kernel_rfl) (fun _ _ _ h => h) (by rfl) ?_ (by assumption) ?_
              rotate_left
              · (intro w hSw; (try dsimp only at hSw); go_simp) <;> with_reducible rfl
              try simp only [Act.put, List.setIfInBounds_toArray, List.set_cons_zero, List.set_cons_succ]
              refine wpAnyH_ready (rs := [2]) (by kernel_rfl) (by simp) ?_
              refine AllReadyH.cons rfl (fun K hK => ?_) AllReadyH.nil
              (go_simp; go_at_call 15; refine (hasB_any _ _ _ _).mono ?_; rintro _ v2 ⟨rfl, hb⟩; try go_wp2_with fail)
              refine hK.out _ _ ?_ (fun hHeld => ?_)
              · exact of8 (bstep hb rfl hHeld) k0 k1 k2 k3 k4 k5 k6 k7
              clear hK K
              try simp only [Act.put, List.setIfInBounds_toArray, List.set_cons_zero, List.set_cons_succ]
              refine wpAnyH_ready (rs := [5]) (by kernel_rfl) (by simp) ?_
              refine AllReadyH.cons rfl (fun K hK => ?_) AllReadyH.nil
              (go_simp; go_at_call 16; refine (rhasB_any _ _ _ _).mono ?_; rintro _ v5 ⟨rfl, hb⟩; try go_wp2_with fail)
              refine hK.out _ _ ?_ (fun hHeld => ?_)
              · exact of8 (bstep hb rfl hHeld) k0 k1 k2 k3 k4 k5 k6 k7
              clear hK K
              try simp only [Act.put, List.setIfInBounds_toArray, List.set_cons_zero, List.set_cons_succ]
              refine takeD (i := 6) (d := some 74) (v := ?_) _ rfl rfl (by kernel_rfl) (by kernel_rfl) (by kernel_rfl) (fun _ _ _ h => h) (by rfl) ?_ (by assumption) ?_
              rotate_left
              · (intro w hSw; (try dsimp only at hSw); go_simp) <;> with_reducible rfl
              try simp only [Act.put, List.setIfInBounds_toArray, List.set_cons_zero, List.set_cons_succ]
              refine takeD (i := 7) (d := some 75) (v := ?_) _ rfl rfl (by kernel_rfl) (by kernel_rfl) (by kernel_rfl) (fun _ _ _ h => h) (by rfl) ?_ (by assumption) ?_
              rotate_left
              · (intro w hSw; (try dsimp only at hSw); go_simp) <;> with_reducible rfl
              try simp only [Act.put, List.setIfInBounds_toArray, List.set_cons_zero, List.set_cons_succ]
              refine takeD (i := 8) (d := some 76) (v := ?_) _ rfl rfl (by kernel_rfl) (by kernel_rfl) (by kernel_rfl) (fun _ _ _ h => h) (by rfl) ?_ (by assumption) ?_
              rotate_left
              · (intro w hSw; (try dsimp only at hSw); go_simp) <;> with_reducible rfl
              try simp only [Act.put, List.setIfInBounds_toArray, List.set_cons_zero, List.set_cons_succ]
              refine takeD (i := 9) (d := some 77) (v := ?_) _ rfl rfl (by kernel_rfl) (by kernel_rfl) (by kernel_rfl) (fun _ _ _ h => h) (by rfl) ?_ (by assumption) ?_
              rotate_left
              · (intro w hSw; (try dsimp only at hSw); go_simp) <;> with_reducible rfl
              try simp only [Act.put, List.setIfInBounds_toArray, List.set_cons_zero, List.set_cons_succ]
              refine takeD (i := 11) (d := some 79) (v := ?_) _ rfl rfl (by kernel_rfl) (by kernel_rfl) (by kernel_rfl) (fun _ _ _ h => h) (by rfl) ?_ (by assumption) ?_
              rotate_left
              · (intro w hSw; (try dsimp only at hSw); go_simp) <;> with_reducible rfl
              try simp only [Act.put, List.setIfInBounds_toArray, List.set_cons_zero, List.set_cons_succ]
              refine takeD (i := 13) (d := some 81) (v := ?_) _ rfl rfl (by kernel_rfl) (by kernel_rfl) (by kernel_rfl) (fun _ _ _ h => h) (by rfl) ?_ (by assumption) ?_
              rotate_left
              · (intro w hSw; (try dsimp only at hSw); go_simp) <;> with_reducible rfl
              try simp only [Act.put, List.setIfInBounds_toArray, List.set_cons_zero, List.set_cons_succ]
              refine takeD (i := 14) (d := some 82) (v := ?_) _ rfl rfl (by kernel_rfl) (by kernel_rfl) (by kernel_rfl) (fun _ _ _ h => h) (by rfl) ?_ (by assumption) ?_
              rotate_left
              · (intro w hSw; (try dsimp only at hSw); go_simp) <;> with_reducible rfl
              try simp only [Act.put, List.setIfInBounds_toArray, List.set_cons_zero, List.set_cons_succ]
              refine wpAnyH_ready (rs := [10]) (by kernel_rfl) (by simp) ?_
              refine AllReadyH.cons rfl (fun K hK => ?_) AllReadyH.nil
              (go_simp; go_at_call 13; refine (and_any _ _ _ _ _ (by omega) (by omega) (by omega) (by omega) (by omega) (by omega) (by omega) (by omega)).mono ?_; rintro _ v10 ⟨rfl, hb⟩; try go_wp2_with fail)
              refine hK.out _ _ ?_ (fun hHeld => ?_)
              · exact of8 (bstep hb rfl hHeld) k0 k1 k2 k3 k4 k5 k6 k7
              clear hK K
              try simp only [Act.put, List.setIfInBounds_toArray, List.set_cons_zero, List.set_cons_succ]
              refine wpAnyH_ready (rs := [12]) (by kernel_rfl) (by simp) ?_
              refine AllReadyH.cons rfl (fun K hK => ?_) AllReadyH.nil
              (go_simp; go_at_call 15; refine (hasB_any _ _ _ _).mono ?_; rintro _ v12 ⟨rfl, hb⟩; try go_wp2_with fail)
              refine hK.out _ _ ?_ (fun hHeld => ?_)
              · exact of8 (bstep hb rfl hHeld) k0 k1 k2 k3 k4 k5 k6 k7
              clear hK K
              try simp only [Act.put, List.setIfInBounds_toArray, List.set_cons_zero, List.set_cons_succ]
              refine wpAnyH_ready (rs := [15]) (by kernel_rfl) (by simp) ?_
              refine AllReadyH.cons rfl (fun K hK => ?_) AllReadyH.nil
              (go_simp; go_at_call 16; refine (rhasB_any _ _ _ _).mono ?_; rintro _ v15 ⟨rfl, hb⟩; try go_wp2_with fail)
              refine hK.out _ _ ?_ (fun hHeld => ?_)
              · exact of8 (bstep hb rfl hHeld) k0 k1 k2 k3 k4 k5 k6 k7
              clear hK K
              try simp only [Act.put, List.setIfInBounds_toArray, List.set_cons_zero, List.set_cons_succ]
              refine takeD (i := 16) (d := some 84) (v := ?_) _ rfl rfl (by kernel_rfl) (by kernel_rfl) (by kernel_rfl) (fun _ _ _ h => h) (by rfl) ?_ (by assumption) ?_
              rotate_left
              · (intro w hSw; (try dsimp only at hSw); go_simp) <;> with_reducible rfl
              try simp only [Act.put, List.setIfInBounds_toArray, List.set_cons_zero, List.set_cons_succ]
              refine skipD (i := 17) (d := some 85) _ rfl rfl (by kernel_rfl) (by kernel_rfl) (by kernel_rfl) (fun _ _ _ h => h) (by rfl) (by assumption) ?_
              try simp only [Act.put, List.setIfInBounds_toArray, List.set_cons_zero, List.set_cons_succ]
              refine skipD (i := 18) (d := some 86) _ rfl rfl (by kernel_rfl) (by kernel_rfl) (by kernel_rfl) (fun _ _ _ h => h) (by rfl) (by assumption) ?_
              try simp only [Act.put, List.setIfInBounds_toArray, List.set_cons_zero, List.set_cons_succ]
              refine skipD (i := 19) (d := some 87) _ rfl rfl (by kernel_rfl) (by kernel_rfl) (by kernel_rfl) (fun _ _ _ h => h) (by rfl) (by assumption) ?_
              try simp only [Act.put, List.setIfInBounds_toArray, List.set_cons_zero, List.set_cons_succ]
              refine takeD (i := 20) (d := some 88) (v := ?_) _ rfl rfl (by kernel_rfl) (by kernel_rfl) (by kernel_rfl) (fun _ _ _ h => h) (by rfl) ?_ (by assumption) ?_
              rotate_left
              · (intro w hSw; (try dsimp only at hSw); go_simp) <;> with_reducible rfl
              try simp only [Act.put, List.setIfInBounds_toArray, List.set_cons_zero, List.set_cons_succ]
              refine takeD (i := 21) (d := some 89) (v := ?_) _ rfl rfl (by kernel_rfl) (by kernel_rfl) (by kernel_rfl) (fun _ _ _ h => h) (by rfl) ?_ (by assumption) ?_
              rotate_left
              · (intro w hSw; (try dsimp only at hSw); go_simp) <;> with_reducible rfl
              try simp only [Act.put, List.setIfInBounds_toArray, List.set_cons_zero, List.set_cons_succ]
              refine takeD (i := 22) (d := some 90) (v := ?_) _ rfl rfl (by kernel_rfl) (by kernel_rfl) (by kernel_rfl) (fun _ _ _ h => h) (by rfl) ?_ (by assumption) ?_
              rotate_left
              · (intro w hSw; (try dsimp only at hSw); go_simp) <;> with_reducible rfl
              try simp only [Act.put, List.setIfInBounds_toArray, List.set_cons_zero, List.set_cons_succ]
              refine wpAnyH_done (by kernel_rfl) ?_ _
              obtain ⟨hbel2, _⟩ := hHeld
              go_wp2_with fail
              go_roundw
              case rel => first | exact ⟨k + 1, by omega, by go_num, hbel.trans (hbel2.mono hbel.size), fun i hi => cell_later hbel2 (hcs.out i hi)⟩ | ((repeat apply Exists.intro); exact ⟨⟨k + 1, by omega, by go_num, hbel.trans (hbel2.mono hbel.size), fun i hi => cell_later hbel2 (hcs.out i hi)⟩, rfl⟩)
              case measure => simp [intOf]; omega
          · obtain rfl : k = 7 := by omega
            go_wp2_with fail
            go_ret
            exact ⟨rfl, bel2.trans (hbel.mono bel2.size)⟩
end Go.Proofs.Ythcoldehpaambaa
