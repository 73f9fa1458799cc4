/-
  LockRising's walk. Each statement bears its own conditions.
-/
import Derived.Test.YtbnnpfhgpbaedaaLkV
namespace Go.Proofs.Ytbnnpfhgpbaedaa.K
open Go.RowKit
set_option linter.unusedVariables false
set_option linter.unusedSimpArgs false
structure RC0 (lo : Nat) (w : World) (v iv : Value) (wr : World) : Prop where
  ex : ∃ (j : Nat) (A : Option Addr) (c : Nat), j ≤ 16 ∧ iv = .int .i64 (j : Int) ∧ v = .slice A j c ∧ wr.ownsRow lo 3 1 (.slice A j c) j (Go.Proofs.Ytbnnpfhgpbaedaa.C (List.replicate j 63)) ∧ Below lo w wr
structure RE (lo j : Nat) (g bc bw bm : Nat) (cs : List Int) (w : World) (iv : Value) (wr : World) : Prop where
  ex : ∃ (N : Nat) (rb : Nat → Nat) (ws : Nat → List (Int × Int)) (os : Int → Option Int), iv = .int .i64 (j : Int) ∧ RX lo (j + 1) g bc bw bm N rb cs ws os wr ∧ Below lo w wr
structure RO (lo len : Nat) (g bc bw bm : Nat) (cs : List Int) (w : World) (iv : Value) (wr : World) : Prop where
  ex : ∃ (j N : Nat) (rb : Nat → Nat) (ws : Nat → List (Int × Int)) (os : Int → Option Int), j ≤ len ∧ j ≤ 60 ∧ iv = .int .i64 (j : Int) ∧ RX lo j g bc bw bm N rb cs ws os wr ∧ Below lo w wr
structure RW (lo j : Nat) (g bc bw bm N : Nat) (rb : Nat → Nat) (cs : List Int) (ws : Nat → List (Int × Int)) (os : Int → Option Int) (w : World) (wr : World) : Prop where
  rx : RX lo j g bc bw bm N rb cs ws os wr
  b : Below lo w wr
structure R1 (lo j : Nat) (g bc bw bm N : Nat) (rb : Nat → Nat) (cs : List Int) (ws : Nat → List (Int × Int)) (os : Int → Option Int) (w : World) (iv : Value) (wr : World) : Prop where
  ex : ∃ x : Nat, x ≤ 8 ∧ iv = .int .i64 (x : Int) ∧ RW lo j g bc bw bm N rb cs ws os w wr
structure R2 (lo j : Nat) (g bc bw bm N : Nat) (rb : Nat → Nat) (cs : List Int) (ws : Nat → List (Int × Int)) (os : Int → Option Int) (w : World) (av kv : Value) (wr : World) : Prop where
  ex : ∃ (k : Nat) (a : Int), kv = .int .i64 (k : Int) ∧ av = .int .i64 a ∧ Jn ws os k a ∧ RW lo j g bc bw bm N rb cs ws os w wr
structure R3 (lo j : Nat) (g bc bw bm N : Nat) (rb : Nat → Nat) (cs : List Int) (ws : Nat → List (Int × Int)) (os : Int → Option Int) (a : Int) (w : World) (nv iv : Value) (wr : World) : Prop where
  ex : ∃ n : Nat, n ≤ 16 ∧ nv = .int .i64 (nx ws os a n) ∧ iv = .int .i64 (n : Int) ∧ RW lo j g bc bw bm N rb cs ws os w wr
structure R4 (lo j : Nat) (g bc bw bm N : Nat) (rb : Nat → Nat) (cs : List Int) (ws : Nat → List (Int × Int)) (os : Int → Option Int) (a : Int) (n : Nat) (v : Value) (r : Nat) (w : World) (nv iv : Value) (wr : World) : Prop where
  ex : ∃ y : Nat, y ≤ (ws n).length ∧ nv = .int .i64 (ny ws os a n y) ∧ iv = .int .i64 (y : Int) ∧ I.RowV wr v r (idsP (ws n)) ∧ RW lo j g bc bw bm N rb cs ws os w wr
theorem rep_get (i : Nat) (h : i < 16) : (List.replicate 16 (63 : Int)).getD i 0 = 63 := by
  rw [List.getD_eq_getElem?_getD, List.getElem?_replicate, if_pos h]; rfl
theorem w64 (q : Nat) (h : q < 1000) : wrap64 (q : Int) = (q : Int) := IntWalk.wrap64_in _ (by omega)
theorem lt_k {q n : Nat} (h : (q : Int) < (n : Int)) (hn : n ≤ 100) : q < 1000 := by omega
set_option maxRecDepth 100000 in
set_option maxHeartbeats 16000000 in
theorem rising_walk (a' : Option Addr) (len cap : Nat) (m1 : List AC) (w : World) (h1 : Row w 4 RK (.slice a' len cap) m1) : Calls Try.prog 5 #[.slice a' len cap] w fun e w' => e = .returned (.bool true) ∧ Below w.heap.size w w' := by
  have HM := Lib.hid h1
  obtain ⟨i0, hi, hz0, hz1, hz2⟩ := I.info_of I.int_info
  obtain ⟨lo, hlo⟩ : ∃ lo, w.heap.size = lo := ⟨_, rfl⟩
  have HLO : Hid (lo ≤ w.heap.size ∧ w.heap.size ≤ lo) := by unfold Hid; omega
  have BR0 : Hid (Below lo w w) := by rw [← hlo]; exact Below.refl _ _
  rw [hlo]
  clear h1 hlo
  have hz : ∀ (x : Nat) (w : World), (binOp .eql 24 (.pointer (some ⟨x, 0, none⟩)) (.pointer none)).run Try.prog w = .ok (.bool false) w := fun _ _ => rfl
  go_enter Try.func5, Try.ntmps5
  go_wp2_with fail
  go_loopw [3, 4] (fun v iv wr => RC0 lo w v iv wr) (fun _ i _ => 17 - (intOf i).toNat)
  case atStart => exact ⟨⟨0, none, 0, Nat.zero_le _, rfl, rfl, World.ownsRow_nil _ _ _ _, BR0.out⟩⟩
  case round =>
    obtain ⟨⟨j, A1, c, hj, rfl, rfl, ho, hb⟩⟩ := hrel
    have HO := Lib.hid ho
    have HB := Lib.hid hb
    have HJ := Lib.hid hj
    clear ho hb hj
    by_cases hlt : j < 16
    · have hjI : (j : Int) < 16 := by omega
      have HX : Hid (j < 16) := hlt
      clear hlt
      have BX : Below wr.heap.size wr (wr.alloc (.cells #[.int .i64 63] 3)) := (Below.refl _ _).alloc (Nat.le_refl _) _
      have HO1 : Hid ((wr.alloc (.cells #[.int .i64 63] 3)).ownsRow lo 3 1 (.slice A1 j c) j (Go.Proofs.Ytbnnpfhgpbaedaa.C (List.replicate j 63))) := own_below HO.out BX
      have RD : Hid (Reads (wr.alloc (.cells #[.int .i64 63] 3)) (wr.heap.size + 1) 1 (some ⟨wr.heap.size, 0, none⟩) 1 [.int .i64 63]) := one_row (w := wr) (.int .i64 63) 3
      have BX1 := Lib.hid BX
      clear BX
      go_wp2_with (at_builtin; refine wpList_append_any _ rfl _ _ 22 rfl lo 3 i0 (.int .i64 0) 1 8 Try.underlying22 hi hz0 hz1 hz2 rfl (by decide) _ _ _ rfl HO1.out (wr.heap.size + 1) (some ⟨wr.heap.size, 0, none⟩) 1 1 [.int .i64 63] rfl RD.out ?c2 ?c3 ?c4 ?c5 ?_)
      case c2 => intro u hu; simp at hu; subst hu; rfl
      case c3 => have := HJ.out; unfold maxLen; omega
      case c4 => have := HJ.out; omega
      case c5 => have := HB.out.size; have := HLO.out; simp; omega
      intro v' w2 hown hgrow hblk
      obtain ⟨A2, c2, rfl⟩ := slice_form hown
      have HO2 : Hid (w2.ownsRow lo 3 1 (.slice A2 (j + 1) c2) (j + 1) (Go.Proofs.Ytbnnpfhgpbaedaa.C (List.replicate (j + 1) 63))) := by
        unfold Hid
        rw [List.replicate_succ', Go.Proofs.Ytbnnpfhgpbaedaa.C_app]; exact hown
      have HB2 : Hid (Below lo w w2) := by
        have h1 := HB.out.trans (BX1.out.mono (by have := HB.out.size; have := HLO.out; omega))
        exact h1.grown hgrow (by have := HB.out.size; have := HLO.out; simp; omega) (fun k hk => (HO1.out.lt k hk).1)
      clear hown hgrow hblk
      go_wp2_with fail
      go_roundw
      case rel =>
        have Q : RC0 lo w (.slice A2 (j + 1) c2) (.int .i64 ((j : Int) + 1)) w2 := ⟨⟨j + 1, A2, c2, HX.out, by go_num, rfl, HO2.out, HB2.out⟩⟩
        first | exact Q | ((repeat apply Exists.intro); exact ⟨Q, rfl⟩)
      case measure => have := HX.out; simp [intOf]; omega
    · have hjI : ¬ (j : Int) < 16 := by omega
      obtain rfl : j = 16 := by have := HJ.out; omega
      clear hlt
      obtain ⟨cs, hcs⟩ : ∃ cs, List.replicate 16 (63 : Int) = cs := ⟨_, rfl⟩
      have HLEN : Hid (cs.length = 16) := by unfold Hid; rw [← hcs]; rfl
      have H63 : Hid (∀ i, i < 16 → cs.getD i 0 = 63) := by unfold Hid; rw [← hcs]; exact rep_get
      have HRV : Hid (∃ rc, I.RowV wr (.slice A1 16 c) rc cs) := by
        have h0 := HO.out
        rw [hcs] at h0
        have h0' : wr.ownsRow lo 3 1 (.slice A1 16 c) cs.length (Go.Proofs.Ytbnnpfhgpbaedaa.C cs) := by rw [HLEN.out]; exact h0
        obtain ⟨A, c', rc, hv, r, _⟩ := row_of_own h0'
        exact ⟨rc, r⟩
      obtain ⟨rc, hrv⟩ := HRV.out
      have NE := Lib.hid (new_any _ rc cs wr hrv (by rw [HLEN.out]; decide) (fun i hi => by rw [H63.out i (by have := HLEN.out; omega)]; omega))
      clear hcs hrv HRV HO hi hz0 hz1 hz2
      go_wp2_with fail
      refine NE.out.mono ?_
      rintro e w1 ⟨g, bc, bw, bm, rfl, lv, b1⟩
      have B1 : Hid (Below lo w w1) := HB.out.trans (b1.mono (by have := HB.out.size; have := HLO.out; omega))
      have T0 : Hid (RX lo 0 g bc bw bm 0 (fun _ => bw) cs (fun _ => []) (fun _ => none) w1) := ⟨lv.less (by have := HB.out.size; have := HLO.out; omega), Nat.le_refl _, fun i hi => Nat.le_refl _, Ri.init⟩
      clear lv b1 NE
      go_wp2_with fail
      go_loopw [7] (fun iv wr => RO lo len g bc bw bm cs w iv wr) (fun i _ => 61 - (intOf i).toNat)
      case atStart => exact ⟨⟨0, _, _, _, _, Nat.zero_le _, Nat.zero_le _, rfl, T0.out, B1.out⟩⟩
      case round =>
        obtain ⟨⟨j, N, rb, ws, os, hj, hj60, rfl, hrx, hb⟩⟩ := hrel
        have RXH := Lib.hid hrx
        have HB := Lib.hid hb
        have HJ : Hid (j ≤ 60) := hj60
        clear hrx hb HJ
        by_cases hlt : j < len ∧ j < 60
        · have hjI : (j : Int) < (len : Int) := by omega
          have hj60I : (j : Int) < 60 := by omega
          have HX : Hid (j < len ∧ j < 60) := hlt
          obtain ⟨hml, b, off, x, xs, hax, hbl, _, hRA, _, hc⟩ := HM.out.at_ j hlt.1
          clear hml
          subst hax
          have hRA : xs = [.int .i64 x.d, .int .i64 x.id, .int .i64 x.b, .int .i64 x.l] := hRA
          subst hRA
          obtain ⟨xd, xid, xb, xl⟩ := x
          have HC : Hid (∀ W, Below lo w W → W.cell? ⟨b, off + j * 4, none⟩ = some (.int .i64 xd) ∧ W.cell? ⟨b, off + j * 4 + 1, none⟩ = some (.int .i64 xid) ∧ W.cell? ⟨b, off + j * 4 + 2, none⟩ = some (.int .i64 xb) ∧ W.cell? ⟨b, off + j * 4 + 3, none⟩ = some (.int .i64 xl)) := fun W hW =>
            ⟨cell_low hW (by have := HLO.out; omega) (hc 0 _ rfl), cell_low hW (by have := HLO.out; omega) (hc 1 _ rfl), cell_low hW (by have := HLO.out; omega) (hc 2 _ rfl), cell_low hW (by have := HLO.out; omega) (hc 3 _ rfl)⟩
          obtain ⟨u1, q1, f1, f2, f3, f4, f5⟩ := lowK 16 (by omega) xl
          obtain ⟨u2, q2, p1, p2, p3, p4, p5⟩ := lowK 8 (by omega) xid
          obtain ⟨u3, q3, r1, r2, r3, r4, r5⟩ := lowK 63 (by omega) xb
          have HQ1 : Hid (q1 < 16) := by unfold Hid; omega
          have HQ2 : Hid (q2 < 8) := by unfold Hid; omega
          have HQ3 : Hid (q3 < 63) := by unfold Hid; omega
          have HQ3b : Hid (1 ≤ 1 + (q3 : Int) ∧ 1 + (q3 : Int) ≤ 63) := by unfold Hid; omega
          have hw1 : wrap64 (q1 : Int) = (q1 : Int) := w64 _ (Nat.lt_trans HQ1.out (by decide))
          have hw2 : wrap64 (q2 : Int) = (q2 : Int) := w64 _ (Nat.lt_trans HQ2.out (by decide))
          have HW3 : Hid (wrap64 (q3 : Int) = (q3 : Int)) := w64 _ (Nat.lt_trans HQ3.out (by decide))
          have HW4 : Hid (wrap64 (1 + (q3 : Int)) = 1 + (q3 : Int)) := by
            have := w64 (1 + q3) (by have := HQ3.out; exact Nat.lt_of_le_of_lt (Nat.add_le_add_left (Nat.le_of_lt this) 1) (by decide))
            rw [show ((1 + q3 : Nat) : Int) = 1 + (q3 : Int) by simp] at this
            exact this
          obtain ⟨e0, e1, e2, e3⟩ := HC.out wr HB.out
          clear hc hbl hlt hj hj60 T0 B1
          go_wp2_with fail
          refine wp_region_held_drew (S := (fun w' => Below wr.heap.size wr w' ∧ w'.cell? ⟨b, off + j * 4 + 1, none⟩ = some (.int .i64 xid) ∧ w'.cell? ⟨b, off + j * 4 + 3, none⟩ = some (.int .i64 xl))) (by kernel_rfl) ?_ (fun hHeld => ?_)
          · exact ⟨(Below.refl _ _).drew, e1, e3⟩
          refine takeD (i := 0) (d := some 46) (v := ?_) _ rfl rfl (by kernel_rfl) (by kernel_rfl) (by kernel_rfl) (fun _ _ _ h => h) (by rfl) ?_ (by assumption) ?_
          rotate_left
          · (intro w hSw; (try dsimp only at hSw); go_simp) <;> with_reducible rfl
          try simp only [Act.put, List.setIfInBounds_toArray, List.set_cons_zero, List.set_cons_succ]
          refine takeD (i := 1) (d := some 47) (v := ?_) _ rfl rfl (by kernel_rfl) (by kernel_rfl) (by kernel_rfl) (fun _ _ _ h => h) (by rfl) ?_ (by assumption) ?_
          rotate_left
          · (intro w hSw; (try dsimp only at hSw); go_simp) <;> with_reducible rfl
          try simp only [Act.put, List.setIfInBounds_toArray, List.set_cons_zero, List.set_cons_succ]
          refine takeD (i := 2) (d := some 48) (v := ?_) _ rfl rfl (by kernel_rfl) (by kernel_rfl) (by kernel_rfl) (fun _ _ _ h => h) (by rfl) ?_ (by assumption) ?_
          rotate_left
          · (intro w hSw; (try dsimp only at hSw); go_simp) <;> with_reducible rfl
          try simp only [Act.put, List.setIfInBounds_toArray, List.set_cons_zero, List.set_cons_succ]
          refine takeD (i := 3) (d := some 49) (v := ?_) _ rfl rfl (by kernel_rfl) (by kernel_rfl) (by kernel_rfl) (fun _ _ _ h => h) (by rfl) ?_ (by assumption) ?_
          rotate_left
          · (intro w hSw; (try dsimp only at hSw); go_simp) <;> with_reducible rfl
          try simp only [Act.put, List.setIfInBounds_toArray, List.set_cons_zero, List.set_cons_succ]
          refine takeD (i := 4) (d := some 50) (v := ?_) _ rfl rfl (by kernel_rfl) (by kernel_rfl) (by kernel_rfl) (fun _ _ _ h => h) (by rfl) ?_ (by assumption) ?_
          rotate_left
          · (intro w hSw; (try dsimp only at hSw); go_simp) <;> with_reducible rfl
          try simp only [Act.put, List.setIfInBounds_toArray, List.set_cons_zero, List.set_cons_succ]
          refine takeD (i := 5) (d := some 51) (v := ?_) _ rfl rfl (by kernel_rfl) (by kernel_rfl) (by kernel_rfl) (fun _ _ _ h => h) (by rfl) ?_ (by assumption) ?_
          rotate_left
          · (intro w hSw; (try dsimp only at hSw); go_simp) <;> with_reducible rfl
          try simp only [Act.put, List.setIfInBounds_toArray, List.set_cons_zero, List.set_cons_succ]
          refine takeD (i := 6) (d := some 52) (v := ?_) _ rfl rfl (by kernel_rfl) (by kernel_rfl) (by kernel_rfl) (fun _ _ _ h => h) (by rfl) ?_ (by assumption) ?_
          rotate_left
          · (intro w hSw; (try dsimp only at hSw); go_simp) <;> with_reducible rfl
          try simp only [Act.put, List.setIfInBounds_toArray, List.set_cons_zero, List.set_cons_succ]
          refine takeD (i := 7) (d := some 53) (v := ?_) _ rfl rfl (by kernel_rfl) (by kernel_rfl) (by kernel_rfl) (fun _ _ _ h => h) (by rfl) ?_ (by assumption) ?_
          rotate_left
          · (intro w hSw; (try dsimp only at hSw); go_simp) <;> with_reducible rfl
          try simp only [Act.put, List.setIfInBounds_toArray, List.set_cons_zero, List.set_cons_succ]
          refine takeD (i := 16) (d := some 8) (v := ?_) _ rfl rfl (by kernel_rfl) (by kernel_rfl) (by kernel_rfl) (fun _ _ _ h => h) (by rfl) ?_ (by assumption) ?_
          rotate_left
          · (intro w hSw; (try dsimp only at hSw); go_simp) <;> with_reducible rfl
          try simp only [Act.put, List.setIfInBounds_toArray, List.set_cons_zero, List.set_cons_succ]
          refine takeD (i := 8) (d := some 54) (v := ?_) _ rfl rfl (by kernel_rfl) (by kernel_rfl) (by kernel_rfl) (fun _ _ _ h => h) (by rfl) ?_ (by assumption) ?_
          rotate_left
          · (intro w hSw; (try dsimp only at hSw); go_simp) <;> with_reducible rfl
          try simp only [Act.put, List.setIfInBounds_toArray, List.set_cons_zero, List.set_cons_succ]
          refine takeD (i := 9) (d := some 55) (v := ?_) _ rfl rfl (by kernel_rfl) (by kernel_rfl) (by kernel_rfl) (fun _ _ _ h => h) (by rfl) ?_ (by assumption) ?_
          rotate_left
          · (intro w hSw; (try dsimp only at hSw); go_simp) <;> with_reducible rfl
          try simp only [Act.put, List.setIfInBounds_toArray, List.set_cons_zero, List.set_cons_succ]
          refine takeD (i := 10) (d := some 56) (v := ?_) _ rfl rfl (by kernel_rfl) (by kernel_rfl) (by kernel_rfl) (fun _ _ _ h => h) (by rfl) ?_ (by assumption) ?_
          rotate_left
          · (intro w hSw; (try dsimp only at hSw); go_simp) <;> with_reducible rfl
          try simp only [Act.put, List.setIfInBounds_toArray, List.set_cons_zero, List.set_cons_succ]
          refine takeD (i := 11) (d := some 57) (v := ?_) _ rfl rfl (by kernel_rfl) (by kernel_rfl) (by kernel_rfl) (fun _ _ _ h => h) (by rfl) ?_ (by assumption) ?_
          rotate_left
          · (intro w hSw; (try dsimp only at hSw); go_simp) <;> with_reducible rfl
          try simp only [Act.put, List.setIfInBounds_toArray, List.set_cons_zero, List.set_cons_succ]
          refine takeD (i := 12) (d := some 58) (v := ?_) _ rfl rfl (by kernel_rfl) (by kernel_rfl) (by kernel_rfl) (fun _ _ _ h => h) (by rfl) ?_ (by assumption) ?_
          rotate_left
          · (intro w hSw; (try dsimp only at hSw); go_simp) <;> with_reducible rfl
          try simp only [Act.put, List.setIfInBounds_toArray, List.set_cons_zero, List.set_cons_succ]
          refine takeD (i := 13) (d := some 59) (v := ?_) _ rfl rfl (by kernel_rfl) (by kernel_rfl) (by kernel_rfl) (fun _ _ _ h => h) (by rfl) ?_ (by assumption) ?_
          rotate_left
          · (intro w hSw; (try dsimp only at hSw); go_simp) <;> with_reducible rfl
          try simp only [Act.put, List.setIfInBounds_toArray, List.set_cons_zero, List.set_cons_succ]
          refine takeD (i := 14) (d := some 60) (v := ?_) _ rfl rfl (by kernel_rfl) (by kernel_rfl) (by kernel_rfl) (fun _ _ _ h => h) (by rfl) ?_ (by assumption) ?_
          rotate_left
          · (intro w hSw; (try dsimp only at hSw); go_simp) <;> with_reducible rfl
          try simp only [Act.put, List.setIfInBounds_toArray, List.set_cons_zero, List.set_cons_succ]
          refine takeD (i := 15) (d := some 61) (v := ?_) _ rfl rfl (by kernel_rfl) (by kernel_rfl) (by kernel_rfl) (fun _ _ _ h => h) (by rfl) ?_ (by assumption) ?_
          rotate_left
          · (intro w hSw; (try dsimp only at hSw); go_simp) <;> with_reducible rfl
          try simp only [Act.put, List.setIfInBounds_toArray, List.set_cons_zero, List.set_cons_succ]
          refine takeD (i := 17) (d := some 9) (v := ?_) _ rfl rfl (by kernel_rfl) (by kernel_rfl) (by kernel_rfl) (fun _ _ _ h => h) (by rfl) ?_ (by assumption) ?_
          rotate_left
          · (intro w hSw; (try dsimp only at hSw); go_simp) <;> with_reducible rfl
          try simp only [Act.put, List.setIfInBounds_toArray, List.set_cons_zero, List.set_cons_succ]
          refine wpAnyH_done (by kernel_rfl) ?_ _
          obtain ⟨wx, hwx⟩ : ∃ wx, wr.drew = wx := ⟨_, rfl⟩
          rw [hwx] at hHeld ⊢
          have RX0 := Lib.hid (RXH.out.below hHeld.1)
          have BB0 : Hid (Below lo w wx) := HB.out.trans (hHeld.1.mono (by have := HB.out.size; have := HLO.out; omega))
          have HE := Lib.hid (held_any lo g bc bw bm N rb cs ws os (q2 : Int) wx RX0.out.lv (by rw [HLEN.out]; decide))
          clear hHeld e0 e1 e2 e3 HB RXH hwx hw1 hw2 f1 f2 f3 f5 p1 p2 p3 p5
          go_wp2_with fail
          refine HE.out.mono ?_
          rintro e w4 ⟨A4, m4, c4, r4b, rfl, hm4, row4, _, b4⟩
          rw [HLEN.out] at hm4 row4
          have HM4 := Lib.hid hm4
          have ROW4 := Lib.hid row4
          have RX4 := Lib.hid (RX0.out.below b4)
          have BB4 : Hid (Below lo w w4) := BB0.out.trans (b4.mono (by have := BB0.out.size; have := HLO.out; omega))
          obtain ⟨e0, e1, e2, e3⟩ := HC.out w4 BB4.out
          clear hm4 row4 b4 HE RX0 BB0 r4 f4 p4
          go_upto_if 70 with fail
          go_cut [7] (fun iv wx => RE lo j g bc bw bm cs w iv wx)
          case first =>
            by_cases hkd : xd = 1
            · have hkd1 : (xd == 1) = true := by rw [beq_iff_eq]; exact hkd
              have CA := Lib.hid (RX4.out.give HLEN.out (Nat.le_of_lt HX.out.2) q1 q2 HQ1.out HQ2.out)
              clear hkd r1 r2 r3 r5
              go_wp2_with fail
              refine CA.out.mono ?_
              rintro e w5 ⟨r, rb', N', ws', os', rfl, rx5, b5⟩
              have RX5 := Lib.hid rx5
              have B5 : Hid (Below lo w w5) := BB4.out.trans b5
              clear rx5 b5 CA
              go_wp2_with fail
              go_meet
              case rel => exact ⟨⟨_, _, _, _, rfl, RX5.out, B5.out⟩⟩
            · have hkd1 : (xd == 1) = false := by rw [beq_eq_false_iff_ne]; exact hkd
              clear hkd
              have SK : Hid (RE lo j g bc bw bm cs w (.int .i64 (j : Int)) w4) := ⟨⟨_, _, _, _, rfl, ⟨RX4.out.lv, Nat.le_succ_of_le RX4.out.N, fun i hi => Nat.le_succ_of_le (RX4.out.len i hi), RX4.out.ri⟩, BB4.out⟩⟩
              rcases heldP_last os (q2 : Int) 16 with ⟨hl0, hl1⟩ | ⟨kk, hk1, hk2, hk3, hk4⟩
              · have hm0 : m4 = 0 := by have := HM4.out; rw [hl0] at this; exact this
                subst hm0
                have CA := Lib.hid (RX4.out.take HLEN.out H63.out (Nat.le_of_lt HX.out.2) q1 q2 (1 + (q3 : Int)) HQ1.out HQ2.out HQ3b.out (fun k hk hko => absurd hko (hl1 k hk)))
                clear hl0 hl1 hj60I
                go_wp2_with fail
                refine CA.out.mono ?_
                rintro e w5 ⟨r, rb', N', ws', os', rfl, rx5, b5⟩
                have RX5 := Lib.hid rx5
                have B5 : Hid (Below lo w w5) := BB4.out.trans b5
                clear rx5 b5 CA
                go_wp2_with fail
                go_meet
                case rel => exact ⟨⟨_, _, _, _, rfl, RX5.out, B5.out⟩⟩
              · obtain ⟨mm, hmm⟩ : ∃ mm, m4 = mm + 1 := by
                  have := HM4.out
                  have hpos : 0 < (heldP os (q2 : Int) 16).length := List.length_pos_iff.2 hk3
                  exact ⟨m4 - 1, by omega⟩
                subst hmm
                have hcell := ROW4.out.cells mm (by have := HM4.out; omega)
                obtain ⟨⟨c', hv⟩, d4, _⟩ := hcell
                have hlast : (heldP os (q2 : Int) 16).getD mm 0 = (kk : Int) := by
                  rw [← hk2, ← HM4.out]; rfl
                rw [hlast] at d4
                injection hv with hv1 hv2 hv3
                subst hv1
                have hmI : (((mm + 1 : Nat) : Int) - 1) = (mm : Int) := by omega
                have hmI2 : ((mm : Int) + 1 - 1) = (mm : Int) := by omega
                have hm01 : ((((mm + 1 : Nat)) : Int) == 0) = false := by rw [beq_eq_false_iff_ne]; omega
                have hm02 : (((mm : Int) + 1) == 0) = false := by rw [beq_eq_false_iff_ne]; omega
                have hmb : (mm : Int) < 16 := by have := heldP_len os (q2 : Int) 16; have := HM4.out; omega
                have hml : (mm : Int) < (mm : Int) + 1 := by omega
                by_cases hkq : kk < q1
                · have hkq1 : (kk : Int) < (q1 : Int) := by omega
                  have CA := Lib.hid (RX4.out.take HLEN.out H63.out (Nat.le_of_lt HX.out.2) q1 q2 (1 + (q3 : Int)) HQ1.out HQ2.out HQ3b.out (fun k hk hko => Nat.lt_of_le_of_lt (hk4 k hk hko) hkq))
                  clear hk1 hk2 hk3 hk4 hlast hkq hv2 hv3
                  go_wp2_with fail
                  refine CA.out.mono ?_
                  rintro e w5 ⟨r, rb', N', ws', os', rfl, rx5, b5⟩
                  have RX5 := Lib.hid rx5
                  have B5 : Hid (Below lo w w5) := BB4.out.trans b5
                  clear rx5 b5 CA
                  go_wp2_with fail
                  go_meet
                  case rel => exact ⟨⟨_, _, _, _, rfl, RX5.out, B5.out⟩⟩
                · have hkq1 : ¬ (kk : Int) < (q1 : Int) := by omega
                  clear hk1 hk2 hk3 hk4 hlast hkq hv2 hv3
                  go_wp2_with fail
                  go_meet
                  case rel => exact SK.out
          case rest =>
            obtain ⟨⟨N2, rb2, ws2, os2, hiv, hrx, hb⟩⟩ := hcut
            have W0 : Hid (RW lo (j + 1) g bc bw bm N2 rb2 cs ws2 os2 w wc) := ⟨hrx, hb⟩
            try subst hiv
            clear hrx hb r1 r2 r3 r5 e0 e1 e2 e3 RX4 ROW4 HM4 BB4 HC HW3 HW4
            go_wp2_with fail
            go_loopw [11] (fun iv wr => R1 lo (j + 1) g bc bw bm N2 rb2 cs ws2 os2 w iv wr) (fun i _ => 9 - (intOf i).toNat)
            case atStart => exact ⟨⟨0, Nat.zero_le _, rfl, W0.out⟩⟩
            case round =>
              obtain ⟨⟨x, hx, rfl, hrw⟩⟩ := hrel
              have W1 := Lib.hid hrw
              have HXX : Hid (x ≤ 8) := hx
              clear hrw hx
              by_cases hx8 : x < 8
              · have hx8I : (x : Int) < 8 := by omega
                have HX8 : Hid (x < 8) := hx8
                clear hx8
                go_wp2_with fail
                go_loopw [12, 13] (fun av kv wr => R2 lo (j + 1) g bc bw bm N2 rb2 cs ws2 os2 w av kv wr) (fun _ i _ => 10 - (intOf i).toNat)
                case atStart => exact ⟨⟨0, (x : Int), rfl, rfl, Jn.start _ _ (by have := HX8.out; omega), W1.out⟩⟩
                case round =>
                  obtain ⟨⟨k, a, rfl, rfl, hjn, hrw⟩⟩ := hrel
                  have W2 := Lib.hid hrw
                  have HJN := Lib.hid hjn
                  have HK7 : Hid (k ≤ 7) := hjn.lt
                  have hk9 : (k : Int) < 9 := by have := HK7.out; omega
                  clear hrw hjn
                  go_wp2_with fail
                  go_loopw [14, 15] (fun nv iv wr => R3 lo (j + 1) g bc bw bm N2 rb2 cs ws2 os2 a w nv iv wr) (fun _ i _ => 17 - (intOf i).toNat)
                  case atStart => exact ⟨⟨0, Nat.zero_le _, rfl, rfl, W2.out⟩⟩
                  case round =>
                    obtain ⟨⟨n, hn, rfl, rfl, hrw⟩⟩ := hrel
                    have W3 := Lib.hid hrw
                    have HN : Hid (n ≤ 16) := hn
                    clear hrw hn
                    by_cases hn16 : n < 16
                    · have hn16I : (n : Int) < 16 := by omega
                      have HN16 : Hid (n < 16) := hn16
                      clear hn16
                      have HLL : Hid ((ws2 n).length ≤ 61) := by have := W3.out.rx.len n HN16.out; have := HX.out; unfold Hid; omega
                      have WA := Lib.hid (waiting_any lo g bc bw bm N2 rb2 cs ws2 os2 n (ws2 n) wr W3.out.rx.lv (by rw [HLEN.out]; exact HN16.out) rfl (by have := HLL.out; omega))
                      obtain ⟨nxv, hnx⟩ : ∃ z, nx ws2 os2 a n = z := ⟨_, rfl⟩
                      have HNX := Lib.hid hnx
                      rw [hnx]
                      clear hnx
                      go_wp2_with fail
                      refine WA.out.mono ?_
                      rintro e w5 ⟨A5, c5, r5, rfl, row5, _, b5⟩
                      have W5 : Hid (RW lo (j + 1) g bc bw bm N2 rb2 cs ws2 os2 w w5) := ⟨W3.out.rx.below b5, W3.out.b.trans (b5.mono (by have := W3.out.b.size; have := HLO.out; omega))⟩
                      have ROW5 := Lib.hid row5
                      clear row5 b5 WA
                      go_wp2_with fail
                      go_loopw [14, 17] (fun nv iv wr => R4 lo (j + 1) g bc bw bm N2 rb2 cs ws2 os2 a n (.slice A5 (ws2 n).length c5) r5 w nv iv wr) (fun _ i _ => 1001 - (intOf i).toNat)
                      case atStart => exact ⟨⟨0, Nat.zero_le _, by rw [ny_zero, HNX.out], rfl, ROW5.out, W5.out⟩⟩
                      case round =>
                        obtain ⟨⟨y, hy, rfl, rfl, hrow, hrw⟩⟩ := hrel
                        have W6 := Lib.hid hrw
                        have ROW6 := Lib.hid hrow
                        have HY : Hid (y ≤ (ws2 n).length) := hy
                        obtain ⟨mm, hmm⟩ : ∃ mm, (ws2 n).length = mm := ⟨_, rfl⟩
                        have HMM := Lib.hid hmm
                        have HIL : Hid ((idsP (ws2 n)).length = mm) := by unfold Hid idsP; rw [List.length_map]; exact hmm
                        obtain ⟨nyv, hny⟩ : ∃ z, ny ws2 os2 a n y = z := ⟨_, rfl⟩
                        have HNY := Lib.hid hny
                        rw [hny]
                        clear hrw hrow hy hny
                        by_cases hym : y < mm
                        · have hymI : (y : Int) < (mm : Int) := by omega
                          have HYM : Hid (y < mm) := hym
                          have hy61 : (y : Int) < 61 := by have := HLL.out; have := HMM.out; omega
                          obtain ⟨⟨c', hv⟩, d6, _⟩ := ROW6.out.cells y (by rw [HIL.out]; exact hym)
                          injection hv with hv1 hv2 hv3
                          subst hv1
                          obtain ⟨z, hzz⟩ : ∃ z, (idsP (ws2 n)).getD y 0 = z := ⟨_, rfl⟩
                          have HZ := Lib.hid hzz
                          rw [hzz] at d6
                          have ROW7 : Hid (I.RowV wr (.slice (some ⟨r5, 0, none⟩) mm c5) r5 (idsP (ws2 n))) := by unfold Hid; rw [← hmm]; exact ROW6.out
                          clear hv2 hv3 hzz hym
                          rw [hmm]
                          by_cases hza : z = a
                          · have hza1 : (z == a) = true := by rw [beq_iff_eq]; exact hza
                            have HZA := Lib.hid hza
                            clear hza hmm
                            obtain ⟨vc, cw, hd, _⟩ := W6.out.rx.lv.hd
                            have WO := Lib.hid (owner_any g bm N2 vc _ os2 (n : Int) wr (WalkArith.wf_i64 (by omega)) hd W6.out.rx.lv.mp)
                            clear hd
                            go_wp2_with fail
                            refine WO.out.mono ?_
                            rintro e w7 ⟨rfl, hw⟩
                            rw [hw]
                            clear hw w7 WO
                            go_wp2_with fail
                            go_roundw
                            case rel =>
                              have Q : R4 lo (j + 1) g bc bw bm N2 rb2 cs ws2 os2 a n (.slice (some ⟨r5, 0, none⟩) mm c5) r5 w (.int .i64 ((os2 (n : Int)).getD 0)) (.int .i64 ((y : Int) + 1)) wr := ⟨⟨y + 1, by rw [HMM.out]; exact HYM.out, by rw [ny_step _ _ _ _ _ (by rw [HIL.out]; exact HYM.out), if_pos (HZ.out.trans HZA.out)], by go_num, ROW7.out, W6.out⟩⟩
                              first | exact Q | ((repeat apply Exists.intro); exact ⟨Q, rfl⟩)
                            case measure => have := HYM.out; have := HLL.out; have := HMM.out; simp [intOf]; omega
                          · have hza1 : (z == a) = false := by rw [beq_eq_false_iff_ne]; exact hza
                            have HZA : Hid (¬ z = a) := hza
                            clear hza hmm
                            go_wp2_with fail
                            go_roundw
                            case rel =>
                              have Q : R4 lo (j + 1) g bc bw bm N2 rb2 cs ws2 os2 a n (.slice (some ⟨r5, 0, none⟩) mm c5) r5 w (.int .i64 nyv) (.int .i64 ((y : Int) + 1)) wr := ⟨⟨y + 1, by rw [HMM.out]; exact HYM.out, by rw [ny_step _ _ _ _ _ (by rw [HIL.out]; exact HYM.out), if_neg (by rw [HZ.out]; exact HZA.out), HNY.out], by go_num, ROW7.out, W6.out⟩⟩
                              first | exact Q | ((repeat apply Exists.intro); exact ⟨Q, rfl⟩)
                            case measure => have := HYM.out; have := HLL.out; have := HMM.out; simp [intOf]; omega
                        · have hymI : ¬ (y : Int) < (mm : Int) := by omega
                          have hye : y = mm := by have := HY.out; have := HMM.out; omega
                          subst hye
                          rw [hmm]
                          have HEND : Hid (nyv = nx ws2 os2 a (n + 1)) := by
                            have h5 := ny_all ws2 os2 a n
                            rw [HIL.out, HNY.out] at h5
                            exact h5
                          clear hym hmm
                          go_wp2_with fail
                          go_roundw
                          case rel =>
                            have Q : R3 lo (j + 1) g bc bw bm N2 rb2 cs ws2 os2 a w (.int .i64 nyv) (.int .i64 ((n : Int) + 1)) wr := ⟨⟨n + 1, HN16.out, by rw [HEND.out], by go_num, W6.out⟩⟩
                            first | exact Q | ((repeat apply Exists.intro); exact ⟨Q, rfl⟩)
                          case measure => have := HN16.out; simp [intOf]; omega
                    · have hn16I : ¬ (n : Int) < 16 := by omega
                      have hne : n = 16 := by have := HN.out; omega
                      subst hne
                      clear hn16
                      have ST := HJN.out.step W3.out.rx.ri
                      obtain ⟨nxv, hnx⟩ : ∃ z, nx ws2 os2 a 16 = z := ⟨_, rfl⟩
                      rw [hnx] at ST
                      rw [hnx]
                      clear hnx
                      rcases ST with hneg | ⟨hpos, hjn2⟩
                      · subst hneg
                        go_wp2_with fail
                        go_roundw
                        case rel =>
                          have Q : R1 lo (j + 1) g bc bw bm N2 rb2 cs ws2 os2 w (.int .i64 ((x : Int) + 1)) wr := ⟨⟨x + 1, HX8.out, by go_num, W3.out⟩⟩
                          first | exact Q | ((repeat apply Exists.intro); exact ⟨Q, rfl⟩)
                        case measure => have := HX8.out; simp [intOf]; omega
                      · have hpos1 : ¬ nxv < 0 := by omega
                        have HJ2 := Lib.hid hjn2
                        clear hjn2
                        go_wp2_with fail
                        go_roundw
                        case rel =>
                          have Q : R2 lo (j + 1) g bc bw bm N2 rb2 cs ws2 os2 w (.int .i64 nxv) (.int .i64 ((k : Int) + 1)) wr := ⟨⟨k + 1, nxv, by go_num, rfl, HJ2.out, W3.out⟩⟩
                          first | exact Q | ((repeat apply Exists.intro); exact ⟨Q, rfl⟩)
                        case measure => have := HK7.out; simp [intOf]; omega
              · have hx8I : ¬ (x : Int) < 8 := by omega
                clear hx8
                go_wp2_with fail
                go_roundw
                case rel =>
                  have Q : RO lo len g bc bw bm cs w (.int .i64 ((j : Int) + 1)) wr := ⟨⟨j + 1, _, _, _, _, HX.out.1, HX.out.2, by go_num, W1.out.rx, W1.out.b⟩⟩
                  first | exact Q | ((repeat apply Exists.intro); exact ⟨Q, rfl⟩)
                case measure => have := HX.out; simp [intOf]; omega
        · have hways : ¬ (j : Int) < (len : Int) ∨ ((j : Int) < (len : Int) ∧ ¬ (j : Int) < 60) := by omega
          have KN := Lib.hid (known_any wr)
          clear hlt hj hj60 T0 B1 RXH
          rcases hways with hjI | ⟨hjI, hj60I⟩
          · go_wp2_with fail
            refine KN.out.mono ?_
            rintro e w6 ⟨rfl, b6⟩
            have B6 : Hid (Below lo w w6) := HB.out.trans (b6.mono (by have := HB.out.size; have := HLO.out; omega))
            clear b6
            go_wp2_with fail
            go_ret
            exact ⟨rfl, B6.out⟩
          · go_wp2_with fail
            refine KN.out.mono ?_
            rintro e w6 ⟨rfl, b6⟩
            have B6 : Hid (Below lo w w6) := HB.out.trans (b6.mono (by have := HB.out.size; have := HLO.out; omega))
            clear b6
            go_wp2_with fail
            go_ret
            exact ⟨rfl, B6.out⟩
end Go.Proofs.Ytbnnpfhgpbaedaa.K
