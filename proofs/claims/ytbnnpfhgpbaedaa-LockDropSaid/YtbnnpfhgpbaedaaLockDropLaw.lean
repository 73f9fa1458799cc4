/-
  LockDrop's walk. Each statement bears its own conditions.
-/
import Derived.Test.YtbnnpfhgpbaedaaLkZ
import Derived.Test.YtbnnpfhgpbaedaaLkI
namespace Go.Proofs.Ytbnnpfhgpbaedaa.K
open Go.RowKit
set_option linter.unusedVariables false
set_option linter.unusedSimpArgs false
theorem held_split (os : Int → Option Int) (id : Int) (i : Nat) : ∀ n, i ≤ n → ∃ R, heldP os id n = heldP os id i ++ R
  | 0, h => ⟨[], by have : i = 0 := by omega
                    subst this; simp⟩
  | n + 1, h => by
    by_cases e : i = n + 1
    · subst e; exact ⟨[], by simp⟩
    · obtain ⟨R, hR⟩ := held_split os id i n (by omega)
      refine ⟨R ++ (if os (n : Int) = some id then [(n : Int)] else []), ?_⟩
      show heldP os id n ++ _ = _
      rw [hR, List.append_assoc]
theorem wk_app (ws : Nat → List (Int × Int)) (S T : List Int) : wk ws (S ++ T) = wk ws S ++ wk ws T := by simp [wk]
theorem wk_next (ws : Nat → List (Int × Int)) (os : Int → Option Int) (id : Int) (i : Nat) : wk ws (heldP os id (i + 1)) = wk ws (heldP os id i) ++ (if os (i : Int) = some id then hd1 (ws i) else []) := by
  show wk ws (heldP os id i ++ _) = _
  rw [wk_app]
  split <;> simp [wk]
theorem wk_at (ws : Nat → List (Int × Int)) (os : Int → Option Int) (id : Int) {i n : Nat} (hi : i < n) (ho : os (i : Int) = some id) {x : Int × Int} {T : List (Int × Int)} (hx : ws i = x :: T) :
    (wk ws (heldP os id i)).length < (wk ws (heldP os id n)).length ∧ (wk ws (heldP os id n)).getD (wk ws (heldP os id i)).length 0 = x.1 := by
  obtain ⟨R, hR⟩ := held_split os id (i + 1) n (by omega)
  have e : wk ws (heldP os id n) = wk ws (heldP os id i) ++ ([x.1] ++ wk ws R) := by
    rw [hR, wk_app, wk_next, if_pos ho, hx, List.append_assoc]; rfl
  rw [e]
  refine ⟨by simp, ?_⟩
  rw [List.getD_eq_getElem?_getD, List.getElem?_append_right (Nat.le_refl _)]
  simp
theorem UX.keepq {lo j g bc bw bm N : Nat} {rb : Nat → Nat} {cs : List Int} {ws : Nat → List (Int × Int)} {os : Int → Option Int} {w w' : World} {q : Nat → Prop} (h : UX lo j g bc bw bm N rb cs ws os w) (x : F.Fo q w w') (hq : ∀ b, Blk g bc bw bm cs.length rb b → ¬ q b) : UX lo j g bc bw bm N rb cs ws os w' := ⟨h.lv.keep2 x.size fun b hb hB => x.block b hb (hq b hB), h.N, h.len, h.un, h.own⟩
structure D1 (lo len : Nat) (g bc bw bm : Nat) (cs : List Int) (w : World) (iv : Value) (wr : World) : Prop where
  ex : ∃ (j N : Nat) (rb : Nat → Nat) (ws : Nat → List (Int × Int)) (os : Int → Option Int), j ≤ len ∧ j ≤ 40 ∧ iv = .int .i64 (j : Int) ∧ UX lo j g bc bw bm N rb cs ws os wr ∧ Below lo w wr
structure D3 (id : Int) (L : List Int) (mm : Nat) (w6 : World) (nv kv : Value) (wr : World) : Prop where
  ex : ∃ k : Nat, k ≤ mm ∧ kv = .int .i64 ((k : Int) - 1) ∧ nv = .int .i64 (hdx id (L.drop k)) ∧ wr = w6
structure D4 (ws1 : Nat → List (Int × Int)) (os : Int → Option Int) (id : Int) (i : Nat) (w8 : World) (nv iv : Value) (wr : World) : Prop where
  ex : ∃ k : Nat, k ≤ i ∧ iv = .int .i64 (k : Int) ∧ nv = .int .i64 ((wk ws1 (heldP os id k)).length : Int) ∧ wr = w8
structure D2 (lo B1 j : Nat) (g bc bw bm N : Nat) (rb : Nat → Nat) (cs : List Int) (ws : Nat → List (Int × Int)) (os : Int → Option Int) (id : Int) (w w3 : World) (ov fv iv : Value) (wr : World) : Prop where
  ex : ∃ (i : Nat) (q1 q2 : Nat → Prop) (A1 : Option Addr) (c1 : Nat) (A2 : Option Addr) (c2 : Nat), i ≤ cs.length ∧ iv = .int .i64 (i : Int) ∧ ov = .slice A1 i c1 ∧ fv = .slice A2 i c2 ∧ F.Ow 3 wr q1 (.slice A1 i c1) i (C (lst (ownV os) i)) ∧ F.Ow 3 wr q2 (.slice A2 i c2) i (C (lst (fstV ws id) i)) ∧ (∀ b, q1 b → B1 ≤ b ∧ ¬ q2 b) ∧ (∀ b, q2 b → B1 ≤ b) ∧ (∀ b, q1 b → b < wr.heap.size) ∧ (∀ b, q2 b → b < wr.heap.size) ∧ UX lo j g bc bw bm N rb cs ws os wr ∧ Below B1 w3 wr ∧ Below lo w wr
set_option maxRecDepth 100000 in
set_option maxHeartbeats 16000000 in
theorem drop_walk (a : Option Addr) (len cap : Nat) (zs : List Int) (a' : Option Addr) (len' cap' : Nat) (m1 : List AC) (id : Int) (w : World) (h0 : IsRow .i64 w a len cap zs) (h1 : Row w 4 RK2 (.slice a' len' cap') m1) : Calls Try.prog 6 #[.slice a len cap, .slice a' len' cap', .int .i64 id] w fun e w' => e = .returned (.bool true) ∧ Below w.heap.size w w' := by
  have HM := Lib.hid h1
  obtain ⟨i0, hi, hz0, hz1, hz2⟩ := I.info_of I.int_info
  have hle := h0.le
  obtain ⟨n, hn1, hn2, hmin⟩ : ∃ n : Nat, n ≤ len ∧ n ≤ 16 ∧ min (len : Int) 16 = (n : Int) := by
    by_cases h : len ≤ 16
    · exact ⟨len, Nat.le_refl _, h, by omega⟩
    · exact ⟨16, by omega, Nat.le_refl _, by omega⟩
  obtain ⟨hlen, hsq⟩ := h0.front n hn1
  obtain ⟨cs, hcs⟩ : ∃ cs, zs.take n = cs := ⟨_, rfl⟩
  rw [hcs] at hlen hsq
  have HLEN := Lib.hid hlen
  have HSQ : Hid (F.Sq w (fun b => b < w.heap.size) (.slice a n cap) cs.length (C cs)) := by rw [hlen]; exact hsq
  have hnc : (n : Int) ≤ (cap : Int) := by omega
  have hnc' : ¬ (cap : Int) < (n : Int) := by omega
  have hn0 : ¬ (n : Int) < 0 := by omega
  have H16 : Hid (cs.length ≤ 16) := by unfold Hid; omega
  obtain ⟨lo, hlo⟩ : ∃ lo, w.heap.size = lo := ⟨_, rfl⟩
  have HLO : Hid (lo ≤ w.heap.size ∧ w.heap.size ≤ lo) := by unfold Hid; omega
  clear hle hcs hlen hsq h0 h1 hn1 hn2
  by_cases hbad : ∃ k, k < cs.length ∧ ¬ (1 ≤ cs.getD k 0 ∧ cs.getD k 0 ≤ 63)
  · obtain ⟨k, hk, hkp⟩ := hbad
    have NB : Hid (Calls Try.prog 9 #[.slice a n cap] w fun e w' => e = .returned (.tuple #[.pointer none, .int .i64 2]) ∧ w' = w) := new_bad _ _ cs w HSQ.out H16.out k hk hkp
    have KN := Lib.hid (known_any w)
    rw [hlo] at KN ⊢
    clear hk hkp
    go_enter Try.func6, Try.ntmps6
    go_wp2_with fail
    refine NB.out.mono ?_
    rintro e w1 ⟨rfl, hw⟩
    rw [hw]
    clear hw w1
    go_wp2_with fail
    refine KN.out.mono ?_
    rintro e w1 ⟨rfl, b1⟩
    have B1 := Lib.hid b1
    clear b1 KN NB
    go_wp2_with fail
    go_ret
    exact ⟨rfl, B1.out⟩
  have hall : ∀ i, i < cs.length → 1 ≤ cs.getD i 0 ∧ cs.getD i 0 ≤ 63 := fun i hi => Classical.byContradiction fun hc => hbad ⟨i, hi, hc⟩
  have NE := Lib.hid (new_arg _ (.slice a n cap) cs w HSQ.out H16.out hall)
  clear hbad hall
  have hz : ∀ (x : Nat) (w : World), (binOp .eql 24 (.pointer (some ⟨x, 0, none⟩)) (.pointer none)).run Try.prog w = .ok (.bool false) w := fun _ _ => rfl
  rw [hlo] at NE ⊢
  go_enter Try.func6, Try.ntmps6
  go_wp2_with fail
  refine NE.out.mono ?_
  rintro e w1 ⟨g, bc, bw, bm, rfl, lv, _, b1⟩
  have B1 := Lib.hid b1
  have T0 : Hid (UX lo 0 g bc bw bm 0 (fun _ => bw) cs (fun _ => []) (fun _ => none) w1) := ⟨lv, Nat.le_refl _, fun i hi => Nat.le_refl _, Un.init _, fun i _ o h => by cases h⟩
  clear lv b1 NE hmin hnc hnc' hn0 hlo
  go_wp2_with fail
  go_loopw [9] (fun iv wr => D1 lo len' g bc bw bm cs w iv wr) (fun i _ => 41 - (intOf i).toNat)
  case atStart => exact ⟨⟨0, _, _, _, _, Nat.zero_le _, Nat.zero_le _, rfl, T0.out, B1.out⟩⟩
  case round =>
    obtain ⟨⟨j, N, rb, ws, os, hj, hj40, rfl, hux, hb⟩⟩ := hrel
    have HU := Lib.hid hux
    have HB := Lib.hid hb
    have HJ : Hid (j ≤ 40) := hj40
    clear hux hb
    by_cases hlt : j < len' ∧ j < 40
    · have hjI : (j : Int) < (len' : Int) := by omega
      have hj40I : (j : Int) < 40 := by omega
      have HX : Hid (j < len' ∧ j < 40) := hlt
      obtain ⟨hml, b, off, x, xs, hax, hbl, _, hRA, _, hc⟩ := HM.out.at_ j hlt.1
      clear hml
      subst hax
      obtain ⟨hRA, hwf⟩ := hRA
      subst hRA
      obtain ⟨xd, xid, xb, xl⟩ := x
      have HC : Hid (∀ W, Below lo w W → W.cell? ⟨b, off + j * 4 + 1, none⟩ = some (.int .i64 xid) ∧ W.cell? ⟨b, off + j * 4 + 2, none⟩ = some (.int .i64 xb) ∧ W.cell? ⟨b, off + j * 4 + 3, none⟩ = some (.int .i64 xl)) := fun W hW =>
        ⟨cell_low hW (by have := HLO.out; omega) (hc 1 _ rfl), cell_low hW (by have := HLO.out; omega) (hc 2 _ rfl), cell_low hW (by have := HLO.out; omega) (hc 3 _ rfl)⟩
      have hdr : Below wr.heap.size wr wr.drew := (Below.refl _ _).drew
      have CA := HU.out.below hdr |>.take H16.out (Nat.le_of_lt hlt.2) xid xb xl hwf
      have BD : Hid (Below lo w wr.drew) := HB.out.trans (hdr.mono (by have := HB.out.size; have := HLO.out; omega))
      obtain ⟨e1, e2, e3⟩ := HC.out _ BD.out
      clear hc hbl hlt hj hj40 hwf hdr T0 B1 HB HU
      go_wp2_with fail
      refine wp_region_held_drew (S := (fun w' => Below lo w w' ∧ w'.cell? ⟨b, off + j * 4 + 1, none⟩ = some (.int .i64 xid) ∧ w'.cell? ⟨b, off + j * 4 + 2, none⟩ = some (.int .i64 xb) ∧ w'.cell? ⟨b, off + j * 4 + 3, none⟩ = some (.int .i64 xl))) (by kernel_rfl) ?_ (fun hHeld => ?_)
      · exact ⟨BD.out, e1, e2, e3⟩
      generalize hyy : wr.drew = y at CA BD e1 e2 e3 hHeld ⊢
      have CA := Lib.hid CA
      clear hyy
      refine takeD (i := 0) (d := some 58) (v := ?_) _ rfl rfl (by kernel_rfl) (by kernel_rfl) (by kernel_rfl) (fun _ _ _ h => h) (by rfl) ?_ (by assumption) ?_
      rotate_left
      · (intro w hSw; (try dsimp only at hSw); go_simp) <;> with_reducible rfl
      try simp only [Act.put, List.setIfInBounds_toArray, List.set_cons_zero, List.set_cons_succ]
      refine takeD (i := 1) (d := some 59) (v := ?_) _ rfl rfl (by kernel_rfl) (by kernel_rfl) (by kernel_rfl) (fun _ _ _ h => h) (by rfl) ?_ (by assumption) ?_
      rotate_left
      · (intro w hSw; (try dsimp only at hSw); go_simp) <;> with_reducible rfl
      try simp only [Act.put, List.setIfInBounds_toArray, List.set_cons_zero, List.set_cons_succ]
      refine takeD (i := 2) (d := some 60) (v := ?_) _ rfl rfl (by kernel_rfl) (by kernel_rfl) (by kernel_rfl) (fun _ _ _ h => h) (by rfl) ?_ (by assumption) ?_
      rotate_left
      · (intro w hSw; (try dsimp only at hSw); go_simp) <;> with_reducible rfl
      try simp only [Act.put, List.setIfInBounds_toArray, List.set_cons_zero, List.set_cons_succ]
      refine takeD (i := 3) (d := some 61) (v := ?_) _ rfl rfl (by kernel_rfl) (by kernel_rfl) (by kernel_rfl) (fun _ _ _ h => h) (by rfl) ?_ (by assumption) ?_
      rotate_left
      · (intro w hSw; (try dsimp only at hSw); go_simp) <;> with_reducible rfl
      try simp only [Act.put, List.setIfInBounds_toArray, List.set_cons_zero, List.set_cons_succ]
      refine takeD (i := 4) (d := some 62) (v := ?_) _ rfl rfl (by kernel_rfl) (by kernel_rfl) (by kernel_rfl) (fun _ _ _ h => h) (by rfl) ?_ (by assumption) ?_
      rotate_left
      · (intro w hSw; (try dsimp only at hSw); go_simp) <;> with_reducible rfl
      try simp only [Act.put, List.setIfInBounds_toArray, List.set_cons_zero, List.set_cons_succ]
      refine takeD (i := 5) (d := some 63) (v := ?_) _ rfl rfl (by kernel_rfl) (by kernel_rfl) (by kernel_rfl) (fun _ _ _ h => h) (by rfl) ?_ (by assumption) ?_
      rotate_left
      · (intro w hSw; (try dsimp only at hSw); go_simp) <;> with_reducible rfl
      try simp only [Act.put, List.setIfInBounds_toArray, List.set_cons_zero, List.set_cons_succ]
      refine takeD (i := 6) (d := some 64) (v := ?_) _ rfl rfl (by kernel_rfl) (by kernel_rfl) (by kernel_rfl) (fun _ _ _ h => h) (by rfl) ?_ (by assumption) ?_
      rotate_left
      · (intro w hSw; (try dsimp only at hSw); go_simp) <;> with_reducible rfl
      try simp only [Act.put, List.setIfInBounds_toArray, List.set_cons_zero, List.set_cons_succ]
      refine takeD (i := 7) (d := some 65) (v := ?_) _ rfl rfl (by kernel_rfl) (by kernel_rfl) (by kernel_rfl) (fun _ _ _ h => h) (by rfl) ?_ (by assumption) ?_
      rotate_left
      · (intro w hSw; (try dsimp only at hSw); go_simp) <;> with_reducible rfl
      try simp only [Act.put, List.setIfInBounds_toArray, List.set_cons_zero, List.set_cons_succ]
      refine takeD (i := 8) (d := some 66) (v := ?_) _ rfl rfl (by kernel_rfl) (by kernel_rfl) (by kernel_rfl) (fun _ _ _ h => h) (by rfl) ?_ (by assumption) ?_
      rotate_left
      · (intro w hSw; (try dsimp only at hSw); go_simp) <;> with_reducible rfl
      try simp only [Act.put, List.setIfInBounds_toArray, List.set_cons_zero, List.set_cons_succ]
      refine takeD (i := 9) (d := some 67) (v := ?_) _ rfl rfl (by kernel_rfl) (by kernel_rfl) (by kernel_rfl) (fun _ _ _ h => h) (by rfl) ?_ (by assumption) ?_
      rotate_left
      · (intro w hSw; (try dsimp only at hSw); go_simp) <;> with_reducible rfl
      try simp only [Act.put, List.setIfInBounds_toArray, List.set_cons_zero, List.set_cons_succ]
      refine takeD (i := 10) (d := some 68) (v := ?_) _ rfl rfl (by kernel_rfl) (by kernel_rfl) (by kernel_rfl) (fun _ _ _ h => h) (by rfl) ?_ (by assumption) ?_
      rotate_left
      · (intro w hSw; (try dsimp only at hSw); go_simp) <;> with_reducible rfl
      try simp only [Act.put, List.setIfInBounds_toArray, List.set_cons_zero, List.set_cons_succ]
      refine takeD (i := 11) (d := some 69) (v := ?_) _ rfl rfl (by kernel_rfl) (by kernel_rfl) (by kernel_rfl) (fun _ _ _ h => h) (by rfl) ?_ (by assumption) ?_
      rotate_left
      · (intro w hSw; (try dsimp only at hSw); go_simp) <;> with_reducible rfl
      try simp only [Act.put, List.setIfInBounds_toArray, List.set_cons_zero, List.set_cons_succ]
      refine takeD (i := 12) (d := some 70) (v := ?_) _ rfl rfl (by kernel_rfl) (by kernel_rfl) (by kernel_rfl) (fun _ _ _ h => h) (by rfl) ?_ (by assumption) ?_
      rotate_left
      · (intro w hSw; (try dsimp only at hSw); go_simp) <;> with_reducible rfl
      try simp only [Act.put, List.setIfInBounds_toArray, List.set_cons_zero, List.set_cons_succ]
      refine takeD (i := 13) (d := some 71) (v := ?_) _ rfl rfl (by kernel_rfl) (by kernel_rfl) (by kernel_rfl) (fun _ _ _ h => h) (by rfl) ?_ (by assumption) ?_
      rotate_left
      · (intro w hSw; (try dsimp only at hSw); go_simp) <;> with_reducible rfl
      try simp only [Act.put, List.setIfInBounds_toArray, List.set_cons_zero, List.set_cons_succ]
      refine takeD (i := 14) (d := some 72) (v := ?_) _ rfl rfl (by kernel_rfl) (by kernel_rfl) (by kernel_rfl) (fun _ _ _ h => h) (by rfl) ?_ (by assumption) ?_
      rotate_left
      · (intro w hSw; (try dsimp only at hSw); go_simp) <;> with_reducible rfl
      try simp only [Act.put, List.setIfInBounds_toArray, List.set_cons_zero, List.set_cons_succ]
      refine takeD (i := 15) (d := some 73) (v := ?_) _ rfl rfl (by kernel_rfl) (by kernel_rfl) (by kernel_rfl) (fun _ _ _ h => h) (by rfl) ?_ (by assumption) ?_
      rotate_left
      · (intro w hSw; (try dsimp only at hSw); go_simp) <;> with_reducible rfl
      try simp only [Act.put, List.setIfInBounds_toArray, List.set_cons_zero, List.set_cons_succ]
      refine wpAnyH_ready (rs := [16]) (by kernel_rfl) (by simp) ?_
      refine AllReadyH.cons rfl (fun K hK => ?_) AllReadyH.nil
      try go_simp
      go_at_call 14
      refine CA.out.mono ?_
      rintro e w5 ⟨r, rb', N', ws', os', rfl, ux5, b5⟩
      have UX5 := Lib.hid ux5
      have B5 : Hid (Below lo w w5) := BD.out.trans b5
      try go_wp2_with fail
      refine hK.out _ _ ?_ (fun hHeld => ?_)
      · exact ⟨B5.out, HC.out w5 B5.out⟩
      clear hK K ux5 b5 CA BD e1 e2 e3
      try simp only [Act.put, List.setIfInBounds_toArray, List.set_cons_zero, List.set_cons_succ]
      refine wpAnyH_done (by kernel_rfl) ?_ _
      clear hHeld
      go_wp2_with fail
      go_roundw
      case rel =>
        have Q : D1 lo len' g bc bw bm cs w (.int .i64 ((j : Int) + 1)) w5 := ⟨⟨j + 1, _, _, _, _, HX.out.1, HX.out.2, by go_num, UX5.out, B5.out⟩⟩
        first | exact Q | ((repeat apply Exists.intro); exact ⟨Q, rfl⟩)
      case measure => have := HX.out; simp [intOf]; omega
    · have hways : ¬ (j : Int) < (len' : Int) ∨ ((j : Int) < (len' : Int) ∧ ¬ (j : Int) < 40) := by omega
      have HW3 : Hid (wr.heap.size = wr.heap.size) := rfl
      have REST := HU
      clear hlt hj hj40 T0 B1
      rcases hways with hjI | ⟨hjI, hj40I⟩
      · go_wp2_with fail
        have BLT : Hid (∀ b, (b = bw ∨ b = bm ∨ ∃ i, i < cs.length ∧ b = rb i) → b < wr.heap.size) := fun b hb => by
          rcases hb with hb | hb | ⟨i, hi, hb⟩
          · rw [hb]; exact HU.out.lv.lt.2.1
          · rw [hb]; exact HU.out.lv.lt.2.2.1
          · rw [hb]; exact HU.out.lv.lt.2.2.2 i hi
        obtain ⟨w3, hw3⟩ : ∃ w3, wr = w3 := ⟨_, rfl⟩
        rw [hw3] at HU HB BLT ⊢
        obtain ⟨B1, hB1⟩ : ∃ B1, w3.heap.size = B1 := ⟨_, rfl⟩
        have HB1 := Lib.hid hB1
        have START : Hid (D2 lo B1 j g bc bw bm N rb cs ws os id w w3 (.slice none 0 0) (.slice none 0 0) (.int .i64 0) w3) :=
          ⟨⟨0, fun _ => False, fun _ => False, none, 0, none, 0, Nat.zero_le _, rfl, rfl, rfl, F.Ow.nil _ _ _, F.Ow.nil _ _ _, fun b h => h.elim, fun b h => h.elim, fun b h => h.elim, fun b h => h.elim, HU.out, by rw [← hB1]; exact Below.refl _ _, HB.out⟩⟩
        have BLK : Hid (cs ≠ [] → ∀ b, Blk g bc bw bm cs.length rb b → b < B1) := fun hne b hb => by
          rw [← hB1]
          rcases hb with hb | hb | hb | hb | ⟨i, hi, hb⟩
          · rw [hb]; exact HU.out.lv.lt.1
          · rw [hb]; exact HU.out.lv.bc_lt hne
          · rw [hb]; exact HU.out.lv.lt.2.1
          · rw [hb]; exact HU.out.lv.lt.2.2.1
          · rw [hb]; exact HU.out.lv.lt.2.2.2 i hi
        have BL2 : Hid (∀ b, (b = bw ∨ b = bm ∨ ∃ i, i < cs.length ∧ b = rb i) → b < B1) := by rw [← hB1]; exact BLT.out
        have HSB : Hid (lo ≤ B1) := by have := HB.out.size; have := HLO.out; unfold Hid; omega
        clear hw3 hB1 HW3 REST HU HB BLT wr
        go_loopw [10, 11, 12] (fun ov fv iv wr => D2 lo B1 j g bc bw bm N rb cs ws os id w w3 ov fv iv wr) (fun _ _ i _ => 17 - (intOf i).toNat)
        case atStart => exact START.out
        case round =>
          obtain ⟨⟨i, q1, q2, A1, c1, A2, c2, hil, rfl, rfl, rfl, o1, o2, hq1, hq2, hl1, hl2, hux, hb3, hb⟩⟩ := hrel
          have HU := Lib.hid hux
          have O1 := Lib.hid o1
          have O2 := Lib.hid o2
          have HQ1 := Lib.hid hq1
          have HQ2 := Lib.hid hq2
          have HL1 := Lib.hid hl1
          have HL2 := Lib.hid hl2
          have HB3 := Lib.hid hb3
          have HB := Lib.hid hb
          have HIL : Hid (i ≤ n) := by rw [← HLEN.out]; exact hil
          clear hil o1 o2 hq1 hq2 hl1 hl2 hux hb3 hb START
          by_cases hin : i < n
          · have hiI : (i : Int) < (n : Int) := by omega
            have HIN : Hid (i < cs.length) := by rw [HLEN.out]; exact hin
            have hi16 : (i : Int) < 16 := by have := H16.out; have := HIN.out; omega
            have HI16 : Hid (i < 16) := by have := H16.out; have := HIN.out; unfold Hid; omega
            have HNE : Hid (cs ≠ []) := fun e => by have := HIN.out; rw [e] at this; simp at this
            obtain ⟨vc, cw, hd, _⟩ := HU.out.lv.hd
            have hwf : (Lit.int .i64 (i : Int)).wf = true := WalkArith.wf_i64 (by omega)
            clear hin
            cases hos : os (i : Int) with
            | none =>
              have HOV : Hid (ownV os i = (-1)) := by unfold Hid ownV; rw [hos]
              have WO := Lib.hid (owner_any g bm N vc _ os (i : Int) wr hwf hd HU.out.lv.mp)
              rw [hos] at WO
              have BX : Below wr.heap.size wr (wr.alloc (.cells #[.int .i64 (-1)] 3)) := (Below.refl _ _).alloc (Nat.le_refl _) _
              have OA := Lib.hid (O1.out.below BX)
              have RD : Hid (Reads (wr.alloc (.cells #[.int .i64 (-1)] 3)) (wr.heap.size + 1) 1 (some ⟨wr.heap.size, 0, none⟩) 1 [.int .i64 (-1)]) := F.one_row (w := wr) (.int .i64 (-1)) 3
              clear hd BX hos hwf
              go_wp2_with fail
              refine WO.out.mono ?_
              rintro e w4 ⟨rfl, hw⟩
              rw [hw]
              clear hw w4 WO
              go_wp2_with (at_builtin; refine wpList_append_any _ rfl _ _ 22 rfl 0 3 i0 (.int .i64 0) 1 8 Try.underlying22 hi hz0 hz1 hz2 rfl (by decide) _ _ _ rfl OA.out.own (wr.heap.size + 1) (some ⟨wr.heap.size, 0, none⟩) 1 1 [.int .i64 (-1)] rfl RD.out ?y12 ?y13 ?y14 ?y15 ?_)
              case y12 => intro u hu; simp at hu; subst hu; rfl
              case y13 => have := HI16.out; unfold maxLen; omega
              case y14 => have := HI16.out; omega
              case y15 => exact Nat.zero_le _
              intro v' w5 hown hgrow hblk
              obtain ⟨A3, c3, rfl⟩ := slice_form hown
              have hC : C (lst (ownV os) i) ++ [.int .i64 (-1)] = C (lst (ownV os) (i + 1)) := by
                show _ = C (lst (ownV os) i ++ [ownV os i])
                rw [HOV.out, C_app]; rfl
              rw [hC] at hown
              have G := O1.out.grow1 hown hgrow (by simpa using hblk)
              obtain ⟨q3, hq3⟩ : ∃ q3 : Nat → Prop, (fun b => q1 b ∨ (wr.heap.size ≤ b ∧ b < w5.heap.size)) = q3 := ⟨_, rfl⟩
              have P1 : Hid (F.Ow 3 w5 q3 (.slice A3 (i + 1) c3) (i + 1) (C (lst (ownV os) (i + 1)))) := by rw [← hq3]; exact G.1
              have P2 := Lib.hid (O2.out.fo G.2 (fun b hb hq => (HQ1.out b hq).2 hb))
              have hB1s : B1 ≤ wr.heap.size := by have := HB3.out.size; have := HB1.out; omega
              have HQ3 : Hid (∀ b, q3 b → B1 ≤ b ∧ ¬ q2 b) := by
                rw [← hq3]
                rintro b (hb | hb)
                · exact HQ1.out b hb
                · exact ⟨by omega, fun h => by have := HL2.out b h; omega⟩
              have HL3 : Hid (∀ b, q3 b → b < w5.heap.size) := by
                rw [← hq3]
                rintro b (hb | hb)
                · have := HL1.out b hb; have := G.2.size; omega
                · exact hb.2
              have HL2' : Hid (∀ b, q2 b → b < w5.heap.size) := fun b hb => by have := HL2.out b hb; have := G.2.size; omega
              have U5 := Lib.hid (HU.out.keepq G.2 fun b hb hq => by have := BLK.out HNE.out b hb; have := (HQ1.out b hq).1; omega)
              have BB5 : Hid (Below B1 w3 w5) := HB3.out.trans (G.2.below (fun b hb => (HQ1.out b hb).1) hB1s)
              have HBB5 : Hid (Below lo w w5) := HB.out.trans ((G.2.below (fun b hb => (HQ1.out b hb).1) hB1s).mono HSB.out)
              have WT := Lib.hid (waiting_any lo g bc bw bm N rb cs ws os i (ws i) w5 U5.out.lv HIN.out rfl (by have := HU.out.len i HIN.out; have := HJ.out; omega))
              obtain ⟨mm, hmm⟩ : ∃ mm, (ws i).length = mm := ⟨_, rfl⟩
              have HMM := Lib.hid hmm
              have HIL2 : Hid ((idsP (ws i)).length = mm) := by unfold Hid idsP; rw [List.length_map]; exact hmm
              have HMB : Hid (mm ≤ 40) := by have := HU.out.len i HIN.out; have := HJ.out; unfold Hid; omega
              rw [hmm] at WT
              clear hown hgrow hblk hC G hq3 hB1s HU HB3 HB O1 O2 HQ1 HL1 HL2 OA RD hmm
              go_wp2_with fail
              refine WT.out.mono ?_
              rintro e w6 ⟨A5, c5, r5, rfl, row5, _, b6⟩
              have ROW5 := Lib.hid row5
              have P1' := Lib.hid (P1.out.below b6)
              have P2' := Lib.hid (P2.out.below b6)
              have U6 := Lib.hid (U5.out.below b6)
              have hs6 := b6.size
              have HL3' : Hid (∀ b, q3 b → b < w6.heap.size) := fun b hb => by have := HL3.out b hb; omega
              have HL2'' : Hid (∀ b, q2 b → b < w6.heap.size) := fun b hb => by have := HL2'.out b hb; omega
              have hlo5 : B1 ≤ w5.heap.size := by have := BB5.out.size; have := HB1.out; omega
              have BB6 : Hid (Below B1 w3 w6) := BB5.out.trans (b6.mono hlo5)
              have HBB6 : Hid (Below lo w w6) := HBB5.out.trans (b6.mono (Nat.le_trans HSB.out hlo5))
              clear row5 b6 WT U5 P1 P2 BB5 HBB5 HL3 HL2' hs6 hlo5
              have hmb : (mm : Int) ≤ 40 := by have := HMB.out; omega
              go_wp2_with fail
              go_loopw [15, 17] (fun nv kv wr => D3 id (idsP (ws i)) mm w6 nv kv wr) (fun _ k _ => (intOf k + 1).toNat)
              case atStart => exact ⟨⟨mm, Nat.le_refl _, rfl, by rw [← HIL2.out, List.drop_length]; rfl, rfl⟩⟩
              case round =>
                obtain ⟨⟨k, hk, rfl, rfl, hw6⟩⟩ := hrel
                subst hw6
                have HK : Hid (k ≤ mm) := hk
                obtain ⟨hv0, hhv0⟩ : ∃ z, hdx id ((idsP (ws i)).drop k) = z := ⟨_, rfl⟩
                have HV0 := Lib.hid hhv0
                rw [hhv0]
                clear hk hhv0
                by_cases hk0 : k = 0
                · subst hk0
                  have hneg : ¬ (0 : Int) ≤ ((0 : Nat) : Int) - 1 := by simp
                  have HFV : Hid (fstV ws id i = hv0) := by unfold Hid fstV; rw [← HV0.out]; rfl
                  have BX2 : Below wr.heap.size wr (wr.alloc (.cells #[.int .i64 hv0] 3)) := (Below.refl _ _).alloc (Nat.le_refl _) _
                  have OB := Lib.hid (P2'.out.below BX2)
                  have RD2 : Hid (Reads (wr.alloc (.cells #[.int .i64 hv0] 3)) (wr.heap.size + 1) 1 (some ⟨wr.heap.size, 0, none⟩) 1 [.int .i64 hv0]) := F.one_row (w := wr) (.int .i64 hv0) 3
                  clear BX2
                  go_wp2_with (at_builtin; refine wpList_append_any _ rfl _ _ 22 rfl 0 3 i0 (.int .i64 0) 1 8 Try.underlying22 hi hz0 hz1 hz2 rfl (by decide) _ _ _ rfl OB.out.own (wr.heap.size + 1) (some ⟨wr.heap.size, 0, none⟩) 1 1 [.int .i64 hv0] rfl RD2.out ?y22 ?y23 ?y24 ?y25 ?_)
                  case y22 => first | rfl | (intro u hu; simp at hu; subst hu; rfl)
                  case y23 => have := HI16.out; unfold maxLen; omega
                  case y24 => have := HI16.out; omega
                  try (case y25 => exact Nat.zero_le _)
                  intro v' w7 hown hgrow hblk
                  obtain ⟨A4, c4, rfl⟩ := slice_form hown
                  have hC : C (lst (fstV ws id) i) ++ [.int .i64 hv0] = C (lst (fstV ws id) (i + 1)) := by
                    show _ = C (lst (fstV ws id) i ++ [fstV ws id i])
                    rw [HFV.out, C_app]; rfl
                  rw [hC] at hown
                  have G := P2'.out.grow1 hown hgrow (by simpa using hblk)
                  have hB1s : B1 ≤ wr.heap.size := by have := BB6.out.size; have := HB1.out; omega
                  have QQ : Hid (D2 lo B1 j g bc bw bm N rb cs ws os id w w3 (.slice A3 (i + 1) c3) (.slice A4 (i + 1) c4) (.int .i64 ((i : Int) + 1)) w7) := by
                    refine ⟨⟨i + 1, q3, _, A3, c3, A4, c4, HIN.out, by go_num, rfl, rfl, P1'.out.fo G.2 (fun b hb hq => (HQ3.out b hb).2 hq), G.1, fun b hb => ⟨(HQ3.out b hb).1, ?_⟩, ?_, fun b hb => by have := HL3'.out b hb; have := G.2.size; omega, ?_, U6.out.keepq G.2 fun b hb hq => by have := BLK.out HNE.out b hb; have := HQ2.out b hq; omega, BB6.out.trans (G.2.below HQ2.out hB1s), HBB6.out.trans ((G.2.below HQ2.out hB1s).mono HSB.out)⟩⟩
                    · rintro (h | h)
                      · exact (HQ3.out b hb).2 h
                      · have := HL3'.out b hb; omega
                    · rintro b (h | h)
                      · exact HQ2.out b h
                      · omega
                    · rintro b (h | h)
                      · have := HL2''.out b h; have := G.2.size; omega
                      · exact h.2
                  clear hown hgrow hblk hC G hB1s
                  go_wp2_with fail
                  go_roundw
                  case rel =>
                    first | exact QQ.out | ((repeat apply Exists.intro); exact ⟨QQ.out, rfl⟩)
                  case measure => have := HIN.out; have := H16.out; simp [intOf]; omega
                · obtain ⟨k', hk'⟩ : ∃ k', k = k' + 1 := ⟨k - 1, by omega⟩
                  subst hk'
                  have hkv : ((k' + 1 : Nat) : Int) - 1 = (k' : Int) := by omega
                  rw [hkv]
                  have hpos : (0 : Int) ≤ (k' : Int) := by omega
                  have HKL : Hid (k' < mm) := by have := HK.out; unfold Hid; omega
                  have hkm : (k' : Int) < (mm : Int) := by have := HKL.out; omega
                  obtain ⟨⟨c', hv⟩, d6, _⟩ := ROW5.out.cells k' (by rw [HIL2.out]; exact HKL.out)
                  injection hv with hv1 hv2 hv3
                  subst hv1
                  have HST := Lib.hid (hdx_step id (idsP (ws i)) k' (by rw [HIL2.out]; exact HKL.out))
                  obtain ⟨z, hzz⟩ : ∃ z, (idsP (ws i)).getD k' 0 = z := ⟨_, rfl⟩
                  rw [hzz] at d6 HST
                  rw [HV0.out] at HST
                  clear hv2 hv3 hzz hkv hk0
                  by_cases hzi : z = id
                  · have hz1 : (z == id) = true := by rw [beq_iff_eq]; exact hzi
                    have hz2 : (z != id) = false := by simp [hzi]
                    have HE : Hid (hdx id ((idsP (ws i)).drop k') = hv0) := by unfold Hid; rw [HST.out, if_neg (not_not_intro hzi)]
                    clear hzi
                    go_wp2_with fail
                    go_roundw
                    case rel =>
                      have Q : D3 id (idsP (ws i)) mm wr (.int .i64 hv0) (.int .i64 ((k' : Int) - 1)) wr := ⟨⟨k', Nat.le_of_lt HKL.out, rfl, by rw [HE.out], rfl⟩⟩
                      first | exact Q | ((repeat apply Exists.intro); exact ⟨Q, rfl⟩)
                    case measure => first | (simp [intOf]; omega) | simp [intOf]
                  · have hz1 : (z == id) = false := by rw [beq_eq_false_iff_ne]; exact hzi
                    have hz2 : (z != id) = true := by simp [hzi]
                    have HE : Hid (hdx id ((idsP (ws i)).drop k') = z) := by unfold Hid; rw [HST.out, if_pos hzi]
                    clear hzi
                    go_wp2_with fail
                    go_roundw
                    case rel =>
                      have Q : D3 id (idsP (ws i)) mm wr (.int .i64 z) (.int .i64 ((k' : Int) - 1)) wr := ⟨⟨k', Nat.le_of_lt HKL.out, rfl, by rw [HE.out], rfl⟩⟩
                      first | exact Q | ((repeat apply Exists.intro); exact ⟨Q, rfl⟩)
                    case measure => first | (simp [intOf]; omega) | simp [intOf]
            | some o =>
              have HOV : Hid (ownV os i = o) := by unfold Hid ownV; rw [hos]
              have WO := Lib.hid (owner_any g bm N vc _ os (i : Int) wr hwf hd HU.out.lv.mp)
              rw [hos] at WO
              have BX : Below wr.heap.size wr (wr.alloc (.cells #[.int .i64 o] 3)) := (Below.refl _ _).alloc (Nat.le_refl _) _
              have OA := Lib.hid (O1.out.below BX)
              have RD : Hid (Reads (wr.alloc (.cells #[.int .i64 o] 3)) (wr.heap.size + 1) 1 (some ⟨wr.heap.size, 0, none⟩) 1 [.int .i64 o]) := F.one_row (w := wr) (.int .i64 o) 3
              clear hd BX hos hwf
              go_wp2_with fail
              refine WO.out.mono ?_
              rintro e w4 ⟨rfl, hw⟩
              rw [hw]
              clear hw w4 WO
              go_wp2_with (at_builtin; refine wpList_append_any _ rfl _ _ 22 rfl 0 3 i0 (.int .i64 0) 1 8 Try.underlying22 hi hz0 hz1 hz2 rfl (by decide) _ _ _ rfl OA.out.own (wr.heap.size + 1) (some ⟨wr.heap.size, 0, none⟩) 1 1 [.int .i64 o] rfl RD.out ?y32 ?y33 ?y34 ?y35 ?_)
              case y32 => intro u hu; simp at hu; subst hu; rfl
              case y33 => have := HI16.out; unfold maxLen; omega
              case y34 => have := HI16.out; omega
              case y35 => exact Nat.zero_le _
              intro v' w5 hown hgrow hblk
              obtain ⟨A3, c3, rfl⟩ := slice_form hown
              have hC : C (lst (ownV os) i) ++ [.int .i64 o] = C (lst (ownV os) (i + 1)) := by
                show _ = C (lst (ownV os) i ++ [ownV os i])
                rw [HOV.out, C_app]; rfl
              rw [hC] at hown
              have G := O1.out.grow1 hown hgrow (by simpa using hblk)
              obtain ⟨q3, hq3⟩ : ∃ q3 : Nat → Prop, (fun b => q1 b ∨ (wr.heap.size ≤ b ∧ b < w5.heap.size)) = q3 := ⟨_, rfl⟩
              have P1 : Hid (F.Ow 3 w5 q3 (.slice A3 (i + 1) c3) (i + 1) (C (lst (ownV os) (i + 1)))) := by rw [← hq3]; exact G.1
              have P2 := Lib.hid (O2.out.fo G.2 (fun b hb hq => (HQ1.out b hq).2 hb))
              have hB1s : B1 ≤ wr.heap.size := by have := HB3.out.size; have := HB1.out; omega
              have HQ3 : Hid (∀ b, q3 b → B1 ≤ b ∧ ¬ q2 b) := by
                rw [← hq3]
                rintro b (hb | hb)
                · exact HQ1.out b hb
                · exact ⟨by omega, fun h => by have := HL2.out b h; omega⟩
              have HL3 : Hid (∀ b, q3 b → b < w5.heap.size) := by
                rw [← hq3]
                rintro b (hb | hb)
                · have := HL1.out b hb; have := G.2.size; omega
                · exact hb.2
              have HL2' : Hid (∀ b, q2 b → b < w5.heap.size) := fun b hb => by have := HL2.out b hb; have := G.2.size; omega
              have U5 := Lib.hid (HU.out.keepq G.2 fun b hb hq => by have := BLK.out HNE.out b hb; have := (HQ1.out b hq).1; omega)
              have BB5 : Hid (Below B1 w3 w5) := HB3.out.trans (G.2.below (fun b hb => (HQ1.out b hb).1) hB1s)
              have HBB5 : Hid (Below lo w w5) := HB.out.trans ((G.2.below (fun b hb => (HQ1.out b hb).1) hB1s).mono HSB.out)
              have WT := Lib.hid (waiting_any lo g bc bw bm N rb cs ws os i (ws i) w5 U5.out.lv HIN.out rfl (by have := HU.out.len i HIN.out; have := HJ.out; omega))
              obtain ⟨mm, hmm⟩ : ∃ mm, (ws i).length = mm := ⟨_, rfl⟩
              have HMM := Lib.hid hmm
              have HIL2 : Hid ((idsP (ws i)).length = mm) := by unfold Hid idsP; rw [List.length_map]; exact hmm
              have HMB : Hid (mm ≤ 40) := by have := HU.out.len i HIN.out; have := HJ.out; unfold Hid; omega
              rw [hmm] at WT
              clear hown hgrow hblk hC G hq3 hB1s HU HB3 HB O1 O2 HQ1 HL1 HL2 OA RD hmm
              go_wp2_with fail
              refine WT.out.mono ?_
              rintro e w6 ⟨A5, c5, r5, rfl, row5, _, b6⟩
              have ROW5 := Lib.hid row5
              have P1' := Lib.hid (P1.out.below b6)
              have P2' := Lib.hid (P2.out.below b6)
              have U6 := Lib.hid (U5.out.below b6)
              have hs6 := b6.size
              have HL3' : Hid (∀ b, q3 b → b < w6.heap.size) := fun b hb => by have := HL3.out b hb; omega
              have HL2'' : Hid (∀ b, q2 b → b < w6.heap.size) := fun b hb => by have := HL2'.out b hb; omega
              have hlo5 : B1 ≤ w5.heap.size := by have := BB5.out.size; have := HB1.out; omega
              have BB6 : Hid (Below B1 w3 w6) := BB5.out.trans (b6.mono hlo5)
              have HBB6 : Hid (Below lo w w6) := HBB5.out.trans (b6.mono (Nat.le_trans HSB.out hlo5))
              clear row5 b6 WT U5 P1 P2 BB5 HBB5 HL3 HL2' hs6 hlo5
              have hmb : (mm : Int) ≤ 40 := by have := HMB.out; omega
              go_wp2_with fail
              go_loopw [15, 17] (fun nv kv wr => D3 id (idsP (ws i)) mm w6 nv kv wr) (fun _ k _ => (intOf k + 1).toNat)
              case atStart => exact ⟨⟨mm, Nat.le_refl _, rfl, by rw [← HIL2.out, List.drop_length]; rfl, rfl⟩⟩
              case round =>
                obtain ⟨⟨k, hk, rfl, rfl, hw6⟩⟩ := hrel
                subst hw6
                have HK : Hid (k ≤ mm) := hk
                obtain ⟨hv0, hhv0⟩ : ∃ z, hdx id ((idsP (ws i)).drop k) = z := ⟨_, rfl⟩
                have HV0 := Lib.hid hhv0
                rw [hhv0]
                clear hk hhv0
                by_cases hk0 : k = 0
                · subst hk0
                  have hneg : ¬ (0 : Int) ≤ ((0 : Nat) : Int) - 1 := by simp
                  have HFV : Hid (fstV ws id i = hv0) := by unfold Hid fstV; rw [← HV0.out]; rfl
                  have BX2 : Below wr.heap.size wr (wr.alloc (.cells #[.int .i64 hv0] 3)) := (Below.refl _ _).alloc (Nat.le_refl _) _
                  have OB := Lib.hid (P2'.out.below BX2)
                  have RD2 : Hid (Reads (wr.alloc (.cells #[.int .i64 hv0] 3)) (wr.heap.size + 1) 1 (some ⟨wr.heap.size, 0, none⟩) 1 [.int .i64 hv0]) := F.one_row (w := wr) (.int .i64 hv0) 3
                  clear BX2
                  go_wp2_with (at_builtin; refine wpList_append_any _ rfl _ _ 22 rfl 0 3 i0 (.int .i64 0) 1 8 Try.underlying22 hi hz0 hz1 hz2 rfl (by decide) _ _ _ rfl OB.out.own (wr.heap.size + 1) (some ⟨wr.heap.size, 0, none⟩) 1 1 [.int .i64 hv0] rfl RD2.out ?y42 ?y43 ?y44 ?y45 ?_)
                  case y42 => first | rfl | (intro u hu; simp at hu; subst hu; rfl)
                  case y43 => have := HI16.out; unfold maxLen; omega
                  case y44 => have := HI16.out; omega
                  try (case y45 => exact Nat.zero_le _)
                  intro v' w7 hown hgrow hblk
                  obtain ⟨A4, c4, rfl⟩ := slice_form hown
                  have hC : C (lst (fstV ws id) i) ++ [.int .i64 hv0] = C (lst (fstV ws id) (i + 1)) := by
                    show _ = C (lst (fstV ws id) i ++ [fstV ws id i])
                    rw [HFV.out, C_app]; rfl
                  rw [hC] at hown
                  have G := P2'.out.grow1 hown hgrow (by simpa using hblk)
                  have hB1s : B1 ≤ wr.heap.size := by have := BB6.out.size; have := HB1.out; omega
                  have QQ : Hid (D2 lo B1 j g bc bw bm N rb cs ws os id w w3 (.slice A3 (i + 1) c3) (.slice A4 (i + 1) c4) (.int .i64 ((i : Int) + 1)) w7) := by
                    refine ⟨⟨i + 1, q3, _, A3, c3, A4, c4, HIN.out, by go_num, rfl, rfl, P1'.out.fo G.2 (fun b hb hq => (HQ3.out b hb).2 hq), G.1, fun b hb => ⟨(HQ3.out b hb).1, ?_⟩, ?_, fun b hb => by have := HL3'.out b hb; have := G.2.size; omega, ?_, U6.out.keepq G.2 fun b hb hq => by have := BLK.out HNE.out b hb; have := HQ2.out b hq; omega, BB6.out.trans (G.2.below HQ2.out hB1s), HBB6.out.trans ((G.2.below HQ2.out hB1s).mono HSB.out)⟩⟩
                    · rintro (h | h)
                      · exact (HQ3.out b hb).2 h
                      · have := HL3'.out b hb; omega
                    · rintro b (h | h)
                      · exact HQ2.out b h
                      · omega
                    · rintro b (h | h)
                      · have := HL2''.out b h; have := G.2.size; omega
                      · exact h.2
                  clear hown hgrow hblk hC G hB1s
                  go_wp2_with fail
                  go_roundw
                  case rel =>
                    first | exact QQ.out | ((repeat apply Exists.intro); exact ⟨QQ.out, rfl⟩)
                  case measure => have := HIN.out; have := H16.out; simp [intOf]; omega
                · obtain ⟨k', hk'⟩ : ∃ k', k = k' + 1 := ⟨k - 1, by omega⟩
                  subst hk'
                  have hkv : ((k' + 1 : Nat) : Int) - 1 = (k' : Int) := by omega
                  rw [hkv]
                  have hpos : (0 : Int) ≤ (k' : Int) := by omega
                  have HKL : Hid (k' < mm) := by have := HK.out; unfold Hid; omega
                  have hkm : (k' : Int) < (mm : Int) := by have := HKL.out; omega
                  obtain ⟨⟨c', hv⟩, d6, _⟩ := ROW5.out.cells k' (by rw [HIL2.out]; exact HKL.out)
                  injection hv with hv1 hv2 hv3
                  subst hv1
                  have HST := Lib.hid (hdx_step id (idsP (ws i)) k' (by rw [HIL2.out]; exact HKL.out))
                  obtain ⟨z, hzz⟩ : ∃ z, (idsP (ws i)).getD k' 0 = z := ⟨_, rfl⟩
                  rw [hzz] at d6 HST
                  rw [HV0.out] at HST
                  clear hv2 hv3 hzz hkv hk0
                  by_cases hzi : z = id
                  · have hz1 : (z == id) = true := by rw [beq_iff_eq]; exact hzi
                    have hz2 : (z != id) = false := by simp [hzi]
                    have HE : Hid (hdx id ((idsP (ws i)).drop k') = hv0) := by unfold Hid; rw [HST.out, if_neg (not_not_intro hzi)]
                    clear hzi
                    go_wp2_with fail
                    go_roundw
                    case rel =>
                      have Q : D3 id (idsP (ws i)) mm wr (.int .i64 hv0) (.int .i64 ((k' : Int) - 1)) wr := ⟨⟨k', Nat.le_of_lt HKL.out, rfl, by rw [HE.out], rfl⟩⟩
                      first | exact Q | ((repeat apply Exists.intro); exact ⟨Q, rfl⟩)
                    case measure => first | (simp [intOf]; omega) | simp [intOf]
                  · have hz1 : (z == id) = false := by rw [beq_eq_false_iff_ne]; exact hzi
                    have hz2 : (z != id) = true := by simp [hzi]
                    have HE : Hid (hdx id ((idsP (ws i)).drop k') = z) := by unfold Hid; rw [HST.out, if_pos hzi]
                    clear hzi
                    go_wp2_with fail
                    go_roundw
                    case rel =>
                      have Q : D3 id (idsP (ws i)) mm wr (.int .i64 z) (.int .i64 ((k' : Int) - 1)) wr := ⟨⟨k', Nat.le_of_lt HKL.out, rfl, by rw [HE.out], rfl⟩⟩
                      first | exact Q | ((repeat apply Exists.intro); exact ⟨Q, rfl⟩)
                    case measure => first | (simp [intOf]; omega) | simp [intOf]
          · have hiI : ¬ (i : Int) < (n : Int) := by omega
            have hie : i = n := by have := HIL.out; omega
            subst hie
            have HE1 := Lib.hid (held_any lo g bc bw bm N rb cs ws os id wr HU.out.lv H16.out)
            clear hin
            go_wp2_with fail
            refine HE1.out.mono ?_
            rintro e w7 ⟨A7, m7, c7, r7, rfl, hm7, _, _, b7⟩
            have HM7 : Hid (m7 ≤ i) := by unfold Hid; have := heldP_len os id cs.length; have := HLEN.out; omega
            have P1 := Lib.hid (O1.out.below b7)
            have P2 := Lib.hid (O2.out.below b7)
            have U7 := Lib.hid (HU.out.below b7)
            have HB7 : Hid (Below lo w w7) := HB.out.trans (b7.mono (by have := HB.out.size; have := HLO.out; omega))
            have DR := Lib.hid (drop_any lo g bc bw bm N rb cs ws os id w7 U7.out.lv H16.out (fun k hk => by have := U7.out.len k hk; have := HJ.out; omega) (fun k hk x hx => (U7.out.un.wf k hk x hx).1) (by have := U7.out.N; have := HJ.out; omega))
            clear hm7 b7 HE1 HU O1 O2 HB
            go_wp2_with fail
            refine DR.out.mono ?_
            rintro e w8 ⟨ws1, A8, c8, rv, N8, lr, rfl, row8, _, hN8, lv8, x8⟩
            have LR := Lib.hid lr
            have ROW8 := Lib.hid row8
            have LV8 := Lib.hid lv8
            have Q1 := Lib.hid ((P1.out.fo x8.fo (fun b hb hq => by have := BL2.out b hq; have := (HQ1.out b hb).1; omega)).sq)
            have Q2 := Lib.hid ((P2.out.fo x8.fo (fun b hb hq => by have := BL2.out b hq; have := HQ2.out b hb; omega)).sq)
            have B8 : Hid (Below lo w w8) := HB7.out.trans (x8.below U7.out.lv)
            have HUN : Hid (Un cs.length ws) := U7.out.un
            have HOWN := Lib.hid U7.out.own
            have HLW : Hid (∀ k, k < cs.length → (ws k).length ≤ 41) := fun k hk => by have := U7.out.len k hk; have := HJ.out; omega
            obtain ⟨mw, hmw⟩ : ∃ mw, (wk ws1 (heldP os id cs.length)).length = mw := ⟨_, rfl⟩
            have HMW := Lib.hid hmw
            have HLEND : Hid (∀ k : Nat, k < i → os (k : Int) = some id → ∀ x T, ws1 k = x :: T → (wk ws1 (heldP os id k)).length < mw ∧ (wk ws1 (heldP os id cs.length)).getD (wk ws1 (heldP os id k)).length 0 = x.1) := fun k hk ho x T hx => by
              have := wk_at ws1 os id (n := cs.length) (by rw [HLEN.out]; exact hk) ho hx
              rw [hmw] at this
              exact this
            have ROW9 : Hid (I.RowV w8 (.slice A8 mw c8) rv (wk ws1 (heldP os id cs.length))) := by unfold Hid; rw [← hmw]; exact ROW8.out
            rw [hmw]
            have hm7I : (m7 : Int) ≤ (i : Int) := by have := HM7.out; omega
            clear lr row8 lv8 x8 hN8 DR P1 P2 U7 HB7 ROW8 hmw
            go_wp2_with fail
            go_loopw [20, 21] (fun nv iv wr => D4 ws1 os id i w8 nv iv wr) (fun _ k _ => 17 - (intOf k).toNat)
            case atStart => exact ⟨⟨0, Nat.zero_le _, rfl, rfl, rfl⟩⟩
            case round =>
              obtain ⟨⟨k, hk, rfl, rfl, hw8⟩⟩ := hrel
              subst hw8
              have HKE : Hid (k ≤ i) := hk
              clear hk
              by_cases hki : k < i
              · have hkiI : (k : Int) < (i : Int) := by omega
                have HKI : Hid (k < i) := hki
                have HKC : Hid (k < cs.length) := by rw [HLEN.out]; exact hki
                have hk16 : (k : Int) < 16 := by have := H16.out; have := HKC.out; omega
                obtain ⟨_, qb, off, rfl, _, _, hcc⟩ := Q1.out.at_ (by omega)
                have e0 := hcc k _ (C_at (lst (ownV os) i) k (by rw [lst_len]; exact hki))
                rw [lst_get _ _ _ hki] at e0
                obtain ⟨_, qb2, off2, rfl, _, _, hcc2⟩ := Q2.out.at_ (by omega)
                have f0 := hcc2 k _ (C_at (lst (fstV ws id) i) k (by rw [lst_len]; exact hki))
                rw [lst_get _ _ _ hki] at f0
                obtain ⟨vc, cw, hd, _⟩ := LV8.out.hd
                have WO := Lib.hid (owner_any g bm N8 vc _ (osD ws1 os (heldP os id cs.length)) (k : Int) wr (WalkArith.wf_i64 (by omega)) hd LV8.out.mp)
                have hoa := own_after (os := os) LR.out HUN.out k HKC.out
                obtain ⟨nk, hnk⟩ : ∃ nk, (wk ws1 (heldP os id k)).length = nk := ⟨_, rfl⟩
                have HNK := Lib.hid hnk
                have HWX := Lib.hid (wk_next ws1 os id k)
                rw [hnk]
                clear hcc hcc2 hd hki hnk
                cases hos : os (k : Int) with
                | none =>
                  have hX : osD ws1 os (heldP os id cs.length) (k : Int) = none := by
                    unfold osD
                    rw [if_neg (fun e => by have := ((held_mem os id k _).1 e).2; rw [hos] at this; cases this)]; exact hos
                  have hov : ownV os k = -1 := by unfold ownV; rw [hos]
                  have HNX : Hid ((wk ws1 (heldP os id (k + 1))).length = nk) := by unfold Hid; rw [HWX.out, hos, if_neg (by simp), List.append_nil]; exact HNK.out
                  rw [hov] at e0
                  clear hoa hov hos f0
                  rw [hX] at WO
                  clear hX
                  go_wp2_with fail
                  refine WO.out.mono ?_
                  rintro e w9 ⟨rfl, hw⟩
                  rw [hw]
                  clear hw w9 WO
                  go_wp2_with fail
                  go_roundw
                  case rel =>
                    have Q : D4 ws1 os id i wr (.int .i64 (nk : Int)) (.int .i64 ((k : Int) + 1)) wr := ⟨⟨k + 1, HKI.out, by go_num, by first | (rw [HNX.out]; done) | (rw [HNX.out]; simp), rfl⟩⟩
                    first | exact Q | ((repeat apply Exists.intro); exact ⟨Q, rfl⟩)
                  case measure => have := HKI.out; have := H16.out; have := HLEN.out; simp [intOf]; omega
                | some o =>
                  by_cases hoi : o = id
                  · subst hoi
                    have ho0 : 0 ≤ o := HOWN.out k HKC.out o hos
                    have hov : ownV os k = o := by unfold ownV; rw [hos]
                    rw [hov] at e0
                    rw [if_pos hos] at hoa
                    have hXX : osD ws1 os (heldP os o cs.length) (k : Int) = (ws1 k).head?.map (·.1) := by
                      unfold osD
                      rw [if_pos ((held_mem os o k _).2 ⟨HKC.out, hos⟩), Int.toNat_natCast]
                    cases hw1 : ws1 k with
                    | nil =>
                      have hX : osD ws1 os (heldP os o cs.length) (k : Int) = none := by rw [hXX, hw1]; rfl
                      have hfv : fstV ws o k = -1 := by rw [← hoa]; unfold ownV; rw [hX]
                      rw [hfv] at f0
                      have HNX : Hid ((wk ws1 (heldP os o (k + 1))).length = nk) := by unfold Hid; rw [HWX.out, if_pos hos, hw1]; simp [hd1]; exact HNK.out
                      clear hoa hov hos hXX hfv hw1
                      rw [hX] at WO
                      clear hX
                      go_wp2_with fail
                      refine WO.out.mono ?_
                      rintro e w9 ⟨rfl, hw⟩
                      rw [hw]
                      clear hw w9 WO
                      go_wp2_with fail
                      go_roundw
                      case rel =>
                        have Q : D4 ws1 os o i wr (.int .i64 (nk : Int)) (.int .i64 ((k : Int) + 1)) wr := ⟨⟨k + 1, HKI.out, by go_num, by first | (rw [HNX.out]; done) | (rw [HNX.out]; simp), rfl⟩⟩
                        first | exact Q | ((repeat apply Exists.intro); exact ⟨Q, rfl⟩)
                      case measure => have := HKI.out; have := H16.out; have := HLEN.out; simp [intOf]; omega
                    | cons x T =>
                      obtain ⟨x1, x2⟩ := x
                      have hX : osD ws1 os (heldP os o cs.length) (k : Int) = some x1 := by rw [hXX, hw1]; rfl
                      have hfv : fstV ws o k = x1 := by rw [← hoa]; unfold ownV; rw [hX]
                      rw [hfv] at f0
                      have HNX : Hid ((wk ws1 (heldP os o (k + 1))).length = nk + 1) := by unfold Hid; rw [HWX.out, if_pos hos, hw1, List.length_append, HNK.out]; rfl
                      have hat := HLEND.out k HKI.out hos _ _ hw1
                      rw [HNK.out] at hat
                      have hx0 : 0 ≤ x1 := by
                        have hm : (x1, x2) ∈ ws1 k := by rw [hw1]; exact List.mem_cons_self ..
                        rw [LR.out.filter HUN.out k HKC.out] at hm
                        exact (HUN.out.wf k HKC.out _ (List.mem_filter.1 hm).1).2
                      obtain ⟨⟨c', hv⟩, d9, _⟩ := ROW9.out.cells nk (by rw [HMW.out]; exact hat.1)
                      rw [hat.2] at d9
                      have d9 : wr.cell? ⟨rv, nk, none⟩ = some (.int .i64 x1) := d9
                      injection hv with hv1 hv2 hv3
                      subst hv1
                      have hnm : (nk : Int) < (mw : Int) := by omega
                      have hnm2 : ¬ (mw : Int) ≤ (nk : Int) := by omega
                      have hnb : (nk : Int) ≤ 100 := by have h1 := wk_len ws1 (heldP os o cs.length); have h2 := heldP_len os o cs.length; have h3 := HMW.out; have h4 := H16.out; omega
                      clear hoa hov hos hXX hfv hw1 hat hv2 hv3
                      rw [hX] at WO
                      clear hX
                      go_wp2_with fail
                      refine WO.out.mono ?_
                      rintro e w9 ⟨rfl, hw⟩
                      rw [hw]
                      clear hw w9 WO
                      go_wp2_with fail
                      go_roundw
                      case rel =>
                        have Q : D4 ws1 os o i wr (.int .i64 ((nk : Int) + 1)) (.int .i64 ((k : Int) + 1)) wr := ⟨⟨k + 1, HKI.out, by go_num, by first | (rw [HNX.out]; done) | (rw [HNX.out]; simp), rfl⟩⟩
                        first | exact Q | ((repeat apply Exists.intro); exact ⟨Q, rfl⟩)
                      case measure => have := HKI.out; have := H16.out; have := HLEN.out; simp [intOf]; omega
                  · have ho0 : 0 ≤ o := HOWN.out k HKC.out o hos
                    have hov : ownV os k = o := by unfold ownV; rw [hos]
                    have hX : osD ws1 os (heldP os id cs.length) (k : Int) = some o := by
                      unfold osD
                      rw [if_neg (fun e => by have := ((held_mem os id k _).1 e).2; rw [hos] at this; injection this with this; exact hoi this)]; exact hos
                    have HNX : Hid ((wk ws1 (heldP os id (k + 1))).length = nk) := by unfold Hid; rw [HWX.out, hos, if_neg (by simpa using hoi), List.append_nil]; exact HNK.out
                    have hob : (o == id) = false := by rw [beq_eq_false_iff_ne]; exact hoi
                    rw [hov] at e0
                    clear hoa hov hos f0 hoi
                    rw [hX] at WO
                    clear hX
                    go_wp2_with fail
                    refine WO.out.mono ?_
                    rintro e w9 ⟨rfl, hw⟩
                    rw [hw]
                    clear hw w9 WO
                    go_wp2_with fail
                    go_roundw
                    case rel =>
                      have Q : D4 ws1 os id i wr (.int .i64 (nk : Int)) (.int .i64 ((k : Int) + 1)) wr := ⟨⟨k + 1, HKI.out, by go_num, by first | (rw [HNX.out]; done) | (rw [HNX.out]; simp), rfl⟩⟩
                      first | exact Q | ((repeat apply Exists.intro); exact ⟨Q, rfl⟩)
                    case measure => have := HKI.out; have := H16.out; have := HLEN.out; simp [intOf]; omega
              · have hkiI : ¬ (k : Int) < (i : Int) := by omega
                have hke : k = i := by have := HKE.out; omega
                have hkw : (wk ws1 (heldP os id k)).length = mw := by rw [hke, ← HLEN.out]; exact HMW.out
                rw [hkw]
                have HNO : Hid (heldP (osD ws1 os (heldP os id cs.length)) id cs.length = []) := held_nil _ (none_after LR.out HUN.out)
                have HNI : Hid (NoId (wsD ws1 (heldP os id cs.length)) cs.length id) := noId_after LR.out HUN.out _
                have RA : Hid (Calls Try.prog 27 #[.pointer (some ⟨g, 0, none⟩), .int .i64 id] wr fun e w' => e = .returned (.tuple #[.int .i64 0, .bool false]) ∧ Below wr.heap.size wr w') := by
                  have h := raised_any lo g bc bw bm N8 rb cs _ _ id wr LV8.out H16.out
                  rw [HNO.out] at h
                  exact h
                clear hki hke hkw
                go_wp2_with fail
                refine RA.out.mono ?_
                rintro e w9 ⟨rfl, b9⟩
                have V9 := Lib.hid (LV8.out.below b9)
                have HS8 : Hid (lo ≤ wr.heap.size) := by have := B8.out.size; have := HLO.out; unfold Hid; omega
                have B9 : Hid (Below lo w w9) := B8.out.trans (b9.mono HS8.out)
                clear b9 RA
                go_wp2_with fail
                refine (known_any w9).mono ?_
                rintro e w10 ⟨rfl, b10⟩
                have V10 := Lib.hid (V9.out.below b10)
                have B10 : Hid (Below lo w w10) := B9.out.trans (b10.mono (by have := B9.out.size; have := HLO.out; omega))
                have HE2 := Lib.hid (held_any lo g bc bw bm N8 rb cs _ _ id w10 V10.out H16.out)
                rw [HNO.out] at HE2
                clear b10 V9 B9
                go_wp2_with fail
                refine HE2.out.mono ?_
                rintro e w11 ⟨A11, m11, c11, r11, rfl, hm11, _, _, b11⟩
                have hm0 : m11 = 0 := hm11
                clear hm11
                subst hm0
                have V11 := Lib.hid (V10.out.below b11)
                have B11 : Hid (Below lo w w11) := B10.out.trans (b11.mono (by have := B10.out.size; have := HLO.out; omega))
                have LN := Lib.hid (leave_none lo g bc bw bm N8 rb cs _ _ id w11 V11.out H16.out (fun k hk => by
                  have h1 := (LR.out.sub k).1
                  have h2 := HLW.out k hk
                  have h3 : (wsD ws1 (heldP os id cs.length) k).length ≤ (ws1 k).length := by
                    unfold wsD
                    split
                    · rw [List.length_tail]; omega
                    · omega
                  omega) HNI.out)
                clear b11 HE2 V10 B10
                go_wp2_with fail
                refine LN.out.mono ?_
                rintro e w12 ⟨rfl, _, x12⟩
                have B12 : Hid (Below lo w w12) := B11.out.trans (x12.below V11.out)
                clear x12 LN
                go_wp2_with fail
                go_ret
                exact ⟨rfl, B12.out⟩
      · go_wp2_with fail
        have BLT : Hid (∀ b, (b = bw ∨ b = bm ∨ ∃ i, i < cs.length ∧ b = rb i) → b < wr.heap.size) := fun b hb => by
          rcases hb with hb | hb | ⟨i, hi, hb⟩
          · rw [hb]; exact HU.out.lv.lt.2.1
          · rw [hb]; exact HU.out.lv.lt.2.2.1
          · rw [hb]; exact HU.out.lv.lt.2.2.2 i hi
        obtain ⟨w3, hw3⟩ : ∃ w3, wr = w3 := ⟨_, rfl⟩
        rw [hw3] at HU HB BLT ⊢
        obtain ⟨B1, hB1⟩ : ∃ B1, w3.heap.size = B1 := ⟨_, rfl⟩
        have HB1 := Lib.hid hB1
        have START : Hid (D2 lo B1 j g bc bw bm N rb cs ws os id w w3 (.slice none 0 0) (.slice none 0 0) (.int .i64 0) w3) :=
          ⟨⟨0, fun _ => False, fun _ => False, none, 0, none, 0, Nat.zero_le _, rfl, rfl, rfl, F.Ow.nil _ _ _, F.Ow.nil _ _ _, fun b h => h.elim, fun b h => h.elim, fun b h => h.elim, fun b h => h.elim, HU.out, by rw [← hB1]; exact Below.refl _ _, HB.out⟩⟩
        have BLK : Hid (cs ≠ [] → ∀ b, Blk g bc bw bm cs.length rb b → b < B1) := fun hne b hb => by
          rw [← hB1]
          rcases hb with hb | hb | hb | hb | ⟨i, hi, hb⟩
          · rw [hb]; exact HU.out.lv.lt.1
          · rw [hb]; exact HU.out.lv.bc_lt hne
          · rw [hb]; exact HU.out.lv.lt.2.1
          · rw [hb]; exact HU.out.lv.lt.2.2.1
          · rw [hb]; exact HU.out.lv.lt.2.2.2 i hi
        have BL2 : Hid (∀ b, (b = bw ∨ b = bm ∨ ∃ i, i < cs.length ∧ b = rb i) → b < B1) := by rw [← hB1]; exact BLT.out
        have HSB : Hid (lo ≤ B1) := by have := HB.out.size; have := HLO.out; unfold Hid; omega
        clear hw3 hB1 HW3 REST HU HB BLT wr
        go_loopw [10, 11, 12] (fun ov fv iv wr => D2 lo B1 j g bc bw bm N rb cs ws os id w w3 ov fv iv wr) (fun _ _ i _ => 17 - (intOf i).toNat)
        case atStart => exact START.out
        case round =>
          obtain ⟨⟨i, q1, q2, A1, c1, A2, c2, hil, rfl, rfl, rfl, o1, o2, hq1, hq2, hl1, hl2, hux, hb3, hb⟩⟩ := hrel
          have HU := Lib.hid hux
          have O1 := Lib.hid o1
          have O2 := Lib.hid o2
          have HQ1 := Lib.hid hq1
          have HQ2 := Lib.hid hq2
          have HL1 := Lib.hid hl1
          have HL2 := Lib.hid hl2
          have HB3 := Lib.hid hb3
          have HB := Lib.hid hb
          have HIL : Hid (i ≤ n) := by rw [← HLEN.out]; exact hil
          clear hil o1 o2 hq1 hq2 hl1 hl2 hux hb3 hb START
          by_cases hin : i < n
          · have hiI : (i : Int) < (n : Int) := by omega
            have HIN : Hid (i < cs.length) := by rw [HLEN.out]; exact hin
            have hi16 : (i : Int) < 16 := by have := H16.out; have := HIN.out; omega
            have HI16 : Hid (i < 16) := by have := H16.out; have := HIN.out; unfold Hid; omega
            have HNE : Hid (cs ≠ []) := fun e => by have := HIN.out; rw [e] at this; simp at this
            obtain ⟨vc, cw, hd, _⟩ := HU.out.lv.hd
            have hwf : (Lit.int .i64 (i : Int)).wf = true := WalkArith.wf_i64 (by omega)
            clear hin
            cases hos : os (i : Int) with
            | none =>
              have HOV : Hid (ownV os i = (-1)) := by unfold Hid ownV; rw [hos]
              have WO := Lib.hid (owner_any g bm N vc _ os (i : Int) wr hwf hd HU.out.lv.mp)
              rw [hos] at WO
              have BX : Below wr.heap.size wr (wr.alloc (.cells #[.int .i64 (-1)] 3)) := (Below.refl _ _).alloc (Nat.le_refl _) _
              have OA := Lib.hid (O1.out.below BX)
              have RD : Hid (Reads (wr.alloc (.cells #[.int .i64 (-1)] 3)) (wr.heap.size + 1) 1 (some ⟨wr.heap.size, 0, none⟩) 1 [.int .i64 (-1)]) := F.one_row (w := wr) (.int .i64 (-1)) 3
              clear hd BX hos hwf
              go_wp2_with fail
              refine WO.out.mono ?_
              rintro e w4 ⟨rfl, hw⟩
              rw [hw]
              clear hw w4 WO
              go_wp2_with (at_builtin; refine wpList_append_any _ rfl _ _ 22 rfl 0 3 i0 (.int .i64 0) 1 8 Try.underlying22 hi hz0 hz1 hz2 rfl (by decide) _ _ _ rfl OA.out.own (wr.heap.size + 1) (some ⟨wr.heap.size, 0, none⟩) 1 1 [.int .i64 (-1)] rfl RD.out ?z12 ?z13 ?z14 ?z15 ?_)
              case z12 => intro u hu; simp at hu; subst hu; rfl
              case z13 => have := HI16.out; unfold maxLen; omega
              case z14 => have := HI16.out; omega
              case z15 => exact Nat.zero_le _
              intro v' w5 hown hgrow hblk
              obtain ⟨A3, c3, rfl⟩ := slice_form hown
              have hC : C (lst (ownV os) i) ++ [.int .i64 (-1)] = C (lst (ownV os) (i + 1)) := by
                show _ = C (lst (ownV os) i ++ [ownV os i])
                rw [HOV.out, C_app]; rfl
              rw [hC] at hown
              have G := O1.out.grow1 hown hgrow (by simpa using hblk)
              obtain ⟨q3, hq3⟩ : ∃ q3 : Nat → Prop, (fun b => q1 b ∨ (wr.heap.size ≤ b ∧ b < w5.heap.size)) = q3 := ⟨_, rfl⟩
              have P1 : Hid (F.Ow 3 w5 q3 (.slice A3 (i + 1) c3) (i + 1) (C (lst (ownV os) (i + 1)))) := by rw [← hq3]; exact G.1
              have P2 := Lib.hid (O2.out.fo G.2 (fun b hb hq => (HQ1.out b hq).2 hb))
              have hB1s : B1 ≤ wr.heap.size := by have := HB3.out.size; have := HB1.out; omega
              have HQ3 : Hid (∀ b, q3 b → B1 ≤ b ∧ ¬ q2 b) := by
                rw [← hq3]
                rintro b (hb | hb)
                · exact HQ1.out b hb
                · exact ⟨by omega, fun h => by have := HL2.out b h; omega⟩
              have HL3 : Hid (∀ b, q3 b → b < w5.heap.size) := by
                rw [← hq3]
                rintro b (hb | hb)
                · have := HL1.out b hb; have := G.2.size; omega
                · exact hb.2
              have HL2' : Hid (∀ b, q2 b → b < w5.heap.size) := fun b hb => by have := HL2.out b hb; have := G.2.size; omega
              have U5 := Lib.hid (HU.out.keepq G.2 fun b hb hq => by have := BLK.out HNE.out b hb; have := (HQ1.out b hq).1; omega)
              have BB5 : Hid (Below B1 w3 w5) := HB3.out.trans (G.2.below (fun b hb => (HQ1.out b hb).1) hB1s)
              have HBB5 : Hid (Below lo w w5) := HB.out.trans ((G.2.below (fun b hb => (HQ1.out b hb).1) hB1s).mono HSB.out)
              have WT := Lib.hid (waiting_any lo g bc bw bm N rb cs ws os i (ws i) w5 U5.out.lv HIN.out rfl (by have := HU.out.len i HIN.out; have := HJ.out; omega))
              obtain ⟨mm, hmm⟩ : ∃ mm, (ws i).length = mm := ⟨_, rfl⟩
              have HMM := Lib.hid hmm
              have HIL2 : Hid ((idsP (ws i)).length = mm) := by unfold Hid idsP; rw [List.length_map]; exact hmm
              have HMB : Hid (mm ≤ 40) := by have := HU.out.len i HIN.out; have := HJ.out; unfold Hid; omega
              rw [hmm] at WT
              clear hown hgrow hblk hC G hq3 hB1s HU HB3 HB O1 O2 HQ1 HL1 HL2 OA RD hmm
              go_wp2_with fail
              refine WT.out.mono ?_
              rintro e w6 ⟨A5, c5, r5, rfl, row5, _, b6⟩
              have ROW5 := Lib.hid row5
              have P1' := Lib.hid (P1.out.below b6)
              have P2' := Lib.hid (P2.out.below b6)
              have U6 := Lib.hid (U5.out.below b6)
              have hs6 := b6.size
              have HL3' : Hid (∀ b, q3 b → b < w6.heap.size) := fun b hb => by have := HL3.out b hb; omega
              have HL2'' : Hid (∀ b, q2 b → b < w6.heap.size) := fun b hb => by have := HL2'.out b hb; omega
              have hlo5 : B1 ≤ w5.heap.size := by have := BB5.out.size; have := HB1.out; omega
              have BB6 : Hid (Below B1 w3 w6) := BB5.out.trans (b6.mono hlo5)
              have HBB6 : Hid (Below lo w w6) := HBB5.out.trans (b6.mono (Nat.le_trans HSB.out hlo5))
              clear row5 b6 WT U5 P1 P2 BB5 HBB5 HL3 HL2' hs6 hlo5
              have hmb : (mm : Int) ≤ 40 := by have := HMB.out; omega
              go_wp2_with fail
              go_loopw [15, 17] (fun nv kv wr => D3 id (idsP (ws i)) mm w6 nv kv wr) (fun _ k _ => (intOf k + 1).toNat)
              case atStart => exact ⟨⟨mm, Nat.le_refl _, rfl, by rw [← HIL2.out, List.drop_length]; rfl, rfl⟩⟩
              case round =>
                obtain ⟨⟨k, hk, rfl, rfl, hw6⟩⟩ := hrel
                subst hw6
                have HK : Hid (k ≤ mm) := hk
                obtain ⟨hv0, hhv0⟩ : ∃ z, hdx id ((idsP (ws i)).drop k) = z := ⟨_, rfl⟩
                have HV0 := Lib.hid hhv0
                rw [hhv0]
                clear hk hhv0
                by_cases hk0 : k = 0
                · subst hk0
                  have hneg : ¬ (0 : Int) ≤ ((0 : Nat) : Int) - 1 := by simp
                  have HFV : Hid (fstV ws id i = hv0) := by unfold Hid fstV; rw [← HV0.out]; rfl
                  have BX2 : Below wr.heap.size wr (wr.alloc (.cells #[.int .i64 hv0] 3)) := (Below.refl _ _).alloc (Nat.le_refl _) _
                  have OB := Lib.hid (P2'.out.below BX2)
                  have RD2 : Hid (Reads (wr.alloc (.cells #[.int .i64 hv0] 3)) (wr.heap.size + 1) 1 (some ⟨wr.heap.size, 0, none⟩) 1 [.int .i64 hv0]) := F.one_row (w := wr) (.int .i64 hv0) 3
                  clear BX2
                  go_wp2_with (at_builtin; refine wpList_append_any _ rfl _ _ 22 rfl 0 3 i0 (.int .i64 0) 1 8 Try.underlying22 hi hz0 hz1 hz2 rfl (by decide) _ _ _ rfl OB.out.own (wr.heap.size + 1) (some ⟨wr.heap.size, 0, none⟩) 1 1 [.int .i64 hv0] rfl RD2.out ?z22 ?z23 ?z24 ?z25 ?_)
                  case z22 => first | rfl | (intro u hu; simp at hu; subst hu; rfl)
                  case z23 => have := HI16.out; unfold maxLen; omega
                  case z24 => have := HI16.out; omega
                  try (case z25 => exact Nat.zero_le _)
                  intro v' w7 hown hgrow hblk
                  obtain ⟨A4, c4, rfl⟩ := slice_form hown
                  have hC : C (lst (fstV ws id) i) ++ [.int .i64 hv0] = C (lst (fstV ws id) (i + 1)) := by
                    show _ = C (lst (fstV ws id) i ++ [fstV ws id i])
                    rw [HFV.out, C_app]; rfl
                  rw [hC] at hown
                  have G := P2'.out.grow1 hown hgrow (by simpa using hblk)
                  have hB1s : B1 ≤ wr.heap.size := by have := BB6.out.size; have := HB1.out; omega
                  have QQ : Hid (D2 lo B1 j g bc bw bm N rb cs ws os id w w3 (.slice A3 (i + 1) c3) (.slice A4 (i + 1) c4) (.int .i64 ((i : Int) + 1)) w7) := by
                    refine ⟨⟨i + 1, q3, _, A3, c3, A4, c4, HIN.out, by go_num, rfl, rfl, P1'.out.fo G.2 (fun b hb hq => (HQ3.out b hb).2 hq), G.1, fun b hb => ⟨(HQ3.out b hb).1, ?_⟩, ?_, fun b hb => by have := HL3'.out b hb; have := G.2.size; omega, ?_, U6.out.keepq G.2 fun b hb hq => by have := BLK.out HNE.out b hb; have := HQ2.out b hq; omega, BB6.out.trans (G.2.below HQ2.out hB1s), HBB6.out.trans ((G.2.below HQ2.out hB1s).mono HSB.out)⟩⟩
                    · rintro (h | h)
                      · exact (HQ3.out b hb).2 h
                      · have := HL3'.out b hb; omega
                    · rintro b (h | h)
                      · exact HQ2.out b h
                      · omega
                    · rintro b (h | h)
                      · have := HL2''.out b h; have := G.2.size; omega
                      · exact h.2
                  clear hown hgrow hblk hC G hB1s
                  go_wp2_with fail
                  go_roundw
                  case rel =>
                    first | exact QQ.out | ((repeat apply Exists.intro); exact ⟨QQ.out, rfl⟩)
                  case measure => have := HIN.out; have := H16.out; simp [intOf]; omega
                · obtain ⟨k', hk'⟩ : ∃ k', k = k' + 1 := ⟨k - 1, by omega⟩
                  subst hk'
                  have hkv : ((k' + 1 : Nat) : Int) - 1 = (k' : Int) := by omega
                  rw [hkv]
                  have hpos : (0 : Int) ≤ (k' : Int) := by omega
                  have HKL : Hid (k' < mm) := by have := HK.out; unfold Hid; omega
                  have hkm : (k' : Int) < (mm : Int) := by have := HKL.out; omega
                  obtain ⟨⟨c', hv⟩, d6, _⟩ := ROW5.out.cells k' (by rw [HIL2.out]; exact HKL.out)
                  injection hv with hv1 hv2 hv3
                  subst hv1
                  have HST := Lib.hid (hdx_step id (idsP (ws i)) k' (by rw [HIL2.out]; exact HKL.out))
                  obtain ⟨z, hzz⟩ : ∃ z, (idsP (ws i)).getD k' 0 = z := ⟨_, rfl⟩
                  rw [hzz] at d6 HST
                  rw [HV0.out] at HST
                  clear hv2 hv3 hzz hkv hk0
                  by_cases hzi : z = id
                  · have hz1 : (z == id) = true := by rw [beq_iff_eq]; exact hzi
                    have hz2 : (z != id) = false := by simp [hzi]
                    have HE : Hid (hdx id ((idsP (ws i)).drop k') = hv0) := by unfold Hid; rw [HST.out, if_neg (not_not_intro hzi)]
                    clear hzi
                    go_wp2_with fail
                    go_roundw
                    case rel =>
                      have Q : D3 id (idsP (ws i)) mm wr (.int .i64 hv0) (.int .i64 ((k' : Int) - 1)) wr := ⟨⟨k', Nat.le_of_lt HKL.out, rfl, by rw [HE.out], rfl⟩⟩
                      first | exact Q | ((repeat apply Exists.intro); exact ⟨Q, rfl⟩)
                    case measure => first | (simp [intOf]; omega) | simp [intOf]
                  · have hz1 : (z == id) = false := by rw [beq_eq_false_iff_ne]; exact hzi
                    have hz2 : (z != id) = true := by simp [hzi]
                    have HE : Hid (hdx id ((idsP (ws i)).drop k') = z) := by unfold Hid; rw [HST.out, if_pos hzi]
                    clear hzi
                    go_wp2_with fail
                    go_roundw
                    case rel =>
                      have Q : D3 id (idsP (ws i)) mm wr (.int .i64 z) (.int .i64 ((k' : Int) - 1)) wr := ⟨⟨k', Nat.le_of_lt HKL.out, rfl, by rw [HE.out], rfl⟩⟩
                      first | exact Q | ((repeat apply Exists.intro); exact ⟨Q, rfl⟩)
                    case measure => first | (simp [intOf]; omega) | simp [intOf]
            | some o =>
              have HOV : Hid (ownV os i = o) := by unfold Hid ownV; rw [hos]
              have WO := Lib.hid (owner_any g bm N vc _ os (i : Int) wr hwf hd HU.out.lv.mp)
              rw [hos] at WO
              have BX : Below wr.heap.size wr (wr.alloc (.cells #[.int .i64 o] 3)) := (Below.refl _ _).alloc (Nat.le_refl _) _
              have OA := Lib.hid (O1.out.below BX)
              have RD : Hid (Reads (wr.alloc (.cells #[.int .i64 o] 3)) (wr.heap.size + 1) 1 (some ⟨wr.heap.size, 0, none⟩) 1 [.int .i64 o]) := F.one_row (w := wr) (.int .i64 o) 3
              clear hd BX hos hwf
              go_wp2_with fail
              refine WO.out.mono ?_
              rintro e w4 ⟨rfl, hw⟩
              rw [hw]
              clear hw w4 WO
              go_wp2_with (at_builtin; refine wpList_append_any _ rfl _ _ 22 rfl 0 3 i0 (.int .i64 0) 1 8 Try.underlying22 hi hz0 hz1 hz2 rfl (by decide) _ _ _ rfl OA.out.own (wr.heap.size + 1) (some ⟨wr.heap.size, 0, none⟩) 1 1 [.int .i64 o] rfl RD.out ?z32 ?z33 ?z34 ?z35 ?_)
              case z32 => intro u hu; simp at hu; subst hu; rfl
              case z33 => have := HI16.out; unfold maxLen; omega
              case z34 => have := HI16.out; omega
              case z35 => exact Nat.zero_le _
              intro v' w5 hown hgrow hblk
              obtain ⟨A3, c3, rfl⟩ := slice_form hown
              have hC : C (lst (ownV os) i) ++ [.int .i64 o] = C (lst (ownV os) (i + 1)) := by
                show _ = C (lst (ownV os) i ++ [ownV os i])
                rw [HOV.out, C_app]; rfl
              rw [hC] at hown
              have G := O1.out.grow1 hown hgrow (by simpa using hblk)
              obtain ⟨q3, hq3⟩ : ∃ q3 : Nat → Prop, (fun b => q1 b ∨ (wr.heap.size ≤ b ∧ b < w5.heap.size)) = q3 := ⟨_, rfl⟩
              have P1 : Hid (F.Ow 3 w5 q3 (.slice A3 (i + 1) c3) (i + 1) (C (lst (ownV os) (i + 1)))) := by rw [← hq3]; exact G.1
              have P2 := Lib.hid (O2.out.fo G.2 (fun b hb hq => (HQ1.out b hq).2 hb))
              have hB1s : B1 ≤ wr.heap.size := by have := HB3.out.size; have := HB1.out; omega
              have HQ3 : Hid (∀ b, q3 b → B1 ≤ b ∧ ¬ q2 b) := by
                rw [← hq3]
                rintro b (hb | hb)
                · exact HQ1.out b hb
                · exact ⟨by omega, fun h => by have := HL2.out b h; omega⟩
              have HL3 : Hid (∀ b, q3 b → b < w5.heap.size) := by
                rw [← hq3]
                rintro b (hb | hb)
                · have := HL1.out b hb; have := G.2.size; omega
                · exact hb.2
              have HL2' : Hid (∀ b, q2 b → b < w5.heap.size) := fun b hb => by have := HL2.out b hb; have := G.2.size; omega
              have U5 := Lib.hid (HU.out.keepq G.2 fun b hb hq => by have := BLK.out HNE.out b hb; have := (HQ1.out b hq).1; omega)
              have BB5 : Hid (Below B1 w3 w5) := HB3.out.trans (G.2.below (fun b hb => (HQ1.out b hb).1) hB1s)
              have HBB5 : Hid (Below lo w w5) := HB.out.trans ((G.2.below (fun b hb => (HQ1.out b hb).1) hB1s).mono HSB.out)
              have WT := Lib.hid (waiting_any lo g bc bw bm N rb cs ws os i (ws i) w5 U5.out.lv HIN.out rfl (by have := HU.out.len i HIN.out; have := HJ.out; omega))
              obtain ⟨mm, hmm⟩ : ∃ mm, (ws i).length = mm := ⟨_, rfl⟩
              have HMM := Lib.hid hmm
              have HIL2 : Hid ((idsP (ws i)).length = mm) := by unfold Hid idsP; rw [List.length_map]; exact hmm
              have HMB : Hid (mm ≤ 40) := by have := HU.out.len i HIN.out; have := HJ.out; unfold Hid; omega
              rw [hmm] at WT
              clear hown hgrow hblk hC G hq3 hB1s HU HB3 HB O1 O2 HQ1 HL1 HL2 OA RD hmm
              go_wp2_with fail
              refine WT.out.mono ?_
              rintro e w6 ⟨A5, c5, r5, rfl, row5, _, b6⟩
              have ROW5 := Lib.hid row5
              have P1' := Lib.hid (P1.out.below b6)
              have P2' := Lib.hid (P2.out.below b6)
              have U6 := Lib.hid (U5.out.below b6)
              have hs6 := b6.size
              have HL3' : Hid (∀ b, q3 b → b < w6.heap.size) := fun b hb => by have := HL3.out b hb; omega
              have HL2'' : Hid (∀ b, q2 b → b < w6.heap.size) := fun b hb => by have := HL2'.out b hb; omega
              have hlo5 : B1 ≤ w5.heap.size := by have := BB5.out.size; have := HB1.out; omega
              have BB6 : Hid (Below B1 w3 w6) := BB5.out.trans (b6.mono hlo5)
              have HBB6 : Hid (Below lo w w6) := HBB5.out.trans (b6.mono (Nat.le_trans HSB.out hlo5))
              clear row5 b6 WT U5 P1 P2 BB5 HBB5 HL3 HL2' hs6 hlo5
              have hmb : (mm : Int) ≤ 40 := by have := HMB.out; omega
              go_wp2_with fail
              go_loopw [15, 17] (fun nv kv wr => D3 id (idsP (ws i)) mm w6 nv kv wr) (fun _ k _ => (intOf k + 1).toNat)
              case atStart => exact ⟨⟨mm, Nat.le_refl _, rfl, by rw [← HIL2.out, List.drop_length]; rfl, rfl⟩⟩
              case round =>
                obtain ⟨⟨k, hk, rfl, rfl, hw6⟩⟩ := hrel
                subst hw6
                have HK : Hid (k ≤ mm) := hk
                obtain ⟨hv0, hhv0⟩ : ∃ z, hdx id ((idsP (ws i)).drop k) = z := ⟨_, rfl⟩
                have HV0 := Lib.hid hhv0
                rw [hhv0]
                clear hk hhv0
                by_cases hk0 : k = 0
                · subst hk0
                  have hneg : ¬ (0 : Int) ≤ ((0 : Nat) : Int) - 1 := by simp
                  have HFV : Hid (fstV ws id i = hv0) := by unfold Hid fstV; rw [← HV0.out]; rfl
                  have BX2 : Below wr.heap.size wr (wr.alloc (.cells #[.int .i64 hv0] 3)) := (Below.refl _ _).alloc (Nat.le_refl _) _
                  have OB := Lib.hid (P2'.out.below BX2)
                  have RD2 : Hid (Reads (wr.alloc (.cells #[.int .i64 hv0] 3)) (wr.heap.size + 1) 1 (some ⟨wr.heap.size, 0, none⟩) 1 [.int .i64 hv0]) := F.one_row (w := wr) (.int .i64 hv0) 3
                  clear BX2
                  go_wp2_with (at_builtin; refine wpList_append_any _ rfl _ _ 22 rfl 0 3 i0 (.int .i64 0) 1 8 Try.underlying22 hi hz0 hz1 hz2 rfl (by decide) _ _ _ rfl OB.out.own (wr.heap.size + 1) (some ⟨wr.heap.size, 0, none⟩) 1 1 [.int .i64 hv0] rfl RD2.out ?z42 ?z43 ?z44 ?z45 ?_)
                  case z42 => first | rfl | (intro u hu; simp at hu; subst hu; rfl)
                  case z43 => have := HI16.out; unfold maxLen; omega
                  case z44 => have := HI16.out; omega
                  try (case z45 => exact Nat.zero_le _)
                  intro v' w7 hown hgrow hblk
                  obtain ⟨A4, c4, rfl⟩ := slice_form hown
                  have hC : C (lst (fstV ws id) i) ++ [.int .i64 hv0] = C (lst (fstV ws id) (i + 1)) := by
                    show _ = C (lst (fstV ws id) i ++ [fstV ws id i])
                    rw [HFV.out, C_app]; rfl
                  rw [hC] at hown
                  have G := P2'.out.grow1 hown hgrow (by simpa using hblk)
                  have hB1s : B1 ≤ wr.heap.size := by have := BB6.out.size; have := HB1.out; omega
                  have QQ : Hid (D2 lo B1 j g bc bw bm N rb cs ws os id w w3 (.slice A3 (i + 1) c3) (.slice A4 (i + 1) c4) (.int .i64 ((i : Int) + 1)) w7) := by
                    refine ⟨⟨i + 1, q3, _, A3, c3, A4, c4, HIN.out, by go_num, rfl, rfl, P1'.out.fo G.2 (fun b hb hq => (HQ3.out b hb).2 hq), G.1, fun b hb => ⟨(HQ3.out b hb).1, ?_⟩, ?_, fun b hb => by have := HL3'.out b hb; have := G.2.size; omega, ?_, U6.out.keepq G.2 fun b hb hq => by have := BLK.out HNE.out b hb; have := HQ2.out b hq; omega, BB6.out.trans (G.2.below HQ2.out hB1s), HBB6.out.trans ((G.2.below HQ2.out hB1s).mono HSB.out)⟩⟩
                    · rintro (h | h)
                      · exact (HQ3.out b hb).2 h
                      · have := HL3'.out b hb; omega
                    · rintro b (h | h)
                      · exact HQ2.out b h
                      · omega
                    · rintro b (h | h)
                      · have := HL2''.out b h; have := G.2.size; omega
                      · exact h.2
                  clear hown hgrow hblk hC G hB1s
                  go_wp2_with fail
                  go_roundw
                  case rel =>
                    first | exact QQ.out | ((repeat apply Exists.intro); exact ⟨QQ.out, rfl⟩)
                  case measure => have := HIN.out; have := H16.out; simp [intOf]; omega
                · obtain ⟨k', hk'⟩ : ∃ k', k = k' + 1 := ⟨k - 1, by omega⟩
                  subst hk'
                  have hkv : ((k' + 1 : Nat) : Int) - 1 = (k' : Int) := by omega
                  rw [hkv]
                  have hpos : (0 : Int) ≤ (k' : Int) := by omega
                  have HKL : Hid (k' < mm) := by have := HK.out; unfold Hid; omega
                  have hkm : (k' : Int) < (mm : Int) := by have := HKL.out; omega
                  obtain ⟨⟨c', hv⟩, d6, _⟩ := ROW5.out.cells k' (by rw [HIL2.out]; exact HKL.out)
                  injection hv with hv1 hv2 hv3
                  subst hv1
                  have HST := Lib.hid (hdx_step id (idsP (ws i)) k' (by rw [HIL2.out]; exact HKL.out))
                  obtain ⟨z, hzz⟩ : ∃ z, (idsP (ws i)).getD k' 0 = z := ⟨_, rfl⟩
                  rw [hzz] at d6 HST
                  rw [HV0.out] at HST
                  clear hv2 hv3 hzz hkv hk0
                  by_cases hzi : z = id
                  · have hz1 : (z == id) = true := by rw [beq_iff_eq]; exact hzi
                    have hz2 : (z != id) = false := by simp [hzi]
                    have HE : Hid (hdx id ((idsP (ws i)).drop k') = hv0) := by unfold Hid; rw [HST.out, if_neg (not_not_intro hzi)]
                    clear hzi
                    go_wp2_with fail
                    go_roundw
                    case rel =>
                      have Q : D3 id (idsP (ws i)) mm wr (.int .i64 hv0) (.int .i64 ((k' : Int) - 1)) wr := ⟨⟨k', Nat.le_of_lt HKL.out, rfl, by rw [HE.out], rfl⟩⟩
                      first | exact Q | ((repeat apply Exists.intro); exact ⟨Q, rfl⟩)
                    case measure => first | (simp [intOf]; omega) | simp [intOf]
                  · have hz1 : (z == id) = false := by rw [beq_eq_false_iff_ne]; exact hzi
                    have hz2 : (z != id) = true := by simp [hzi]
                    have HE : Hid (hdx id ((idsP (ws i)).drop k') = z) := by unfold Hid; rw [HST.out, if_pos hzi]
                    clear hzi
                    go_wp2_with fail
                    go_roundw
                    case rel =>
                      have Q : D3 id (idsP (ws i)) mm wr (.int .i64 z) (.int .i64 ((k' : Int) - 1)) wr := ⟨⟨k', Nat.le_of_lt HKL.out, rfl, by rw [HE.out], rfl⟩⟩
                      first | exact Q | ((repeat apply Exists.intro); exact ⟨Q, rfl⟩)
                    case measure => first | (simp [intOf]; omega) | simp [intOf]
          · have hiI : ¬ (i : Int) < (n : Int) := by omega
            have hie : i = n := by have := HIL.out; omega
            subst hie
            have HE1 := Lib.hid (held_any lo g bc bw bm N rb cs ws os id wr HU.out.lv H16.out)
            clear hin
            go_wp2_with fail
            refine HE1.out.mono ?_
            rintro e w7 ⟨A7, m7, c7, r7, rfl, hm7, _, _, b7⟩
            have HM7 : Hid (m7 ≤ i) := by unfold Hid; have := heldP_len os id cs.length; have := HLEN.out; omega
            have P1 := Lib.hid (O1.out.below b7)
            have P2 := Lib.hid (O2.out.below b7)
            have U7 := Lib.hid (HU.out.below b7)
            have HB7 : Hid (Below lo w w7) := HB.out.trans (b7.mono (by have := HB.out.size; have := HLO.out; omega))
            have DR := Lib.hid (drop_any lo g bc bw bm N rb cs ws os id w7 U7.out.lv H16.out (fun k hk => by have := U7.out.len k hk; have := HJ.out; omega) (fun k hk x hx => (U7.out.un.wf k hk x hx).1) (by have := U7.out.N; have := HJ.out; omega))
            clear hm7 b7 HE1 HU O1 O2 HB
            go_wp2_with fail
            refine DR.out.mono ?_
            rintro e w8 ⟨ws1, A8, c8, rv, N8, lr, rfl, row8, _, hN8, lv8, x8⟩
            have LR := Lib.hid lr
            have ROW8 := Lib.hid row8
            have LV8 := Lib.hid lv8
            have Q1 := Lib.hid ((P1.out.fo x8.fo (fun b hb hq => by have := BL2.out b hq; have := (HQ1.out b hb).1; omega)).sq)
            have Q2 := Lib.hid ((P2.out.fo x8.fo (fun b hb hq => by have := BL2.out b hq; have := HQ2.out b hb; omega)).sq)
            have B8 : Hid (Below lo w w8) := HB7.out.trans (x8.below U7.out.lv)
            have HUN : Hid (Un cs.length ws) := U7.out.un
            have HOWN := Lib.hid U7.out.own
            have HLW : Hid (∀ k, k < cs.length → (ws k).length ≤ 41) := fun k hk => by have := U7.out.len k hk; have := HJ.out; omega
            obtain ⟨mw, hmw⟩ : ∃ mw, (wk ws1 (heldP os id cs.length)).length = mw := ⟨_, rfl⟩
            have HMW := Lib.hid hmw
            have HLEND : Hid (∀ k : Nat, k < i → os (k : Int) = some id → ∀ x T, ws1 k = x :: T → (wk ws1 (heldP os id k)).length < mw ∧ (wk ws1 (heldP os id cs.length)).getD (wk ws1 (heldP os id k)).length 0 = x.1) := fun k hk ho x T hx => by
              have := wk_at ws1 os id (n := cs.length) (by rw [HLEN.out]; exact hk) ho hx
              rw [hmw] at this
              exact this
            have ROW9 : Hid (I.RowV w8 (.slice A8 mw c8) rv (wk ws1 (heldP os id cs.length))) := by unfold Hid; rw [← hmw]; exact ROW8.out
            rw [hmw]
            have hm7I : (m7 : Int) ≤ (i : Int) := by have := HM7.out; omega
            clear lr row8 lv8 x8 hN8 DR P1 P2 U7 HB7 ROW8 hmw
            go_wp2_with fail
            go_loopw [20, 21] (fun nv iv wr => D4 ws1 os id i w8 nv iv wr) (fun _ k _ => 17 - (intOf k).toNat)
            case atStart => exact ⟨⟨0, Nat.zero_le _, rfl, rfl, rfl⟩⟩
            case round =>
              obtain ⟨⟨k, hk, rfl, rfl, hw8⟩⟩ := hrel
              subst hw8
              have HKE : Hid (k ≤ i) := hk
              clear hk
              by_cases hki : k < i
              · have hkiI : (k : Int) < (i : Int) := by omega
                have HKI : Hid (k < i) := hki
                have HKC : Hid (k < cs.length) := by rw [HLEN.out]; exact hki
                have hk16 : (k : Int) < 16 := by have := H16.out; have := HKC.out; omega
                obtain ⟨_, qb, off, rfl, _, _, hcc⟩ := Q1.out.at_ (by omega)
                have e0 := hcc k _ (C_at (lst (ownV os) i) k (by rw [lst_len]; exact hki))
                rw [lst_get _ _ _ hki] at e0
                obtain ⟨_, qb2, off2, rfl, _, _, hcc2⟩ := Q2.out.at_ (by omega)
                have f0 := hcc2 k _ (C_at (lst (fstV ws id) i) k (by rw [lst_len]; exact hki))
                rw [lst_get _ _ _ hki] at f0
                obtain ⟨vc, cw, hd, _⟩ := LV8.out.hd
                have WO := Lib.hid (owner_any g bm N8 vc _ (osD ws1 os (heldP os id cs.length)) (k : Int) wr (WalkArith.wf_i64 (by omega)) hd LV8.out.mp)
                have hoa := own_after (os := os) LR.out HUN.out k HKC.out
                obtain ⟨nk, hnk⟩ : ∃ nk, (wk ws1 (heldP os id k)).length = nk := ⟨_, rfl⟩
                have HNK := Lib.hid hnk
                have HWX := Lib.hid (wk_next ws1 os id k)
                rw [hnk]
                clear hcc hcc2 hd hki hnk
                cases hos : os (k : Int) with
                | none =>
                  have hX : osD ws1 os (heldP os id cs.length) (k : Int) = none := by
                    unfold osD
                    rw [if_neg (fun e => by have := ((held_mem os id k _).1 e).2; rw [hos] at this; cases this)]; exact hos
                  have hov : ownV os k = -1 := by unfold ownV; rw [hos]
                  have HNX : Hid ((wk ws1 (heldP os id (k + 1))).length = nk) := by unfold Hid; rw [HWX.out, hos, if_neg (by simp), List.append_nil]; exact HNK.out
                  rw [hov] at e0
                  clear hoa hov hos f0
                  rw [hX] at WO
                  clear hX
                  go_wp2_with fail
                  refine WO.out.mono ?_
                  rintro e w9 ⟨rfl, hw⟩
                  rw [hw]
                  clear hw w9 WO
                  go_wp2_with fail
                  go_roundw
                  case rel =>
                    have Q : D4 ws1 os id i wr (.int .i64 (nk : Int)) (.int .i64 ((k : Int) + 1)) wr := ⟨⟨k + 1, HKI.out, by go_num, by first | (rw [HNX.out]; done) | (rw [HNX.out]; simp), rfl⟩⟩
                    first | exact Q | ((repeat apply Exists.intro); exact ⟨Q, rfl⟩)
                  case measure => have := HKI.out; have := H16.out; have := HLEN.out; simp [intOf]; omega
                | some o =>
                  by_cases hoi : o = id
                  · subst hoi
                    have ho0 : 0 ≤ o := HOWN.out k HKC.out o hos
                    have hov : ownV os k = o := by unfold ownV; rw [hos]
                    rw [hov] at e0
                    rw [if_pos hos] at hoa
                    have hXX : osD ws1 os (heldP os o cs.length) (k : Int) = (ws1 k).head?.map (·.1) := by
                      unfold osD
                      rw [if_pos ((held_mem os o k _).2 ⟨HKC.out, hos⟩), Int.toNat_natCast]
                    cases hw1 : ws1 k with
                    | nil =>
                      have hX : osD ws1 os (heldP os o cs.length) (k : Int) = none := by rw [hXX, hw1]; rfl
                      have hfv : fstV ws o k = -1 := by rw [← hoa]; unfold ownV; rw [hX]
                      rw [hfv] at f0
                      have HNX : Hid ((wk ws1 (heldP os o (k + 1))).length = nk) := by unfold Hid; rw [HWX.out, if_pos hos, hw1]; simp [hd1]; exact HNK.out
                      clear hoa hov hos hXX hfv hw1
                      rw [hX] at WO
                      clear hX
                      go_wp2_with fail
                      refine WO.out.mono ?_
                      rintro e w9 ⟨rfl, hw⟩
                      rw [hw]
                      clear hw w9 WO
                      go_wp2_with fail
                      go_roundw
                      case rel =>
                        have Q : D4 ws1 os o i wr (.int .i64 (nk : Int)) (.int .i64 ((k : Int) + 1)) wr := ⟨⟨k + 1, HKI.out, by go_num, by first | (rw [HNX.out]; done) | (rw [HNX.out]; simp), rfl⟩⟩
                        first | exact Q | ((repeat apply Exists.intro); exact ⟨Q, rfl⟩)
                      case measure => have := HKI.out; have := H16.out; have := HLEN.out; simp [intOf]; omega
                    | cons x T =>
                      obtain ⟨x1, x2⟩ := x
                      have hX : osD ws1 os (heldP os o cs.length) (k : Int) = some x1 := by rw [hXX, hw1]; rfl
                      have hfv : fstV ws o k = x1 := by rw [← hoa]; unfold ownV; rw [hX]
                      rw [hfv] at f0
                      have HNX : Hid ((wk ws1 (heldP os o (k + 1))).length = nk + 1) := by unfold Hid; rw [HWX.out, if_pos hos, hw1, List.length_append, HNK.out]; rfl
                      have hat := HLEND.out k HKI.out hos _ _ hw1
                      rw [HNK.out] at hat
                      have hx0 : 0 ≤ x1 := by
                        have hm : (x1, x2) ∈ ws1 k := by rw [hw1]; exact List.mem_cons_self ..
                        rw [LR.out.filter HUN.out k HKC.out] at hm
                        exact (HUN.out.wf k HKC.out _ (List.mem_filter.1 hm).1).2
                      obtain ⟨⟨c', hv⟩, d9, _⟩ := ROW9.out.cells nk (by rw [HMW.out]; exact hat.1)
                      rw [hat.2] at d9
                      have d9 : wr.cell? ⟨rv, nk, none⟩ = some (.int .i64 x1) := d9
                      injection hv with hv1 hv2 hv3
                      subst hv1
                      have hnm : (nk : Int) < (mw : Int) := by omega
                      have hnm2 : ¬ (mw : Int) ≤ (nk : Int) := by omega
                      have hnb : (nk : Int) ≤ 100 := by have h1 := wk_len ws1 (heldP os o cs.length); have h2 := heldP_len os o cs.length; have h3 := HMW.out; have h4 := H16.out; omega
                      clear hoa hov hos hXX hfv hw1 hat hv2 hv3
                      rw [hX] at WO
                      clear hX
                      go_wp2_with fail
                      refine WO.out.mono ?_
                      rintro e w9 ⟨rfl, hw⟩
                      rw [hw]
                      clear hw w9 WO
                      go_wp2_with fail
                      go_roundw
                      case rel =>
                        have Q : D4 ws1 os o i wr (.int .i64 ((nk : Int) + 1)) (.int .i64 ((k : Int) + 1)) wr := ⟨⟨k + 1, HKI.out, by go_num, by first | (rw [HNX.out]; done) | (rw [HNX.out]; simp), rfl⟩⟩
                        first | exact Q | ((repeat apply Exists.intro); exact ⟨Q, rfl⟩)
                      case measure => have := HKI.out; have := H16.out; have := HLEN.out; simp [intOf]; omega
                  · have ho0 : 0 ≤ o := HOWN.out k HKC.out o hos
                    have hov : ownV os k = o := by unfold ownV; rw [hos]
                    have hX : osD ws1 os (heldP os id cs.length) (k : Int) = some o := by
                      unfold osD
                      rw [if_neg (fun e => by have := ((held_mem os id k _).1 e).2; rw [hos] at this; injection this with this; exact hoi this)]; exact hos
                    have HNX : Hid ((wk ws1 (heldP os id (k + 1))).length = nk) := by unfold Hid; rw [HWX.out, hos, if_neg (by simpa using hoi), List.append_nil]; exact HNK.out
                    have hob : (o == id) = false := by rw [beq_eq_false_iff_ne]; exact hoi
                    rw [hov] at e0
                    clear hoa hov hos f0 hoi
                    rw [hX] at WO
                    clear hX
                    go_wp2_with fail
                    refine WO.out.mono ?_
                    rintro e w9 ⟨rfl, hw⟩
                    rw [hw]
                    clear hw w9 WO
                    go_wp2_with fail
                    go_roundw
                    case rel =>
                      have Q : D4 ws1 os id i wr (.int .i64 (nk : Int)) (.int .i64 ((k : Int) + 1)) wr := ⟨⟨k + 1, HKI.out, by go_num, by first | (rw [HNX.out]; done) | (rw [HNX.out]; simp), rfl⟩⟩
                      first | exact Q | ((repeat apply Exists.intro); exact ⟨Q, rfl⟩)
                    case measure => have := HKI.out; have := H16.out; have := HLEN.out; simp [intOf]; omega
              · have hkiI : ¬ (k : Int) < (i : Int) := by omega
                have hke : k = i := by have := HKE.out; omega
                have hkw : (wk ws1 (heldP os id k)).length = mw := by rw [hke, ← HLEN.out]; exact HMW.out
                rw [hkw]
                have HNO : Hid (heldP (osD ws1 os (heldP os id cs.length)) id cs.length = []) := held_nil _ (none_after LR.out HUN.out)
                have HNI : Hid (NoId (wsD ws1 (heldP os id cs.length)) cs.length id) := noId_after LR.out HUN.out _
                have RA : Hid (Calls Try.prog 27 #[.pointer (some ⟨g, 0, none⟩), .int .i64 id] wr fun e w' => e = .returned (.tuple #[.int .i64 0, .bool false]) ∧ Below wr.heap.size wr w') := by
                  have h := raised_any lo g bc bw bm N8 rb cs _ _ id wr LV8.out H16.out
                  rw [HNO.out] at h
                  exact h
                clear hki hke hkw
                go_wp2_with fail
                refine RA.out.mono ?_
                rintro e w9 ⟨rfl, b9⟩
                have V9 := Lib.hid (LV8.out.below b9)
                have HS8 : Hid (lo ≤ wr.heap.size) := by have := B8.out.size; have := HLO.out; unfold Hid; omega
                have B9 : Hid (Below lo w w9) := B8.out.trans (b9.mono HS8.out)
                clear b9 RA
                go_wp2_with fail
                refine (known_any w9).mono ?_
                rintro e w10 ⟨rfl, b10⟩
                have V10 := Lib.hid (V9.out.below b10)
                have B10 : Hid (Below lo w w10) := B9.out.trans (b10.mono (by have := B9.out.size; have := HLO.out; omega))
                have HE2 := Lib.hid (held_any lo g bc bw bm N8 rb cs _ _ id w10 V10.out H16.out)
                rw [HNO.out] at HE2
                clear b10 V9 B9
                go_wp2_with fail
                refine HE2.out.mono ?_
                rintro e w11 ⟨A11, m11, c11, r11, rfl, hm11, _, _, b11⟩
                have hm0 : m11 = 0 := hm11
                clear hm11
                subst hm0
                have V11 := Lib.hid (V10.out.below b11)
                have B11 : Hid (Below lo w w11) := B10.out.trans (b11.mono (by have := B10.out.size; have := HLO.out; omega))
                have LN := Lib.hid (leave_none lo g bc bw bm N8 rb cs _ _ id w11 V11.out H16.out (fun k hk => by
                  have h1 := (LR.out.sub k).1
                  have h2 := HLW.out k hk
                  have h3 : (wsD ws1 (heldP os id cs.length) k).length ≤ (ws1 k).length := by
                    unfold wsD
                    split
                    · rw [List.length_tail]; omega
                    · omega
                  omega) HNI.out)
                clear b11 HE2 V10 B10
                go_wp2_with fail
                refine LN.out.mono ?_
                rintro e w12 ⟨rfl, _, x12⟩
                have B12 : Hid (Below lo w w12) := B11.out.trans (x12.below V11.out)
                clear x12 LN
                go_wp2_with fail
                go_ret
                exact ⟨rfl, B12.out⟩
end Go.Proofs.Ytbnnpfhgpbaedaa.K
