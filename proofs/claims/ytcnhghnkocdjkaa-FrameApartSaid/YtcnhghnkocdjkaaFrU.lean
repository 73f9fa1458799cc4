/-
  Contracts of At, Of and Total of a table. Each statement bears its own conditions.
-/
import Derived.Test.YtcnhghnkocdjkaaFrT
import Derived.Laws.OwnMore
import Derived.Deep.QuietTactic
namespace Go.Proofs.Ytcnhghnkocdjkaa
open Go.RowKit
set_option linter.unusedVariables false
set_option linter.unusedSimpArgs false
theorem below_drewN {B : Nat} {w w' : World} (h : Below B w w') (k : Nat) : Below B w (w'.drewN k) := ⟨h.os, h.tape, h.output, h.size, h.block⟩
set_option maxRecDepth 100000 in
set_option maxHeartbeats 4000000 in
theorem at_any (fr tick : Int) (v : Value) (ws : List MW) (w : World) (h : Row w 3 RW v ws) (ht : I64 tick) :
    Calls Try.prog 11 #[.agg #[.int .i64 fr, v], .int .i64 tick] w fun e w' => e = .returned (.tuple #[.int .i64 (atW fr tick ws).1, .int .i64 (atW fr tick ws).2]) ∧ Below w.heap.size w w' := by
  obtain ⟨a, cap, rfl, hm⟩ := h.form
  obtain ⟨n, hn⟩ : ∃ n, ws.length = n := ⟨_, rfl⟩
  have CK := Lib.hid fun (W : World) (hb : Below w.heap.size w W) => check_any fr (.slice a ws.length cap) ws W (h.below hb)
  have AR := Lib.hid fun (W : World) (hb : Below w.heap.size w W) (h1 : 1 ≤ fr ∧ fr ≤ 1048576) (h2 : Ord fr 0 ws) (h3 : 0 ≤ tick ∧ tick < fr) => around_any fr tick (.slice a ws.length cap) ws W (h.below hb) h1 h2 h3
  obtain ⟨c, hc⟩ : ∃ c, chk fr ws = c := ⟨_, rfl⟩
  rw [hn] at CK AR ⊢
  rw [hc] at CK
  obtain ⟨p, q, hp⟩ : ∃ p q, atW fr tick ws = (p, q) := ⟨_, _, rfl⟩
  rw [hp]
  dsimp only
  unfold atW at hp
  rw [hc] at hp
  obtain ⟨W0, hW0⟩ : ∃ W0, w.alloc (.cells #[.int .i64 fr, .slice a n cap] 24) = W0 := ⟨_, rfl⟩
  have BW : Hid (Below w.heap.size w W0) := by rw [← hW0]; exact (Below.refl _ _).alloc (Nat.le_refl _) _
  have d0 : W0.cell? ⟨w.heap.size, 0, none⟩ = some (.int .i64 fr) := by rw [← hW0]; simp
  have d1 : W0.cell? ⟨w.heap.size, 1, none⟩ = some (.slice a n cap) := by rw [← hW0]; simp
  have C1 := Lib.hid (CK.out W0 BW.out)
  clear CK hn h hm
  by_cases hc0 : c = 0
  rotate_left
  · have hcb : (c == 0) = false := by simpa using hc0
    have hcc : (c != 0) = true := by simpa using hc0
    rw [if_neg hc0] at hp
    injection hp with hp1 hp2
    subst hp1 hp2
    go_enter Try.func11, Try.ntmps11
    go_wp2_with fail
    refine C1.out.mono ?_
    rintro e W1 ⟨rfl, b1⟩
    go_wp2_with fail
    go_ret2
    exact ⟨rfl, BW.out.trans (b1.mono BW.out.size)⟩
  rw [if_pos hc0] at hp
  by_cases ht0 : 0 ≤ tick
  rotate_left
  · rw [if_neg ht0] at hp
    injection hp with hp1 hp2
    subst hp1 hp2
    subst hc0
    go_enter Try.func11, Try.ntmps11
    go_wp2_with fail
    refine C1.out.mono ?_
    rintro e W1 ⟨rfl, b1⟩
    go_wp2_with fail
    go_ret2
    exact ⟨rfl, BW.out.trans (b1.mono BW.out.size)⟩
  rw [if_pos ht0] at hp
  by_cases ht1 : tick < fr
  rotate_left
  · rw [if_neg ht1] at hp
    injection hp with hp1 hp2
    subst hp1 hp2
    subst hc0
    go_enter Try.func11, Try.ntmps11
    go_wp2_with fail
    refine C1.out.mono ?_
    rintro e W1 ⟨rfl, b1⟩
    have e0 := cell_later b1 d0
    go_wp2_with fail
    go_ret2
    exact ⟨rfl, BW.out.trans (b1.mono BW.out.size)⟩
  rw [if_pos ht1] at hp
  subst hc0
  obtain ⟨f1, f2, f3, f4⟩ := chk_zero hc
  have hin : 0 ≤ (arndL fr tick ws).frm ∧ 0 ≤ (arndL fr tick ws).frm + (arndL fr tick ws).len ∧ (arndL fr tick ws).frm + (arndL fr tick ws).len ≤ 1048576 := by
    rcases arnd_cases (tick := tick) (k := 0) f4 with ⟨_, e, k⟩ | ⟨i, _, e, _⟩
    · have := k ht1
      rw [e]; dsimp only; omega
    · have := f4.mem _ (List.mem_of_getElem? e)
      omega
  obtain ⟨xw, xf, xl, hX⟩ : ∃ xw xf xl, arndL fr tick ws = ⟨xw, xf, xl⟩ := ⟨_, _, _, rfl⟩
  rw [hX] at hp hin AR
  dsimp only at hp hin AR
  injection hp with hp1 hp2
  have hw1 : IntKind.i64.wrap (xf + xl) = xf + xl := wrap_ok (by unfold I64 at ht; omega) (by omega)
  have hw2 : IntKind.i64.wrap (xf + xl - tick) = xf + xl - tick := wrap_ok (by unfold I64 at ht; omega) (by omega)
  have CE := Lib.hid fun W : World => end_any xw xf xl W hw1
  have C2 := Lib.hid fun (W : World) (hb : Below w.heap.size w W) => AR.out W hb ⟨f1, f2⟩ f4 ⟨ht0, ht1⟩
  subst hp1 hp2
  clear AR hin f1 f2 f3 f4 hX hc
  go_enter Try.func11, Try.ntmps11
  go_wp2_with fail
  refine C1.out.mono ?_
  rintro e W1 ⟨rfl, b1⟩
  have e0 := cell_later b1 d0
  have e1 := cell_later b1 d1
  have B1 : Hid (Below w.heap.size w W1) := BW.out.trans (b1.mono BW.out.size)
  clear b1 d0 d1 C1
  go_wp2_with fail
  refine (C2.out W1 B1.out).mono ?_
  rintro e W2 ⟨rfl, b2⟩
  have B2 : Hid (Below w.heap.size w W2) := B1.out.trans (b2.mono B1.out.size)
  clear b2 e0 e1
  go_wp2_with fail
  refine wp_region_held_drew (S := (fun w' => Below w.heap.size w w' ∧ w'.cell? ⟨W2.heap.size, 0, none⟩ = some (.int .i64 xw) ∧ w'.cell? ⟨W2.heap.size, 1, none⟩ = some (.int .i64 xf) ∧ w'.cell? ⟨W2.heap.size, 2, none⟩ = some (.int .i64 xl))) (by kernel_rfl) ?_ (fun hHeld => ?_)
  · exact ⟨(B2.out.alloc B2.out.size _).drew, by simp, by simp, by simp⟩
  refine takeD (i := 0) (d := some 23) (v := ?_) _ rfl rfl (by kernel_rfl) (by kernel_rfl) (by kernel_rfl) (fun _ _ _ h => h) (by rfl) ?_ (by assumption) ?_
  rotate_left
  · (intro w hSw; (try dsimp only at hSw); go_simp) <;> with_reducible rfl
  try simp only [Act.put, List.setIfInBounds_toArray, List.set_cons_zero, List.set_cons_succ]
  refine takeD (i := 1) (d := some 24) (v := ?_) _ rfl rfl (by kernel_rfl) (by kernel_rfl) (by kernel_rfl) (fun _ _ _ h => h) (by rfl) ?_ (by assumption) ?_
  rotate_left
  · (intro w hSw; (try dsimp only at hSw); go_simp) <;> with_reducible rfl
  try simp only [Act.put, List.setIfInBounds_toArray, List.set_cons_zero, List.set_cons_succ]
  refine takeD (i := 2) (d := some 25) (v := ?_) _ rfl rfl (by kernel_rfl) (by kernel_rfl) (by kernel_rfl) (fun _ _ _ h => h) (by rfl) ?_ (by assumption) ?_
  rotate_left
  · (intro w hSw; (try dsimp only at hSw); go_simp) <;> with_reducible rfl
  try simp only [Act.put, List.setIfInBounds_toArray, List.set_cons_zero, List.set_cons_succ]
  refine takeD (i := 4) (d := some 27) (v := ?_) _ rfl rfl (by kernel_rfl) (by kernel_rfl) (by kernel_rfl) (fun _ _ _ h => h) (by rfl) ?_ (by assumption) ?_
  rotate_left
  · (intro w hSw; (try dsimp only at hSw); go_simp) <;> with_reducible rfl
  try simp only [Act.put, List.setIfInBounds_toArray, List.set_cons_zero, List.set_cons_succ]
  refine wpAnyH_ready (rs := [3]) (by kernel_rfl) (by simp) ?_
  refine AllReadyH.cons rfl (fun K hK => ?_) AllReadyH.nil
  (go_simp; go_at_call 33; refine (CE.out _).mono ?_; rintro e wt ⟨rfl, hbt⟩; try go_wp2_with fail)
  refine hK.out _ _ ?_ (fun hHeld => ?_)
  · exact ⟨hHeld.1.trans (hbt.mono hHeld.1.size), cell_later hbt hHeld.2.1, cell_later hbt hHeld.2.2.1, cell_later hbt hHeld.2.2.2⟩
  clear hK K
  try simp only [Act.put, List.setIfInBounds_toArray, List.set_cons_zero, List.set_cons_succ]
  refine takeD (i := 5) (d := some 28) (v := ?_) _ rfl rfl (by kernel_rfl) (by kernel_rfl) (by kernel_rfl) (fun _ _ _ h => h) (by rfl) ?_ (by assumption) ?_
  rotate_left
  · (intro w hSw; (try dsimp only at hSw); go_simp) <;> with_reducible rfl
  try simp only [Act.put, List.setIfInBounds_toArray, List.set_cons_zero, List.set_cons_succ]
  refine takeD (i := 6) (d := some 4) (v := ?_) _ rfl rfl (by kernel_rfl) (by kernel_rfl) (by kernel_rfl) (fun _ _ _ h => h) (by rfl) ?_ (by assumption) ?_
  rotate_left
  · (intro w hSw; (try dsimp only at hSw); go_simp) <;> with_reducible rfl
  try simp only [Act.put, List.setIfInBounds_toArray, List.set_cons_zero, List.set_cons_succ]
  refine takeD (i := 7) (d := some 5) (v := ?_) _ rfl rfl (by kernel_rfl) (by kernel_rfl) (by kernel_rfl) (fun _ _ _ h => h) (by rfl) ?_ (by assumption) ?_
  rotate_left
  · (intro w hSw; (try dsimp only at hSw); go_simp) <;> with_reducible rfl
  try simp only [Act.put, List.setIfInBounds_toArray, List.set_cons_zero, List.set_cons_succ]
  refine wpAnyH_done (by kernel_rfl) ?_ _
  have BF := hHeld.1
  clear hHeld
  go_wp2_with fail
  go_ret2
  exact ⟨rfl, BF⟩
structure OfRel (who : Int) (n : Nat) (ws : List MW) (w : World) (v5 v : Value) (wr : World) : Prop where
  ex : ∃ (k m : Nat) (A : Option Addr) (c : Nat), k ≤ n ∧ v = .int .i64 (k : Int) ∧ v5 = .slice A m c ∧ m ≤ k ∧ wr.ownsRow w.heap.size 40 3 (.slice A m c) m (cellsW ((ws.take k).filter fun x => decide (x.who = who))) ∧ Below w.heap.size w wr
theorem take_snoc_f {p : MW → Bool} {ws : List MW} {k : Nat} {x : MW} (h : ws[k]? = some x) : (ws.take (k + 1)).filter p = (ws.take k).filter p ++ if p x = true then [x] else [] := by
  rw [List.take_add_one, h]
  simp only [Option.toList, List.filter_append]
  by_cases hp : p x = true
  · rw [if_pos hp, List.filter_cons_of_pos hp]; rfl
  · rw [if_neg hp, List.filter_cons_of_neg hp]; rfl
set_option maxRecDepth 100000 in
set_option maxHeartbeats 4000000 in
theorem of_any (fr who : Int) (v : Value) (ws : List MW) (w : World) (h : Row w 3 RW v ws) :
    Calls Try.prog 13 #[.agg #[.int .i64 fr, v], .int .i64 who] w fun e w' => (∃ r, e = .returned r ∧ Row w' 3 RW r (ofL fr who ws)) ∧ Below w.heap.size w w' := by
  obtain ⟨i0, hi, hz0, hz1, hz2⟩ := frinfo_of win_info
  obtain ⟨a, cap, rfl, hm⟩ := h.form
  obtain ⟨n, hn⟩ : ∃ n, ws.length = n := ⟨_, rfl⟩
  have CK := Lib.hid fun (W : World) (hb : Below w.heap.size w W) => check_any fr (.slice a ws.length cap) ws W (h.below hb)
  have HG := Lib.hid (row_good h)
  obtain ⟨c, hc⟩ : ∃ c, chk fr ws = c := ⟨_, rfl⟩
  rw [hn] at CK h hm ⊢
  rw [hc] at CK
  have HN := Lib.hid hn
  have H := Lib.hid h
  unfold rowMax at hm
  have HM := Lib.hid hm
  have HC64 : Hid (c = 0 → n ≤ 64) := fun h => by have := (chk_zero (hc.trans h)).2.2.1; omega
  have HO : Hid (ofL fr who ws = if c = 0 then ws.filter (fun x => decide (x.who = who)) else []) := by unfold Hid ofL; rw [hc]
  obtain ⟨L, hL⟩ : ∃ L, ofL fr who ws = L := ⟨_, rfl⟩
  rw [hL] at HO ⊢
  obtain ⟨W0, hW0⟩ : ∃ W0, w.alloc (.cells #[.int .i64 fr, .slice a n cap] 24) = W0 := ⟨_, rfl⟩
  have BW : Hid (Below w.heap.size w W0) := by rw [← hW0]; exact (Below.refl _ _).alloc (Nat.le_refl _) _
  have d0 : W0.cell? ⟨w.heap.size, 0, none⟩ = some (.int .i64 fr) := by rw [← hW0]; simp
  have d1 : W0.cell? ⟨w.heap.size, 1, none⟩ = some (.slice a n cap) := by rw [← hW0]; simp
  have C1 := Lib.hid (CK.out W0 BW.out)
  clear CK hn h hc hL
  by_cases hc0 : c = 0
  rotate_left
  · have hcb : (c == 0) = false := by simpa using hc0
    have hcc : (c != 0) = true := by simpa using hc0
    have HL : Hid (L = []) := by unfold Hid; rw [HO.out, if_neg hc0]
    go_enter Try.func13, Try.ntmps13
    go_wp2_with fail
    refine C1.out.mono ?_
    rintro e W1 ⟨rfl, b1⟩
    go_wp2_with fail
    go_ret
    exact ⟨⟨_, rfl, by rw [HL.out]; exact Row.nil _ _ _⟩, BW.out.trans (b1.mono BW.out.size)⟩
  subst hc0
  have HL : Hid (L = ws.filter (fun x => decide (x.who = who))) := by unfold Hid; rw [HO.out, if_pos rfl]
  clear HO
  have HM2 : Hid (n ≤ 64) := HC64.out rfl
  go_enter Try.func13, Try.ntmps13
  go_wp2_with fail
  refine C1.out.mono ?_
  rintro e W1 ⟨rfl, b1⟩
  have e0 := cell_later b1 d0
  have e1 := cell_later b1 d1
  have B1 : Hid (Below w.heap.size w W1) := BW.out.trans (b1.mono BW.out.size)
  clear b1 d0 d1 C1 hW0
  go_wp2_with fail
  go_loopw [5, 14] (fun v5 v wr => OfRel who n ws w v5 v wr) (fun _ v => fun _ => n - (intOf v).toNat)
  case atStart => exact ⟨⟨0, 0, none, 0, Nat.zero_le _, rfl, rfl, Nat.le_refl _, World.ownsRow_nil _ _ _ _, B1.out⟩⟩
  case round =>
    obtain ⟨⟨k, m, A, c, hk, rfl, rfl, hmk, ho, hb⟩⟩ := hrel
    have HK := Lib.hid hk
    have HMK := Lib.hid hmk
    obtain ⟨ls, hls⟩ : ∃ ls, cellsW ((ws.take k).filter fun x => decide (x.who = who)) = ls := ⟨_, rfl⟩
    rw [hls] at ho
    have HLS := Lib.hid hls
    have HO := Lib.hid ho
    have HB := Lib.hid hb
    clear hk ho hb hls hmk e0 e1
    by_cases hlt : k < n
    · have hkI : (k : Int) < (n : Int) := by omega
      have HX : Hid (k < n) := hlt
      obtain ⟨hnx, b, off, x, cs, rfl, hbl, hx, hR, _, hc⟩ := H.out.at_ k hlt
      clear hnx
      have HXS := Lib.hid hx
      obtain ⟨xw, xf, xl⟩ := x
      obtain ⟨rfl, hi0, hi1, hi2⟩ := hR
      have d0 : wr.cell? ⟨b, off + k * 3, none⟩ = some (.int .i64 xw) := cell_later HB.out (hc 0 _ rfl)
      have d1 : wr.cell? ⟨b, off + k * 3 + 1, none⟩ = some (.int .i64 xf) := cell_later HB.out (hc 1 _ rfl)
      have d2 : wr.cell? ⟨b, off + k * 3 + 2, none⟩ = some (.int .i64 xl) := cell_later HB.out (hc 2 _ rfl)
      have hT := take_snoc_f (p := fun x => decide (x.who = who)) hx
      have HT := Lib.hid hT
      clear hc hi0 hi1 hi2 hbl hx hlt hT
      by_cases hw : xw = who
      · subst hw
        have HO1 : Hid ((wr.alloc (.cells #[.int .i64 xw, .int .i64 xf, .int .i64 xl] 40)).ownsRow w.heap.size 40 3 (.slice A m c) m ls) := own_below HO.out ((Below.refl _ _).alloc (Nat.le_refl _) _)
        have HB1 : Hid (Below w.heap.size w (wr.alloc (.cells #[.int .i64 xw, .int .i64 xf, .int .i64 xl] 40))) := HB.out.alloc HB.out.size _
        have HS1 := Lib.hid HB1.out.size
        go_wp2_with (at_builtin; refine wpList_append_own _ rfl _ _ 22 rfl w.heap.size 40 i0 (.agg #[.int .i64 0, .int .i64 0, .int .i64 0]) 3 24 Try.underlying22 hi hz0 hz1 hz2 rfl (by decide) _ _ _ rfl (own_below HO1.out ((Below.refl _ _).alloc (Nat.le_refl _) _)) ⟨wr.heap.size + 1, 0, none⟩ 1 1 [.int .i64 xw, .int .i64 xf, .int .i64 xl] rfl rfl ?c1 ?c2 ?c3 ?c4 ?c5 ?_)
        try (case c1 => (intro j u hu; match j, hu with
          | 0, hu => simp at hu; subst hu; rw [Addr.add_lit]; simp
          | 1, hu => simp at hu; subst hu; rw [Addr.add_lit]; simp
          | 2, hu => simp at hu; subst hu; rw [Addr.add_lit]; simp
          | j + 3, hu => simp at hu))
        try (case c2 => first | exact ⟨rfl, rfl, rfl⟩ | (intro u hu; simp at hu; rcases hu with rfl | rfl | rfl <;> rfl))
        case c3 => have h1 := HX.out; have h2 := HM.out; have h3 := HMK.out; unfold maxLen; omega
        case c4 => have h1 := HX.out; have h2 := HM2.out; have h3 := HMK.out; omega
        case c5 => have := HS1.out; simp at *; omega
        intro v' w2 hown hgrow _
        obtain ⟨A', c', rfl⟩ := frown_form hown
        have HO2 : Hid (w2.ownsRow w.heap.size 40 3 (.slice A' (m + 1) c') (m + 1) (cellsW ((ws.take (k + 1)).filter fun x => decide (x.who = xw)))) := by
          unfold Hid; rw [HT.out, if_pos (by simp), cellsW_app, HLS.out]; exact hown
        have HB2 : Hid (Below w.heap.size w w2) := by
          have h1 : Below w.heap.size w ((wr.alloc (.cells #[.int .i64 xw, .int .i64 xf, .int .i64 xl] 40)).alloc (.cells #[.int .i64 xw, .int .i64 xf, .int .i64 xl] 40)) := HB1.out.alloc HB1.out.size _
          exact h1.grown hgrow (by have := HS1.out; simp at *; omega) (fun k hk => (HO1.out.lt k hk).1)
        clear hown hgrow
        go_wp2_with fail
        go_roundw
        case rel =>
          have Q : OfRel xw n ws w (.slice A' (m + 1) c') (.int .i64 ((k : Int) + 1)) w2 := ⟨⟨k + 1, m + 1, A', c', HX.out, by go_num, rfl, by have := HMK.out; omega, HO2.out, HB2.out⟩⟩
          first | exact Q | ((repeat apply Exists.intro); exact ⟨Q, rfl⟩)
        case measure => have := HX.out; simp [intOf]; omega
      · have hwb : (xw == who) = false := by simpa using hw
        go_wp2_with fail
        go_roundw
        case rel =>
          have Q : OfRel who n ws w (.slice A m c) (.int .i64 ((k : Int) + 1)) (wr.alloc (.cells #[.int .i64 xw, .int .i64 xf, .int .i64 xl] 40)) := ⟨⟨k + 1, m, A, c, HX.out, by go_num, rfl, by have := HMK.out; omega, by
            rw [HT.out, if_neg (by simpa using hw), List.append_nil, HLS.out]; exact own_below HO.out ((Below.refl _ _).alloc (Nat.le_refl _) _), HB.out.alloc HB.out.size _⟩⟩
          first | exact Q | ((repeat apply Exists.intro); exact ⟨Q, rfl⟩)
        case measure => have := HX.out; simp [intOf]; omega
    · have hkI : ¬ (k : Int) < (n : Int) := by omega
      have HF : Hid (Row wr 3 RW (.slice A m c) L) := by
        have h0 := HO.out
        rw [← HLS.out, List.take_of_length_le (by have := HN.out; omega), ← HL.out] at h0
        exact own_rowW (fun x hx => HG.out x (by rw [HL.out] at hx; exact (List.mem_filter.1 hx).1)) h0 (by have := HMK.out; have := HK.out; have := HM.out; unfold rowMax; omega)
      go_wp2_with fail
      go_ret
      exact ⟨⟨_, rfl, HF.out⟩, HB.out⟩
structure TotRel (fr : Int) (n : Nat) (L : List MW) (w : World) (v5 v : Value) (wr : World) : Prop where
  ex : ∃ k : Nat, k ≤ n ∧ v = .int .i64 (k : Int) ∧ v5 = .int .i64 (sumL (L.take k)) ∧ Below w.heap.size w wr
theorem sum_snoc {L : List MW} {k : Nat} {x : MW} (h : L[k]? = some x) : sumL (L.take (k + 1)) = sumL (L.take k) + x.len := by
  rw [List.take_add_one, h, sumL_app]; simp [sumL]
theorem ofL_good {fr who : Int} {ws : List MW} : (∀ x ∈ ofL fr who ws, 1 ≤ x.len) ∧ 0 ≤ sumL (ofL fr who ws) ∧ sumL (ofL fr who ws) ≤ 1048576 ∧ (ofL fr who ws).length ≤ 64 := by
  unfold ofL
  by_cases h : chk fr ws = 0
  · rw [if_pos h]
    obtain ⟨h1, h2, h3, h4⟩ := chk_zero h
    have h5 := h4.sum (fun x => decide (x.who = who)) (by omega)
    have h6 := List.length_filter_le (fun x : MW => decide (x.who = who)) ws
    refine ⟨fun x hx => (h4.mem x (List.mem_filter.1 hx).1).2.2.1, h5.1, by omega, by omega⟩
  · rw [if_neg h]; simp [sumL]
set_option maxRecDepth 100000 in
set_option maxHeartbeats 4000000 in
theorem total_any (fr who : Int) (v : Value) (ws : List MW) (w : World) (h : Row w 3 RW v ws) :
    Calls Try.prog 18 #[.agg #[.int .i64 fr, v], .int .i64 who] w fun e w' => e = .returned (.int .i64 (sumL (ofL fr who ws))) ∧ Below w.heap.size w w' := by
  obtain ⟨a, cap, rfl, hm⟩ := h.form
  obtain ⟨g1, g2, g3, g4⟩ := ofL_good (fr := fr) (who := who) (ws := ws)
  have CO := Lib.hid fun (W : World) (hb : Below w.heap.size w W) => of_any fr who (.slice a ws.length cap) ws W (h.below hb)
  obtain ⟨L, hL⟩ : ∃ L, ofL fr who ws = L := ⟨_, rfl⟩
  obtain ⟨n0, hn0⟩ : ∃ n0, ws.length = n0 := ⟨_, rfl⟩
  rw [hL] at CO g1 g2 g3 g4 ⊢
  rw [hn0] at CO ⊢
  have G1 := Lib.hid g1
  have G2 : Hid (0 ≤ sumL L ∧ sumL L ≤ 1048576) := ⟨g2, g3⟩
  obtain ⟨W0, hW0⟩ : ∃ W0, w.alloc (.cells #[.int .i64 fr, .slice a n0 cap] 24) = W0 := ⟨_, rfl⟩
  have BW : Hid (Below w.heap.size w W0) := by rw [← hW0]; exact (Below.refl _ _).alloc (Nat.le_refl _) _
  have d0 : W0.cell? ⟨w.heap.size, 0, none⟩ = some (.int .i64 fr) := by rw [← hW0]; simp
  have d1 : W0.cell? ⟨w.heap.size, 1, none⟩ = some (.slice a n0 cap) := by rw [← hW0]; simp
  have C1 := Lib.hid (CO.out W0 BW.out)
  clear CO g1 g2 g3 hL hn0 h hm
  go_enter Try.func18, Try.ntmps18
  go_wp2_with fail
  refine C1.out.mono ?_
  rintro e W1 ⟨⟨r, rfl, hr⟩, b1⟩
  obtain ⟨ar, capr, rfl, hmr⟩ := hr.form
  have B1 : Hid (Below w.heap.size w W1) := BW.out.trans (b1.mono BW.out.size)
  obtain ⟨n, hn⟩ : ∃ n, L.length = n := ⟨_, rfl⟩
  rw [hn] at hr g4 ⊢
  have HN := Lib.hid hn
  have H := Lib.hid hr
  clear b1 d0 d1 C1 hW0 hr hn hmr
  go_wp2_with fail
  go_loopw [5, 12] (fun v5 v wr => TotRel fr n L W1 v5 v wr) (fun _ v => fun _ => n - (intOf v).toNat)
  case atStart => exact ⟨⟨0, Nat.zero_le _, rfl, rfl, Below.refl _ _⟩⟩
  case round =>
    obtain ⟨⟨k, hk, rfl, rfl, hb⟩⟩ := hrel
    have HK := Lib.hid hk
    have HB := Lib.hid hb
    obtain ⟨s, hs⟩ : ∃ s, sumL (L.take k) = s := ⟨_, rfl⟩
    rw [hs]
    have HSS := Lib.hid hs
    clear hk hb hs
    by_cases hlt : k < n
    · have hkI : (k : Int) < (n : Int) := by omega
      have HX : Hid (k < n) := hlt
      obtain ⟨hnx, b, off, x, cs, rfl, hbl, hx, hR, _, hc⟩ := H.out.at_ k hlt
      clear hnx
      have h1 := sum_snoc hx
      have h2 := (sum_take_le G1.out k).1
      have h3 := sum_take_le G1.out (k + 1)
      have h4 := G1.out x (List.mem_of_getElem? hx)
      obtain ⟨xw, xf, xl⟩ := x
      obtain ⟨rfl, hi0, hi1, hi2⟩ := hR
      dsimp only at h1 h4
      rw [HSS.out] at h1 h2
      have HQ := Lib.hid h1
      have hwr : IntKind.i64.wrap (s + xl) = s + xl := wrap_ok (by omega) (by have := G2.out; omega)
      have d0 : wr.cell? ⟨b, off + k * 3, none⟩ = some (.int .i64 xw) := cell_later HB.out (hc 0 _ rfl)
      have d1 : wr.cell? ⟨b, off + k * 3 + 1, none⟩ = some (.int .i64 xf) := cell_later HB.out (hc 1 _ rfl)
      have d2 : wr.cell? ⟨b, off + k * 3 + 2, none⟩ = some (.int .i64 xl) := cell_later HB.out (hc 2 _ rfl)
      clear hc hi0 hi1 hi2 hbl hx hlt h1 h2 h3 h4
      go_wp2_with fail
      go_roundw
      case rel =>
        have Q : TotRel fr n L W1 (.int .i64 (s + xl)) (.int .i64 ((k : Int) + 1)) (wr.alloc (.cells #[.int .i64 xw, .int .i64 xf, .int .i64 xl] 40)) := ⟨⟨k + 1, HX.out, by go_num, by rw [HQ.out], HB.out.alloc HB.out.size _⟩⟩
        first | exact Q | ((repeat apply Exists.intro); exact ⟨Q, rfl⟩)
      case measure => have := HX.out; simp [intOf]; omega
    · have hkI : ¬ (k : Int) < (n : Int) := by omega
      have HZ : Hid (s = sumL L) := by
        unfold Hid
        rw [← HSS.out, List.take_of_length_le (by have := HN.out; omega)]
      go_wp2_with fail
      go_ret
      exact ⟨by rw [← HZ.out]; rfl, B1.out.trans (HB.out.mono B1.out.size)⟩
end Go.Proofs.Ytcnhghnkocdjkaa
