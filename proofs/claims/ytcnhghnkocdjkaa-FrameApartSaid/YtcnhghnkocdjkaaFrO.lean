/-
  The contract of the reference's Of. Each statement bears its own conditions.
-/
import Derived.Test.YtcnhghnkocdjkaaFrR
namespace Go.Proofs.Ytcnhghnkocdjkaa
open Go.RowKit
set_option linter.unusedVariables false
set_option linter.unusedSimpArgs false
structure ROfRel (who : Int) (n : Nat) (ws : List MW) (w W0 : World) (v5 v : Value) (wr : World) : Prop where
  ex : ∃ (k m : Nat) (A : Option Addr) (c : Nat), k ≤ n ∧ v = .int .i64 (k : Int) ∧ v5 = .slice A m c ∧ m ≤ k ∧ wr.ownsRow W0.heap.size 39 3 (.slice A m c) m (cellsW ((ws.take k).filter fun x => decide (x.who = who))) ∧ Below W0.heap.size W0 wr
theorem rwin_info : (Try.prog.info? 39).map (fun i => (i.zero, i.size, i.bytes)) = some (some (.agg #[.int .i64 0, .int .i64 0, .int .i64 0]), 3, 24) := by kernel_rfl
set_option maxRecDepth 100000 in
set_option maxHeartbeats 4000000 in
theorem rof_any (fr who : Int) (v : Value) (ws : List MW) (w : World) (h : Row w 3 RW v ws) :
    Calls Try.prog 14 #[.agg #[.int .i64 fr, v], .int .i64 who] w fun e w' => (∃ r, e = .returned r ∧ Row w' 3 RW r (ofL fr who ws)) ∧ Below w.heap.size w w' := by
  obtain ⟨i0, hi, hz0, hz1, hz2⟩ := frinfo_of rwin_info
  obtain ⟨a, cap, rfl, hm⟩ := h.form
  obtain ⟨n, hn⟩ : ∃ n, ws.length = n := ⟨_, rfl⟩
  have CK := Lib.hid fun (W : World) (hb : Below w.heap.size w W) => rcheck_any fr (.slice a ws.length cap) ws W (h.below hb)
  have HG := Lib.hid (row_good h)
  obtain ⟨c, hc⟩ : ∃ c, chk fr ws = c := ⟨_, rfl⟩
  rw [hn] at CK h hm ⊢
  rw [hc] at CK
  have HN := Lib.hid hn
  have H := Lib.hid h
  unfold rowMax at hm
  have HM := Lib.hid hm
  have HC64 : Hid (c = 0 → n ≤ 64) := fun h => by have := (chk_zero (hc.trans h)).2.2.1; omega
  have HO : Hid (ofL fr who ws = if c = 0 then ws.filter (fun x => decide (x.who = who)) else []) := by unfold Hid ofL; rw [hc]
  obtain ⟨L, hL⟩ : ∃ L, ofL fr who ws = L := ⟨_, rfl⟩
  rw [hL] at HO ⊢
  obtain ⟨W0, hW0⟩ : ∃ W0, w.alloc (.cells #[.int .i64 fr, .slice a n cap] 28) = W0 := ⟨_, rfl⟩
  have BW : Hid (Below w.heap.size w W0) := by rw [← hW0]; exact (Below.refl _ _).alloc (Nat.le_refl _) _
  have hd0 : W0.cell? ⟨w.heap.size, 0, none⟩ = some (.int .i64 fr) := by rw [← hW0]; simp
  have hd1 : W0.cell? ⟨w.heap.size, 1, none⟩ = some (.slice a n cap) := by rw [← hW0]; simp
  have D0 := Lib.hid hd0
  have D1 := Lib.hid hd1
  have CK2 : Hid (∀ W, Below W0.heap.size W0 W → Calls Try.prog 16 #[.agg #[.int .i64 fr, .slice a n cap]] W fun e w' => e = .returned (.int .i64 c) ∧ Below W.heap.size W w') := fun W hb => CK.out W (BW.out.trans (hb.mono BW.out.size))
  clear CK hn h hc hL hd0 hd1
  go_enter Try.func14, Try.ntmps14
  go_wp2_with fail
  clear hW0
  by_cases hc0 : c = 0
  rotate_left
  · have hcb : (c == 0) = false := by simpa using hc0
    have hcc : (c != 0) = true := by simpa using hc0
    have HL : Hid (L = []) := by unfold Hid; rw [HO.out, if_neg hc0]
    go_loopw [5, 6] (fun v5 v wr => v5 = .slice none 0 0 ∧ v = .int .i64 0 ∧ wr = W0) (fun _ v => fun _ => n - (intOf v).toNat)
    case atStart => exact ⟨rfl, rfl, rfl⟩
    case round =>
      obtain ⟨rfl, rfl, rfl⟩ := hrel
      have d0 := D0.out
      have d1 := D1.out
      by_cases hn0 : 0 < n
      · have hnI : (0 : Int) < (n : Int) := by omega
        go_wp2_with fail
        refine (CK2.out _ (Below.refl _ _)).mono ?_
        rintro e W1 ⟨rfl, b1⟩
        go_wp2_with fail
        go_ret
        exact ⟨⟨_, rfl, by rw [HL.out]; exact Row.nil _ _ _⟩, BW.out.trans (b1.mono BW.out.size)⟩
      · have hnI : ¬ (0 : Int) < (n : Int) := by omega
        go_wp2_with fail
        go_ret
        exact ⟨⟨_, rfl, by rw [HL.out]; exact Row.nil _ _ _⟩, BW.out⟩
  subst hc0
  have HL : Hid (L = ws.filter (fun x => decide (x.who = who))) := by unfold Hid; rw [HO.out, if_pos rfl]
  have HM2 : Hid (n ≤ 64) := HC64.out rfl
  clear HO
  go_loopw [5, 6] (fun v5 v wr => ROfRel who n ws w W0 v5 v wr) (fun _ v => fun _ => n - (intOf v).toNat)
  case atStart => exact ⟨⟨0, 0, none, 0, Nat.zero_le _, rfl, rfl, Nat.le_refl _, World.ownsRow_nil _ _ _ _, Below.refl _ _⟩⟩
  case round =>
    obtain ⟨⟨k, m, A, c, hk, rfl, rfl, hmk, ho, hb⟩⟩ := hrel
    have HK := Lib.hid hk
    have HMK := Lib.hid hmk
    obtain ⟨ls, hls⟩ : ∃ ls, cellsW ((ws.take k).filter fun x => decide (x.who = who)) = ls := ⟨_, rfl⟩
    rw [hls] at ho
    have HLS := Lib.hid hls
    have HO := Lib.hid ho
    have HB := Lib.hid hb
    have e0 := cell_later HB.out D0.out
    have e1 := cell_later HB.out D1.out
    clear hk ho hb hls hmk
    by_cases hlt : k < n
    · have hkI : (k : Int) < (n : Int) := by omega
      have HX : Hid (k < n) := hlt
      have C := Lib.hid (CK2.out wr HB.out)
      obtain ⟨hnx, b, off, x, cs, rfl, hbl, hx, hR, _, hc⟩ := H.out.at_ k hlt
      clear hnx
      have HXS := Lib.hid hx
      obtain ⟨xw, xf, xl⟩ := x
      obtain ⟨rfl, hi0, hi1, hi2⟩ := hR
      have hcx := Lib.hid hc
      have hT := take_snoc_f (p := fun x => decide (x.who = who)) hx
      have HT := Lib.hid hT
      clear hc hi0 hi1 hi2 hbl hx hlt hT
      go_wp2_with fail
      refine C.out.mono ?_
      rintro e W1 ⟨rfl, b1⟩
      have f0 := cell_later b1 e0
      have f1 := cell_later b1 e1
      have HB1 : Hid (Below W0.heap.size W0 W1) := HB.out.trans (b1.mono HB.out.size)
      have HOO : Hid (W1.ownsRow W0.heap.size 39 3 (.slice A m c) m ls) := own_below HO.out b1
      have HBW : Below w.heap.size w W1 := BW.out.trans (HB1.out.mono BW.out.size)
      have d0 : W1.cell? ⟨b, off + k * 3, none⟩ = some (.int .i64 xw) := cell_later HBW (hcx.out 0 _ rfl)
      have d1 : W1.cell? ⟨b, off + k * 3 + 1, none⟩ = some (.int .i64 xf) := cell_later HBW (hcx.out 1 _ rfl)
      have d2 : W1.cell? ⟨b, off + k * 3 + 2, none⟩ = some (.int .i64 xl) := cell_later HBW (hcx.out 2 _ rfl)
      clear b1 C HBW e0 e1
      by_cases hw : xw = who
      · subst hw
        have HS1 := Lib.hid HB1.out.size
        go_wp2_with (at_builtin; refine wpList_append_own _ rfl _ _ 26 rfl W0.heap.size 39 i0 (.agg #[.int .i64 0, .int .i64 0, .int .i64 0]) 3 24 Try.underlying26 hi hz0 hz1 hz2 rfl (by decide) _ _ _ rfl (own_below HOO.out ((Below.refl _ _).alloc (Nat.le_refl _) _)) ⟨W1.heap.size, 0, none⟩ 1 1 [.int .i64 xw, .int .i64 xf, .int .i64 xl] rfl rfl ?c1 ?c2 ?c3 ?c4 ?c5 ?_)
        try (case c1 => (intro j u hu; match j, hu with
          | 0, hu => simp at hu; subst hu; rw [Addr.add_lit]; simp
          | 1, hu => simp at hu; subst hu; rw [Addr.add_lit]; simp
          | 2, hu => simp at hu; subst hu; rw [Addr.add_lit]; simp
          | j + 3, hu => simp at hu))
        try (case c2 => first | exact ⟨rfl, rfl, rfl⟩ | (intro u hu; simp at hu; rcases hu with rfl | rfl | rfl <;> rfl))
        case c3 => have h1 := HX.out; have h2 := HM.out; have h3 := HMK.out; unfold maxLen; omega
        case c4 => have h1 := HX.out; have h2 := HM2.out; have h3 := HMK.out; omega
        case c5 => have := HS1.out; simp at *; omega
        intro v' w2 hown hgrow _
        obtain ⟨A', c', rfl⟩ := frown_form hown
        have HO2 : Hid (w2.ownsRow W0.heap.size 39 3 (.slice A' (m + 1) c') (m + 1) (cellsW ((ws.take (k + 1)).filter fun x => decide (x.who = xw)))) := by
          unfold Hid; rw [HT.out, if_pos (by simp), cellsW_app, HLS.out]; exact hown
        have HB2 : Hid (Below W0.heap.size W0 w2) := by
          have h1 : Below W0.heap.size W0 (W1.alloc (.cells #[.int .i64 xw, .int .i64 xf, .int .i64 xl] 39)) := HB1.out.alloc HB1.out.size _
          exact h1.grown hgrow (by have := HS1.out; simp at *; omega) (fun k hk => (HO.out.lt k hk).1)
        clear hown hgrow
        go_wp2_with fail
        go_roundw
        case rel =>
          have Q : ROfRel xw n ws w W0 (.slice A' (m + 1) c') (.int .i64 ((k : Int) + 1)) w2 := ⟨⟨k + 1, m + 1, A', c', HX.out, by go_num, rfl, by have := HMK.out; omega, HO2.out, HB2.out⟩⟩
          first | exact Q | ((repeat apply Exists.intro); exact ⟨Q, rfl⟩)
        case measure => have := HX.out; simp [intOf]; omega
      · have hwb : (xw == who) = false := by simpa using hw
        go_wp2_with fail
        go_roundw
        case rel =>
          have Q : ROfRel who n ws w W0 (.slice A m c) (.int .i64 ((k : Int) + 1)) W1 := ⟨⟨k + 1, m, A, c, HX.out, by go_num, rfl, by have := HMK.out; omega, by
            rw [HT.out, if_neg (by simpa using hw), List.append_nil, HLS.out]; exact HOO.out, HB1.out⟩⟩
          first | exact Q | ((repeat apply Exists.intro); exact ⟨Q, rfl⟩)
        case measure => have := HX.out; simp [intOf]; omega
    · have hkI : ¬ (k : Int) < (n : Int) := by omega
      have HF : Hid (Row wr 3 RW (.slice A m c) L) := by
        have h0 := HO.out
        rw [← HLS.out, List.take_of_length_le (by have := HN.out; omega), ← HL.out] at h0
        exact own_rowW (fun x hx => HG.out x (by rw [HL.out] at hx; exact (List.mem_filter.1 hx).1)) h0 (by have := HMK.out; have := HK.out; have := HM.out; unfold rowMax; omega)
      go_wp2_with fail
      go_ret
      exact ⟨⟨_, rfl, HF.out⟩, BW.out.trans (HB.out.mono BW.out.size)⟩
end Go.Proofs.Ytcnhghnkocdjkaa
