/-
  BoardSame's walk. Each statement bears its own conditions.
-/
import Derived.Test.YtfmcmhgpgkeplaaBeB
namespace Go.Proofs.Ytfmcmhgpgkeplaa.B
open Go.RowKit Go.Proofs.Ytfmcmhgpgkeplaa.F Go.Proofs.Ytfmcmhgpgkeplaa.I
set_option linter.unusedVariables false
set_option linter.unusedSimpArgs false
theorem RA.below {w w' : World} {x : AC} {cs : List Value} (h : RA w x cs) (hb : Below w.heap.size w w') : RA w' x cs := by
  obtain ⟨v, h1, h2, h3⟩ := h
  exact ⟨v, h1, h2, (h3.below hb).imp fun b _ hb2 => Nat.lt_of_lt_of_le hb2.1 hb.size⟩
theorem dec_flip {α : Type} [DecidableEq α] (a b : α) : decide (a = b) = decide (b = a) := by
  by_cases h : a = b
  · subst h; rfl
  · rw [decide_eq_false h, decide_eq_false (fun e => h e.symm)]
theorem same_flip (n : Int) (s s' : Bool) (M M' L L' : List Int) : (decide (n = n) && decide (s' = s) && decide (M' = M) && decide (L' = L)) = (decide (n = n) && decide (s = s') && decide (M = M') && decide (L = L')) := by
  rw [dec_flip s' s, dec_flip M' M, dec_flip L' L]
set_option maxRecDepth 100000 in
set_option maxHeartbeats 16000000 in
theorem same_walk (a0 : Int) (a1 : Option Addr) (len1 cap1 : Nat) (a2 : Option Addr) (len2 cap2 : Nat) (m1 m2 : List AC) (w : World) (h0 : (Lit.int .u8 a0).wf = true) (h1 : Row w 3 (RA w) (.slice a1 len1 cap1) m1) (h2 : Row w 3 (RA w) (.slice a2 len2 cap2) m2) : Calls Try.prog 6 #[.int .u8 a0, .slice a1 len1 cap1, .slice a2 len2 cap2] w fun e w' => e = .returned (.bool true) ∧ Below w.heap.size w w' := by
  have HR1 := Lib.hid h1
  have HR2 := Lib.hid h2
  have HU := Lib.hid (u8_wf h0)
  clear h0 h1 h2
  by_cases h40 : len1 ≤ 40
  rotate_left
  · have hq : (40 : Int) < (len1 : Int) := by omega
    have hqb : decide ((40 : Int) < (len1 : Int)) = true := by simpa using hq
    have SP := Lib.hid (speaks_any w)
    clear h40
    go_enter Try.func6, Try.ntmps6
    go_wp2_with fail
    refine SP.out.mono ?_
    rintro e w1 ⟨rfl, b1⟩
    have B1 := Lib.hid b1
    clear b1
    go_wp2_with fail
    refine (speaks_any w1).mono ?_
    rintro e w2 ⟨rfl, b2⟩
    have B2 : Hid (Below w.heap.size w w2) := B1.out.trans (b2.mono B1.out.size)
    clear b2
    go_wp2_with fail
    go_ret
    exact ⟨rfl, B2.out⟩

  have hq : ¬ (40 : Int) < (len1 : Int) := by omega
  have hqb : decide ((40 : Int) < (len1 : Int)) = false := by simpa using hq
  by_cases h42 : len2 ≤ 40
  rotate_left
  · have hq2 : (40 : Int) < (len2 : Int) := by omega
    have hqb2 : decide ((40 : Int) < (len2 : Int)) = true := by simpa using hq2
    have SP := Lib.hid (speaks_any w)
    clear h40 h42
    go_enter Try.func6, Try.ntmps6
    go_wp2_with fail
    refine SP.out.mono ?_
    rintro e w1 ⟨rfl, b1⟩
    have B1 := Lib.hid b1
    clear b1
    go_wp2_with fail
    refine (speaks_any w1).mono ?_
    rintro e w2 ⟨rfl, b2⟩
    have B2 : Hid (Below w.heap.size w w2) := B1.out.trans (b2.mono B1.out.size)
    clear b2
    go_wp2_with fail
    go_ret
    exact ⟨rfl, B2.out⟩

  have hq2 : ¬ (40 : Int) < (len2 : Int) := by omega
  have hqb2 : decide ((40 : Int) < (len2 : Int)) = false := by simpa using hq2
  have H40 : Hid (len1 ≤ 40 ∧ len2 ≤ 40) := ⟨h40, h42⟩
  obtain ⟨k, hk0, hk32⟩ : ∃ k : Nat, a0.tmod 32 = (k : Int) ∧ k < 32 := by
    have hu := HU.out
    refine ⟨(a0.tmod 32).toNat, ?_, ?_⟩
    · have := Int.tmod_nonneg 32 hu.1
      omega
    · have := Int.tmod_lt_of_pos a0 (show (0 : Int) < 32 by omega)
      have := Int.tmod_nonneg 32 hu.1
      omega
  have hkw : (wrap64 a0).tmod 32 = (k : Int) := by rw [IntWalk.wrap64_in _ (by have := HU.out; omega)]; exact hk0
  have hk1 : (k : Int) < 32 := by omega
  have HK : Hid (k < 32) := hk32
  have SP := Lib.hid (speaks_any w)
  clear h40 h42 hk0 hk32
  go_enter Try.func6, Try.ntmps6
  go_wp2_with fail
  refine SP.out.mono ?_
  rintro e w1 ⟨rfl, b1⟩
  have hx2 : Below w1.heap.size w1 (w1.alloc (.cells #[.int .i64 (1 + (k : Int))] 3)) := (Below.refl _ _).alloc (Nat.le_refl _) _
  obtain ⟨nb, hnb⟩ : ∃ nb, w1.heap.size = nb := ⟨_, rfl⟩
  have N2 : Hid ((w1.alloc (.cells #[.int .i64 (1 + (k : Int))] 3)).cell? ⟨nb, 0, none⟩ = some (.int .i64 (1 + (k : Int)))) := by
    unfold Hid
    rw [← hnb]; simp
  have b2 : Below w.heap.size w (w1.alloc (.cells #[.int .i64 (1 + (k : Int))] 3)) := b1.trans (hx2.mono b1.size)
  obtain ⟨W2, hW2⟩ : ∃ W2, w1.alloc (.cells #[.int .i64 (1 + (k : Int))] 3) = W2 := ⟨_, rfl⟩
  have B2 : Hid (Below w.heap.size w W2) := by rw [← hW2]; exact b2
  rw [hW2] at N2
  have R1 := Lib.hid (HR1.out.keep B2.out fun x cs h => h.below B2.out)
  have R2 := Lib.hid (HR2.out.keep B2.out fun x cs h => h.below B2.out)
  have M1 := Lib.hid (made_any nb (1 + (k : Int)) a1 len1 cap1 m1 W2 R1.out H40.out.1 (by have := HK.out; omega) N2.out)
  clear b1 b2 hx2 SP
  go_wp2_with fail
  refine M1.out.mono ?_
  rintro e w3 ⟨q, g, sh, M, L, Am, cm, Al, cl, rfl, p3, s3, o3, l3, b3⟩
  obtain ⟨b10, hb10⟩ : ∃ b10, w3.heap.size = b10 := ⟨_, rfl⟩
  have hx4 : Below w3.heap.size w3 (w3.alloc (.cells #[.int .i64 (1 + (k : Int)), .slice Am M.length cm, .bool sh, .slice Al L.length cl] 31)) := (Below.refl _ _).alloc (Nat.le_refl _) _
  have b4 : Below W2.heap.size W2 (w3.alloc (.cells #[.int .i64 (1 + (k : Int)), .slice Am M.length cm, .bool sh, .slice Al L.length cl] 31)) := b3.trans (hx4.mono b3.size)
  have Z10 : Hid ((w3.alloc (.cells #[.int .i64 (1 + (k : Int)), .slice Am M.length cm, .bool sh, .slice Al L.length cl] 31)).heap[b10]? = some (.cells #[.int .i64 (1 + (k : Int)), .slice Am M.length cm, .bool sh, .slice Al L.length cl] 31 (0, 0))) := by rw [← hb10]; exact heap_alloc_new w3 _
  have P4 := Lib.hid (p3.below hx4)
  have S4 := Lib.hid (s3.belowP hx4)
  have O4 := Lib.hid (o3.below hx4)
  have HL4 := Lib.hid l3
  obtain ⟨W4, hW4⟩ : ∃ W4, w3.alloc (.cells #[.int .i64 (1 + (k : Int)), .slice Am M.length cm, .bool sh, .slice Al L.length cl] 31) = W4 := ⟨_, rfl⟩
  rw [hW4] at b4 Z10 P4 S4 O4
  have R4 := Lib.hid (R2.out.keep b4 fun x cs h => h.below b4)
  have B4 : Hid (Below w.heap.size w W4) := B2.out.trans (b4.mono B2.out.size)
  have H24 : Hid (W2.heap.size ≤ W4.heap.size) := b4.size
  have M2 := Lib.hid (made_any nb (1 + (k : Int)) a2 len2 cap2 m2 W4 R4.out H40.out.2 (by have := HK.out; omega) (cell_later b4 N2.out))
  clear p3 s3 o3 l3 b3 hx4 b4 M1 R1 R2 hW2 hnb
  go_wp2_with fail
  refine M2.out.mono ?_
  clear M2
  rintro e w5 ⟨q2, g2, sh2, M2, L2, Am2, cm2, Al2, cl2, rfl, p5, s5, o5, l5, b5⟩
  obtain ⟨b12, hb12⟩ : ∃ b12, w5.heap.size = b12 := ⟨_, rfl⟩
  have hx6 : Below w5.heap.size w5 (w5.alloc (.cells #[.int .i64 (1 + (k : Int)), .slice Am2 M2.length cm2, .bool sh2, .slice Al2 L2.length cl2] 31)) := (Below.refl _ _).alloc (Nat.le_refl _) _
  have b6 : Below W4.heap.size W4 (w5.alloc (.cells #[.int .i64 (1 + (k : Int)), .slice Am2 M2.length cm2, .bool sh2, .slice Al2 L2.length cl2] 31)) := b5.trans (hx6.mono b5.size)
  have Z12 : Hid ((w5.alloc (.cells #[.int .i64 (1 + (k : Int)), .slice Am2 M2.length cm2, .bool sh2, .slice Al2 L2.length cl2] 31)).heap[b12]? = some (.cells #[.int .i64 (1 + (k : Int)), .slice Am2 M2.length cm2, .bool sh2, .slice Al2 L2.length cl2] 31 (0, 0))) := by rw [← hb12]; exact heap_alloc_new w5 _
  have P6 := Lib.hid (p5.below hx6)
  have S6 := Lib.hid (s5.belowP hx6)
  have O6 := Lib.hid (o5.below hx6)
  have HL6 := Lib.hid l5
  obtain ⟨W6, hW6⟩ : ∃ W6, w5.alloc (.cells #[.int .i64 (1 + (k : Int)), .slice Am2 M2.length cm2, .bool sh2, .slice Al2 L2.length cl2] 31) = W6 := ⟨_, rfl⟩
  rw [hW6] at b6 Z12 P6 S6 O6
  have P1 := Lib.hid (P4.out.below b6)
  have S1 := Lib.hid (S4.out.belowP b6)
  have O1 := Lib.hid (O4.out.below b6)
  have Y10 : Hid (W6.heap[b10]? = some (.cells #[.int .i64 (1 + (k : Int)), .slice Am M.length cm, .bool sh, .slice Al L.length cl] 31 (0, 0))) := (b6.block b10 (Array.getElem?_eq_some_iff.1 Z10.out).1).trans Z10.out
  have B6 : Hid (Below w.heap.size w W6) := B4.out.trans (b6.mono B4.out.size)
  have c0 : W6.cell? ⟨b10, 0, none⟩ = some (.int .i64 (1 + (k : Int))) := by rw [(row_cell Y10.out 0).1]; rfl
  have c1 : W6.cell? ⟨b10, 1, none⟩ = some (.slice Am M.length cm) := by rw [(row_cell Y10.out 1).1]; rfl
  have c2 : W6.cell? ⟨b10, 2, none⟩ = some (.bool sh) := by rw [(row_cell Y10.out 2).1]; rfl
  have c3 : W6.cell? ⟨b10, 3, none⟩ = some (.slice Al L.length cl) := by rw [(row_cell Y10.out 3).1]; rfl
  have d0 : W6.cell? ⟨b12, 0, none⟩ = some (.int .i64 (1 + (k : Int))) := by rw [(row_cell Z12.out 0).1]; rfl
  have d1 : W6.cell? ⟨b12, 1, none⟩ = some (.slice Am2 M2.length cm2) := by rw [(row_cell Z12.out 1).1]; rfl
  have d2 : W6.cell? ⟨b12, 2, none⟩ = some (.bool sh2) := by rw [(row_cell Z12.out 2).1]; rfl
  have d3 : W6.cell? ⟨b12, 3, none⟩ = some (.slice Al2 L2.length cl2) := by rw [(row_cell Z12.out 3).1]; rfl
  obtain ⟨tt, htt⟩ : ∃ t, (decide ((1 + (k : Int)) = 1 + (k : Int)) && decide (sh = sh2) && decide (M = M2) && decide (L = L2)) = t := ⟨_, rfl⟩
  have CS12 : Hid (∀ W (hb : Below W6.heap.size W6 W), Calls Try.prog 12 #[.pointer (some ⟨g, 0, none⟩), .pointer (some ⟨g2, 0, none⟩)] W fun e w' => e = .returned (.bool tt) ∧ Below W.heap.size W w') := fun W hb => by
    rw [← htt]; exact same_any _ _ q q2 g g2 _ _ sh sh2 M M2 L L2 W (P1.out.below hb) (P6.out.below hb) (by have := HL4.out; omega)
  have CS21 : Hid (∀ W (hb : Below W6.heap.size W6 W), Calls Try.prog 12 #[.pointer (some ⟨g2, 0, none⟩), .pointer (some ⟨g, 0, none⟩)] W fun e w' => e = .returned (.bool tt) ∧ Below W.heap.size W w') := fun W hb => by
    rw [← htt, ← same_flip]; exact same_any _ _ q2 q g2 g _ _ sh2 sh M2 M L2 L W (P6.out.below hb) (P1.out.below hb) (by have := HL6.out; omega)
  have CS11 : Hid (∀ W (hb : Below W6.heap.size W6 W), Calls Try.prog 12 #[.pointer (some ⟨g, 0, none⟩), .pointer (some ⟨g, 0, none⟩)] W fun e w' => e = .returned (.bool true) ∧ Below W.heap.size W w') := fun W hb => 
    (same_any _ _ q q g g _ _ sh sh M M L L W (P1.out.below hb) (P1.out.below hb) (by have := HL4.out; omega)).mono fun e w' h => ⟨by rw [h.1]; simp, h.2⟩
  have CR : Hid (∀ W (hb : Below W6.heap.size W6 W), Calls Try.prog 29 #[.agg #[.int .i64 (1 + (k : Int)), .slice Am M.length cm, .bool sh, .slice Al L.length cl], .agg #[.int .i64 (1 + (k : Int)), .slice Am2 M2.length cm2, .bool sh2, .slice Al2 L2.length cl2]] W fun e w' => e = .returned (.bool tt) ∧ Below W.heap.size W w') := fun W hb => by
    rw [← htt]
    exact rsame_any (fun _ => True) (fun _ => True) _ _ Am Am2 _ _ cm cm2 sh sh2 Al Al2 _ _ cl cl2 M M2 L L2 W ((S1.out.belowP hb).imp fun _ _ _ => trivial) ((S6.out.belowP hb).imp fun _ _ _ => trivial) ((O1.out.below hb).sq.imp fun _ _ _ => trivial) ((O6.out.below hb).sq.imp fun _ _ _ => trivial) (by have := P1.out.nl; omega) (by have := HL4.out; omega)
  have htb : (tt == tt) = true := by simp
  clear p5 s5 o5 l5 b5 hx6 b6 R4 hW4 hb10 Z10 P4 S4 O4 htt
  go_wp2_with fail
  refine wp_region_held_drew (S := (fun w' => Below W6.heap.size W6 w' ∧ w'.cell? ⟨b10, 0, none⟩ = some (.int .i64 (1 + (k : Int))) ∧ w'.cell? ⟨b10, 1, none⟩ = some (.slice Am M.length cm) ∧ w'.cell? ⟨b10, 2, none⟩ = some (.bool sh) ∧ w'.cell? ⟨b10, 3, none⟩ = some (.slice Al L.length cl) ∧ w'.cell? ⟨b12, 0, none⟩ = some (.int .i64 (1 + (k : Int))) ∧ w'.cell? ⟨b12, 1, none⟩ = some (.slice Am2 M2.length cm2) ∧ w'.cell? ⟨b12, 2, none⟩ = some (.bool sh2) ∧ w'.cell? ⟨b12, 3, none⟩ = some (.slice Al2 L2.length cl2))) (by kernel_rfl) ?_ (fun hHeld => ?_)
  · exact ⟨(Below.refl _ _).drew, c0, c1, c2, c3, d0, d1, d2, d3⟩
  refine takeD (i := 0) (d := some 43) (v := ?_) _ rfl rfl (by kernel_rfl) (by kernel_rfl) (by kernel_rfl) (fun _ _ _ h => h) (by rfl) ?_ (by assumption) ?_
  rotate_left
  · (intro w hSw; (try dsimp only at hSw); go_simp) <;> with_reducible rfl
  try simp only [Act.put, List.setIfInBounds_toArray, List.set_cons_zero, List.set_cons_succ]
  refine takeD (i := 1) (d := some 44) (v := ?_) _ rfl rfl (by kernel_rfl) (by kernel_rfl) (by kernel_rfl) (fun _ _ _ h => h) (by rfl) ?_ (by assumption) ?_
  rotate_left
  · (intro w hSw; (try dsimp only at hSw); go_simp) <;> with_reducible rfl
  try simp only [Act.put, List.setIfInBounds_toArray, List.set_cons_zero, List.set_cons_succ]
  refine takeD (i := 3) (d := some 46) (v := ?_) _ rfl rfl (by kernel_rfl) (by kernel_rfl) (by kernel_rfl) (fun _ _ _ h => h) (by rfl) ?_ (by assumption) ?_
  rotate_left
  · (intro w hSw; (try dsimp only at hSw); go_simp) <;> with_reducible rfl
  try simp only [Act.put, List.setIfInBounds_toArray, List.set_cons_zero, List.set_cons_succ]
  refine takeD (i := 4) (d := some 47) (v := ?_) _ rfl rfl (by kernel_rfl) (by kernel_rfl) (by kernel_rfl) (fun _ _ _ h => h) (by rfl) ?_ (by assumption) ?_
  rotate_left
  · (intro w hSw; (try dsimp only at hSw); go_simp) <;> with_reducible rfl
  try simp only [Act.put, List.setIfInBounds_toArray, List.set_cons_zero, List.set_cons_succ]
  refine wpAnyH_ready (rs := [2]) (by kernel_rfl) (by simp) ?_
  refine AllReadyH.cons rfl (fun K hK => ?_) AllReadyH.nil
  try go_simp
  go_at_call 12
  refine (CS12.out _ hHeld.1).mono ?_
  rintro e wx ⟨rfl, hb2⟩
  try go_wp2_with fail
  refine hK.out _ _ ?_ (fun hHeld => ?_)
  · exact ⟨hHeld.1.trans (hb2.mono hHeld.1.size), cell_later hb2 hHeld.2.1, cell_later hb2 hHeld.2.2.1, cell_later hb2 hHeld.2.2.2.1, cell_later hb2 hHeld.2.2.2.2.1, cell_later hb2 hHeld.2.2.2.2.2.1, cell_later hb2 hHeld.2.2.2.2.2.2.1, cell_later hb2 hHeld.2.2.2.2.2.2.2.1, cell_later hb2 hHeld.2.2.2.2.2.2.2.2⟩
  clear hK K
  try simp only [Act.put, List.setIfInBounds_toArray, List.set_cons_zero, List.set_cons_succ]
  refine wpAnyH_ready (rs := [5]) (by kernel_rfl) (by simp) ?_
  refine AllReadyH.cons rfl (fun K hK => ?_) AllReadyH.nil
  try go_simp
  go_at_call 29
  refine (CR.out _ hHeld.1).mono ?_
  rintro e wx ⟨rfl, hb2⟩
  try go_wp2_with fail
  refine hK.out _ _ ?_ (fun hHeld => ?_)
  · exact ⟨hHeld.1.trans (hb2.mono hHeld.1.size), cell_later hb2 hHeld.2.1, cell_later hb2 hHeld.2.2.1, cell_later hb2 hHeld.2.2.2.1, cell_later hb2 hHeld.2.2.2.2.1, cell_later hb2 hHeld.2.2.2.2.2.1, cell_later hb2 hHeld.2.2.2.2.2.2.1, cell_later hb2 hHeld.2.2.2.2.2.2.2.1, cell_later hb2 hHeld.2.2.2.2.2.2.2.2⟩
  clear hK K
  try simp only [Act.put, List.setIfInBounds_toArray, List.set_cons_zero, List.set_cons_succ]
  refine takeD (i := 6) (d := some 49) (v := ?_) _ rfl rfl (by kernel_rfl) (by kernel_rfl) (by kernel_rfl) (fun _ _ _ h => h) (by rfl) ?_ (by assumption) ?_
  rotate_left
  · (intro w hSw; (try dsimp only at hSw); go_simp) <;> with_reducible rfl
  try simp only [Act.put, List.setIfInBounds_toArray, List.set_cons_zero, List.set_cons_succ]
  refine takeD (i := 7) (d := some 50) (v := ?_) _ rfl rfl (by kernel_rfl) (by kernel_rfl) (by kernel_rfl) (fun _ _ _ h => h) (by rfl) ?_ (by assumption) ?_
  rotate_left
  · (intro w hSw; (try dsimp only at hSw); go_simp) <;> with_reducible rfl
  try simp only [Act.put, List.setIfInBounds_toArray, List.set_cons_zero, List.set_cons_succ]
  refine takeD (i := 8) (d := some 51) (v := ?_) _ rfl rfl (by kernel_rfl) (by kernel_rfl) (by kernel_rfl) (fun _ _ _ h => h) (by rfl) ?_ (by assumption) ?_
  rotate_left
  · (intro w hSw; (try dsimp only at hSw); go_simp) <;> with_reducible rfl
  try simp only [Act.put, List.setIfInBounds_toArray, List.set_cons_zero, List.set_cons_succ]
  refine takeD (i := 9) (d := some 52) (v := ?_) _ rfl rfl (by kernel_rfl) (by kernel_rfl) (by kernel_rfl) (fun _ _ _ h => h) (by rfl) ?_ (by assumption) ?_
  rotate_left
  · (intro w hSw; (try dsimp only at hSw); go_simp) <;> with_reducible rfl
  try simp only [Act.put, List.setIfInBounds_toArray, List.set_cons_zero, List.set_cons_succ]
  refine takeD (i := 11) (d := some 54) (v := ?_) _ rfl rfl (by kernel_rfl) (by kernel_rfl) (by kernel_rfl) (fun _ _ _ h => h) (by rfl) ?_ (by assumption) ?_
  rotate_left
  · (intro w hSw; (try dsimp only at hSw); go_simp) <;> with_reducible rfl
  try simp only [Act.put, List.setIfInBounds_toArray, List.set_cons_zero, List.set_cons_succ]
  refine takeD (i := 12) (d := some 55) (v := ?_) _ rfl rfl (by kernel_rfl) (by kernel_rfl) (by kernel_rfl) (fun _ _ _ h => h) (by rfl) ?_ (by assumption) ?_
  rotate_left
  · (intro w hSw; (try dsimp only at hSw); go_simp) <;> with_reducible rfl
  try simp only [Act.put, List.setIfInBounds_toArray, List.set_cons_zero, List.set_cons_succ]
  refine wpAnyH_ready (rs := [10]) (by kernel_rfl) (by simp) ?_
  refine AllReadyH.cons rfl (fun K hK => ?_) AllReadyH.nil
  try go_simp
  go_at_call 12
  refine (CS21.out _ hHeld.1).mono ?_
  rintro e wx ⟨rfl, hb2⟩
  try go_wp2_with fail
  refine hK.out _ _ ?_ (fun hHeld => ?_)
  · exact ⟨hHeld.1.trans (hb2.mono hHeld.1.size), cell_later hb2 hHeld.2.1, cell_later hb2 hHeld.2.2.1, cell_later hb2 hHeld.2.2.2.1, cell_later hb2 hHeld.2.2.2.2.1, cell_later hb2 hHeld.2.2.2.2.2.1, cell_later hb2 hHeld.2.2.2.2.2.2.1, cell_later hb2 hHeld.2.2.2.2.2.2.2.1, cell_later hb2 hHeld.2.2.2.2.2.2.2.2⟩
  clear hK K
  try simp only [Act.put, List.setIfInBounds_toArray, List.set_cons_zero, List.set_cons_succ]
  refine wpAnyH_ready (rs := [13]) (by kernel_rfl) (by simp) ?_
  refine AllReadyH.cons rfl (fun K hK => ?_) AllReadyH.nil
  try go_simp
  go_at_call 12
  refine (CS12.out _ hHeld.1).mono ?_
  rintro e wx ⟨rfl, hb2⟩
  try go_wp2_with fail
  refine hK.out _ _ ?_ (fun hHeld => ?_)
  · exact ⟨hHeld.1.trans (hb2.mono hHeld.1.size), cell_later hb2 hHeld.2.1, cell_later hb2 hHeld.2.2.1, cell_later hb2 hHeld.2.2.2.1, cell_later hb2 hHeld.2.2.2.2.1, cell_later hb2 hHeld.2.2.2.2.2.1, cell_later hb2 hHeld.2.2.2.2.2.2.1, cell_later hb2 hHeld.2.2.2.2.2.2.2.1, cell_later hb2 hHeld.2.2.2.2.2.2.2.2⟩
  clear hK K
  try simp only [Act.put, List.setIfInBounds_toArray, List.set_cons_zero, List.set_cons_succ]
  refine takeD (i := 14) (d := some 57) (v := ?_) _ rfl rfl (by kernel_rfl) (by kernel_rfl) (by kernel_rfl) (fun _ _ _ h => h) (by rfl) ?_ (by assumption) ?_
  rotate_left
  · (intro w hSw; (try dsimp only at hSw); go_simp) <;> with_reducible rfl
  try simp only [Act.put, List.setIfInBounds_toArray, List.set_cons_zero, List.set_cons_succ]
  refine takeD (i := 15) (d := some 58) (v := ?_) _ rfl rfl (by kernel_rfl) (by kernel_rfl) (by kernel_rfl) (fun _ _ _ h => h) (by rfl) ?_ (by assumption) ?_
  rotate_left
  · (intro w hSw; (try dsimp only at hSw); go_simp) <;> with_reducible rfl
  try simp only [Act.put, List.setIfInBounds_toArray, List.set_cons_zero, List.set_cons_succ]
  refine takeD (i := 16) (d := some 59) (v := ?_) _ rfl rfl (by kernel_rfl) (by kernel_rfl) (by kernel_rfl) (fun _ _ _ h => h) (by rfl) ?_ (by assumption) ?_
  rotate_left
  · (intro w hSw; (try dsimp only at hSw); go_simp) <;> with_reducible rfl
  try simp only [Act.put, List.setIfInBounds_toArray, List.set_cons_zero, List.set_cons_succ]
  refine takeD (i := 17) (d := some 60) (v := ?_) _ rfl rfl (by kernel_rfl) (by kernel_rfl) (by kernel_rfl) (fun _ _ _ h => h) (by rfl) ?_ (by assumption) ?_
  rotate_left
  · (intro w hSw; (try dsimp only at hSw); go_simp) <;> with_reducible rfl
  try simp only [Act.put, List.setIfInBounds_toArray, List.set_cons_zero, List.set_cons_succ]
  refine takeD (i := 18) (d := some 61) (v := ?_) _ rfl rfl (by kernel_rfl) (by kernel_rfl) (by kernel_rfl) (fun _ _ _ h => h) (by rfl) ?_ (by assumption) ?_
  rotate_left
  · (intro w hSw; (try dsimp only at hSw); go_simp) <;> with_reducible rfl
  try simp only [Act.put, List.setIfInBounds_toArray, List.set_cons_zero, List.set_cons_succ]
  refine wpAnyH_ready (rs := [19]) (by kernel_rfl) (by simp) ?_
  refine AllReadyH.cons rfl (fun K hK => ?_) AllReadyH.nil
  try go_simp
  go_at_call 12
  refine (CS11.out _ hHeld.1).mono ?_
  rintro e wx ⟨rfl, hb2⟩
  try go_wp2_with fail
  refine hK.out _ _ ?_ (fun hHeld => ?_)
  · exact ⟨hHeld.1.trans (hb2.mono hHeld.1.size), cell_later hb2 hHeld.2.1, cell_later hb2 hHeld.2.2.1, cell_later hb2 hHeld.2.2.2.1, cell_later hb2 hHeld.2.2.2.2.1, cell_later hb2 hHeld.2.2.2.2.2.1, cell_later hb2 hHeld.2.2.2.2.2.2.1, cell_later hb2 hHeld.2.2.2.2.2.2.2.1, cell_later hb2 hHeld.2.2.2.2.2.2.2.2⟩
  clear hK K
  try simp only [Act.put, List.setIfInBounds_toArray, List.set_cons_zero, List.set_cons_succ]
  refine takeD (i := 20) (d := some 63) (v := ?_) _ rfl rfl (by kernel_rfl) (by kernel_rfl) (by kernel_rfl) (fun _ _ _ h => h) (by rfl) ?_ (by assumption) ?_
  rotate_left
  · (intro w hSw; (try dsimp only at hSw); go_simp) <;> with_reducible rfl
  try simp only [Act.put, List.setIfInBounds_toArray, List.set_cons_zero, List.set_cons_succ]
  refine takeD (i := 21) (d := some 6) (v := ?_) _ rfl rfl (by kernel_rfl) (by kernel_rfl) (by kernel_rfl) (fun _ _ _ h => h) (by rfl) ?_ (by assumption) ?_
  rotate_left
  · (intro w hSw; (try dsimp only at hSw); go_simp) <;> with_reducible rfl
  try simp only [Act.put, List.setIfInBounds_toArray, List.set_cons_zero, List.set_cons_succ]
  refine wpAnyH_done (by kernel_rfl) ?_ _
  have BZ : Hid (Below w.heap.size w _) := B6.out.trans (hHeld.1.mono B6.out.size)
  clear hHeld c0 c1 c2 c3 d0 d1 d2 d3
  go_wp2_with fail
  go_ret
  exact ⟨rfl, BZ.out⟩
end Go.Proofs.Ytfmcmhgpgkeplaa.B
