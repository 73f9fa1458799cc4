/-
  LinkSends' walk. Each statement bears its own conditions.
-/
import Derived.Test.YtkbjonblflhkoaaLnP
namespace Go.Proofs.Ytkbjonblflhkoaa.Ln
open Go.RowKit Go.Proofs.Ytkbjonblflhkoaa.F Go.Proofs.Ytkbjonblflhkoaa.U Go.Proofs.Ytkbjonblflhkoaa.Q
set_option linter.unusedVariables false
set_option linter.unusedSimpArgs false
structure LsR (lo g Rb len : Nat) (w0 : World) (iv : Value) (wr : World) : Prop where
  ex : ∃ (i : Nat) (p : Nat → Prop) (s : SS) (LL : List (List Int)) (A : Option Addr) (n c : Nat) (S : List Sl), i ≤ len ∧ i ≤ 120 ∧ iv = .int .i64 (i : Int) ∧ PL lo g Rb w0 wr p g s LL s A n c ∧ RF (fun b => b = Rb) wr p A n c S LL
structure LsC (lo g Rb : Nat) (w0 : World) (s8 s9 : Value) (wx : World) : Prop where
  ex : ∃ (N8 : Nat) (p : Nat → Prop) (s sb : SS) (LL : List (List Int)) (A Ab : Option Addr) (n nb c cb : Nat) (S : List Sl), s8 = .pointer (some ⟨N8, 0, none⟩) ∧ s9 = .bool true ∧ PL lo g Rb w0 wx p g s LL sb Ab nb cb ∧ RF (fun b => b = Rb ∨ b = N8) wx p A n c S LL ∧ wx.heap[N8]? = some (.cells #[.int .i64 s.gap, .int .i64 s.words, .int .i64 s.room, .slice A n c, .int .i64 s.next, .int .i64 s.rl] 27 (0, 0)) ∧ N8 ≠ Rb ∧ ¬ p N8 ∧ lo ≤ N8
set_option maxRecDepth 100000 in
set_option maxHeartbeats 32000000 in
theorem sends_walk (a0 a1 a2 : Int) (ar : Option Addr) (len cap : Nat) (m1 : List OC) (w : World) (h0 : Row w 3 (RO w) (.slice ar len cap) m1) : Calls Try.prog 3 #[.agg #[.int .i64 a0, .int .i64 a1, .int .i64 a2], .slice ar len cap] w fun e w' => e = .returned (.bool true) ∧ Below w.heap.size w w' := by
  have HR : Hid (∀ i, i < len → ∃ b off kd now Am m cm M, ar = some ⟨b, off, none⟩ ∧ OX w.heap.size w b (off + i * 3) kd now Am m cm M) := fun i hi => OX.of h0 hi
  clear h0
  have he1 := he_se
  obtain ⟨lo, hlo⟩ : ∃ lo, w.heap.size = lo := ⟨_, rfl⟩
  have HLO := Lib.hid hlo
  obtain ⟨wA, hwA⟩ : ∃ W, w.alloc (.cells #[.int .i64 a0, .int .i64 a1, .int .i64 a2] 22) = W := ⟨_, rfl⟩
  have BA : Hid (Below lo w wA) := by rw [← hwA, ← hlo]; exact (Below.refl _ _).alloc (Nat.le_refl _) _
  have HA : Hid (wA.heap[lo]? = some (.cells #[.int .i64 a0, .int .i64 a1, .int .i64 a2] 22 (0, 0)) ∧ wA.heap.size = lo + 1) := by rw [← hwA, ← hlo]; exact ⟨heap_alloc_new _ _, by simp⟩
  have x0 : wA.cell? ⟨lo, 0, none⟩ = some (.int .i64 a0) := by rw [(row_cell HA.out.1 0).1]; rfl
  have x1 : wA.cell? ⟨lo, 1, none⟩ = some (.int .i64 a1) := by rw [(row_cell HA.out.1 1).1]; rfl
  have x2 : wA.cell? ⟨lo, 2, none⟩ = some (.int .i64 a2) := by rw [(row_cell HA.out.1 2).1]; rfl
  rw [hlo]
  have BG := Lib.hid (begin_any a0 a1 a2 wA)
  obtain ⟨g, hg⟩ : ∃ g, wA.heap.size + 2 = g := ⟨_, rfl⟩
  rw [hg] at BG
  have HGL : Hid (lo + 3 = g ∧ wA.heap.size = lo + 1) := by have := HA.out.2; unfold Hid; omega
  clear hg
  go_enter Try.func3, Try.ntmps3
  go_wp2_with fail
  refine BG.out.mono ?_
  rintro e w2 ⟨s, rfl, q2, b2⟩
  have Q2 := Lib.hid q2
  have B2 : Hid (Below lo w w2) := BA.out.trans (b2.mono (by have := HGL.out; omega))
  clear q2 b2 BG hwA x0 x1 x2
  have hx : Below w2.heap.size w2 (w2.alloc (.cells #[.int .i64 s.gap, .int .i64 s.words, .int .i64 s.room, .slice none 0 0, .int .i64 s.next, .int .i64 s.rl] 27)) := (Below.refl _ _).alloc (Nat.le_refl _) _
  have HP3 : Hid (PL lo g w2.heap.size w (w2.alloc (.cells #[.int .i64 s.gap, .int .i64 s.words, .int .i64 s.room, .slice none 0 0, .int .i64 s.next, .int .i64 s.rl] 27)) (fun x => x = g) g s [] s none 0 0) := ⟨Q2.out.below hx, heap_alloc_new _ _, fun e => by have := Q2.out.lt; omega, ⟨by have := B2.out.size; have := HLO.out; omega, by have := HGL.out; omega⟩, B2.out.trans (hx.mono (by have := B2.out.size; have := HLO.out; omega))⟩
  have HF3 : Hid (RF (fun b => b = w2.heap.size) (w2.alloc (.cells #[.int .i64 s.gap, .int .i64 s.words, .int .i64 s.room, .slice none 0 0, .int .i64 s.next, .int .i64 s.rl] 27)) (fun x => x = g) none 0 0 [] []) := ⟨Sq.nil _ _, Ms.nil _ _, Nat.le_refl _⟩
  obtain ⟨Rb, hRb⟩ : ∃ b, w2.heap.size = b := ⟨_, rfl⟩
  obtain ⟨w3, hw3⟩ : ∃ W, w2.alloc (.cells #[.int .i64 s.gap, .int .i64 s.words, .int .i64 s.room, .slice none 0 0, .int .i64 s.next, .int .i64 s.rl] 27) = W := ⟨_, rfl⟩
  rw [hRb, hw3] at HP3 HF3
  clear hx Q2 B2
  go_wp2_with fail
  refine (told_any w3).mono ?_
  rintro e w4 ⟨rfl, b4⟩
  have HP4 := Lib.hid (HP3.out.below b4)
  have HF4 := Lib.hid (HF3.out.below b4)
  clear b4 HP3 HF3 hRb hw3
  go_wp2_with fail
  go_loopw [7] (fun iv wr => LsR lo g Rb len w iv wr) (fun i _ => len - (intOf i).toNat)
  case atStart => exact ⟨⟨0, _, s, [], none, 0, 0, [], Nat.zero_le _, Nat.zero_le _, rfl, HP4.out, HF4.out⟩⟩
  case round =>
    obtain ⟨⟨i, p, s, LL, A, n, c, S, hi, hi2, rfl, hp, hf⟩⟩ := hrel
    have HP := Lib.hid hp
    have HF := Lib.hid hf
    clear hp hf HP4 HF4
    by_cases hlt : i < len ∧ i < 120
    rotate_left
    · by_cases h1 : i < len
      · have g1 : decide ((i : Int) < (len : Int)) = true := by simpa using h1
        have g2 : decide ((i : Int) < 120) = false := by simp; omega
        have g3 : (i : Int) < (len : Int) := by omega
        have g4 : ¬ (i : Int) < 120 := by omega
        have g5 : (120 : Int) ≤ (i : Int) := by omega
        have HB : Hid (Below lo w wr) := HP.out.be
        clear hlt hi hi2
        go_wp2_with fail
        go_ret
        exact ⟨rfl, HB.out⟩
      · have g1 : decide ((i : Int) < (len : Int)) = false := by simpa using h1
        have HB : Hid (Below lo w wr) := HP.out.be
        clear hlt hi hi2
        go_wp2_with fail
        go_ret
        exact ⟨rfl, HB.out⟩
    have g1 : decide ((i : Int) < (len : Int)) = true := by simpa using hlt.1
    have g2 : decide ((i : Int) < 120) = true := by simp; omega
    have hiI : (i : Int) < (len : Int) := by omega
    have HX : Hid (i < len ∧ i < 120) := hlt
    have hi120 : (i : Int) ≤ 120 := by omega
    have hiN : i < len := hlt.1
    have hi121 : (i : Int) < 120 := by omega
    obtain ⟨b, off, kd, now, Am, m, cm, M, hA, ho⟩ := HR.out i hlt.1
    subst hA
    rw [HLO.out] at ho
    have HO := Lib.hid (ho.low HP.out.be)
    clear ho hlt hi hi2
    have y0 := HO.out.c0
    have y1 := HO.out.c1
    have y2 := HO.out.c2
    have x0 : wr.cell? ⟨Rb, 0, none⟩ = some (.int .i64 s.gap) := by rw [(row_cell HP.out.bx 0).1]; rfl
    have x1 : wr.cell? ⟨Rb, 1, none⟩ = some (.int .i64 s.words) := by rw [(row_cell HP.out.bx 1).1]; rfl
    have x2 : wr.cell? ⟨Rb, 2, none⟩ = some (.int .i64 s.room) := by rw [(row_cell HP.out.bx 2).1]; rfl
    have x3 : wr.cell? ⟨Rb, 3, none⟩ = some (.slice A n c) := by rw [(row_cell HP.out.bx 3).1]; rfl
    have x4 : wr.cell? ⟨Rb, 4, none⟩ = some (.int .i64 s.next) := by rw [(row_cell HP.out.bx 4).1]; rfl
    have x5 : wr.cell? ⟨Rb, 5, none⟩ = some (.int .i64 s.rl) := by rw [(row_cell HP.out.bx 5).1]; rfl
    go_upto_region 7 with fail
    go_cut [8, 9] (fun s8 s9 wx => LsC lo g Rb w s8 s9 wx)
    case first =>
      refine wp_region_held_drew (S := (fun w' => w'.cell? ⟨b, off + i * 3, none⟩ = some (.int .i64 kd) ∧ w'.cell? ⟨b, off + i * 3 + 1, none⟩ = some (.int .i64 now) ∧ w'.cell? ⟨b, off + i * 3 + 2, none⟩ = some (.slice Am m cm) ∧ w'.cell? ⟨Rb, 0, none⟩ = some (.int .i64 s.gap) ∧ w'.cell? ⟨Rb, 1, none⟩ = some (.int .i64 s.words) ∧ w'.cell? ⟨Rb, 2, none⟩ = some (.int .i64 s.room) ∧ w'.cell? ⟨Rb, 3, none⟩ = some (.slice A n c) ∧ w'.cell? ⟨Rb, 4, none⟩ = some (.int .i64 s.next) ∧ w'.cell? ⟨Rb, 5, none⟩ = some (.int .i64 s.rl))) (by kernel_rfl) ?_ (fun hHeld => ?_)
      · exact ⟨y0, y1, y2, x0, x1, x2, x3, x4, x5⟩
      refine takeD (i := 0) (d := some 32) (v := ?_) _ rfl rfl (by kernel_rfl) (by kernel_rfl) (by kernel_rfl) (fun _ _ _ h => h) (by rfl) ?_ (by assumption) ?_
      rotate_left
      · (intro w hSw; (try dsimp only at hSw); go_simp) <;> with_reducible rfl
      try simp only [Act.put, List.setIfInBounds_toArray, List.set_cons_zero, List.set_cons_succ]
      refine takeD (i := 1) (d := some 33) (v := ?_) _ rfl rfl (by kernel_rfl) (by kernel_rfl) (by kernel_rfl) (fun _ _ _ h => h) (by rfl) ?_ (by assumption) ?_
      rotate_left
      · (intro w hSw; (try dsimp only at hSw); go_simp) <;> with_reducible rfl
      try simp only [Act.put, List.setIfInBounds_toArray, List.set_cons_zero, List.set_cons_succ]
      refine takeD (i := 2) (d := some 34) (v := ?_) _ rfl rfl (by kernel_rfl) (by kernel_rfl) (by kernel_rfl) (fun _ _ _ h => h) (by rfl) ?_ (by assumption) ?_
      rotate_left
      · (intro w hSw; (try dsimp only at hSw); go_simp) <;> with_reducible rfl
      try simp only [Act.put, List.setIfInBounds_toArray, List.set_cons_zero, List.set_cons_succ]
      refine takeD (i := 3) (d := some 35) (v := ?_) _ rfl rfl (by kernel_rfl) (by kernel_rfl) (by kernel_rfl) (fun _ _ _ h => h) (by rfl) ?_ (by assumption) ?_
      rotate_left
      · (intro w hSw; (try dsimp only at hSw); go_simp) <;> with_reducible rfl
      try simp only [Act.put, List.setIfInBounds_toArray, List.set_cons_zero, List.set_cons_succ]
      refine takeD (i := 4) (d := some 36) (v := ?_) _ rfl rfl (by kernel_rfl) (by kernel_rfl) (by kernel_rfl) (fun _ _ _ h => h) (by rfl) ?_ (by assumption) ?_
      rotate_left
      · (intro w hSw; (try dsimp only at hSw); go_simp) <;> with_reducible rfl
      try simp only [Act.put, List.setIfInBounds_toArray, List.set_cons_zero, List.set_cons_succ]
      refine takeD (i := 5) (d := some 37) (v := ?_) _ rfl rfl (by kernel_rfl) (by kernel_rfl) (by kernel_rfl) (fun _ _ _ h => h) (by rfl) ?_ (by assumption) ?_
      rotate_left
      · (intro w hSw; (try dsimp only at hSw); go_simp) <;> with_reducible rfl
      try simp only [Act.put, List.setIfInBounds_toArray, List.set_cons_zero, List.set_cons_succ]
      obtain ⟨V, hV⟩ : ∃ V, wr.drew = V := ⟨_, rfl⟩
      have bV : Below wr.heap.size wr V := by rw [← hV]; exact (Below.refl _ _).drew
      have HP_V := Lib.hid (HP.out.below bV)
      have HF_V := Lib.hid (HF.out.below bV)
      have HO_V := Lib.hid (HO.out.low (bV.mono HP.out.nil))
      simp only [hV]
      clear hV hHeld bV y0 y1 y2 x0 x1 x2 x3 x4 x5
      refine wpAnyH_ready (rs := [6, 10]) (by kernel_rfl) (by simp) ?_
      refine AllReadyH.cons rfl (fun K0 hK => ?_) (AllReadyH.cons rfl (fun K0 hK => ?_) (AllReadyH.nil))
      · try go_simp
        go_at_call 12
        refine (send_any g p (fun b => ¬ p b ∧ ¬ (fun b => b = Rb) b) (fun b => b < lo) g s LL A n c S kd now Am m cm M V HP_V.out.sv HF_V.out.rl (fun b hb => hb.1) HF_V.out.rm HF_V.out.cp HO_V.out.mq HO_V.out.mc HO_V.out.mn).mono ?_
        rintro e Vs ⟨q, s', LL', A', n', c', S', rfl, q5, n5, sq5, ms5, hc5⟩
        have HP_Vs : Hid (PL lo g Rb w Vs q g s' LL' s A n c) := HP_V.out.op q5 n5
        have HF_Vs : Hid (RF (fun b => b = Rb) Vs q A' n' c' S' LL') := RF.of_send (fun b hb => by rw [hb]; exact HP_V.out.blt) sq5 ms5 hc5
        have HO_Vs := Lib.hid (HO_V.out.low ((HP_V.out.sv.nx n5).mono HP_V.out.ll.2))
        have hh : Vs.cell? ⟨b, off + i * 3, none⟩ = some (.int .i64 kd) ∧ Vs.cell? ⟨b, off + i * 3 + 1, none⟩ = some (.int .i64 now) ∧ Vs.cell? ⟨b, off + i * 3 + 2, none⟩ = some (.slice Am m cm) ∧ Vs.cell? ⟨Rb, 0, none⟩ = some (.int .i64 s.gap) ∧ Vs.cell? ⟨Rb, 1, none⟩ = some (.int .i64 s.words) ∧ Vs.cell? ⟨Rb, 2, none⟩ = some (.int .i64 s.room) ∧ Vs.cell? ⟨Rb, 3, none⟩ = some (.slice A n c) ∧ Vs.cell? ⟨Rb, 4, none⟩ = some (.int .i64 s.next) ∧ Vs.cell? ⟨Rb, 5, none⟩ = some (.int .i64 s.rl) := ⟨HO_Vs.out.c0, HO_Vs.out.c1, HO_Vs.out.c2, by rw [(row_cell HP_Vs.out.bx 0).1]; rfl, by rw [(row_cell HP_Vs.out.bx 1).1]; rfl, by rw [(row_cell HP_Vs.out.bx 2).1]; rfl, by rw [(row_cell HP_Vs.out.bx 3).1]; rfl, by rw [(row_cell HP_Vs.out.bx 4).1]; rfl, by rw [(row_cell HP_Vs.out.bx 5).1]; rfl⟩
        clear q5 n5 sq5 ms5 hc5
        try go_wp2_with fail
        refine hK.out _ _ hh (fun hHeld => ?_)
        clear hh
        clear hK K0
        try simp only [Act.put, List.getElem_toArray, List.getElem_cons_succ, List.getElem_cons_zero, List.setIfInBounds_toArray, List.set_cons_zero, List.set_cons_succ]
        refine takeD (i := 7) (d := some 31) (v := ?_) _ rfl rfl (by kernel_rfl) (by kernel_rfl) (by kernel_rfl) (fun _ _ _ h => h) (by rfl) ?_ hHeld ?_
        rotate_left
        · (intro w hSw; (try dsimp only at hSw); go_simp) <;> with_reducible rfl
        try simp only [Act.put, List.setIfInBounds_toArray, List.set_cons_zero, List.set_cons_succ]
        refine takeD (i := 8) (d := some 39) (v := ?_) _ rfl rfl (by kernel_rfl) (by kernel_rfl) (by kernel_rfl) (fun _ _ _ h => h) (by rfl) ?_ hHeld ?_
        rotate_left
        · (intro w hSw; (try dsimp only at hSw); go_simp) <;> with_reducible rfl
        try simp only [Act.put, List.setIfInBounds_toArray, List.set_cons_zero, List.set_cons_succ]
        refine takeD (i := 9) (d := some 40) (v := ?_) _ rfl rfl (by kernel_rfl) (by kernel_rfl) (by kernel_rfl) (fun _ _ _ h => h) (by rfl) ?_ hHeld ?_
        rotate_left
        · (intro w hSw; (try dsimp only at hSw); go_simp) <;> with_reducible rfl
        try simp only [Act.put, List.setIfInBounds_toArray, List.set_cons_zero, List.set_cons_succ]
        clear hHeld
        refine wpAnyH_ready (rs := [10]) (by kernel_rfl) (by simp) ?_
        refine AllReadyH.cons rfl (fun K0 hK => ?_) (AllReadyH.nil)
        obtain ⟨Vsn, h_Vsn⟩ : ∃ W, Vs.alloc (.cells #[.int .i64 0, .int .i64 0, .int .i64 0, .slice none 0 0, .int .i64 0, .int .i64 0] 27) = W := ⟨_, rfl⟩
        obtain ⟨N8, h_N8⟩ : ∃ vb, Vs.heap.size = vb := ⟨_, rfl⟩
        have b_Vsn : Below Vs.heap.size Vs Vsn := by rw [← h_Vsn]; exact (Below.refl _ _).alloc (Nat.le_refl _) _
        have HN8 : Hid (Vsn.heap[N8]? = some (.cells #[.int .i64 0, .int .i64 0, .int .i64 0, .slice none 0 0, .int .i64 0, .int .i64 0] 27 (0, 0)) ∧ N8 ≠ Rb ∧ ¬ q N8 ∧ lo ≤ N8) := ⟨by rw [← h_Vsn, ← h_N8]; exact heap_alloc_new _ _, by have := HP_Vs.out.blt; omega, fun hq => by have := (HP_Vs.out.sv.low _ hq).2; omega, by have := HP_Vs.out.nil; omega⟩
        have HP_Vsn := Lib.hid (HP_Vs.out.below b_Vsn)
        have HF_Vsn := Lib.hid ((HF_Vs.out.add b_Vsn).imp (E' := (fun b => b = Rb ∨ b = N8)) fun b hb => by rcases hb with h1 | h1; exact .inl h1; exact .inr (by omega))
        have HO_Vsn := Lib.hid (HO_Vs.out.low (b_Vsn.mono HP_Vs.out.nil))
        have hh : Vsn.cell? ⟨b, off + i * 3, none⟩ = some (.int .i64 kd) ∧ Vsn.cell? ⟨b, off + i * 3 + 1, none⟩ = some (.int .i64 now) ∧ Vsn.cell? ⟨b, off + i * 3 + 2, none⟩ = some (.slice Am m cm) ∧ Vsn.cell? ⟨Rb, 0, none⟩ = some (.int .i64 s.gap) ∧ Vsn.cell? ⟨Rb, 1, none⟩ = some (.int .i64 s.words) ∧ Vsn.cell? ⟨Rb, 2, none⟩ = some (.int .i64 s.room) ∧ Vsn.cell? ⟨Rb, 3, none⟩ = some (.slice A n c) ∧ Vsn.cell? ⟨Rb, 4, none⟩ = some (.int .i64 s.next) ∧ Vsn.cell? ⟨Rb, 5, none⟩ = some (.int .i64 s.rl) := ⟨HO_Vsn.out.c0, HO_Vsn.out.c1, HO_Vsn.out.c2, by rw [(row_cell HP_Vsn.out.bx 0).1]; rfl, by rw [(row_cell HP_Vsn.out.bx 1).1]; rfl, by rw [(row_cell HP_Vsn.out.bx 2).1]; rfl, by rw [(row_cell HP_Vsn.out.bx 3).1]; rfl, by rw [(row_cell HP_Vsn.out.bx 4).1]; rfl, by rw [(row_cell HP_Vsn.out.bx 5).1]; rfl⟩
        try go_simp
        try rw [h_Vsn]
        try rw [h_N8]
        refine hK.out _ _ hh (fun hHeld => ?_)
        clear h_Vsn h_N8 b_Vsn hHeld hh
        clear hK K0
        try simp only [Act.put, List.getElem_toArray, List.getElem_cons_succ, List.getElem_cons_zero, List.setIfInBounds_toArray, List.set_cons_zero, List.set_cons_succ]
        have z0 : Vsn.cell? ⟨N8, 0, none⟩ = some (.int .i64 0) := by rw [(row_cell HN8.out.1 0).1]; rfl
        have z1 : Vsn.cell? ⟨N8, 1, none⟩ = some (.int .i64 0) := by rw [(row_cell HN8.out.1 1).1]; rfl
        have z2 : Vsn.cell? ⟨N8, 2, none⟩ = some (.int .i64 0) := by rw [(row_cell HN8.out.1 2).1]; rfl
        have z3 : Vsn.cell? ⟨N8, 3, none⟩ = some (.slice none 0 0) := by rw [(row_cell HN8.out.1 3).1]; rfl
        have z4 : Vsn.cell? ⟨N8, 4, none⟩ = some (.int .i64 0) := by rw [(row_cell HN8.out.1 4).1]; rfl
        have z5 : Vsn.cell? ⟨N8, 5, none⟩ = some (.int .i64 0) := by rw [(row_cell HN8.out.1 5).1]; rfl
        have zf0 : Vsn.frozen? ⟨N8, 0, none⟩ = false := (row_cell HN8.out.1 0).2
        have zf1 : Vsn.frozen? ⟨N8, 1, none⟩ = false := (row_cell HN8.out.1 1).2
        have zf2 : Vsn.frozen? ⟨N8, 2, none⟩ = false := (row_cell HN8.out.1 2).2
        have zf3 : Vsn.frozen? ⟨N8, 3, none⟩ = false := (row_cell HN8.out.1 3).2
        have zf4 : Vsn.frozen? ⟨N8, 4, none⟩ = false := (row_cell HN8.out.1 4).2
        have zf5 : Vsn.frozen? ⟨N8, 5, none⟩ = false := (row_cell HN8.out.1 5).2
        refine wpAnyH_ready (rs := [11]) (by kernel_rfl) (by simp) ?_
        refine AllReadyH.cons rfl (fun K0 hK => ?_) (AllReadyH.nil)
        obtain ⟨Z, hZ⟩ : ∃ Z, ((((((Vsn.setCell ⟨N8, 0, none⟩ (.int .i64 s'.gap)).setCell ⟨N8, 1, none⟩ (.int .i64 s'.words)).setCell ⟨N8, 2, none⟩ (.int .i64 s'.room)).setCell ⟨N8, 3, none⟩ (.slice A' n' c')).setCell ⟨N8, 4, none⟩ (.int .i64 s'.next)).setCell ⟨N8, 5, none⟩ (.int .i64 s'.rl)) = Z := ⟨_, rfl⟩
        have hfz : Fo (fun b => b = N8) Vsn Z := by rw [← hZ]; exact (((((((Fo.refl (fun b => b = N8) Vsn).setCell (.inl rfl) 0 _).setCell (.inl rfl) 1 _).setCell (.inl rfl) 2 _).setCell (.inl rfl) 3 _).setCell (.inl rfl) 4 _).setCell (.inl rfl) 5 _)
        have hty : Ty Vsn (fun b => b = N8) := fun b hb _ => by subst hb; exact ⟨_, _, _, HN8.out.1, by decide⟩
        have HPZ : Hid (PL lo g Rb w Z q g s' LL' s A n c) := HP_Vsn.out.far hfz (fun b hb => by rw [hb]; exact ⟨HN8.out.2.2.1, HN8.out.2.1, HN8.out.2.2.2⟩) hty
        have HFZ : Hid (RF (fun b => b = Rb ∨ b = N8) Z q A' n' c' S' LL') := HF_Vsn.out.far hfz (fun b hb => .inr hb) hty
        have HZ8 : Hid (Z.heap[N8]? = some (.cells #[.int .i64 s'.gap, .int .i64 s'.words, .int .i64 s'.room, .slice A' n' c', .int .i64 s'.next, .int .i64 s'.rl] 27 (0, 0))) := by unfold Hid; rw [← hZ]; simpa using (set_at (set_at (set_at (set_at (set_at (set_at HN8.out.1 0 (.int .i64 s'.gap)) 1 (.int .i64 s'.words)) 2 (.int .i64 s'.room)) 3 (.slice A' n' c')) 4 (.int .i64 s'.next)) 5 (.int .i64 s'.rl))
        have HOZ := Lib.hid (HO_Vsn.out.low (hfz.below (fun b hb => by rw [hb]; exact HN8.out.2.2.2) HP_Vsn.out.nil))
        have hh : Z.cell? ⟨b, off + i * 3, none⟩ = some (.int .i64 kd) ∧ Z.cell? ⟨b, off + i * 3 + 1, none⟩ = some (.int .i64 now) ∧ Z.cell? ⟨b, off + i * 3 + 2, none⟩ = some (.slice Am m cm) ∧ Z.cell? ⟨Rb, 0, none⟩ = some (.int .i64 s.gap) ∧ Z.cell? ⟨Rb, 1, none⟩ = some (.int .i64 s.words) ∧ Z.cell? ⟨Rb, 2, none⟩ = some (.int .i64 s.room) ∧ Z.cell? ⟨Rb, 3, none⟩ = some (.slice A n c) ∧ Z.cell? ⟨Rb, 4, none⟩ = some (.int .i64 s.next) ∧ Z.cell? ⟨Rb, 5, none⟩ = some (.int .i64 s.rl) := ⟨HOZ.out.c0, HOZ.out.c1, HOZ.out.c2, by rw [(row_cell HPZ.out.bx 0).1]; rfl, by rw [(row_cell HPZ.out.bx 1).1]; rfl, by rw [(row_cell HPZ.out.bx 2).1]; rfl, by rw [(row_cell HPZ.out.bx 3).1]; rfl, by rw [(row_cell HPZ.out.bx 4).1]; rfl, by rw [(row_cell HPZ.out.bx 5).1]; rfl⟩
        try go_simp
        try rw [hZ]
        refine hK.out _ _ hh (fun hHeld => ?_)
        clear hfz hty hZ z0 z1 z2 z3 z4 z5 zf0 zf1 zf2 zf3 zf4 zf5
        clear hK K0
        try simp only [Act.put, List.getElem_toArray, List.getElem_cons_succ, List.getElem_cons_zero, List.setIfInBounds_toArray, List.set_cons_zero, List.set_cons_succ]
        refine takeD (i := 12) (d := some 9) (v := ?_) _ rfl rfl (by kernel_rfl) (by kernel_rfl) (by kernel_rfl) (fun _ _ _ h => h) (by rfl) ?_ hh ?_
        rotate_left
        · (intro w hSw; (try dsimp only at hSw); go_simp) <;> with_reducible rfl
        try simp only [Act.put, List.setIfInBounds_toArray, List.set_cons_zero, List.set_cons_succ]
        refine wpAnyH_done (by kernel_rfl) ?_ _
        clear hh hHeld HP_Vsn HF_Vsn HO_Vsn
        go_wp2_with fail
        go_meet
        case rel => exact ⟨⟨N8, q, s', s, LL', A', A, n', n, c', c, S', rfl, rfl, HPZ.out, HFZ.out, HZ8.out, HN8.out.2.1, HN8.out.2.2.1, HN8.out.2.2.2⟩⟩
      · obtain ⟨Vn, h_Vn⟩ : ∃ W, V.alloc (.cells #[.int .i64 0, .int .i64 0, .int .i64 0, .slice none 0 0, .int .i64 0, .int .i64 0] 27) = W := ⟨_, rfl⟩
        obtain ⟨N8, h_N8⟩ : ∃ vb, V.heap.size = vb := ⟨_, rfl⟩
        have b_Vn : Below V.heap.size V Vn := by rw [← h_Vn]; exact (Below.refl _ _).alloc (Nat.le_refl _) _
        have HN8 : Hid (Vn.heap[N8]? = some (.cells #[.int .i64 0, .int .i64 0, .int .i64 0, .slice none 0 0, .int .i64 0, .int .i64 0] 27 (0, 0)) ∧ N8 ≠ Rb ∧ ¬ p N8 ∧ lo ≤ N8) := ⟨by rw [← h_Vn, ← h_N8]; exact heap_alloc_new _ _, by have := HP_V.out.blt; omega, fun hq => by have := (HP_V.out.sv.low _ hq).2; omega, by have := HP_V.out.nil; omega⟩
        have HP_Vn := Lib.hid (HP_V.out.below b_Vn)
        have HF_Vn := Lib.hid ((HF_V.out.add b_Vn).imp (E' := (fun b => b = Rb ∨ b = N8)) fun b hb => by rcases hb with h1 | h1; exact .inl h1; exact .inr (by omega))
        have HO_Vn := Lib.hid (HO_V.out.low (b_Vn.mono HP_V.out.nil))
        have hh : Vn.cell? ⟨b, off + i * 3, none⟩ = some (.int .i64 kd) ∧ Vn.cell? ⟨b, off + i * 3 + 1, none⟩ = some (.int .i64 now) ∧ Vn.cell? ⟨b, off + i * 3 + 2, none⟩ = some (.slice Am m cm) ∧ Vn.cell? ⟨Rb, 0, none⟩ = some (.int .i64 s.gap) ∧ Vn.cell? ⟨Rb, 1, none⟩ = some (.int .i64 s.words) ∧ Vn.cell? ⟨Rb, 2, none⟩ = some (.int .i64 s.room) ∧ Vn.cell? ⟨Rb, 3, none⟩ = some (.slice A n c) ∧ Vn.cell? ⟨Rb, 4, none⟩ = some (.int .i64 s.next) ∧ Vn.cell? ⟨Rb, 5, none⟩ = some (.int .i64 s.rl) := ⟨HO_Vn.out.c0, HO_Vn.out.c1, HO_Vn.out.c2, by rw [(row_cell HP_Vn.out.bx 0).1]; rfl, by rw [(row_cell HP_Vn.out.bx 1).1]; rfl, by rw [(row_cell HP_Vn.out.bx 2).1]; rfl, by rw [(row_cell HP_Vn.out.bx 3).1]; rfl, by rw [(row_cell HP_Vn.out.bx 4).1]; rfl, by rw [(row_cell HP_Vn.out.bx 5).1]; rfl⟩
        try go_simp
        try rw [h_Vn]
        try rw [h_N8]
        refine hK.out _ _ hh (fun hHeld => ?_)
        clear h_Vn h_N8 b_Vn hHeld hh
        clear hK K0
        try simp only [Act.put, List.getElem_toArray, List.getElem_cons_succ, List.getElem_cons_zero, List.setIfInBounds_toArray, List.set_cons_zero, List.set_cons_succ]
        refine wpAnyH_ready (rs := [6]) (by kernel_rfl) (by simp) ?_
        refine AllReadyH.cons rfl (fun K0 hK => ?_) (AllReadyH.nil)
        try go_simp
        go_at_call 12
        refine (send_any g p (fun b => ¬ p b ∧ ¬ (fun b => b = Rb ∨ b = N8) b) (fun b => b < lo) g s LL A n c S kd now Am m cm M Vn HP_Vn.out.sv HF_Vn.out.rl (fun b hb => hb.1) HF_Vn.out.rm HF_Vn.out.cp HO_Vn.out.mq HO_Vn.out.mc HO_Vn.out.mn).mono ?_
        rintro e Vns ⟨q, s', LL', A', n', c', S', rfl, q5, n5, sq5, ms5, hc5⟩
        have HP_Vns : Hid (PL lo g Rb w Vns q g s' LL' s A n c) := HP_Vn.out.op q5 n5
        have HF_Vns : Hid (RF (fun b => b = Rb ∨ b = N8) Vns q A' n' c' S' LL') := RF.of_send (fun b hb => by rcases hb with h1 | h1; rw [h1]; exact HP_Vn.out.blt; rw [h1]; exact (Array.getElem?_eq_some_iff.1 HN8.out.1).1) sq5 ms5 hc5
        have HO_Vns := Lib.hid (HO_Vn.out.low ((HP_Vn.out.sv.nx n5).mono HP_Vn.out.ll.2))
        have HN8 : Hid (Vns.heap[N8]? = some (.cells #[.int .i64 0, .int .i64 0, .int .i64 0, .slice none 0 0, .int .i64 0, .int .i64 0] 27 (0, 0)) ∧ N8 ≠ Rb ∧ ¬ q N8 ∧ lo ≤ N8) := ⟨(n5.fo.block _ (Array.getElem?_eq_some_iff.1 HN8.out.1).1 HN8.out.2.2.1).trans HN8.out.1, HN8.out.2.1, fun hq => by rcases n5.sub _ hq with h1 | h1; exact HN8.out.2.2.1 h1; have := (Array.getElem?_eq_some_iff.1 HN8.out.1).1; omega, HN8.out.2.2.2⟩
        have hh : Vns.cell? ⟨b, off + i * 3, none⟩ = some (.int .i64 kd) ∧ Vns.cell? ⟨b, off + i * 3 + 1, none⟩ = some (.int .i64 now) ∧ Vns.cell? ⟨b, off + i * 3 + 2, none⟩ = some (.slice Am m cm) ∧ Vns.cell? ⟨Rb, 0, none⟩ = some (.int .i64 s.gap) ∧ Vns.cell? ⟨Rb, 1, none⟩ = some (.int .i64 s.words) ∧ Vns.cell? ⟨Rb, 2, none⟩ = some (.int .i64 s.room) ∧ Vns.cell? ⟨Rb, 3, none⟩ = some (.slice A n c) ∧ Vns.cell? ⟨Rb, 4, none⟩ = some (.int .i64 s.next) ∧ Vns.cell? ⟨Rb, 5, none⟩ = some (.int .i64 s.rl) := ⟨HO_Vns.out.c0, HO_Vns.out.c1, HO_Vns.out.c2, by rw [(row_cell HP_Vns.out.bx 0).1]; rfl, by rw [(row_cell HP_Vns.out.bx 1).1]; rfl, by rw [(row_cell HP_Vns.out.bx 2).1]; rfl, by rw [(row_cell HP_Vns.out.bx 3).1]; rfl, by rw [(row_cell HP_Vns.out.bx 4).1]; rfl, by rw [(row_cell HP_Vns.out.bx 5).1]; rfl⟩
        clear q5 n5 sq5 ms5 hc5
        try go_wp2_with fail
        refine hK.out _ _ hh (fun hHeld => ?_)
        clear hh
        clear hK K0
        try simp only [Act.put, List.getElem_toArray, List.getElem_cons_succ, List.getElem_cons_zero, List.setIfInBounds_toArray, List.set_cons_zero, List.set_cons_succ]
        refine takeD (i := 7) (d := some 31) (v := ?_) _ rfl rfl (by kernel_rfl) (by kernel_rfl) (by kernel_rfl) (fun _ _ _ h => h) (by rfl) ?_ hHeld ?_
        rotate_left
        · (intro w hSw; (try dsimp only at hSw); go_simp) <;> with_reducible rfl
        try simp only [Act.put, List.setIfInBounds_toArray, List.set_cons_zero, List.set_cons_succ]
        refine takeD (i := 8) (d := some 39) (v := ?_) _ rfl rfl (by kernel_rfl) (by kernel_rfl) (by kernel_rfl) (fun _ _ _ h => h) (by rfl) ?_ hHeld ?_
        rotate_left
        · (intro w hSw; (try dsimp only at hSw); go_simp) <;> with_reducible rfl
        try simp only [Act.put, List.setIfInBounds_toArray, List.set_cons_zero, List.set_cons_succ]
        refine takeD (i := 9) (d := some 40) (v := ?_) _ rfl rfl (by kernel_rfl) (by kernel_rfl) (by kernel_rfl) (fun _ _ _ h => h) (by rfl) ?_ hHeld ?_
        rotate_left
        · (intro w hSw; (try dsimp only at hSw); go_simp) <;> with_reducible rfl
        try simp only [Act.put, List.setIfInBounds_toArray, List.set_cons_zero, List.set_cons_succ]
        clear hHeld
        have z0 : Vns.cell? ⟨N8, 0, none⟩ = some (.int .i64 0) := by rw [(row_cell HN8.out.1 0).1]; rfl
        have z1 : Vns.cell? ⟨N8, 1, none⟩ = some (.int .i64 0) := by rw [(row_cell HN8.out.1 1).1]; rfl
        have z2 : Vns.cell? ⟨N8, 2, none⟩ = some (.int .i64 0) := by rw [(row_cell HN8.out.1 2).1]; rfl
        have z3 : Vns.cell? ⟨N8, 3, none⟩ = some (.slice none 0 0) := by rw [(row_cell HN8.out.1 3).1]; rfl
        have z4 : Vns.cell? ⟨N8, 4, none⟩ = some (.int .i64 0) := by rw [(row_cell HN8.out.1 4).1]; rfl
        have z5 : Vns.cell? ⟨N8, 5, none⟩ = some (.int .i64 0) := by rw [(row_cell HN8.out.1 5).1]; rfl
        have zf0 : Vns.frozen? ⟨N8, 0, none⟩ = false := (row_cell HN8.out.1 0).2
        have zf1 : Vns.frozen? ⟨N8, 1, none⟩ = false := (row_cell HN8.out.1 1).2
        have zf2 : Vns.frozen? ⟨N8, 2, none⟩ = false := (row_cell HN8.out.1 2).2
        have zf3 : Vns.frozen? ⟨N8, 3, none⟩ = false := (row_cell HN8.out.1 3).2
        have zf4 : Vns.frozen? ⟨N8, 4, none⟩ = false := (row_cell HN8.out.1 4).2
        have zf5 : Vns.frozen? ⟨N8, 5, none⟩ = false := (row_cell HN8.out.1 5).2
        refine wpAnyH_ready (rs := [11]) (by kernel_rfl) (by simp) ?_
        refine AllReadyH.cons rfl (fun K0 hK => ?_) (AllReadyH.nil)
        obtain ⟨Z, hZ⟩ : ∃ Z, ((((((Vns.setCell ⟨N8, 0, none⟩ (.int .i64 s'.gap)).setCell ⟨N8, 1, none⟩ (.int .i64 s'.words)).setCell ⟨N8, 2, none⟩ (.int .i64 s'.room)).setCell ⟨N8, 3, none⟩ (.slice A' n' c')).setCell ⟨N8, 4, none⟩ (.int .i64 s'.next)).setCell ⟨N8, 5, none⟩ (.int .i64 s'.rl)) = Z := ⟨_, rfl⟩
        have hfz : Fo (fun b => b = N8) Vns Z := by rw [← hZ]; exact (((((((Fo.refl (fun b => b = N8) Vns).setCell (.inl rfl) 0 _).setCell (.inl rfl) 1 _).setCell (.inl rfl) 2 _).setCell (.inl rfl) 3 _).setCell (.inl rfl) 4 _).setCell (.inl rfl) 5 _)
        have hty : Ty Vns (fun b => b = N8) := fun b hb _ => by subst hb; exact ⟨_, _, _, HN8.out.1, by decide⟩
        have HPZ : Hid (PL lo g Rb w Z q g s' LL' s A n c) := HP_Vns.out.far hfz (fun b hb => by rw [hb]; exact ⟨HN8.out.2.2.1, HN8.out.2.1, HN8.out.2.2.2⟩) hty
        have HFZ : Hid (RF (fun b => b = Rb ∨ b = N8) Z q A' n' c' S' LL') := HF_Vns.out.far hfz (fun b hb => .inr hb) hty
        have HZ8 : Hid (Z.heap[N8]? = some (.cells #[.int .i64 s'.gap, .int .i64 s'.words, .int .i64 s'.room, .slice A' n' c', .int .i64 s'.next, .int .i64 s'.rl] 27 (0, 0))) := by unfold Hid; rw [← hZ]; simpa using (set_at (set_at (set_at (set_at (set_at (set_at HN8.out.1 0 (.int .i64 s'.gap)) 1 (.int .i64 s'.words)) 2 (.int .i64 s'.room)) 3 (.slice A' n' c')) 4 (.int .i64 s'.next)) 5 (.int .i64 s'.rl))
        have HOZ := Lib.hid (HO_Vns.out.low (hfz.below (fun b hb => by rw [hb]; exact HN8.out.2.2.2) HP_Vns.out.nil))
        have hh : Z.cell? ⟨b, off + i * 3, none⟩ = some (.int .i64 kd) ∧ Z.cell? ⟨b, off + i * 3 + 1, none⟩ = some (.int .i64 now) ∧ Z.cell? ⟨b, off + i * 3 + 2, none⟩ = some (.slice Am m cm) ∧ Z.cell? ⟨Rb, 0, none⟩ = some (.int .i64 s.gap) ∧ Z.cell? ⟨Rb, 1, none⟩ = some (.int .i64 s.words) ∧ Z.cell? ⟨Rb, 2, none⟩ = some (.int .i64 s.room) ∧ Z.cell? ⟨Rb, 3, none⟩ = some (.slice A n c) ∧ Z.cell? ⟨Rb, 4, none⟩ = some (.int .i64 s.next) ∧ Z.cell? ⟨Rb, 5, none⟩ = some (.int .i64 s.rl) := ⟨HOZ.out.c0, HOZ.out.c1, HOZ.out.c2, by rw [(row_cell HPZ.out.bx 0).1]; rfl, by rw [(row_cell HPZ.out.bx 1).1]; rfl, by rw [(row_cell HPZ.out.bx 2).1]; rfl, by rw [(row_cell HPZ.out.bx 3).1]; rfl, by rw [(row_cell HPZ.out.bx 4).1]; rfl, by rw [(row_cell HPZ.out.bx 5).1]; rfl⟩
        try go_simp
        try rw [hZ]
        refine hK.out _ _ hh (fun hHeld => ?_)
        clear hfz hty hZ z0 z1 z2 z3 z4 z5 zf0 zf1 zf2 zf3 zf4 zf5
        clear hK K0
        try simp only [Act.put, List.getElem_toArray, List.getElem_cons_succ, List.getElem_cons_zero, List.setIfInBounds_toArray, List.set_cons_zero, List.set_cons_succ]
        refine takeD (i := 12) (d := some 9) (v := ?_) _ rfl rfl (by kernel_rfl) (by kernel_rfl) (by kernel_rfl) (fun _ _ _ h => h) (by rfl) ?_ hh ?_
        rotate_left
        · (intro w hSw; (try dsimp only at hSw); go_simp) <;> with_reducible rfl
        try simp only [Act.put, List.setIfInBounds_toArray, List.set_cons_zero, List.set_cons_succ]
        refine wpAnyH_done (by kernel_rfl) ?_ _
        clear hh hHeld HP_Vns HF_Vns HO_Vns
        go_wp2_with fail
        go_meet
        case rel => exact ⟨⟨N8, q, s', s, LL', A', A, n', n, c', c, S', rfl, rfl, HPZ.out, HFZ.out, HZ8.out, HN8.out.2.1, HN8.out.2.2.1, HN8.out.2.2.2⟩⟩
    case rest =>
      obtain ⟨⟨N8, p, s, sb, LL, A, Ab, n, nb, c, cb, S, rfl, rfl, hp, hf, hn8, hne, hnp, hnl⟩⟩ := hcut
      obtain ⟨wd, hwd⟩ : ∃ x, wc = x := ⟨_, rfl⟩
      subst hwd
      have HPC := Lib.hid hp
      have HFC := Lib.hid hf
      have HN8 : Hid (wc.heap[N8]? = some (.cells #[.int .i64 s.gap, .int .i64 s.words, .int .i64 s.room, .slice A n c, .int .i64 s.next, .int .i64 s.rl] 27 (0, 0))) := hn8
      clear hp hf hn8 y0 y1 y2 x0 x1 x2 x3 x4 x5
      obtain ⟨Z, hZ⟩ : ∃ Z, ((((((wc.setCell ⟨Rb, 0, none⟩ (.int .i64 s.gap)).setCell ⟨Rb, 1, none⟩ (.int .i64 s.words)).setCell ⟨Rb, 2, none⟩ (.int .i64 s.room)).setCell ⟨Rb, 3, none⟩ (.slice A n c)).setCell ⟨Rb, 4, none⟩ (.int .i64 s.next)).setCell ⟨Rb, 5, none⟩ (.int .i64 s.rl)) = Z := ⟨_, rfl⟩
      have hfz : Fo (fun b => b = Rb) wc Z := by rw [← hZ]; exact (((((((Fo.refl (fun b => b = Rb) wc).setCell (.inl rfl) 0 _).setCell (.inl rfl) 1 _).setCell (.inl rfl) 2 _).setCell (.inl rfl) 3 _).setCell (.inl rfl) 4 _).setCell (.inl rfl) 5 _)
      have HPZ : Hid (PL lo g Rb w Z p g s LL s A n c) := HPC.out.box hfz (by rw [← hZ]; simpa using (set_at (set_at (set_at (set_at (set_at (set_at HPC.out.bx 0 (.int .i64 s.gap)) 1 (.int .i64 s.words)) 2 (.int .i64 s.room)) 3 (.slice A n c)) 4 (.int .i64 s.next)) 5 (.int .i64 s.rl)))
      have HFZ : Hid (RF (fun b => b = Rb) Z p A n c S LL) := (HFC.out.imp fun b hb => .inl hb).far hfz (fun b hb => hb) HPC.out.ty
      clear hfz
      have z0 : wc.cell? ⟨N8, 0, none⟩ = some (.int .i64 s.gap) := by rw [(row_cell HN8.out 0).1]; rfl
      have z1 : wc.cell? ⟨N8, 1, none⟩ = some (.int .i64 s.words) := by rw [(row_cell HN8.out 1).1]; rfl
      have z2 : wc.cell? ⟨N8, 2, none⟩ = some (.int .i64 s.room) := by rw [(row_cell HN8.out 2).1]; rfl
      have z3 : wc.cell? ⟨N8, 3, none⟩ = some (.slice A n c) := by rw [(row_cell HN8.out 3).1]; rfl
      have z4 : wc.cell? ⟨N8, 4, none⟩ = some (.int .i64 s.next) := by rw [(row_cell HN8.out 4).1]; rfl
      have z5 : wc.cell? ⟨N8, 5, none⟩ = some (.int .i64 s.rl) := by rw [(row_cell HN8.out 5).1]; rfl
      have x0 : wc.cell? ⟨Rb, 0, none⟩ = some (.int .i64 sb.gap) := by rw [(row_cell HPC.out.bx 0).1]; rfl
      have x1 : wc.cell? ⟨Rb, 1, none⟩ = some (.int .i64 sb.words) := by rw [(row_cell HPC.out.bx 1).1]; rfl
      have x2 : wc.cell? ⟨Rb, 2, none⟩ = some (.int .i64 sb.room) := by rw [(row_cell HPC.out.bx 2).1]; rfl
      have x3 : wc.cell? ⟨Rb, 3, none⟩ = some (.slice Ab nb cb) := by rw [(row_cell HPC.out.bx 3).1]; rfl
      have x4 : wc.cell? ⟨Rb, 4, none⟩ = some (.int .i64 sb.next) := by rw [(row_cell HPC.out.bx 4).1]; rfl
      have x5 : wc.cell? ⟨Rb, 5, none⟩ = some (.int .i64 sb.rl) := by rw [(row_cell HPC.out.bx 5).1]; rfl
      have xf0 : wc.frozen? ⟨Rb, 0, none⟩ = false := (row_cell HPC.out.bx 0).2
      have xf1 : wc.frozen? ⟨Rb, 1, none⟩ = false := (row_cell HPC.out.bx 1).2
      have xf2 : wc.frozen? ⟨Rb, 2, none⟩ = false := (row_cell HPC.out.bx 2).2
      have xf3 : wc.frozen? ⟨Rb, 3, none⟩ = false := (row_cell HPC.out.bx 3).2
      have xf4 : wc.frozen? ⟨Rb, 4, none⟩ = false := (row_cell HPC.out.bx 4).2
      have xf5 : wc.frozen? ⟨Rb, 5, none⟩ = false := (row_cell HPC.out.bx 5).2
      go_wp2_with fail
      go_roundw
      case rel =>
        have Q : LsR lo g Rb len w (.int .i64 ((i : Int) + 1)) Z := ⟨⟨i + 1, p, s, LL, A, n, c, S, by have := HX.out; omega, by have := HX.out; omega, by go_num, HPZ.out, HFZ.out⟩⟩
        first | exact Q | ((repeat apply Exists.intro); exact ⟨Q, rfl⟩)
      case measure => have := HX.out; simp [intOf]; omega
end Go.Proofs.Ytkbjonblflhkoaa.Ln
