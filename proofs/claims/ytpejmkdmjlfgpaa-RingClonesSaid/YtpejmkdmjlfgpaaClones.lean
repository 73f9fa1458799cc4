/-
  RingClones' walk: a Clone is the same, and goes its own way.
-/
import Derived.Test.YtpejmkdmjlfgpaaEqual
import Derived.Test.YtpejmkdmjlfgpaaCloneR
import Derived.Test.YtpejmkdmjlfgpaaPtr
namespace Go.Proofs.Ytpejmkdmjlfgpaa
open Go.RowKit
set_option linter.unusedSimpArgs false
set_option linter.unusedVariables false
structure Rel1 (w : World) (g bw n m len : Nat) (i : Value) (wr : World) : Prop where
  ex : ∃ (j : Nat) (A : Option Addr) (c f : Nat) (L : List (List Int)), j ≤ len ∧ j ≤ 60 ∧ i = .int .i64 (j : Int) ∧ Box wr bw (.int .i64 (n : Int)) (.int .i64 (m : Int)) (.slice A L.length c) ∧ RingF wr (Off g bw) g n m f L ∧ RefR wr (Off g bw) A c L ∧ Below w.heap.size w wr
/-- The blocks that are neither ring's nor box's. -/
def Off4 (g gc bw bx : Nat) (b : Nat) : Prop := b ≠ g ∧ b ≠ gc ∧ b ≠ bw ∧ b ≠ bx
structure Rel2 (w : World) (g gc bw bx n m len : Nat) (A : Option Addr) (c : Nat) (L : List (List Int)) (i : Value) (wr : World) : Prop where
  ex : ∃ (j : Nat) (A2 : Option Addr) (c2 f f2 : Nat) (L2 : List (List Int)), j ≤ len ∧ j ≤ 60 ∧ i = .int .i64 (j : Int) ∧ Box wr bw (.int .i64 (n : Int)) (.int .i64 (m : Int)) (.slice A L.length c) ∧ RingF wr (Off4 g gc bw bx) g n m f L ∧ RefR wr (Off4 g gc bw bx) A c L ∧
    Box wr bx (.int .i64 (n : Int)) (.int .i64 (m : Int)) (.slice A2 L2.length c2) ∧ RingF wr (Off4 g gc bw bx) gc n m f2 L2 ∧ RefR wr (Off4 g gc bw bx) A2 c2 L2 ∧ Below w.heap.size w wr

set_option maxRecDepth 100000 in
set_option maxHeartbeats 16000000 in
theorem clones_walk (h0 h1' : Int) (a1 : Option Addr) (len1 cap1 : Nat) (a2 : Option Addr) (len2 cap2 : Nat) (w : World) (h1 : OpRow w a1 len1) (hlen1 : len1 ≤ maxLen) (h2 : OpRow w a2 len2) (hlen2 : len2 ≤ maxLen) :
    Calls Try.prog 6 #[.agg #[.int .i64 h0, .int .i64 h1'], .slice a1 len1 cap1, .slice a2 len2 cap2] w fun e w' => e = .returned (.bool true) ∧ Below w.heap.size w w' := by
  have H1 := Lib.hid h1
  have H2 := Lib.hid h2
  have HL1 := Lib.hid hlen1
  have HL2 := Lib.hid hlen2
  clear h1 h2 hlen1 hlen2
  go_enter Try.func6, Try.ntmps6
  go_wp2_with fail
  refine (begin_any h0 h1' _).mono ?_
  rintro e w1 ⟨n, m, g, rfl, R1, hg, b1⟩
  have b1 := ((Below.refl _ w).alloc (Nat.le_refl _) (.cells #[.int .i64 h0, .int .i64 h1'] 50)).trans (b1.mono (by simp))
  have hg : w.heap.size ≤ g := by simp at hg; omega
  go_wp2_with fail
  refine (told_any _).mono ?_
  rintro e w2 ⟨rfl, b2⟩
  have gl := R1.lt
  have X2 := (box_new w1 (.int .i64 (n : Int)) (.int .i64 (m : Int)) (.slice none 0 0) 26).below b2
  have B1A : Below w1.heap.size w1 (w1.alloc (.cells #[.int .i64 (n : Int), .int .i64 (m : Int), .slice none 0 0] 26)) := (Below.refl _ _).alloc (Nat.le_refl _) _
  have R2 := (R1.below (B1A.trans (b2.mono (by simp)))).more (Q' := Off g w1.heap.size) (fun b hb => hb.elim) (fun hh => hh.1 rfl)
  have B2 := b1.trans ((B1A.trans (b2.mono (by simp))).mono b1.size)
  obtain ⟨bw, hbw⟩ : ∃ bw, w1.heap.size = bw := ⟨_, rfl⟩
  have gbw : g ≠ bw := by omega
  have hwb : w.heap.size ≤ bw := by have := b1.size; omega
  rw [hbw] at X2 R2
  simp only [hbw]
  have GBW := Lib.hid gbw
  have HWB := Lib.hid hwb
  have HG := Lib.hid hg
  clear R1 b1 b2 B1A gl hbw gbw hwb hg
  go_wp2_with fail
  go_loopw [9] (fun i wr => Rel1 w g bw n m len1 i wr) (fun i _ => 60 - (intOf i).toNat)
  case atStart => exact ⟨⟨0, none, 0, 0, [], by omega, by omega, rfl, X2, R2, refR_nil _ _, B2⟩⟩
  case round =>
    clear X2 R2 B2
    obtain ⟨⟨j, A, c, f, L, hj, hj3, rfl, hX, hR, hM, hB⟩⟩ := hrel
    by_cases hgo : j < len1 ∧ j < 60
    · obtain ⟨hlt, h60⟩ := hgo
      have h60' : (j : Int) < 60 := by omega
      obtain ⟨b, off, K, Ao, Lo, Co, Mo, rfl, hc⟩ := H1.out (by omega)
      obtain ⟨c1, c2, hlc, hcm, hAn, hrd⟩ := hc j hlt
      obtain ⟨kj, hkj⟩ : ∃ kj, K j = kj := ⟨_, rfl⟩
      obtain ⟨Aj, hAj⟩ : ∃ Aj, Ao j = Aj := ⟨_, rfl⟩
      obtain ⟨Lj, hLj⟩ : ∃ Lj, Lo j = Lj := ⟨_, rfl⟩
      obtain ⟨Cj, hCj⟩ : ∃ Cj, Co j = Cj := ⟨_, rfl⟩
      obtain ⟨Mj, hMj⟩ : ∃ Mj, Mo j = Mj := ⟨_, rfl⟩
      rw [hkj] at c1
      rw [hAj, hLj, hCj] at c2
      rw [hLj, hCj] at hlc
      rw [hCj] at hcm
      rw [hAj, hCj] at hAn
      rw [hAj, hLj, hMj] at hrd
      have bl := World.block_lt_of_cell? _ _ c1
      have bl : b < w.heap.size := bl
      have c1 := cell_later hB c1
      have c2 := cell_later hB c2
      obtain ⟨NL, hNL⟩ : ∃ NL, L.length = NL := ⟨_, rfl⟩
      have HNL := Lib.hid hNL
      have X0 := hX.c0
      have X1 := hX.c1
      have X2 := hX.c2
      rw [hNL] at X2
      have HX := Lib.hid hX
      have HR := Lib.hid hR
      have HM := Lib.hid hM
      have HB := Lib.hid hB
      have HRD := Lib.hid hrd
      have HLC := Lib.hid hlc
      have HCM := Lib.hid hcm
      have HAN := Lib.hid hAn
      have DO := Lib.hid fun (W : World) (hb : Below wr.heap.size wr W) => do_any W _ g n m f L (HR.out.narrow.below hb) _ A c (HM.out.narrow.below hb) (fun hh => hh.1.1 rfl) kj Aj Lj Cj Mj HAN.out (((HRD.out.below HB.out).more HB.out.size |>.below hb).more hb.size) HLC.out HCM.out
      rw [hNL] at DO
      have glw := hR.lt
      have bwl := hX.lt
      have hws := hB.size
      have bg : b ≠ g := by have := HG.out; omega
      have bxb : bw ≠ b := by have := HWB.out; omega
      have bxg : bw ≠ g := GBW.out.symm
      clear hX hR hM hB hrd hlc hcm hAn hkj hAj hLj hCj hMj hc hNL
      go_wp2_with fail
      refine wp_region_held_drew (S := (fun w' => wr.heap.size ≤ w'.heap.size ∧ w'.cell? ⟨b, off + j * 2, none⟩ = some (.int .i64 kj) ∧ w'.cell? ⟨b, off + j * 2 + 1, none⟩ = some (.slice Aj Lj Cj))) (by kernel_rfl) ?_ (fun hHeld => ?_)
      · exact ⟨Nat.le_refl _, c1, c2⟩
      refine takeD (i := 0) (d := some 40) (v := ?_) _ rfl rfl (by kernel_rfl) (by kernel_rfl) (by kernel_rfl) (fun _ _ _ h => h) (by rfl) ?_ (by assumption) ?_
      rotate_left
      · (intro w hSw; (try dsimp only at hSw); go_simp) <;> with_reducible rfl
      try simp only [Act.put, List.setIfInBounds_toArray, List.set_cons_zero, List.set_cons_succ]
      refine takeD (i := 2) (d := some 42) (v := ?_) _ rfl rfl (by kernel_rfl) (by kernel_rfl) (by kernel_rfl) (fun _ _ _ h => h) (by rfl) ?_ (by assumption) ?_
      rotate_left
      · (intro w hSw; (try dsimp only at hSw); go_simp) <;> with_reducible rfl
      try simp only [Act.put, List.setIfInBounds_toArray, List.set_cons_zero, List.set_cons_succ]
      refine takeD (i := 3) (d := some 43) (v := ?_) _ rfl rfl (by kernel_rfl) (by kernel_rfl) (by kernel_rfl) (fun _ _ _ h => h) (by rfl) ?_ (by assumption) ?_
      rotate_left
      · (intro w hSw; (try dsimp only at hSw); go_simp) <;> with_reducible rfl
      try simp only [Act.put, List.setIfInBounds_toArray, List.set_cons_zero, List.set_cons_succ]
      refine takeD (i := 4) (d := some 44) (v := ?_) _ rfl rfl (by kernel_rfl) (by kernel_rfl) (by kernel_rfl) (fun _ _ _ h => h) (by rfl) ?_ (by assumption) ?_
      rotate_left
      · (intro w hSw; (try dsimp only at hSw); go_simp) <;> with_reducible rfl
      try simp only [Act.put, List.setIfInBounds_toArray, List.set_cons_zero, List.set_cons_succ]
      refine takeD (i := 5) (d := some 45) (v := ?_) _ rfl rfl (by kernel_rfl) (by kernel_rfl) (by kernel_rfl) (fun _ _ _ h => h) (by rfl) ?_ (by assumption) ?_
      rotate_left
      · (intro w hSw; (try dsimp only at hSw); go_simp) <;> with_reducible rfl
      try simp only [Act.put, List.setIfInBounds_toArray, List.set_cons_zero, List.set_cons_succ]
      refine wpAnyH_ready (rs := [1]) (by kernel_rfl) (by simp) ?_
      refine AllReadyH.cons rfl (fun K hK => ?_) AllReadyH.nil
      go_simp
      refine hK.out _ _ ?_ (fun hHeld => ?_)
      · assumption
      clear hK K
      try simp only [Act.put, List.setIfInBounds_toArray, List.set_cons_zero, List.set_cons_succ]
      have HP := hHeld
      refine wpAnyH_ready (rs := [6]) (by kernel_rfl) (by simp) ?_
      refine AllReadyH.cons rfl (fun K hK => ?_) AllReadyH.nil
      (go_simp; go_at_call 11; refine (DO.out _ ((Below.refl wr.heap.size wr).drew)).mono ?_; rintro e wd ⟨A', c', f', L', rfl, hring, href, hpast⟩; try go_wp2_with fail)
      refine hK.out _ _ ?_ (fun hHeld => ?_)
      · exact ⟨Nat.le_trans HP.1 hpast.size, past_cell hpast bg HP.2.1, past_cell hpast bg HP.2.2⟩
      clear hK K
      try simp only [Act.put, List.setIfInBounds_toArray, List.set_cons_zero, List.set_cons_succ]
      have HP := hHeld
      refine takeD (i := 7) (d := some 39) (v := ?_) _ rfl rfl (by kernel_rfl) (by kernel_rfl) (by kernel_rfl) (fun _ _ _ h => h) (by rfl) ?_ (by assumption) ?_
      rotate_left
      · (intro w hSw; (try dsimp only at hSw); go_simp) <;> with_reducible rfl
      try simp only [Act.put, List.setIfInBounds_toArray, List.set_cons_zero, List.set_cons_succ]
      refine takeD (i := 8) (d := some 47) (v := ?_) _ rfl rfl (by kernel_rfl) (by kernel_rfl) (by kernel_rfl) (fun _ _ _ h => h) (by rfl) ?_ (by assumption) ?_
      rotate_left
      · (intro w hSw; (try dsimp only at hSw); go_simp) <;> with_reducible rfl
      try simp only [Act.put, List.setIfInBounds_toArray, List.set_cons_zero, List.set_cons_succ]
      refine takeD (i := 9) (d := some 48) (v := ?_) _ rfl rfl (by kernel_rfl) (by kernel_rfl) (by kernel_rfl) (fun _ _ _ h => h) (by rfl) ?_ (by assumption) ?_
      rotate_left
      · (intro w hSw; (try dsimp only at hSw); go_simp) <;> with_reducible rfl
      try simp only [Act.put, List.setIfInBounds_toArray, List.set_cons_zero, List.set_cons_succ]
      have hpast' : Past g wr wd := ((Past.refl g wr).drew).trans hpast
      have ZB := HX.out.past hpast' bxg
      have z0 := ZB.c0
      have z1 := ZB.c1
      have z2 := ZB.c2
      have zf := ZB.fz
      refine wpAnyH_ready (rs := [10]) (by kernel_rfl) (by simp) ?_
      refine AllReadyH.cons rfl (fun K hK => ?_) AllReadyH.nil
      go_simp
      refine hK.out _ _ ?_ (fun hHeld => ?_)
      · exact ⟨by simpa [World.setCell] using HP.1, (far3 bxb _ _ _).trans HP.2.1, (far3 bxb _ _ _).trans HP.2.2⟩
      clear hK K
      try simp only [Act.put, List.setIfInBounds_toArray, List.set_cons_zero, List.set_cons_succ]
      refine wpAnyH_done (by kernel_rfl) ?_ _
      have sd : wr.heap.size ≤ wd.heap.size := hpast'.size
      have RFn := Lib.hid ((hring.set3 (q := bw) (by omega) (fun hh => by
        rcases hh with h1 | h1
        · exact h1.1.2 rfl
        · have h1a : wr.heap.size ≤ bw := h1.1
          omega) (.int .i64 (n : Int)) (.int .i64 (m : Int)) (.slice A' L'.length c')).more (Q' := Off g bw) (fun b hb => by
        rcases hb with h1 | h1
        · exact h1.1
        · have h1a : wr.heap.size ≤ b := h1.1
          exact ⟨by omega, by omega⟩) (fun hh => hh.1 rfl))
      have RMn := Lib.hid ((href.set3 (tb := bw) (fun hh => by
        rcases hh with h1 | h1
        · exact h1.1.2 rfl
        · have h1a : wr.heap.size ≤ bw := h1.1
          omega) (.int .i64 (n : Int)) (.int .i64 (m : Int)) (.slice A' L'.length c')).more (Q' := Off g bw) (fun b _ hb => by
        rcases hb with h1 | h1
        · exact h1.1
        · have h1a : wr.heap.size ≤ b := h1.1
          exact ⟨by omega, by omega⟩))
      have BXn := Lib.hid (ZB.set3 (.int .i64 (n : Int)) (.int .i64 (m : Int)) (.slice A' L'.length c'))
      have BWn := Lib.hid (below3 (HB.out.trans (hpast'.below HG.out HB.out.size)) HWB.out (.int .i64 (n : Int)) (.int .i64 (m : Int)) (.slice A' L'.length c'))
      clear z0 z1 z2 zf ZB hring href hpast hpast'
      go_wp2_with fail
      go_roundw
      case rel => first | exact ⟨⟨j + 1, A', c', f', L', by omega, by omega, by go_num, BXn.out, RFn.out, RMn.out, BWn.out⟩⟩ | ((repeat apply Exists.intro); exact ⟨⟨⟨j + 1, A', c', f', L', by omega, by omega, by go_num, BXn.out, RFn.out, RMn.out, BWn.out⟩⟩, rfl⟩)
      case measure => simp [intOf]; omega
    · have hst : ¬ (j < len1 ∧ j < 60) := hgo
      rcases (show ¬ j < len1 ∨ (j < len1 ∧ ¬ j < 60) by omega) with hl | ⟨hl, h60⟩
      all_goals
        have CL := Lib.hid (cloneR_any wr _ g n m f L hR)
        obtain ⟨gc, hgc⟩ : ∃ gc, wr.heap.size = gc := ⟨_, rfl⟩
        have glt := hR.lt
        have bwl := hX.lt
        have gcg : gc ≠ g := by omega
        have gcbw : gc ≠ bw := by omega
        have hwgc : w.heap.size ≤ gc := by have := hB.size; omega
        rw [hgc] at CL
        obtain ⟨NL, hNL⟩ : ∃ NL, L.length = NL := ⟨_, rfl⟩
        rw [hNL] at hX
        have HNL := Lib.hid hNL
        have HX := Lib.hid hX
        have HR := Lib.hid hR
        have HM := Lib.hid hM
        have HB := Lib.hid hB
        have HGC := Lib.hid hgc
        have HGCG := Lib.hid gcg
        have HGCB := Lib.hid gcbw
        have HWGC := Lib.hid hwgc
        have HGLT : Hid (g < gc) := by unfold Hid; omega
        have HBLT : Hid (bw < gc) := by unfold Hid; omega
        clear hX hR hM hB glt bwl hNL hgo hst hj hj3 hgc gcg gcbw hwgc
        go_wp2_with fail
        refine CL.out.mono ?_
        rintro e w3 ⟨rfl, RC, b3⟩
        have b3 : Below wr.heap.size wr w3 := by rw [HGC.out]; exact b3
        have R3 := HR.out.narrow.below b3
        have SC := sameR_any w3 _ _ gc n m 0 g n m f L L RC R3
        rw [decide_eq_true ⟨rfl, rfl, rfl⟩] at SC
        have HSC := Lib.hid SC
        have he := run_ptr_far HGCG.out RC.cell0 R3.cell0 RC.free R3.free
        have HRC := Lib.hid RC
        have HR3 := Lib.hid R3
        have HM3 := Lib.hid (HM.out.narrow.below b3)
        have HX3 := Lib.hid (HX.out.below b3)
        have HB3 := Lib.hid (HB.out.trans (b3.mono HB.out.size))
        rw [HGC.out] at R3
        have HM3 := Lib.hid (by have := HM3.out; rw [HGC.out] at this; exact this)
        have S3 := Lib.hid b3.size
        have HW3 : Hid (w3.heap.size ≤ w3.heap.size) := Nat.le_refl _
        clear RC R3 SC b3 CL
        go_wp2_with fail
        refine HSC.out.mono ?_
        rintro e w4 ⟨rfl, b4⟩
        have RC4 := HRC.out.below b4
        have R4 := HR3.out.below b4
        have SR := sameR_any w4 _ _ g n m f gc n m 0 L L R4 RC4
        rw [decide_eq_true ⟨rfl, rfl, rfl⟩] at SR
        have HSR := Lib.hid SR
        clear RC4 R4 SR HSC
        go_wp2_with fail
        refine HSR.out.mono ?_
        rintro e w5 ⟨rfl, b5⟩
        have b45 := b4.trans (b5.mono b4.size)
        clear b4 b5 HSR
        go_wp2_with fail
        refine (sameR_none w5 _).mono ?_
        rintro e w6 ⟨rfl, b6⟩
        have b36 := b45.trans (b6.mono b45.size)
        have HX6 := Lib.hid (HX3.out.below b36)
        have HR6 := Lib.hid (HR3.out.below b36)
        have HRC6 := Lib.hid (HRC.out.below b36)
        have HM6 := Lib.hid (HM3.out.below b36)
        have S36 := Lib.hid b36.size
        have HB6 := Lib.hid (HB3.out.trans (b36.mono HB3.out.size))
        have S6 := Lib.hid (Nat.le_trans S3.out b36.size)
        clear b45 b6 b36 HRC HR3 HM3 HX3 HB3 S3 HX HR HM HB he
        have x0 := HX6.out.c0
        have x1 := HX6.out.c1
        have x2 := HX6.out.c2
        go_wp2_with fail
        obtain ⟨bx, hbx⟩ : ∃ bx, w6.heap.size = bx := ⟨_, rfl⟩
        have gl6 := HR6.out.lt
        have gcl6 := HRC6.out.lt
        have bwl6 := HX6.out.lt
        have bxg : bx ≠ g := by omega
        have bxgc : bx ≠ gc := by omega
        have bxbw : bx ≠ bw := by omega
        have A6 : Below w6.heap.size w6 (w6.alloc (.cells #[.int .i64 (n : Int), .int .i64 (m : Int), .slice A NL c] 26)) := (Below.refl _ _).alloc (Nat.le_refl _) _
        have gcb : gc < bx := by omega
        have ggc : g < gc := by have := HGLT.out; omega
        have bwgc : bw < gc := by have := HBLT.out; omega
        have w3b : w3.heap.size ≤ bx := by have := S36.out; omega
        have P1 : Box (w6.alloc (.cells #[.int .i64 (n : Int), .int .i64 (m : Int), .slice A NL c] 26)) bw (.int .i64 (n : Int)) (.int .i64 (m : Int)) (.slice A L.length c) := by rw [HNL.out]; exact HX6.out.below A6
        have P2 := (HR6.out.below A6).more (Q' := Off4 g gc bw bx) (fun b hb => by
          have h2 := hb.2
          have h3 := HGC.out
          exact ⟨hb.1.1, by omega, hb.1.2, by omega⟩) (fun hh => hh.1 rfl)
        have P3 := (HM6.out.below A6).more (Q' := Off4 g gc bw bx) (fun b _ hb => by
          have h2 := hb.2
          have h3 := HGC.out
          exact ⟨hb.1.1, by omega, hb.1.2, by omega⟩)
        have P4 : Box (w6.alloc (.cells #[.int .i64 (n : Int), .int .i64 (m : Int), .slice A NL c] 26)) bx (.int .i64 (n : Int)) (.int .i64 (m : Int)) (.slice A L.length c) := by rw [HNL.out, ← hbx]; exact box_new w6 _ _ _ 26
        have P5 := (HRC6.out.below A6).more (Q' := Off4 g gc bw bx) (fun b hb => by
          have h1 := hb.1
          have h2 := hb.2
          exact ⟨by omega, by omega, by omega, by omega⟩) (fun hh => hh.2.1 rfl)
        have P6 := HB6.out.trans (A6.mono HB6.out.size)
        have HWX : Hid (w.heap.size ≤ bx) := by have := HWGC.out; unfold Hid; omega
        have HBXG := Lib.hid bxg
        have HBXGC := Lib.hid bxgc
        have HBXBW := Lib.hid bxbw
        have HGGC := Lib.hid ggc
        have HBWGC := Lib.hid bwgc
        simp only [hbx]
        clear gl6 gcl6 bwl6 A6 gcb ggc bwgc w3b x0 x1 x2 hbx bxg bxgc bxbw HX6 HR6 HRC6 HM6 HB6 S6
        go_loopw [12] (fun i wr => Rel2 w g gc bw bx n m len2 A c L i wr) (fun i _ => 60 - (intOf i).toNat)
        case atStart => exact ⟨⟨0, A, c, f, 0, L, by omega, by omega, rfl, P1, P2, P3, P4, P5, P3, P6⟩⟩
        case round =>
          clear P1 P2 P3 P4 P5 P6
          rename World => wr
          obtain ⟨⟨j, A2, cB, f1, f2, L2, hj, hj3, rfl, hX1, hR1, hM1, hX2, hR2, hM2, hB⟩⟩ := hrel
          by_cases hgo : j < len2 ∧ j < 60
          · obtain ⟨hlt, h60⟩ := hgo
            have h60' : (j : Int) < 60 := by omega
            obtain ⟨b, off, K, Ao, Lo, Co, Mo, rfl, hc⟩ := H2.out (by omega)
            obtain ⟨c1, c2, hlc, hcm, hAn, hrd⟩ := hc j hlt
            obtain ⟨kj, hkj⟩ : ∃ kj, K j = kj := ⟨_, rfl⟩
            obtain ⟨Aj, hAj⟩ : ∃ Aj, Ao j = Aj := ⟨_, rfl⟩
            obtain ⟨Lj, hLj⟩ : ∃ Lj, Lo j = Lj := ⟨_, rfl⟩
            obtain ⟨Cj, hCj⟩ : ∃ Cj, Co j = Cj := ⟨_, rfl⟩
            obtain ⟨Mj, hMj⟩ : ∃ Mj, Mo j = Mj := ⟨_, rfl⟩
            rw [hkj] at c1
            rw [hAj, hLj, hCj] at c2
            rw [hLj, hCj] at hlc
            rw [hCj] at hcm
            rw [hAj, hCj] at hAn
            rw [hAj, hLj, hMj] at hrd
            have bl := World.block_lt_of_cell? _ _ c1
            have bl : b < w.heap.size := bl
            have c1 := cell_later hB c1
            have c2 := cell_later hB c2
            have X0 := hX2.c0
            have X1 := hX2.c1
            obtain ⟨N0, hN0⟩ : ∃ N0, L2.length = N0 := ⟨_, rfl⟩
            have X2 := hX2.c2
            rw [hN0] at X2
            have HX := Lib.hid hX2
            have HR := Lib.hid hR2
            have HM := Lib.hid hM2
            have HX1 := Lib.hid hX1
            have HR1 := Lib.hid hR1
            have HM1 := Lib.hid hM1
            have HB := Lib.hid hB
            have HRD := Lib.hid hrd
            have HLC := Lib.hid hlc
            have HCM := Lib.hid hcm
            have HAN := Lib.hid hAn
            have DO := Lib.hid fun (W : World) (hb : Below wr.heap.size wr W) => do_any W _ gc n m f2 L2 (HR.out.narrow.below hb) _ A2 cB (HM.out.narrow.below hb) (fun hh => hh.1.2.1 rfl) kj Aj Lj Cj Mj HAN.out (((HRD.out.below HB.out).more HB.out.size |>.below hb).more hb.size) HLC.out HCM.out
            rw [hN0] at DO
            have glw := hR1.lt
            have gclw := hR2.lt
            have bwl := hX1.lt
            have bxl := hX2.lt
            have hws := hB.size
            have bg : b ≠ gc := by have := HWGC.out; omega
            have bxb : bx ≠ b := by have := HWX.out; omega
            have bxg : bx ≠ gc := HBXGC.out
            clear hX1 hR1 hM1 hX2 hR2 hM2 hB hrd hlc hcm hAn hkj hAj hLj hCj hMj hc hN0
            go_wp2_with fail
            refine wp_region_held_drew (S := (fun w' => wr.heap.size ≤ w'.heap.size ∧ w'.cell? ⟨b, off + j * 2, none⟩ = some (.int .i64 kj) ∧ w'.cell? ⟨b, off + j * 2 + 1, none⟩ = some (.slice Aj Lj Cj))) (by kernel_rfl) ?_ (fun hHeld => ?_)
            · exact ⟨Nat.le_refl _, c1, c2⟩
            refine takeD (i := 0) (d := some 86) (v := ?_) _ rfl rfl (by kernel_rfl) (by kernel_rfl) (by kernel_rfl) (fun _ _ _ h => h) (by rfl) ?_ (by assumption) ?_
            rotate_left
            · (intro w hSw; (try dsimp only at hSw); go_simp) <;> with_reducible rfl
            try simp only [Act.put, List.setIfInBounds_toArray, List.set_cons_zero, List.set_cons_succ]
            refine takeD (i := 2) (d := some 88) (v := ?_) _ rfl rfl (by kernel_rfl) (by kernel_rfl) (by kernel_rfl) (fun _ _ _ h => h) (by rfl) ?_ (by assumption) ?_
            rotate_left
            · (intro w hSw; (try dsimp only at hSw); go_simp) <;> with_reducible rfl
            try simp only [Act.put, List.setIfInBounds_toArray, List.set_cons_zero, List.set_cons_succ]
            refine takeD (i := 3) (d := some 89) (v := ?_) _ rfl rfl (by kernel_rfl) (by kernel_rfl) (by kernel_rfl) (fun _ _ _ h => h) (by rfl) ?_ (by assumption) ?_
            rotate_left
            · (intro w hSw; (try dsimp only at hSw); go_simp) <;> with_reducible rfl
            try simp only [Act.put, List.setIfInBounds_toArray, List.set_cons_zero, List.set_cons_succ]
            refine takeD (i := 4) (d := some 90) (v := ?_) _ rfl rfl (by kernel_rfl) (by kernel_rfl) (by kernel_rfl) (fun _ _ _ h => h) (by rfl) ?_ (by assumption) ?_
            rotate_left
            · (intro w hSw; (try dsimp only at hSw); go_simp) <;> with_reducible rfl
            try simp only [Act.put, List.setIfInBounds_toArray, List.set_cons_zero, List.set_cons_succ]
            refine takeD (i := 5) (d := some 91) (v := ?_) _ rfl rfl (by kernel_rfl) (by kernel_rfl) (by kernel_rfl) (fun _ _ _ h => h) (by rfl) ?_ (by assumption) ?_
            rotate_left
            · (intro w hSw; (try dsimp only at hSw); go_simp) <;> with_reducible rfl
            try simp only [Act.put, List.setIfInBounds_toArray, List.set_cons_zero, List.set_cons_succ]
            refine wpAnyH_ready (rs := [1]) (by kernel_rfl) (by simp) ?_
            refine AllReadyH.cons rfl (fun K hK => ?_) AllReadyH.nil
            go_simp
            refine hK.out _ _ ?_ (fun hHeld => ?_)
            · assumption
            clear hK K
            try simp only [Act.put, List.setIfInBounds_toArray, List.set_cons_zero, List.set_cons_succ]
            have HP := hHeld
            refine wpAnyH_ready (rs := [6]) (by kernel_rfl) (by simp) ?_
            refine AllReadyH.cons rfl (fun K hK => ?_) AllReadyH.nil
            (go_simp; go_at_call 11; refine (DO.out _ ((Below.refl wr.heap.size wr).drew)).mono ?_; rintro e wd ⟨A', c', f', L', rfl, hring, href, hpast⟩; try go_wp2_with fail)
            refine hK.out _ _ ?_ (fun hHeld => ?_)
            · exact ⟨Nat.le_trans HP.1 hpast.size, past_cell hpast bg HP.2.1, past_cell hpast bg HP.2.2⟩
            clear hK K
            try simp only [Act.put, List.setIfInBounds_toArray, List.set_cons_zero, List.set_cons_succ]
            have HP := hHeld
            refine takeD (i := 7) (d := some 85) (v := ?_) _ rfl rfl (by kernel_rfl) (by kernel_rfl) (by kernel_rfl) (fun _ _ _ h => h) (by rfl) ?_ (by assumption) ?_
            rotate_left
            · (intro w hSw; (try dsimp only at hSw); go_simp) <;> with_reducible rfl
            try simp only [Act.put, List.setIfInBounds_toArray, List.set_cons_zero, List.set_cons_succ]
            refine takeD (i := 8) (d := some 93) (v := ?_) _ rfl rfl (by kernel_rfl) (by kernel_rfl) (by kernel_rfl) (fun _ _ _ h => h) (by rfl) ?_ (by assumption) ?_
            rotate_left
            · (intro w hSw; (try dsimp only at hSw); go_simp) <;> with_reducible rfl
            try simp only [Act.put, List.setIfInBounds_toArray, List.set_cons_zero, List.set_cons_succ]
            refine takeD (i := 9) (d := some 94) (v := ?_) _ rfl rfl (by kernel_rfl) (by kernel_rfl) (by kernel_rfl) (fun _ _ _ h => h) (by rfl) ?_ (by assumption) ?_
            rotate_left
            · (intro w hSw; (try dsimp only at hSw); go_simp) <;> with_reducible rfl
            try simp only [Act.put, List.setIfInBounds_toArray, List.set_cons_zero, List.set_cons_succ]
            have hpast' : Past gc wr wd := ((Past.refl gc wr).drew).trans hpast
            have ZB := HX.out.past hpast' bxg
            have z0 := ZB.c0
            have z1 := ZB.c1
            have z2 := ZB.c2
            have zf := ZB.fz
            refine wpAnyH_ready (rs := [10]) (by kernel_rfl) (by simp) ?_
            refine AllReadyH.cons rfl (fun K hK => ?_) AllReadyH.nil
            go_simp
            refine hK.out _ _ ?_ (fun hHeld => ?_)
            · exact ⟨by simpa [World.setCell] using HP.1, (far3 bxb _ _ _).trans HP.2.1, (far3 bxb _ _ _).trans HP.2.2⟩
            clear hK K
            try simp only [Act.put, List.setIfInBounds_toArray, List.set_cons_zero, List.set_cons_succ]
            refine wpAnyH_done (by kernel_rfl) ?_ _
            have sd : wr.heap.size ≤ wd.heap.size := hpast'.size
            have RFn := Lib.hid ((hring.set3 (q := bx) (by omega) (fun hh => by
              rcases hh with h1 | h1
              · exact h1.1.2.2.2 rfl
              · have h1a : wr.heap.size ≤ bx := h1.1
                omega) (.int .i64 (n : Int)) (.int .i64 (m : Int)) (.slice A' L'.length c')).more (Q' := Off4 g gc bw bx) (fun b hb => by
              rcases hb with h1 | h1
              · exact h1.1
              · have h1a : wr.heap.size ≤ b := h1.1
                exact ⟨by omega, by omega, by omega, by omega⟩) (fun hh => hh.2.1 rfl))
            have RMn := Lib.hid ((href.set3 (tb := bx) (fun hh => by
              rcases hh with h1 | h1
              · exact h1.1.2.2.2 rfl
              · have h1a : wr.heap.size ≤ bx := h1.1
                omega) (.int .i64 (n : Int)) (.int .i64 (m : Int)) (.slice A' L'.length c')).more (Q' := Off4 g gc bw bx) (fun b _ hb => by
              rcases hb with h1 | h1
              · exact h1.1
              · have h1a : wr.heap.size ≤ b := h1.1
                exact ⟨by omega, by omega, by omega, by omega⟩))
            have BXn := Lib.hid (ZB.set3 (.int .i64 (n : Int)) (.int .i64 (m : Int)) (.slice A' L'.length c'))
            have BWn := Lib.hid (below3 (HB.out.trans (hpast'.below HWGC.out HB.out.size)) HWX.out (.int .i64 (n : Int)) (.int .i64 (m : Int)) (.slice A' L'.length c'))
            have R1n := Lib.hid ((HR1.out.past hpast' (by have := HGGC.out; omega) (fun hh => hh.2.1 rfl)).set3 (q := bx) (fun e => HBXG.out e.symm) (fun hh => hh.2.2.2 rfl) (.int .i64 (n : Int)) (.int .i64 (m : Int)) (.slice A' L'.length c'))
            have M1n := Lib.hid ((HM1.out.past hpast' (fun hh => hh.2.1 rfl)).set3 (tb := bx) (fun hh => hh.2.2.2 rfl) (.int .i64 (n : Int)) (.int .i64 (m : Int)) (.slice A' L'.length c'))
            have X1n := Lib.hid ((((HX1.out.past hpast' (by have := HBWGC.out; omega)).set (fun e => HBXBW.out e.symm) 0 (.int .i64 (n : Int))).set (fun e => HBXBW.out e.symm) 1 (.int .i64 (m : Int))).set (fun e => HBXBW.out e.symm) 2 (.slice A' L'.length c'))
            clear z0 z1 z2 zf ZB hring href hpast hpast' HX1 HR1 HM1 HX HR HM HB HRD HLC HCM HAN DO X0 X1 X2 c1 c2 bg bxb bxg glw gclw bwl bxl hws sd HP
            go_wp2_with fail
            generalize (((wd.setCell ⟨bx, 0, none⟩ (.int .i64 (n : Int))).setCell ⟨bx, 1, none⟩ (.int .i64 (m : Int))).setCell ⟨bx, 2, none⟩ (.slice A' L'.length c')) = wy at *
            obtain ⟨bo, hbo⟩ : ∃ bo, decide (L = L') = bo := ⟨_, rfl⟩
            have HBO := Lib.hid hbo
            have hne : ∀ w : World, (binOp .neq 4 (.bool bo) (.bool bo)).run Try.prog w = .ok (.bool false) w := fun _ => by cases bo <;> rfl
            have z2 := X1n.out.c2
            have y2 := BXn.out.c2
            obtain ⟨N2, hN2⟩ : ∃ N2, L'.length = N2 := ⟨_, rfl⟩
            have HN2 := Lib.hid hN2
            have n32 : Hid (NL ≤ 32 ∧ N2 ≤ 32) := by have := RFn.out.fit; have := RFn.out.room; have := R1n.out.fit; have := HNL.out; unfold Hid; omega
            have ALG := Lib.hid fun (W : World) (hb : Below wy.heap.size wy W) => all_any W _ g n m f1 L (R1n.out.below hb)
            have ALC := Lib.hid fun (W : World) (hb : Below wy.heap.size wy W) => all_any W _ gc n m f' L' (RFn.out.below hb)
            have SAG := Lib.hid fun (W : World) (hb : Below wy.heap.size wy W) (Ay : Option Addr) (cy : Nat) (Q : Nat → Prop) (h : RefR W Q Ay cy L) => sameAll_true Ay A cy c L W Q _ h (M1n.out.below hb) (by have := n32.out; have := HNL.out; omega) (fun i hi => by have := R1n.out.size i hi; omega)
            have SAC := Lib.hid fun (W : World) (hb : Below wy.heap.size wy W) (Ay : Option Addr) (cy : Nat) (Q : Nat → Prop) (h : RefR W Q Ay cy L') => sameAll_true Ay A' cy c' L' W Q _ h (RMn.out.below hb) (by have := n32.out; have := HN2.out; omega) (fun i hi => by have := RFn.out.size i hi; omega)
            have SRN := Lib.hid fun (W : World) (hb : Below wy.heap.size wy W) => (sameR_any W _ _ g n m f1 gc n m f' L L' (R1n.out.below hb) (RFn.out.below hb)).mono (R' := fun e w' => e = .returned (.bool bo) ∧ Below W.heap.size W w') (fun e w' hh => ⟨by rw [hh.1, ← HBO.out]; exact congrArg (fun x => Ending.returned (.bool x)) (decide_eq_decide.2 ⟨fun h => h.2.2, fun h => ⟨rfl, rfl, h⟩⟩), hh.2⟩)
            have SAN := Lib.hid fun (W : World) (hb : Below wy.heap.size wy W) => (sameAll_any A A' c c' L L' W _ _ (M1n.out.below hb) (RMn.out.below hb) (by have := n32.out; have := HNL.out; omega) (by have := n32.out; have := HN2.out; omega) (fun i hi => by have := R1n.out.size i hi; omega) (fun i hi => by have := RFn.out.size i hi; omega)).mono (R' := fun e w' => e = .returned (.bool bo) ∧ Below W.heap.size W w') (fun e w' hh => ⟨by rw [hh.1, HBO.out], hh.2⟩)
            rw [hN2] at y2 ALC SAC SAN ⊢
            rw [HNL.out] at z2 ALG SAG SAN
            clear hN2 hbo
            refine wp_region_held_drew (S := (fun w' => Below wy.heap.size wy w' ∧ w'.cell? ⟨bw, 2, none⟩ = some (.slice A NL c) ∧ w'.cell? ⟨bx, 2, none⟩ = some (.slice A' N2 c'))) (by kernel_rfl) ?_ (fun hHeld => ?_)
            · exact ⟨(Below.refl _ _).drew, z2, y2⟩
            refine takeD (i := 0) (d := some 95) (v := ?_) _ rfl rfl (by kernel_rfl) (by kernel_rfl) (by kernel_rfl) (fun _ _ _ h => h) (by rfl) ?_ (by assumption) ?_
            rotate_left
            · (intro w hSw; (try dsimp only at hSw); go_simp) <;> with_reducible rfl
            try simp only [Act.put, List.setIfInBounds_toArray, List.set_cons_zero, List.set_cons_succ]
            refine takeD (i := 2) (d := some 97) (v := ?_) _ rfl rfl (by kernel_rfl) (by kernel_rfl) (by kernel_rfl) (fun _ _ _ h => h) (by rfl) ?_ (by assumption) ?_
            rotate_left
            · (intro w hSw; (try dsimp only at hSw); go_simp) <;> with_reducible rfl
            try simp only [Act.put, List.setIfInBounds_toArray, List.set_cons_zero, List.set_cons_succ]
            refine takeD (i := 3) (d := some 98) (v := ?_) _ rfl rfl (by kernel_rfl) (by kernel_rfl) (by kernel_rfl) (fun _ _ _ h => h) (by rfl) ?_ (by assumption) ?_
            rotate_left
            · (intro w hSw; (try dsimp only at hSw); go_simp) <;> with_reducible rfl
            try simp only [Act.put, List.setIfInBounds_toArray, List.set_cons_zero, List.set_cons_succ]
            refine wpAnyH_ready (rs := [1]) (by kernel_rfl) (by simp) ?_
            refine AllReadyH.cons rfl (fun K hK => ?_) AllReadyH.nil
            (go_simp; go_at_call 13; refine (ALG.out _ hHeld.1).mono ?_; rintro e wa1 ⟨Ay1, cy1, vs, rfl, hoy, hsy, hby⟩; try go_wp2_with fail)
            refine hK.out _ _ ?_ (fun hHeld => ?_)
            · exact ⟨hHeld.1.trans (hby.mono hHeld.1.size), cell_later hby hHeld.2.1, cell_later hby hHeld.2.2⟩
            clear hK K
            try simp only [Act.put, List.setIfInBounds_toArray, List.set_cons_zero, List.set_cons_succ]
            have RY : RefR wa1 (fun _ => True) Ay1 cy1 L := refR_own (by rw [HNL.out]; exact hoy) (fun j hj => (hsy j (by rw [← HNL.out]; exact hj)).more fun _ _ => trivial) (fun _ _ => trivial)
            have HRY1 := Lib.hid RY
            clear RY hoy hsy
            refine wpAnyH_ready (rs := [4]) (by kernel_rfl) (by simp) ?_
            refine AllReadyH.cons rfl (fun K hK => ?_) AllReadyH.nil
            (go_simp; go_at_call 12; refine (SAG.out _ hHeld.1 Ay1 cy1 _ HRY1.out).mono ?_; rintro e ws1 ⟨rfl, hbs⟩; try go_wp2_with fail)
            refine hK.out _ _ ?_ (fun hHeld => ?_)
            · exact ⟨hHeld.1.trans (hbs.mono hHeld.1.size), cell_later hbs hHeld.2.1, cell_later hbs hHeld.2.2⟩
            clear hK K
            try simp only [Act.put, List.setIfInBounds_toArray, List.set_cons_zero, List.set_cons_succ]
            refine takeD (i := 5) (d := some 100) (v := ?_) _ rfl rfl (by kernel_rfl) (by kernel_rfl) (by kernel_rfl) (fun _ _ _ h => h) (by rfl) ?_ (by assumption) ?_
            rotate_left
            · (intro w hSw; (try dsimp only at hSw); go_simp) <;> with_reducible rfl
            try simp only [Act.put, List.setIfInBounds_toArray, List.set_cons_zero, List.set_cons_succ]
            refine takeD (i := 6) (d := some 101) (v := ?_) _ rfl rfl (by kernel_rfl) (by kernel_rfl) (by kernel_rfl) (fun _ _ _ h => h) (by rfl) ?_ (by assumption) ?_
            rotate_left
            · (intro w hSw; (try dsimp only at hSw); go_simp) <;> with_reducible rfl
            try simp only [Act.put, List.setIfInBounds_toArray, List.set_cons_zero, List.set_cons_succ]
            refine takeD (i := 7) (d := some 102) (v := ?_) _ rfl rfl (by kernel_rfl) (by kernel_rfl) (by kernel_rfl) (fun _ _ _ h => h) (by rfl) ?_ (by assumption) ?_
            rotate_left
            · (intro w hSw; (try dsimp only at hSw); go_simp) <;> with_reducible rfl
            try simp only [Act.put, List.setIfInBounds_toArray, List.set_cons_zero, List.set_cons_succ]
            refine takeD (i := 9) (d := some 104) (v := ?_) _ rfl rfl (by kernel_rfl) (by kernel_rfl) (by kernel_rfl) (fun _ _ _ h => h) (by rfl) ?_ (by assumption) ?_
            rotate_left
            · (intro w hSw; (try dsimp only at hSw); go_simp) <;> with_reducible rfl
            try simp only [Act.put, List.setIfInBounds_toArray, List.set_cons_zero, List.set_cons_succ]
            refine takeD (i := 10) (d := some 105) (v := ?_) _ rfl rfl (by kernel_rfl) (by kernel_rfl) (by kernel_rfl) (fun _ _ _ h => h) (by rfl) ?_ (by assumption) ?_
            rotate_left
            · (intro w hSw; (try dsimp only at hSw); go_simp) <;> with_reducible rfl
            try simp only [Act.put, List.setIfInBounds_toArray, List.set_cons_zero, List.set_cons_succ]
            refine wpAnyH_ready (rs := [8]) (by kernel_rfl) (by simp) ?_
            refine AllReadyH.cons rfl (fun K hK => ?_) AllReadyH.nil
            (go_simp; go_at_call 13; refine (ALC.out _ hHeld.1).mono ?_; rintro e wa2 ⟨Ay2, cy2, vs, rfl, hoy, hsy, hby⟩; try go_wp2_with fail)
            refine hK.out _ _ ?_ (fun hHeld => ?_)
            · exact ⟨hHeld.1.trans (hby.mono hHeld.1.size), cell_later hby hHeld.2.1, cell_later hby hHeld.2.2⟩
            clear hK K
            try simp only [Act.put, List.setIfInBounds_toArray, List.set_cons_zero, List.set_cons_succ]
            have RY : RefR wa2 (fun _ => True) Ay2 cy2 L' := refR_own (by rw [HN2.out]; exact hoy) (fun j hj => (hsy j (by rw [← HN2.out]; exact hj)).more fun _ _ => trivial) (fun _ _ => trivial)
            have HRY2 := Lib.hid RY
            clear RY hoy hsy
            refine wpAnyH_ready (rs := [11]) (by kernel_rfl) (by simp) ?_
            refine AllReadyH.cons rfl (fun K hK => ?_) AllReadyH.nil
            (go_simp; go_at_call 12; refine (SAC.out _ hHeld.1 Ay2 cy2 _ HRY2.out).mono ?_; rintro e ws2 ⟨rfl, hbs⟩; try go_wp2_with fail)
            refine hK.out _ _ ?_ (fun hHeld => ?_)
            · exact ⟨hHeld.1.trans (hbs.mono hHeld.1.size), cell_later hbs hHeld.2.1, cell_later hbs hHeld.2.2⟩
            clear hK K
            try simp only [Act.put, List.setIfInBounds_toArray, List.set_cons_zero, List.set_cons_succ]
            refine takeD (i := 12) (d := some 107) (v := ?_) _ rfl rfl (by kernel_rfl) (by kernel_rfl) (by kernel_rfl) (fun _ _ _ h => h) (by rfl) ?_ (by assumption) ?_
            rotate_left
            · (intro w hSw; (try dsimp only at hSw); go_simp) <;> with_reducible rfl
            try simp only [Act.put, List.setIfInBounds_toArray, List.set_cons_zero, List.set_cons_succ]
            refine takeD (i := 13) (d := some 108) (v := ?_) _ rfl rfl (by kernel_rfl) (by kernel_rfl) (by kernel_rfl) (fun _ _ _ h => h) (by rfl) ?_ (by assumption) ?_
            rotate_left
            · (intro w hSw; (try dsimp only at hSw); go_simp) <;> with_reducible rfl
            try simp only [Act.put, List.setIfInBounds_toArray, List.set_cons_zero, List.set_cons_succ]
            refine takeD (i := 14) (d := some 109) (v := ?_) _ rfl rfl (by kernel_rfl) (by kernel_rfl) (by kernel_rfl) (fun _ _ _ h => h) (by rfl) ?_ (by assumption) ?_
            rotate_left
            · (intro w hSw; (try dsimp only at hSw); go_simp) <;> with_reducible rfl
            try simp only [Act.put, List.setIfInBounds_toArray, List.set_cons_zero, List.set_cons_succ]
            refine takeD (i := 15) (d := some 110) (v := ?_) _ rfl rfl (by kernel_rfl) (by kernel_rfl) (by kernel_rfl) (fun _ _ _ h => h) (by rfl) ?_ (by assumption) ?_
            rotate_left
            · (intro w hSw; (try dsimp only at hSw); go_simp) <;> with_reducible rfl
            try simp only [Act.put, List.setIfInBounds_toArray, List.set_cons_zero, List.set_cons_succ]
            refine takeD (i := 16) (d := some 111) (v := ?_) _ rfl rfl (by kernel_rfl) (by kernel_rfl) (by kernel_rfl) (fun _ _ _ h => h) (by rfl) ?_ (by assumption) ?_
            rotate_left
            · (intro w hSw; (try dsimp only at hSw); go_simp) <;> with_reducible rfl
            try simp only [Act.put, List.setIfInBounds_toArray, List.set_cons_zero, List.set_cons_succ]
            refine takeD (i := 18) (d := some 113) (v := ?_) _ rfl rfl (by kernel_rfl) (by kernel_rfl) (by kernel_rfl) (fun _ _ _ h => h) (by rfl) ?_ (by assumption) ?_
            rotate_left
            · (intro w hSw; (try dsimp only at hSw); go_simp) <;> with_reducible rfl
            try simp only [Act.put, List.setIfInBounds_toArray, List.set_cons_zero, List.set_cons_succ]
            refine takeD (i := 19) (d := some 114) (v := ?_) _ rfl rfl (by kernel_rfl) (by kernel_rfl) (by kernel_rfl) (fun _ _ _ h => h) (by rfl) ?_ (by assumption) ?_
            rotate_left
            · (intro w hSw; (try dsimp only at hSw); go_simp) <;> with_reducible rfl
            try simp only [Act.put, List.setIfInBounds_toArray, List.set_cons_zero, List.set_cons_succ]
            refine takeD (i := 20) (d := some 115) (v := ?_) _ rfl rfl (by kernel_rfl) (by kernel_rfl) (by kernel_rfl) (fun _ _ _ h => h) (by rfl) ?_ (by assumption) ?_
            rotate_left
            · (intro w hSw; (try dsimp only at hSw); go_simp) <;> with_reducible rfl
            try simp only [Act.put, List.setIfInBounds_toArray, List.set_cons_zero, List.set_cons_succ]
            refine takeD (i := 21) (d := some 116) (v := ?_) _ rfl rfl (by kernel_rfl) (by kernel_rfl) (by kernel_rfl) (fun _ _ _ h => h) (by rfl) ?_ (by assumption) ?_
            rotate_left
            · (intro w hSw; (try dsimp only at hSw); go_simp) <;> with_reducible rfl
            try simp only [Act.put, List.setIfInBounds_toArray, List.set_cons_zero, List.set_cons_succ]
            refine wpAnyH_ready (rs := [17]) (by kernel_rfl) (by simp) ?_
            refine AllReadyH.cons rfl (fun K hK => ?_) AllReadyH.nil
            (go_simp; go_at_call 23; refine (SRN.out _ hHeld.1).mono ?_; rintro e ws3 ⟨rfl, hbs⟩; try go_wp2_with fail)
            refine hK.out _ _ ?_ (fun hHeld => ?_)
            · exact ⟨hHeld.1.trans (hbs.mono hHeld.1.size), cell_later hbs hHeld.2.1, cell_later hbs hHeld.2.2⟩
            clear hK K
            try simp only [Act.put, List.setIfInBounds_toArray, List.set_cons_zero, List.set_cons_succ]
            refine wpAnyH_ready (rs := [22]) (by kernel_rfl) (by simp) ?_
            refine AllReadyH.cons rfl (fun K hK => ?_) AllReadyH.nil
            (go_simp; go_at_call 12; refine (SAN.out _ hHeld.1).mono ?_; rintro e ws4 ⟨rfl, hbs⟩; try go_wp2_with fail)
            refine hK.out _ _ ?_ (fun hHeld => ?_)
            · exact ⟨hHeld.1.trans (hbs.mono hHeld.1.size), cell_later hbs hHeld.2.1, cell_later hbs hHeld.2.2⟩
            clear hK K
            try simp only [Act.put, List.setIfInBounds_toArray, List.set_cons_zero, List.set_cons_succ]
            refine takeD (i := 23) (d := some 118) (v := ?_) _ rfl rfl (by kernel_rfl) (by kernel_rfl) (by kernel_rfl) (fun _ _ _ h => h) (by rfl) ?_ (by assumption) ?_
            rotate_left
            · (intro w hSw; (try dsimp only at hSw); go_simp) <;> with_reducible rfl
            try simp only [Act.put, List.setIfInBounds_toArray, List.set_cons_zero, List.set_cons_succ]
            refine takeD (i := 24) (d := some 119) (v := ?_) _ rfl rfl (by kernel_rfl) (by kernel_rfl) (by kernel_rfl) (fun _ _ _ h => h) (by rfl) ?_ (by assumption) ?_
            rotate_left
            · (intro w hSw; (try dsimp only at hSw); go_simp) <;> with_reducible rfl
            try simp only [Act.put, List.setIfInBounds_toArray, List.set_cons_zero, List.set_cons_succ]
            refine wpAnyH_done (by kernel_rfl) ?_ _
            have BF := hHeld.1
            have F1 := Lib.hid (X1n.out.below BF)
            have F2 := Lib.hid (R1n.out.below BF)
            have F3 := Lib.hid (M1n.out.below BF)
            have F4 := Lib.hid (BXn.out.below BF)
            have F5 := Lib.hid (RFn.out.below BF)
            have F6 := Lib.hid (RMn.out.below BF)
            have F7 := Lib.hid (BWn.out.trans (BF.mono BWn.out.size))
            go_wp2_with fail
            go_roundw
            case rel => first | exact ⟨⟨j + 1, A', c', f1, f', L', by omega, by omega, by go_num, F1.out, F2.out, F3.out, F4.out, F5.out, F6.out, F7.out⟩⟩ | ((repeat apply Exists.intro); exact ⟨⟨⟨j + 1, A', c', f1, f', L', by omega, by omega, by go_num, F1.out, F2.out, F3.out, F4.out, F5.out, F6.out, F7.out⟩⟩, rfl⟩)
            case measure => simp [intOf]; omega
          · have hst : ¬ (j < len2 ∧ j < 60) := hgo
            rcases (show ¬ j < len2 ∨ (j < len2 ∧ ¬ j < 60) by omega) with hl | ⟨hl, h60⟩
            all_goals
              have e0 := hX1.c0
              have e1 := hX1.c1
              have HR1 := Lib.hid hR1
              have HB := Lib.hid hB
              clear hX1 hR1 hM1 hX2 hR2 hM2 hB hgo hst hj hj3
              go_wp2_with fail
              have hm' := HR1.out.room
              rw [show ((n : Int) % 32 + 1) = ((n % 32 + 1 : Nat) : Int) by omega]
              refine (new_ok (n % 32 + 1) m wr (by omega) HR1.out.words).mono ?_
              rintro e wn ⟨rfl, RN, bn⟩
              have hnn : ∀ w : World, (binOp .neq 23 (.pointer (some ⟨wr.heap.size, 0, none⟩)) (.pointer none)).run Try.prog w = .ok (.bool true) w := fun _ => rfl
              have SR := sameR_any wn _ _ wr.heap.size (n % 32 + 1) m 0 g n m f1 [] L RN (HR1.out.below bn)
              rw [decide_eq_false (fun hh => by have h1 := hh.1; omega)] at SR
              have HSR := Lib.hid SR
              have HBN := Lib.hid (HB.out.trans (bn.mono HB.out.size))
              clear SR RN bn hm' e0 e1
              go_wp2_with fail
              refine HSR.out.mono ?_
              rintro e ws ⟨rfl, bs⟩
              have BZ := HBN.out.trans (bs.mono HBN.out.size)
              clear bs HSR HBN
              go_wp2_with fail
              first | exact ⟨rfl, BZ⟩ | (go_ret; first | exact ⟨rfl, BZ⟩ | simpa using BZ | skip)
end Go.Proofs.Ytpejmkdmjlfgpaa
