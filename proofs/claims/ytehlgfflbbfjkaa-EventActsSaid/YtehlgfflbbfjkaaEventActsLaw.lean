/-
  EventActs's walk. Each statement bears its own conditions.
-/
import Derived.Test.YtehlgfflbbfjkaaEvS
namespace Go.Proofs.Ytehlgfflbbfjkaa.E
open Go.RowKit Go.Proofs.Ytehlgfflbbfjkaa.I
set_option linter.unusedVariables false
set_option linter.unusedSimpArgs false
set_option maxRecDepth 100000 in
set_option maxHeartbeats 8000000 in
theorem acts_walk (a : Option Addr) (len cap : Nat) (xs : List OP) (w : World) (h0 : Row w 2 RO (.slice a len cap) xs) : Calls Try.prog 3 #[.slice a len cap] w fun e w' => e = .returned (.bool true) ∧ Below w.heap.size w w' := by
  have HR := Lib.hid h0
  clear h0
  have he : ∀ (x : Nat) (w : World), (binOp .eql 23 (.pointer (some ⟨x, 0, none⟩)) (.pointer none)).run Try.prog w = .ok (.bool false) w := fun _ _ => rfl
  obtain ⟨lo, hlo⟩ : ∃ lo, w.heap.size = lo := ⟨_, rfl⟩
  have NW := Lib.hid (new_any w)
  have HLO : Hid (lo ≤ w.heap.size ∧ w.heap.size ≤ lo) := by unfold Hid; omega
  rw [hlo] at NW ⊢
  clear hlo
  go_enter Try.func3, Try.ntmps3
  go_wp2_with fail
  refine NW.out.mono ?_
  rintro e w1 ⟨rfl, q1, b1⟩
  have Q1 := Lib.hid q1
  have B1 := Lib.hid b1
  clear q1 b1 NW
  go_wp2_with fail
  refine (told_any w1).mono ?_
  rintro e w2 ⟨rfl, b2⟩
  have Q2 : Hid (EV lo w2 lo lo false []) := Q1.out.below b2
  have B2 : Hid (Below lo w w2) := B1.out.trans (b2.mono (by have := Q1.out.lt; omega))
  clear b2 Q1 B1
  go_wp2_with fail
  have S3 : Hid (ST lo w2.heap.size (w2.alloc (.cells #[.bool false, .slice none 0 0] 28)) lo lo false [] (.slice none 0 0)) := ST.start Q2.out
  have B3 : Hid (Below lo w (w2.alloc (.cells #[.bool false, .slice none 0 0] 28))) := B2.out.alloc (by have := Q2.out.lt; omega) _
  clear Q2 B2
  generalize w2.alloc (.cells #[.bool false, .slice none 0 0] 28) = W3 at S3 B3 ⊢
  generalize w2.heap.size = bw at S3 ⊢
  go_loopw [5] (fun iv wr => LR lo bw lo len 120 w iv wr) (fun i _ => 120 - (intOf i).toNat)
  case atStart => exact ⟨⟨0, lo, false, [], .slice none 0 0, Nat.zero_le _, Nat.zero_le _, rfl, S3.out, Nat.le_refl _, B3.out⟩⟩
  case round =>
    obtain ⟨⟨j, rb, up, L, v, hj, hjt, rfl, hst, hll, hb⟩⟩ := hrel
    have HB := Lib.hid hb
    have HST := Lib.hid hst
    have HJ : Hid (j ≤ len ∧ j ≤ 120 ∧ L.length ≤ j) := ⟨hj, hjt, hll⟩
    obtain ⟨Av, cv, hv⟩ := hst.form
    obtain ⟨nv, hnv⟩ : ∃ nv, L.length = nv := ⟨_, rfl⟩
    rw [hnv] at hv
    subst hv
    have HLL : Hid (L.length = nv) := hnv
    clear hb hst hll hj hjt hnv
    by_cases hlt : j < len
    · by_cases h60 : j < 120
      · have hjI : (j : Int) < (len : Int) := by omega
        have hj60 : (j : Int) < 120 := by omega
        have HX : Hid (j < len ∧ j < 120) := ⟨hlt, h60⟩
        obtain ⟨hnx, b, off, x, cs, hax, hbl, hx, hR, _, hc⟩ := HR.out.at_ j hlt
        subst hax
        obtain ⟨ok, oi⟩ := x
        have hR : cs = [.int .i64 ok, .int .i64 oi] := hR
        subst hR
        have e0 : wr.cell? ⟨b, off + j * 2, none⟩ = some (.int .i64 ok) := cell_low HB.out (by have := HLO.out; omega) (hc 0 _ rfl)
        have e1 : wr.cell? ⟨b, off + j * 2 + 1, none⟩ = some (.int .i64 oi) := cell_low HB.out (by have := HLO.out; omega) (hc 1 _ rfl)
        have HBB : Hid (b ≠ lo ∧ b ≠ rb ∧ b ≠ bw) := by have h1 := HST.out.ev.low; have h2 := HST.out.ap; have := HLO.out; unfold Hid; omega
        have HBLO : Hid (b < lo) := by have := HLO.out; unfold Hid; omega
        clear hnx hbl hx hc
        have k0 : wr.cell? ⟨bw, 0, none⟩ = some (.bool up) := by rw [(row_cell HST.out.bx 0).1]; rfl
        have k1 : wr.cell? ⟨bw, 1, none⟩ = some (.slice Av nv cv) := by rw [(row_cell HST.out.bx 1).1]; rfl
        clear hlt h60
        go_wp2_with fail
        refine wp_region_held_drew (S := (fun w' => (w'.cell? ⟨b, off + j * 2, none⟩ = some (.int .i64 ok) ∧ w'.cell? ⟨b, off + j * 2 + 1, none⟩ = some (.int .i64 oi)) ∧ w'.cell? ⟨bw, 0, none⟩ = some (.bool up) ∧ w'.cell? ⟨bw, 1, none⟩ = some (.slice Av nv cv))) (by kernel_rfl) ?_ (fun hHeld => ?_)
        · exact ⟨⟨e0, e1⟩, k0, k1⟩
        refine takeD (i := 0) (d := some 26) (v := ?_) _ rfl rfl (by kernel_rfl) (by kernel_rfl) (by kernel_rfl) (fun _ _ _ h => h) (by rfl) ?_ (by assumption) ?_
        rotate_left
        · (intro w hSw; (try dsimp only at hSw); go_simp) <;> with_reducible rfl
        try simp only [Act.put, List.setIfInBounds_toArray, List.set_cons_zero, List.set_cons_succ]
        refine takeD (i := 1) (d := some 27) (v := ?_) _ rfl rfl (by kernel_rfl) (by kernel_rfl) (by kernel_rfl) (fun _ _ _ h => h) (by rfl) ?_ (by assumption) ?_
        rotate_left
        · (intro w hSw; (try dsimp only at hSw); go_simp) <;> with_reducible rfl
        try simp only [Act.put, List.setIfInBounds_toArray, List.set_cons_zero, List.set_cons_succ]
        refine takeD (i := 2) (d := some 28) (v := ?_) _ rfl rfl (by kernel_rfl) (by kernel_rfl) (by kernel_rfl) (fun _ _ _ h => h) (by rfl) ?_ (by assumption) ?_
        rotate_left
        · (intro w hSw; (try dsimp only at hSw); go_simp) <;> with_reducible rfl
        try simp only [Act.put, List.setIfInBounds_toArray, List.set_cons_zero, List.set_cons_succ]
        refine takeD (i := 3) (d := some 29) (v := ?_) _ rfl rfl (by kernel_rfl) (by kernel_rfl) (by kernel_rfl) (fun _ _ _ h => h) (by rfl) ?_ (by assumption) ?_
        rotate_left
        · (intro w hSw; (try dsimp only at hSw); go_simp) <;> with_reducible rfl
        try simp only [Act.put, List.setIfInBounds_toArray, List.set_cons_zero, List.set_cons_succ]
        refine takeD (i := 4) (d := some 30) (v := ?_) _ rfl rfl (by kernel_rfl) (by kernel_rfl) (by kernel_rfl) (fun _ _ _ h => h) (by rfl) ?_ (by assumption) ?_
        rotate_left
        · (intro w hSw; (try dsimp only at hSw); go_simp) <;> with_reducible rfl
        try simp only [Act.put, List.setIfInBounds_toArray, List.set_cons_zero, List.set_cons_succ]
        refine takeD (i := 5) (d := some 31) (v := ?_) _ rfl rfl (by kernel_rfl) (by kernel_rfl) (by kernel_rfl) (fun _ _ _ h => h) (by rfl) ?_ (by assumption) ?_
        rotate_left
        · (intro w hSw; (try dsimp only at hSw); go_simp) <;> with_reducible rfl
        try simp only [Act.put, List.setIfInBounds_toArray, List.set_cons_zero, List.set_cons_succ]
        refine wpAnyH_ready (rs := [6, 10]) (by kernel_rfl) (by simp) ?_
        refine AllReadyH.cons rfl (fun K hK => ?_) (AllReadyH.cons rfl (fun K hK => ?_) AllReadyH.nil)
        · try go_simp
          go_at_call 11
          refine (do_any lo lo rb up L (.slice Av nv cv) (fun b => b < wr.heap.size ∧ (b ≠ lo ∧ b ≠ rb ∧ b ≠ bw)) ok oi wr.drew (HST.out.ev.below (Below.refl _ _).drew) ((HST.out.rl.below (Below.refl _ _).drew).imp fun b _ h => h) (fun b hb => ⟨hb.2.1, hb.2.2.1⟩) (by have := HLL.out; have := HJ.out; omega)).mono ?_
          rintro e w3 ⟨v3, rb3, up3, L3, rfl, r3, r4, r5, r6, r7⟩
          have BWX : Below wr.heap.size wr wr.drew := (Below.refl _ _).drew
          have CK : ∀ q o u, q ≠ lo → q ≠ rb → (wr.drew).cell? ⟨q, o, none⟩ = some u → w3.cell? ⟨q, o, none⟩ = some u := fun q o u h1 h2 hc => r5.ch.cell h1 h2 hc
          have hk0 := CK b _ _ (by have := HBB.out; omega) (by have := HBB.out; omega) hHeld.1.1
          have hk1 := CK b _ _ (by have := HBB.out; omega) (by have := HBB.out; omega) hHeld.1.2
          have hk2 := CK bw _ _ HST.out.ap.1 HST.out.ap.2.1 hHeld.2.1
          have hk3 := CK bw _ _ HST.out.ap.1 HST.out.ap.2.1 hHeld.2.2
          have N3 : Hid (Nx lo rb rb3 wr w3) := (Nx.of_below BWX).trans r5
          have R4 : Hid (Rl w3 v3 (fun b => (b < wr.heap.size ∧ (b ≠ lo ∧ b ≠ rb ∧ b ≠ bw)) ∨ ((wr.drew).heap.size ≤ b ∧ b ≠ rb3)) L3) := r4.imp fun b _ h => by
            rcases h with h | h
            · exact .inl h.2
            · exact .inr h
          have R3 := Lib.hid r3
          have NU : Hid (up3 = true → L3 = []) := r6 HST.out.nu
          have HL3 : Hid (L3.length ≤ j + 1) := by have := HJ.out; unfold Hid; omega
          have HRB : Hid (rb3 = rb ∨ rb3 = lo ∨ (wr.drew).heap.size ≤ rb3) := r5.rb
          obtain ⟨Aw, nw, cw, rfl⟩ : ∃ A n c, v3 = .slice A n c := by
            obtain ⟨b, hb⟩ := r4.row
            obtain ⟨A, c, hb⟩ := slice_form hb.own
            exact ⟨A, _, c, hb⟩
          clear r3 r4 r5 r6 r7 CK
          try go_wp2_with fail
          refine hK.out _ _ ?_ (fun hHeld => ?_)
          · exact ⟨⟨hk0, hk1⟩, hk2, hk3⟩
          clear hK K
          try simp only [Act.put, List.setIfInBounds_toArray, List.set_cons_zero, List.set_cons_succ]
          refine takeD (i := 7) (d := some 25) (v := ?_) _ rfl rfl (by kernel_rfl) (by kernel_rfl) (by kernel_rfl) (fun _ _ _ h => h) (by rfl) ?_ (by assumption) ?_
          rotate_left
          · (intro w hSw; (try dsimp only at hSw); go_simp) <;> with_reducible rfl
          try simp only [Act.put, List.setIfInBounds_toArray, List.set_cons_zero, List.set_cons_succ]
          refine takeD (i := 8) (d := some 33) (v := ?_) _ rfl rfl (by kernel_rfl) (by kernel_rfl) (by kernel_rfl) (fun _ _ _ h => h) (by rfl) ?_ (by assumption) ?_
          rotate_left
          · (intro w hSw; (try dsimp only at hSw); go_simp) <;> with_reducible rfl
          try simp only [Act.put, List.setIfInBounds_toArray, List.set_cons_zero, List.set_cons_succ]
          refine takeD (i := 9) (d := some 34) (v := ?_) _ rfl rfl (by kernel_rfl) (by kernel_rfl) (by kernel_rfl) (fun _ _ _ h => h) (by rfl) ?_ (by assumption) ?_
          rotate_left
          · (intro w hSw; (try dsimp only at hSw); go_simp) <;> with_reducible rfl
          try simp only [Act.put, List.setIfInBounds_toArray, List.set_cons_zero, List.set_cons_succ]
          refine wpAnyH_ready (rs := [10]) (by kernel_rfl) (by simp) ?_
          refine AllReadyH.cons rfl (fun K hK => ?_) AllReadyH.nil
          try go_simp
          refine hK.out _ _ ?_ (fun hHeld => ?_)
          · exact ⟨⟨cell_al _ hk0, cell_al _ hk1⟩, cell_al _ hk2, cell_al _ hk3⟩
          clear hK K
          try simp only [Act.put, List.setIfInBounds_toArray, List.set_cons_zero, List.set_cons_succ]
          refine wpAnyH_ready (rs := [11]) (by kernel_rfl) (by simp) ?_
          refine AllReadyH.cons rfl (fun K hK => ?_) AllReadyH.nil
          try go_simp
          refine hK.out _ _ ?_ (fun hHeld => ?_)
          · exact ⟨⟨cell_al _ hk0, cell_al _ hk1⟩, cell_al _ hk2, cell_al _ hk3⟩
          clear hK K
          try simp only [Act.put, List.setIfInBounds_toArray, List.set_cons_zero, List.set_cons_succ]
          refine takeD (i := 12) (d := some 7) (v := ?_) _ rfl rfl (by kernel_rfl) (by kernel_rfl) (by kernel_rfl) (fun _ _ _ h => h) (by rfl) ?_ (by assumption) ?_
          rotate_left
          · (intro w hSw; (try dsimp only at hSw); go_simp) <;> with_reducible rfl
          try simp only [Act.put, List.setIfInBounds_toArray, List.set_cons_zero, List.set_cons_succ]
          refine wpAnyH_done (by kernel_rfl) ?_ _
          have B4 : Below w3.heap.size w3 (w3.alloc (.cells #[.bool up3, .slice Aw nw cw] 28)) := (Below.refl _ _).alloc (Nat.le_refl _) _
          have m0 : (w3.alloc (.cells #[.bool up3, .slice Aw nw cw] 28)).cell? ⟨bw, 0, none⟩ = some (.bool up) := cell_al _ hk2
          have m1 : (w3.alloc (.cells #[.bool up3, .slice Aw nw cw] 28)).cell? ⟨bw, 1, none⟩ = some (.slice Av nv cv) := cell_al _ hk3
          have hbx4 : (w3.alloc (.cells #[.bool up3, .slice Aw nw cw] 28)).heap[bw]? = some (.cells #[.bool up, .slice Av nv cv] 28 (0, 0)) := (B4.block bw (by have := N3.out.ch.size; have := HST.out.blt; omega)).trans ((N3.out.ch.block bw HST.out.blt HST.out.ap.1 HST.out.ap.2.1).trans HST.out.bx)
          have p0 : (w3.alloc (.cells #[.bool up3, .slice Aw nw cw] 28)).frozen? ⟨bw, 0, none⟩ = false := (row_cell hbx4 0).2
          have p1 : (w3.alloc (.cells #[.bool up3, .slice Aw nw cw] 28)).frozen? ⟨bw, 1, none⟩ = false := (row_cell hbx4 1).2
          have NX := Lib.hid (HST.out.next (R3.out.below B4) ((R4.out.keep_below B4).imp fun b _ h => (by have h1 : wr.drew.heap.size = wr.heap.size := rfl; omega)) (N3.out.trans (Nx.of_below B4)) NU.out)
          clear hHeld hk0 hk1 hk2 hk3 B4 hbx4
          obtain ⟨Wn, hWn⟩ : ∃ Wn, ((w3.alloc (.cells #[.bool up3, .slice Aw nw cw] 28)).setCell ⟨bw, 0, none⟩ (.bool up3)).setCell ⟨bw, 1, none⟩ (.slice Aw nw cw) = Wn := ⟨_, rfl⟩
          rw [hWn] at NX
          have SC := Lib.hid NX.out.1
          have BB : Hid (Below lo w Wn) := HB.out.trans NX.out.2
          cases up3 with
          | true =>
            have hl0 : L3 = [] := NU.out rfl
            obtain ⟨A9, c9, hv9⟩ := SC.out.form
            injection hv9 with h1 h2 h3
            rw [hl0] at h2
            simp at h2
            subst h2
            clear h1 h3 hl0 NX
            go_wp2_with fail
            try rw [hWn]
            have k0 : Wn.cell? ⟨bw, 0, none⟩ = some (.bool true) := by rw [(row_cell SC.out.bx 0).1]; rfl
            have k1 : Wn.cell? ⟨bw, 1, none⟩ = some (.slice Aw 0 cw) := by rw [(row_cell SC.out.bx 1).1]; rfl
            have BND : Hid (Below Wn.heap.size Wn Wn.drew) := (Below.refl _ _).drew
            refine wp_region_held_drew (S := (fun w' => w'.cell? ⟨bw, 0, none⟩ = some (.bool true) ∧ w'.cell? ⟨bw, 1, none⟩ = some (.slice Aw 0 cw))) (by kernel_rfl) ?_ (fun hHeld => ?_)
            · exact ⟨k0, k1⟩
            refine takeD (i := 0) (d := some 36) (v := ?_) _ rfl rfl (by kernel_rfl) (by kernel_rfl) (by kernel_rfl) (fun _ _ _ h => h) (by rfl) ?_ (by assumption) ?_
            rotate_left
            · (intro w hSw; (try dsimp only at hSw); go_simp) <;> with_reducible rfl
            try simp only [Act.put, List.setIfInBounds_toArray, List.set_cons_zero, List.set_cons_succ]
            refine takeD (i := 1) (d := some 37) (v := ?_) _ rfl rfl (by kernel_rfl) (by kernel_rfl) (by kernel_rfl) (fun _ _ _ h => h) (by rfl) ?_ (by assumption) ?_
            rotate_left
            · (intro w hSw; (try dsimp only at hSw); go_simp) <;> with_reducible rfl
            try simp only [Act.put, List.setIfInBounds_toArray, List.set_cons_zero, List.set_cons_succ]
            refine takeD (i := 2) (d := some 38) (v := ?_) _ rfl rfl (by kernel_rfl) (by kernel_rfl) (by kernel_rfl) (fun _ _ _ h => h) (by rfl) ?_ (by assumption) ?_
            rotate_left
            · (intro w hSw; (try dsimp only at hSw); go_simp) <;> with_reducible rfl
            try simp only [Act.put, List.setIfInBounds_toArray, List.set_cons_zero, List.set_cons_succ]
            refine takeD (i := 3) (d := some 39) (v := ?_) _ rfl rfl (by kernel_rfl) (by kernel_rfl) (by kernel_rfl) (fun _ _ _ h => h) (by rfl) ?_ (by assumption) ?_
            rotate_left
            · (intro w hSw; (try dsimp only at hSw); go_simp) <;> with_reducible rfl
            try simp only [Act.put, List.setIfInBounds_toArray, List.set_cons_zero, List.set_cons_succ]
            refine takeD (i := 5) (d := some 41) (v := ?_) _ rfl rfl (by kernel_rfl) (by kernel_rfl) (by kernel_rfl) (fun _ _ _ h => h) (by rfl) ?_ (by assumption) ?_
            rotate_left
            · (intro w hSw; (try dsimp only at hSw); go_simp) <;> with_reducible rfl
            try simp only [Act.put, List.setIfInBounds_toArray, List.set_cons_zero, List.set_cons_succ]
            refine takeD (i := 6) (d := some 42) (v := ?_) _ rfl rfl (by kernel_rfl) (by kernel_rfl) (by kernel_rfl) (fun _ _ _ h => h) (by rfl) ?_ (by assumption) ?_
            rotate_left
            · (intro w hSw; (try dsimp only at hSw); go_simp) <;> with_reducible rfl
            try simp only [Act.put, List.setIfInBounds_toArray, List.set_cons_zero, List.set_cons_succ]
            refine wpAnyH_ready (rs := [4]) (by kernel_rfl) (by simp) ?_
            refine AllReadyH.cons rfl (fun K hK => ?_) AllReadyH.nil
            try go_simp
            go_at_call 12
            refine (up_any lo _ _ _ _ _ (SC.out.ev.below BND.out)).mono ?_
            rintro e y2 ⟨rfl, hw⟩
            have hw := hw.symm
            subst hw
            try go_wp2_with fail
            refine hK.out _ _ ?_ (fun hHeld => ?_)
            · exact hHeld
            clear hK K
            try simp only [Act.put, List.setIfInBounds_toArray, List.set_cons_zero, List.set_cons_succ]
            refine takeD (i := 7) (d := some 43) (v := ?_) _ rfl rfl (by kernel_rfl) (by kernel_rfl) (by kernel_rfl) (fun _ _ _ h => h) (by rfl) ?_ (by assumption) ?_
            rotate_left
            · (intro w hSw; (try dsimp only at hSw); go_simp) <;> with_reducible rfl
            try simp only [Act.put, List.setIfInBounds_toArray, List.set_cons_zero, List.set_cons_succ]
            refine takeD (i := 8) (d := some 44) (v := ?_) _ rfl rfl (by kernel_rfl) (by kernel_rfl) (by kernel_rfl) (fun _ _ _ h => h) (by rfl) ?_ (by assumption) ?_
            rotate_left
            · (intro w hSw; (try dsimp only at hSw); go_simp) <;> with_reducible rfl
            try simp only [Act.put, List.setIfInBounds_toArray, List.set_cons_zero, List.set_cons_succ]
            refine takeD (i := 9) (d := some 45) (v := ?_) _ rfl rfl (by kernel_rfl) (by kernel_rfl) (by kernel_rfl) (fun _ _ _ h => h) (by rfl) ?_ (by assumption) ?_
            rotate_left
            · (intro w hSw; (try dsimp only at hSw); go_simp) <;> with_reducible rfl
            try simp only [Act.put, List.setIfInBounds_toArray, List.set_cons_zero, List.set_cons_succ]
            refine takeD (i := 10) (d := some 46) (v := ?_) _ rfl rfl (by kernel_rfl) (by kernel_rfl) (by kernel_rfl) (fun _ _ _ h => h) (by rfl) ?_ (by assumption) ?_
            rotate_left
            · (intro w hSw; (try dsimp only at hSw); go_simp) <;> with_reducible rfl
            try simp only [Act.put, List.setIfInBounds_toArray, List.set_cons_zero, List.set_cons_succ]
            refine takeD (i := 12) (d := some 48) (v := ?_) _ rfl rfl (by kernel_rfl) (by kernel_rfl) (by kernel_rfl) (fun _ _ _ h => h) (by rfl) ?_ (by assumption) ?_
            rotate_left
            · (intro w hSw; (try dsimp only at hSw); go_simp) <;> with_reducible rfl
            try simp only [Act.put, List.setIfInBounds_toArray, List.set_cons_zero, List.set_cons_succ]
            refine takeD (i := 13) (d := some 49) (v := ?_) _ rfl rfl (by kernel_rfl) (by kernel_rfl) (by kernel_rfl) (fun _ _ _ h => h) (by rfl) ?_ (by assumption) ?_
            rotate_left
            · (intro w hSw; (try dsimp only at hSw); go_simp) <;> with_reducible rfl
            try simp only [Act.put, List.setIfInBounds_toArray, List.set_cons_zero, List.set_cons_succ]
            refine wpAnyH_ready (rs := [11]) (by kernel_rfl) (by simp) ?_
            refine AllReadyH.cons rfl (fun K hK => ?_) AllReadyH.nil
            try go_simp
            go_at_call 14
            refine (waiting_any lo _ _ _ _ _ (SC.out.ev.below BND.out) (by have := HL3.out; have := HX.out; omega)).mono ?_
            rintro e y2 ⟨A2, n2, c2, rb2, rfl, r2, _, b2⟩
            have BN2 : Hid (Below Wn.heap.size Wn y2) := BND.out.trans (b2.mono BND.out.size)
            have R2 := Lib.hid r2
            have g2 := b2
            clear r2 b2
            try go_wp2_with fail
            refine hK.out _ _ ?_ (fun hHeld => ?_)
            · exact ⟨cell_later g2 hHeld.1, cell_later g2 hHeld.2⟩
            clear hK K
            try simp only [Act.put, List.setIfInBounds_toArray, List.set_cons_zero, List.set_cons_succ]
            refine wpAnyH_ready (rs := [14]) (by kernel_rfl) (by simp) ?_
            refine AllReadyH.cons rfl (fun K hK => ?_) AllReadyH.nil
            try go_simp
            go_at_call 13
            obtain ⟨be2, hbe2⟩ := (SC.out.rl.keep_below BN2.out).row
            refine (rsame_any _ _ rb2 be2 L3 L3 y2 R2.out hbe2 (by have := HL3.out; have := HX.out; omega) (by have := HL3.out; have := HX.out; omega)).mono ?_
            rintro e y3 ⟨he3, b3⟩
            rw [decide_eq_true rfl] at he3
            subst he3
            have BN3 : Hid (Below Wn.heap.size Wn y3) := BN2.out.trans (b3.mono BN2.out.size)
            have g3 := b3
            clear hbe2 b3 R2
            try go_wp2_with fail
            refine hK.out _ _ ?_ (fun hHeld => ?_)
            · exact ⟨cell_later g3 hHeld.1, cell_later g3 hHeld.2⟩
            clear hK K
            try simp only [Act.put, List.setIfInBounds_toArray, List.set_cons_zero, List.set_cons_succ]
            refine takeD (i := 15) (d := some 51) (v := ?_) _ rfl rfl (by kernel_rfl) (by kernel_rfl) (by kernel_rfl) (fun _ _ _ h => h) (by rfl) ?_ (by assumption) ?_
            rotate_left
            · (intro w hSw; (try dsimp only at hSw); go_simp) <;> with_reducible rfl
            try simp only [Act.put, List.setIfInBounds_toArray, List.set_cons_zero, List.set_cons_succ]
            refine takeD (i := 16) (d := some 52) (v := ?_) _ rfl rfl (by kernel_rfl) (by kernel_rfl) (by kernel_rfl) (fun _ _ _ h => h) (by rfl) ?_ (by assumption) ?_
            rotate_left
            · (intro w hSw; (try dsimp only at hSw); go_simp) <;> with_reducible rfl
            try simp only [Act.put, List.setIfInBounds_toArray, List.set_cons_zero, List.set_cons_succ]
            refine takeD (i := 17) (d := some 53) (v := ?_) _ rfl rfl (by kernel_rfl) (by kernel_rfl) (by kernel_rfl) (fun _ _ _ h => h) (by rfl) ?_ (by assumption) ?_
            rotate_left
            · (intro w hSw; (try dsimp only at hSw); go_simp) <;> with_reducible rfl
            try simp only [Act.put, List.setIfInBounds_toArray, List.set_cons_zero, List.set_cons_succ]
            refine takeD (i := 18) (d := some 54) (v := ?_) _ rfl rfl (by kernel_rfl) (by kernel_rfl) (by kernel_rfl) (fun _ _ _ h => h) (by rfl) ?_ (by assumption) ?_
            rotate_left
            · (intro w hSw; (try dsimp only at hSw); go_simp) <;> with_reducible rfl
            try simp only [Act.put, List.setIfInBounds_toArray, List.set_cons_zero, List.set_cons_succ]
            refine takeD (i := 19) (d := some 55) (v := ?_) _ rfl rfl (by kernel_rfl) (by kernel_rfl) (by kernel_rfl) (fun _ _ _ h => h) (by rfl) ?_ (by assumption) ?_
            rotate_left
            · (intro w hSw; (try dsimp only at hSw); go_simp) <;> with_reducible rfl
            try simp only [Act.put, List.setIfInBounds_toArray, List.set_cons_zero, List.set_cons_succ]
            refine takeD (i := 20) (d := some 56) (v := ?_) _ rfl rfl (by kernel_rfl) (by kernel_rfl) (by kernel_rfl) (fun _ _ _ h => h) (by rfl) ?_ (by assumption) ?_
            rotate_left
            · (intro w hSw; (try dsimp only at hSw); go_simp) <;> with_reducible rfl
            try simp only [Act.put, List.setIfInBounds_toArray, List.set_cons_zero, List.set_cons_succ]
            refine takeD (i := 21) (d := some 57) (v := ?_) _ rfl rfl (by kernel_rfl) (by kernel_rfl) (by kernel_rfl) (fun _ _ _ h => h) (by rfl) ?_ (by assumption) ?_
            rotate_left
            · (intro w hSw; (try dsimp only at hSw); go_simp) <;> with_reducible rfl
            try simp only [Act.put, List.setIfInBounds_toArray, List.set_cons_zero, List.set_cons_succ]
            refine takeD (i := 22) (d := some 58) (v := ?_) _ rfl rfl (by kernel_rfl) (by kernel_rfl) (by kernel_rfl) (fun _ _ _ h => h) (by rfl) ?_ (by assumption) ?_
            rotate_left
            · (intro w hSw; (try dsimp only at hSw); go_simp) <;> with_reducible rfl
            try simp only [Act.put, List.setIfInBounds_toArray, List.set_cons_zero, List.set_cons_succ]
            refine takeD (i := 23) (d := some 59) (v := ?_) _ rfl rfl (by kernel_rfl) (by kernel_rfl) (by kernel_rfl) (fun _ _ _ h => h) (by rfl) ?_ (by assumption) ?_
            rotate_left
            · (intro w hSw; (try dsimp only at hSw); go_simp) <;> with_reducible rfl
            try simp only [Act.put, List.setIfInBounds_toArray, List.set_cons_zero, List.set_cons_succ]
            refine takeD (i := 24) (d := some 60) (v := ?_) _ rfl rfl (by kernel_rfl) (by kernel_rfl) (by kernel_rfl) (fun _ _ _ h => h) (by rfl) ?_ (by assumption) ?_
            rotate_left
            · (intro w hSw; (try dsimp only at hSw); go_simp) <;> with_reducible rfl
            try simp only [Act.put, List.setIfInBounds_toArray, List.set_cons_zero, List.set_cons_succ]
            refine takeD (i := 25) (d := some 61) (v := ?_) _ rfl rfl (by kernel_rfl) (by kernel_rfl) (by kernel_rfl) (fun _ _ _ h => h) (by rfl) ?_ (by assumption) ?_
            rotate_left
            · (intro w hSw; (try dsimp only at hSw); go_simp) <;> with_reducible rfl
            try simp only [Act.put, List.setIfInBounds_toArray, List.set_cons_zero, List.set_cons_succ]
            refine takeD (i := 26) (d := some 62) (v := ?_) _ rfl rfl (by kernel_rfl) (by kernel_rfl) (by kernel_rfl) (fun _ _ _ h => h) (by rfl) ?_ (by assumption) ?_
            rotate_left
            · (intro w hSw; (try dsimp only at hSw); go_simp) <;> with_reducible rfl
            try simp only [Act.put, List.setIfInBounds_toArray, List.set_cons_zero, List.set_cons_succ]
            refine wpAnyH_done (by kernel_rfl) ?_ _
            clear hHeld g2 g3
            have SF := Lib.hid (SC.out.below BN3.out)
            have BF : Hid (Below lo w y3) := BB.out.trans (BN3.out.mono (by have := SC.out.ev.lt; have := SC.out.ev.low; omega))
            go_wp2_with fail
            go_roundw
            case rel =>
              have Q : LR lo bw lo len 120 w (.int .i64 ((j : Int) + 1)) y3 := ⟨⟨j + 1, rb3, true, L3, .slice Aw 0 cw, HX.out.1, HX.out.2, by go_num, SF.out, HL3.out, BF.out⟩⟩
              first | exact Q | ((repeat apply Exists.intro); exact ⟨Q, rfl⟩)
            case measure => have := HX.out; simp [intOf]; omega
          | false =>
            clear NX
            go_wp2_with fail
            try rw [hWn]
            have k0 : Wn.cell? ⟨bw, 0, none⟩ = some (.bool false) := by rw [(row_cell SC.out.bx 0).1]; rfl
            have k1 : Wn.cell? ⟨bw, 1, none⟩ = some (.slice Aw nw cw) := by rw [(row_cell SC.out.bx 1).1]; rfl
            have BND : Hid (Below Wn.heap.size Wn Wn.drew) := (Below.refl _ _).drew
            refine wp_region_held_drew (S := (fun w' => w'.cell? ⟨bw, 0, none⟩ = some (.bool false) ∧ w'.cell? ⟨bw, 1, none⟩ = some (.slice Aw nw cw))) (by kernel_rfl) ?_ (fun hHeld => ?_)
            · exact ⟨k0, k1⟩
            refine takeD (i := 0) (d := some 36) (v := ?_) _ rfl rfl (by kernel_rfl) (by kernel_rfl) (by kernel_rfl) (fun _ _ _ h => h) (by rfl) ?_ (by assumption) ?_
            rotate_left
            · (intro w hSw; (try dsimp only at hSw); go_simp) <;> with_reducible rfl
            try simp only [Act.put, List.setIfInBounds_toArray, List.set_cons_zero, List.set_cons_succ]
            refine takeD (i := 1) (d := some 37) (v := ?_) _ rfl rfl (by kernel_rfl) (by kernel_rfl) (by kernel_rfl) (fun _ _ _ h => h) (by rfl) ?_ (by assumption) ?_
            rotate_left
            · (intro w hSw; (try dsimp only at hSw); go_simp) <;> with_reducible rfl
            try simp only [Act.put, List.setIfInBounds_toArray, List.set_cons_zero, List.set_cons_succ]
            refine takeD (i := 2) (d := some 38) (v := ?_) _ rfl rfl (by kernel_rfl) (by kernel_rfl) (by kernel_rfl) (fun _ _ _ h => h) (by rfl) ?_ (by assumption) ?_
            rotate_left
            · (intro w hSw; (try dsimp only at hSw); go_simp) <;> with_reducible rfl
            try simp only [Act.put, List.setIfInBounds_toArray, List.set_cons_zero, List.set_cons_succ]
            refine takeD (i := 3) (d := some 39) (v := ?_) _ rfl rfl (by kernel_rfl) (by kernel_rfl) (by kernel_rfl) (fun _ _ _ h => h) (by rfl) ?_ (by assumption) ?_
            rotate_left
            · (intro w hSw; (try dsimp only at hSw); go_simp) <;> with_reducible rfl
            try simp only [Act.put, List.setIfInBounds_toArray, List.set_cons_zero, List.set_cons_succ]
            refine takeD (i := 5) (d := some 41) (v := ?_) _ rfl rfl (by kernel_rfl) (by kernel_rfl) (by kernel_rfl) (fun _ _ _ h => h) (by rfl) ?_ (by assumption) ?_
            rotate_left
            · (intro w hSw; (try dsimp only at hSw); go_simp) <;> with_reducible rfl
            try simp only [Act.put, List.setIfInBounds_toArray, List.set_cons_zero, List.set_cons_succ]
            refine takeD (i := 6) (d := some 42) (v := ?_) _ rfl rfl (by kernel_rfl) (by kernel_rfl) (by kernel_rfl) (fun _ _ _ h => h) (by rfl) ?_ (by assumption) ?_
            rotate_left
            · (intro w hSw; (try dsimp only at hSw); go_simp) <;> with_reducible rfl
            try simp only [Act.put, List.setIfInBounds_toArray, List.set_cons_zero, List.set_cons_succ]
            refine wpAnyH_ready (rs := [4]) (by kernel_rfl) (by simp) ?_
            refine AllReadyH.cons rfl (fun K hK => ?_) AllReadyH.nil
            try go_simp
            go_at_call 12
            refine (up_any lo _ _ _ _ _ (SC.out.ev.below BND.out)).mono ?_
            rintro e y2 ⟨rfl, hw⟩
            have hw := hw.symm
            subst hw
            try go_wp2_with fail
            refine hK.out _ _ ?_ (fun hHeld => ?_)
            · exact hHeld
            clear hK K
            try simp only [Act.put, List.setIfInBounds_toArray, List.set_cons_zero, List.set_cons_succ]
            refine takeD (i := 7) (d := some 43) (v := ?_) _ rfl rfl (by kernel_rfl) (by kernel_rfl) (by kernel_rfl) (fun _ _ _ h => h) (by rfl) ?_ (by assumption) ?_
            rotate_left
            · (intro w hSw; (try dsimp only at hSw); go_simp) <;> with_reducible rfl
            try simp only [Act.put, List.setIfInBounds_toArray, List.set_cons_zero, List.set_cons_succ]
            refine takeD (i := 8) (d := some 44) (v := ?_) _ rfl rfl (by kernel_rfl) (by kernel_rfl) (by kernel_rfl) (fun _ _ _ h => h) (by rfl) ?_ (by assumption) ?_
            rotate_left
            · (intro w hSw; (try dsimp only at hSw); go_simp) <;> with_reducible rfl
            try simp only [Act.put, List.setIfInBounds_toArray, List.set_cons_zero, List.set_cons_succ]
            refine takeD (i := 9) (d := some 45) (v := ?_) _ rfl rfl (by kernel_rfl) (by kernel_rfl) (by kernel_rfl) (fun _ _ _ h => h) (by rfl) ?_ (by assumption) ?_
            rotate_left
            · (intro w hSw; (try dsimp only at hSw); go_simp) <;> with_reducible rfl
            try simp only [Act.put, List.setIfInBounds_toArray, List.set_cons_zero, List.set_cons_succ]
            refine takeD (i := 10) (d := some 46) (v := ?_) _ rfl rfl (by kernel_rfl) (by kernel_rfl) (by kernel_rfl) (fun _ _ _ h => h) (by rfl) ?_ (by assumption) ?_
            rotate_left
            · (intro w hSw; (try dsimp only at hSw); go_simp) <;> with_reducible rfl
            try simp only [Act.put, List.setIfInBounds_toArray, List.set_cons_zero, List.set_cons_succ]
            refine takeD (i := 12) (d := some 48) (v := ?_) _ rfl rfl (by kernel_rfl) (by kernel_rfl) (by kernel_rfl) (fun _ _ _ h => h) (by rfl) ?_ (by assumption) ?_
            rotate_left
            · (intro w hSw; (try dsimp only at hSw); go_simp) <;> with_reducible rfl
            try simp only [Act.put, List.setIfInBounds_toArray, List.set_cons_zero, List.set_cons_succ]
            refine takeD (i := 13) (d := some 49) (v := ?_) _ rfl rfl (by kernel_rfl) (by kernel_rfl) (by kernel_rfl) (fun _ _ _ h => h) (by rfl) ?_ (by assumption) ?_
            rotate_left
            · (intro w hSw; (try dsimp only at hSw); go_simp) <;> with_reducible rfl
            try simp only [Act.put, List.setIfInBounds_toArray, List.set_cons_zero, List.set_cons_succ]
            refine wpAnyH_ready (rs := [11]) (by kernel_rfl) (by simp) ?_
            refine AllReadyH.cons rfl (fun K hK => ?_) AllReadyH.nil
            try go_simp
            go_at_call 14
            refine (waiting_any lo _ _ _ _ _ (SC.out.ev.below BND.out) (by have := HL3.out; have := HX.out; omega)).mono ?_
            rintro e y2 ⟨A2, n2, c2, rb2, rfl, r2, _, b2⟩
            have BN2 : Hid (Below Wn.heap.size Wn y2) := BND.out.trans (b2.mono BND.out.size)
            have R2 := Lib.hid r2
            have g2 := b2
            clear r2 b2
            try go_wp2_with fail
            refine hK.out _ _ ?_ (fun hHeld => ?_)
            · exact ⟨cell_later g2 hHeld.1, cell_later g2 hHeld.2⟩
            clear hK K
            try simp only [Act.put, List.setIfInBounds_toArray, List.set_cons_zero, List.set_cons_succ]
            refine wpAnyH_ready (rs := [14]) (by kernel_rfl) (by simp) ?_
            refine AllReadyH.cons rfl (fun K hK => ?_) AllReadyH.nil
            try go_simp
            go_at_call 13
            obtain ⟨be2, hbe2⟩ := (SC.out.rl.keep_below BN2.out).row
            refine (rsame_any _ _ rb2 be2 L3 L3 y2 R2.out hbe2 (by have := HL3.out; have := HX.out; omega) (by have := HL3.out; have := HX.out; omega)).mono ?_
            rintro e y3 ⟨he3, b3⟩
            rw [decide_eq_true rfl] at he3
            subst he3
            have BN3 : Hid (Below Wn.heap.size Wn y3) := BN2.out.trans (b3.mono BN2.out.size)
            have g3 := b3
            clear hbe2 b3 R2
            try go_wp2_with fail
            refine hK.out _ _ ?_ (fun hHeld => ?_)
            · exact ⟨cell_later g3 hHeld.1, cell_later g3 hHeld.2⟩
            clear hK K
            try simp only [Act.put, List.setIfInBounds_toArray, List.set_cons_zero, List.set_cons_succ]
            refine takeD (i := 15) (d := some 51) (v := ?_) _ rfl rfl (by kernel_rfl) (by kernel_rfl) (by kernel_rfl) (fun _ _ _ h => h) (by rfl) ?_ (by assumption) ?_
            rotate_left
            · (intro w hSw; (try dsimp only at hSw); go_simp) <;> with_reducible rfl
            try simp only [Act.put, List.setIfInBounds_toArray, List.set_cons_zero, List.set_cons_succ]
            refine takeD (i := 16) (d := some 52) (v := ?_) _ rfl rfl (by kernel_rfl) (by kernel_rfl) (by kernel_rfl) (fun _ _ _ h => h) (by rfl) ?_ (by assumption) ?_
            rotate_left
            · (intro w hSw; (try dsimp only at hSw); go_simp) <;> with_reducible rfl
            try simp only [Act.put, List.setIfInBounds_toArray, List.set_cons_zero, List.set_cons_succ]
            refine takeD (i := 17) (d := some 53) (v := ?_) _ rfl rfl (by kernel_rfl) (by kernel_rfl) (by kernel_rfl) (fun _ _ _ h => h) (by rfl) ?_ (by assumption) ?_
            rotate_left
            · (intro w hSw; (try dsimp only at hSw); go_simp) <;> with_reducible rfl
            try simp only [Act.put, List.setIfInBounds_toArray, List.set_cons_zero, List.set_cons_succ]
            refine takeD (i := 18) (d := some 54) (v := ?_) _ rfl rfl (by kernel_rfl) (by kernel_rfl) (by kernel_rfl) (fun _ _ _ h => h) (by rfl) ?_ (by assumption) ?_
            rotate_left
            · (intro w hSw; (try dsimp only at hSw); go_simp) <;> with_reducible rfl
            try simp only [Act.put, List.setIfInBounds_toArray, List.set_cons_zero, List.set_cons_succ]
            refine takeD (i := 19) (d := some 55) (v := ?_) _ rfl rfl (by kernel_rfl) (by kernel_rfl) (by kernel_rfl) (fun _ _ _ h => h) (by rfl) ?_ (by assumption) ?_
            rotate_left
            · (intro w hSw; (try dsimp only at hSw); go_simp) <;> with_reducible rfl
            try simp only [Act.put, List.setIfInBounds_toArray, List.set_cons_zero, List.set_cons_succ]
            refine takeD (i := 20) (d := some 56) (v := ?_) _ rfl rfl (by kernel_rfl) (by kernel_rfl) (by kernel_rfl) (fun _ _ _ h => h) (by rfl) ?_ (by assumption) ?_
            rotate_left
            · (intro w hSw; (try dsimp only at hSw); go_simp) <;> with_reducible rfl
            try simp only [Act.put, List.setIfInBounds_toArray, List.set_cons_zero, List.set_cons_succ]
            refine skipD (i := 21) (d := some 57) _ rfl rfl (by kernel_rfl) (by kernel_rfl) (by kernel_rfl) (fun _ _ _ h => h) (by rfl) (by assumption) ?_
            try simp only [Act.put, List.setIfInBounds_toArray, List.set_cons_zero, List.set_cons_succ]
            refine skipD (i := 22) (d := some 58) _ rfl rfl (by kernel_rfl) (by kernel_rfl) (by kernel_rfl) (fun _ _ _ h => h) (by rfl) (by assumption) ?_
            try simp only [Act.put, List.setIfInBounds_toArray, List.set_cons_zero, List.set_cons_succ]
            refine skipD (i := 23) (d := some 59) _ rfl rfl (by kernel_rfl) (by kernel_rfl) (by kernel_rfl) (fun _ _ _ h => h) (by rfl) (by assumption) ?_
            try simp only [Act.put, List.setIfInBounds_toArray, List.set_cons_zero, List.set_cons_succ]
            refine skipD (i := 24) (d := some 60) _ rfl rfl (by kernel_rfl) (by kernel_rfl) (by kernel_rfl) (fun _ _ _ h => h) (by rfl) (by assumption) ?_
            try simp only [Act.put, List.setIfInBounds_toArray, List.set_cons_zero, List.set_cons_succ]
            refine takeD (i := 25) (d := some 61) (v := ?_) _ rfl rfl (by kernel_rfl) (by kernel_rfl) (by kernel_rfl) (fun _ _ _ h => h) (by rfl) ?_ (by assumption) ?_
            rotate_left
            · (intro w hSw; (try dsimp only at hSw); go_simp) <;> with_reducible rfl
            try simp only [Act.put, List.setIfInBounds_toArray, List.set_cons_zero, List.set_cons_succ]
            refine takeD (i := 26) (d := some 62) (v := ?_) _ rfl rfl (by kernel_rfl) (by kernel_rfl) (by kernel_rfl) (fun _ _ _ h => h) (by rfl) ?_ (by assumption) ?_
            rotate_left
            · (intro w hSw; (try dsimp only at hSw); go_simp) <;> with_reducible rfl
            try simp only [Act.put, List.setIfInBounds_toArray, List.set_cons_zero, List.set_cons_succ]
            refine wpAnyH_done (by kernel_rfl) ?_ _
            clear hHeld g2 g3
            have SF := Lib.hid (SC.out.below BN3.out)
            have BF : Hid (Below lo w y3) := BB.out.trans (BN3.out.mono (by have := SC.out.ev.lt; have := SC.out.ev.low; omega))
            go_wp2_with fail
            go_roundw
            case rel =>
              have Q : LR lo bw lo len 120 w (.int .i64 ((j : Int) + 1)) y3 := ⟨⟨j + 1, rb3, false, L3, .slice Aw nw cw, HX.out.1, HX.out.2, by go_num, SF.out, HL3.out, BF.out⟩⟩
              first | exact Q | ((repeat apply Exists.intro); exact ⟨Q, rfl⟩)
            case measure => have := HX.out; simp [intOf]; omega

        · try go_simp
          have BA : Below wr.heap.size wr (wr.alloc (.cells #[.bool false, .slice none 0 0] 28)).drew := ((Below.refl _ _).alloc (Nat.le_refl _) _).drew
          have tb : (wr.alloc (.cells #[.bool false, .slice none 0 0] 28)).drew.heap[wr.heap.size]? = some (.cells #[.bool false, .slice none 0 0] 28 (0, 0)) := heap_alloc_new wr _
          have ts : (wr.alloc (.cells #[.bool false, .slice none 0 0] 28)).drew.heap.size = wr.heap.size + 1 := by simp
          refine hK.out _ _ ?_ (fun hHeld => ?_)
          · exact ⟨⟨cell_later BA e0, cell_later BA e1⟩, cell_later BA k0, cell_later BA k1⟩
          clear hK K
          try simp only [Act.put, List.setIfInBounds_toArray, List.set_cons_zero, List.set_cons_succ]
          have BA1 := Lib.hid BA
          have TB := Lib.hid tb
          have TS := Lib.hid ts
          clear BA tb ts
          generalize (wr.alloc (.cells #[.bool false, .slice none 0 0] 28)).drew = Wa at hHeld BA1 TB TS ⊢
          refine wpAnyH_ready (rs := [6]) (by kernel_rfl) (by simp) ?_
          refine AllReadyH.cons rfl (fun K hK => ?_) AllReadyH.nil
          try go_simp
          go_at_call 11
          refine (do_any lo lo rb up L (.slice Av nv cv) (fun b => b < wr.heap.size ∧ (b ≠ lo ∧ b ≠ rb ∧ b ≠ bw)) ok oi Wa (HST.out.ev.below BA1.out) ((HST.out.rl.below BA1.out).imp fun b _ h => h) (fun b hb => ⟨hb.2.1, hb.2.2.1⟩) (by have := HLL.out; have := HJ.out; omega)).mono ?_
          rintro e w3 ⟨v3, rb3, up3, L3, rfl, r3, r4, r5, r6, r7⟩
          have BWX : Below wr.heap.size wr Wa := BA1.out
          have CK : ∀ q o u, q ≠ lo → q ≠ rb → (Wa).cell? ⟨q, o, none⟩ = some u → w3.cell? ⟨q, o, none⟩ = some u := fun q o u h1 h2 hc => r5.ch.cell h1 h2 hc
          have hk0 := CK b _ _ (by have := HBB.out; omega) (by have := HBB.out; omega) hHeld.1.1
          have hk1 := CK b _ _ (by have := HBB.out; omega) (by have := HBB.out; omega) hHeld.1.2
          have hk2 := CK bw _ _ HST.out.ap.1 HST.out.ap.2.1 hHeld.2.1
          have hk3 := CK bw _ _ HST.out.ap.1 HST.out.ap.2.1 hHeld.2.2
          have N3 : Hid (Nx lo rb rb3 wr w3) := (Nx.of_below BWX).trans r5
          have R4 : Hid (Rl w3 v3 (fun b => (b < wr.heap.size ∧ (b ≠ lo ∧ b ≠ rb ∧ b ≠ bw)) ∨ ((Wa).heap.size ≤ b ∧ b ≠ rb3)) L3) := r4.imp fun b _ h => by
            rcases h with h | h
            · exact .inl h.2
            · exact .inr h
          have R3 := Lib.hid r3
          have NU : Hid (up3 = true → L3 = []) := r6 HST.out.nu
          have HL3 : Hid (L3.length ≤ j + 1) := by have := HJ.out; unfold Hid; omega
          have HRB : Hid (rb3 = rb ∨ rb3 = lo ∨ (Wa).heap.size ≤ rb3) := r5.rb
          obtain ⟨Aw, nw, cw, rfl⟩ : ∃ A n c, v3 = .slice A n c := by
            obtain ⟨b, hb⟩ := r4.row
            obtain ⟨A, c, hb⟩ := slice_form hb.own
            exact ⟨A, _, c, hb⟩
          have T3 : Hid (w3.heap[wr.heap.size]? = some (.cells #[.bool false, .slice none 0 0] 28 (0, 0))) := (r5.ch.block wr.heap.size (by have := TS.out; omega) (by have := HST.out.ev.lt; omega) (by have := HST.out.ev.lt; omega)).trans TB.out
          clear r3 r4 r5 r6 r7 CK
          try go_wp2_with fail
          refine hK.out _ _ ?_ (fun hHeld => ?_)
          · exact ⟨⟨hk0, hk1⟩, hk2, hk3⟩
          clear hK K
          try simp only [Act.put, List.setIfInBounds_toArray, List.set_cons_zero, List.set_cons_succ]
          refine takeD (i := 7) (d := some 25) (v := ?_) _ rfl rfl (by kernel_rfl) (by kernel_rfl) (by kernel_rfl) (fun _ _ _ h => h) (by rfl) ?_ (by assumption) ?_
          rotate_left
          · (intro w hSw; (try dsimp only at hSw); go_simp) <;> with_reducible rfl
          try simp only [Act.put, List.setIfInBounds_toArray, List.set_cons_zero, List.set_cons_succ]
          refine takeD (i := 8) (d := some 33) (v := ?_) _ rfl rfl (by kernel_rfl) (by kernel_rfl) (by kernel_rfl) (fun _ _ _ h => h) (by rfl) ?_ (by assumption) ?_
          rotate_left
          · (intro w hSw; (try dsimp only at hSw); go_simp) <;> with_reducible rfl
          try simp only [Act.put, List.setIfInBounds_toArray, List.set_cons_zero, List.set_cons_succ]
          refine takeD (i := 9) (d := some 34) (v := ?_) _ rfl rfl (by kernel_rfl) (by kernel_rfl) (by kernel_rfl) (fun _ _ _ h => h) (by rfl) ?_ (by assumption) ?_
          rotate_left
          · (intro w hSw; (try dsimp only at hSw); go_simp) <;> with_reducible rfl
          try simp only [Act.put, List.setIfInBounds_toArray, List.set_cons_zero, List.set_cons_succ]
          have t0 : w3.cell? ⟨wr.heap.size, 0, none⟩ = some (.bool false) := by rw [(row_cell T3.out 0).1]; rfl
          have t1 : w3.cell? ⟨wr.heap.size, 1, none⟩ = some (.slice none 0 0) := by rw [(row_cell T3.out 1).1]; rfl
          have f0 : w3.frozen? ⟨wr.heap.size, 0, none⟩ = false := (row_cell T3.out 0).2
          have f1 : w3.frozen? ⟨wr.heap.size, 1, none⟩ = false := (row_cell T3.out 1).2
          refine wpAnyH_ready (rs := [11]) (by kernel_rfl) (by simp) ?_
          refine AllReadyH.cons rfl (fun K hK => ?_) AllReadyH.nil
          try go_simp
          have HFB : b ≠ wr.heap.size ∧ bw ≠ wr.heap.size := by have h1 := HST.out.blt; have h2 := HST.out.ev.lt; have h3 := HST.out.ev.low; have := HBB.out; have := HBLO.out; omega
          have FAR : ∀ q o u, q ≠ wr.heap.size → w3.cell? ⟨q, o, none⟩ = some u → ((w3.setCell ⟨wr.heap.size, 0, none⟩ (.bool up3)).setCell ⟨wr.heap.size, 1, none⟩ (.slice Aw nw cw)).cell? ⟨q, o, none⟩ = some u := fun q o u hq hc => by
            rw [World.cell?_setCell_other _ _ _ _ (by intro e; injection e with e; omega), World.cell?_setCell_other _ _ _ _ (by intro e; injection e with e; omega)]; exact hc
          have hk0 := FAR _ _ _ HFB.1 hk0
          have hk1 := FAR _ _ _ HFB.1 hk1
          have hk2 := FAR _ _ _ HFB.2 hk2
          have hk3 := FAR _ _ _ HFB.2 hk3
          refine hK.out _ _ ?_ (fun hHeld => ?_)
          · exact ⟨⟨hk0, hk1⟩, hk2, hk3⟩
          clear hK K
          try simp only [Act.put, List.setIfInBounds_toArray, List.set_cons_zero, List.set_cons_succ]
          refine takeD (i := 12) (d := some 7) (v := ?_) _ rfl rfl (by kernel_rfl) (by kernel_rfl) (by kernel_rfl) (fun _ _ _ h => h) (by rfl) ?_ (by assumption) ?_
          rotate_left
          · (intro w hSw; (try dsimp only at hSw); go_simp) <;> with_reducible rfl
          try simp only [Act.put, List.setIfInBounds_toArray, List.set_cons_zero, List.set_cons_succ]
          refine wpAnyH_done (by kernel_rfl) ?_ _
          have NX : Hid (ST lo bw ((((w3.setCell ⟨wr.heap.size, 0, none⟩ (.bool up3)).setCell ⟨wr.heap.size, 1, none⟩ (.slice Aw nw cw)).setCell ⟨bw, 0, none⟩ (.bool up3)).setCell ⟨bw, 1, none⟩ (.slice Aw nw cw)) lo rb3 up3 L3 (.slice Aw nw cw) ∧ Below lo wr ((((w3.setCell ⟨wr.heap.size, 0, none⟩ (.bool up3)).setCell ⟨wr.heap.size, 1, none⟩ (.slice Aw nw cw)).setCell ⟨bw, 0, none⟩ (.bool up3)).setCell ⟨bw, 1, none⟩ (.slice Aw nw cw))) := by
            have h1 := HST.out.ev.lt
            have h2 := HRB.out
            have h3 := TS.out
            have h4 := HFB
            refine HST.out.next (R3.out.keep (by simp) ?_ ?_) ?_ ⟨(N3.out.ch.setCell (Nat.le_refl _) _ _).setCell (Nat.le_refl _) _ _, N3.out.rb⟩ NU.out
            · rw [set_far _ _ (by omega), set_far _ _ (by omega)]
            · rw [set_far _ _ (by omega), set_far _ _ (by omega)]
            · exact (R4.out.keep (by simp) (fun b _ hb => by rw [set_far _ _ (by omega), set_far _ _ (by omega)])).imp fun b _ h => by omega
          have hbx4 : ((w3.setCell ⟨wr.heap.size, 0, none⟩ (.bool up3)).setCell ⟨wr.heap.size, 1, none⟩ (.slice Aw nw cw)).heap[bw]? = some (.cells #[.bool up, .slice Av nv cv] 28 (0, 0)) := by
            rw [set_far _ _ HFB.2, set_far _ _ HFB.2]
            exact (N3.out.ch.block bw HST.out.blt HST.out.ap.1 HST.out.ap.2.1).trans HST.out.bx
          have hbt4 := set_at (set_at T3.out 0 (.bool up3)) 1 (.slice Aw nw cw)
          have p0 := (row_cell hbx4 0).2
          have p1 := (row_cell hbx4 1).2
          have t0 : ((w3.setCell ⟨wr.heap.size, 0, none⟩ (.bool up3)).setCell ⟨wr.heap.size, 1, none⟩ (.slice Aw nw cw)).cell? ⟨wr.heap.size, 0, none⟩ = some (.bool up3) := by rw [(row_cell hbt4 0).1]; rfl
          have t1 : ((w3.setCell ⟨wr.heap.size, 0, none⟩ (.bool up3)).setCell ⟨wr.heap.size, 1, none⟩ (.slice Aw nw cw)).cell? ⟨wr.heap.size, 1, none⟩ = some (.slice Aw nw cw) := by rw [(row_cell hbt4 1).1]; rfl
          clear hHeld hk0 hk1 f0 f1 FAR hbx4 hbt4
          obtain ⟨Wn, hWn⟩ : ∃ Wn, (((w3.setCell ⟨wr.heap.size, 0, none⟩ (.bool up3)).setCell ⟨wr.heap.size, 1, none⟩ (.slice Aw nw cw)).setCell ⟨bw, 0, none⟩ (.bool up3)).setCell ⟨bw, 1, none⟩ (.slice Aw nw cw) = Wn := ⟨_, rfl⟩
          rw [hWn] at NX
          have SC := Lib.hid NX.out.1
          have BB : Hid (Below lo w Wn) := HB.out.trans NX.out.2
          cases up3 with
          | true =>
            have hl0 : L3 = [] := NU.out rfl
            obtain ⟨A9, c9, hv9⟩ := SC.out.form
            injection hv9 with h1 h2 h3
            rw [hl0] at h2
            simp at h2
            subst h2
            clear h1 h3 hl0 NX
            go_wp2_with fail
            try rw [hWn]
            have k0 : Wn.cell? ⟨bw, 0, none⟩ = some (.bool true) := by rw [(row_cell SC.out.bx 0).1]; rfl
            have k1 : Wn.cell? ⟨bw, 1, none⟩ = some (.slice Aw 0 cw) := by rw [(row_cell SC.out.bx 1).1]; rfl
            have BND : Hid (Below Wn.heap.size Wn Wn.drew) := (Below.refl _ _).drew
            refine wp_region_held_drew (S := (fun w' => w'.cell? ⟨bw, 0, none⟩ = some (.bool true) ∧ w'.cell? ⟨bw, 1, none⟩ = some (.slice Aw 0 cw))) (by kernel_rfl) ?_ (fun hHeld => ?_)
            · exact ⟨k0, k1⟩
            refine takeD (i := 0) (d := some 36) (v := ?_) _ rfl rfl (by kernel_rfl) (by kernel_rfl) (by kernel_rfl) (fun _ _ _ h => h) (by rfl) ?_ (by assumption) ?_
            rotate_left
            · (intro w hSw; (try dsimp only at hSw); go_simp) <;> with_reducible rfl
            try simp only [Act.put, List.setIfInBounds_toArray, List.set_cons_zero, List.set_cons_succ]
            refine takeD (i := 1) (d := some 37) (v := ?_) _ rfl rfl (by kernel_rfl) (by kernel_rfl) (by kernel_rfl) (fun _ _ _ h => h) (by rfl) ?_ (by assumption) ?_
            rotate_left
            · (intro w hSw; (try dsimp only at hSw); go_simp) <;> with_reducible rfl
            try simp only [Act.put, List.setIfInBounds_toArray, List.set_cons_zero, List.set_cons_succ]
            refine takeD (i := 2) (d := some 38) (v := ?_) _ rfl rfl (by kernel_rfl) (by kernel_rfl) (by kernel_rfl) (fun _ _ _ h => h) (by rfl) ?_ (by assumption) ?_
            rotate_left
            · (intro w hSw; (try dsimp only at hSw); go_simp) <;> with_reducible rfl
            try simp only [Act.put, List.setIfInBounds_toArray, List.set_cons_zero, List.set_cons_succ]
            refine takeD (i := 3) (d := some 39) (v := ?_) _ rfl rfl (by kernel_rfl) (by kernel_rfl) (by kernel_rfl) (fun _ _ _ h => h) (by rfl) ?_ (by assumption) ?_
            rotate_left
            · (intro w hSw; (try dsimp only at hSw); go_simp) <;> with_reducible rfl
            try simp only [Act.put, List.setIfInBounds_toArray, List.set_cons_zero, List.set_cons_succ]
            refine takeD (i := 5) (d := some 41) (v := ?_) _ rfl rfl (by kernel_rfl) (by kernel_rfl) (by kernel_rfl) (fun _ _ _ h => h) (by rfl) ?_ (by assumption) ?_
            rotate_left
            · (intro w hSw; (try dsimp only at hSw); go_simp) <;> with_reducible rfl
            try simp only [Act.put, List.setIfInBounds_toArray, List.set_cons_zero, List.set_cons_succ]
            refine takeD (i := 6) (d := some 42) (v := ?_) _ rfl rfl (by kernel_rfl) (by kernel_rfl) (by kernel_rfl) (fun _ _ _ h => h) (by rfl) ?_ (by assumption) ?_
            rotate_left
            · (intro w hSw; (try dsimp only at hSw); go_simp) <;> with_reducible rfl
            try simp only [Act.put, List.setIfInBounds_toArray, List.set_cons_zero, List.set_cons_succ]
            refine wpAnyH_ready (rs := [4]) (by kernel_rfl) (by simp) ?_
            refine AllReadyH.cons rfl (fun K hK => ?_) AllReadyH.nil
            try go_simp
            go_at_call 12
            refine (up_any lo _ _ _ _ _ (SC.out.ev.below BND.out)).mono ?_
            rintro e y2 ⟨rfl, hw⟩
            have hw := hw.symm
            subst hw
            try go_wp2_with fail
            refine hK.out _ _ ?_ (fun hHeld => ?_)
            · exact hHeld
            clear hK K
            try simp only [Act.put, List.setIfInBounds_toArray, List.set_cons_zero, List.set_cons_succ]
            refine takeD (i := 7) (d := some 43) (v := ?_) _ rfl rfl (by kernel_rfl) (by kernel_rfl) (by kernel_rfl) (fun _ _ _ h => h) (by rfl) ?_ (by assumption) ?_
            rotate_left
            · (intro w hSw; (try dsimp only at hSw); go_simp) <;> with_reducible rfl
            try simp only [Act.put, List.setIfInBounds_toArray, List.set_cons_zero, List.set_cons_succ]
            refine takeD (i := 8) (d := some 44) (v := ?_) _ rfl rfl (by kernel_rfl) (by kernel_rfl) (by kernel_rfl) (fun _ _ _ h => h) (by rfl) ?_ (by assumption) ?_
            rotate_left
            · (intro w hSw; (try dsimp only at hSw); go_simp) <;> with_reducible rfl
            try simp only [Act.put, List.setIfInBounds_toArray, List.set_cons_zero, List.set_cons_succ]
            refine takeD (i := 9) (d := some 45) (v := ?_) _ rfl rfl (by kernel_rfl) (by kernel_rfl) (by kernel_rfl) (fun _ _ _ h => h) (by rfl) ?_ (by assumption) ?_
            rotate_left
            · (intro w hSw; (try dsimp only at hSw); go_simp) <;> with_reducible rfl
            try simp only [Act.put, List.setIfInBounds_toArray, List.set_cons_zero, List.set_cons_succ]
            refine takeD (i := 10) (d := some 46) (v := ?_) _ rfl rfl (by kernel_rfl) (by kernel_rfl) (by kernel_rfl) (fun _ _ _ h => h) (by rfl) ?_ (by assumption) ?_
            rotate_left
            · (intro w hSw; (try dsimp only at hSw); go_simp) <;> with_reducible rfl
            try simp only [Act.put, List.setIfInBounds_toArray, List.set_cons_zero, List.set_cons_succ]
            refine takeD (i := 12) (d := some 48) (v := ?_) _ rfl rfl (by kernel_rfl) (by kernel_rfl) (by kernel_rfl) (fun _ _ _ h => h) (by rfl) ?_ (by assumption) ?_
            rotate_left
            · (intro w hSw; (try dsimp only at hSw); go_simp) <;> with_reducible rfl
            try simp only [Act.put, List.setIfInBounds_toArray, List.set_cons_zero, List.set_cons_succ]
            refine takeD (i := 13) (d := some 49) (v := ?_) _ rfl rfl (by kernel_rfl) (by kernel_rfl) (by kernel_rfl) (fun _ _ _ h => h) (by rfl) ?_ (by assumption) ?_
            rotate_left
            · (intro w hSw; (try dsimp only at hSw); go_simp) <;> with_reducible rfl
            try simp only [Act.put, List.setIfInBounds_toArray, List.set_cons_zero, List.set_cons_succ]
            refine wpAnyH_ready (rs := [11]) (by kernel_rfl) (by simp) ?_
            refine AllReadyH.cons rfl (fun K hK => ?_) AllReadyH.nil
            try go_simp
            go_at_call 14
            refine (waiting_any lo _ _ _ _ _ (SC.out.ev.below BND.out) (by have := HL3.out; have := HX.out; omega)).mono ?_
            rintro e y2 ⟨A2, n2, c2, rb2, rfl, r2, _, b2⟩
            have BN2 : Hid (Below Wn.heap.size Wn y2) := BND.out.trans (b2.mono BND.out.size)
            have R2 := Lib.hid r2
            have g2 := b2
            clear r2 b2
            try go_wp2_with fail
            refine hK.out _ _ ?_ (fun hHeld => ?_)
            · exact ⟨cell_later g2 hHeld.1, cell_later g2 hHeld.2⟩
            clear hK K
            try simp only [Act.put, List.setIfInBounds_toArray, List.set_cons_zero, List.set_cons_succ]
            refine wpAnyH_ready (rs := [14]) (by kernel_rfl) (by simp) ?_
            refine AllReadyH.cons rfl (fun K hK => ?_) AllReadyH.nil
            try go_simp
            go_at_call 13
            obtain ⟨be2, hbe2⟩ := (SC.out.rl.keep_below BN2.out).row
            refine (rsame_any _ _ rb2 be2 L3 L3 y2 R2.out hbe2 (by have := HL3.out; have := HX.out; omega) (by have := HL3.out; have := HX.out; omega)).mono ?_
            rintro e y3 ⟨he3, b3⟩
            rw [decide_eq_true rfl] at he3
            subst he3
            have BN3 : Hid (Below Wn.heap.size Wn y3) := BN2.out.trans (b3.mono BN2.out.size)
            have g3 := b3
            clear hbe2 b3 R2
            try go_wp2_with fail
            refine hK.out _ _ ?_ (fun hHeld => ?_)
            · exact ⟨cell_later g3 hHeld.1, cell_later g3 hHeld.2⟩
            clear hK K
            try simp only [Act.put, List.setIfInBounds_toArray, List.set_cons_zero, List.set_cons_succ]
            refine takeD (i := 15) (d := some 51) (v := ?_) _ rfl rfl (by kernel_rfl) (by kernel_rfl) (by kernel_rfl) (fun _ _ _ h => h) (by rfl) ?_ (by assumption) ?_
            rotate_left
            · (intro w hSw; (try dsimp only at hSw); go_simp) <;> with_reducible rfl
            try simp only [Act.put, List.setIfInBounds_toArray, List.set_cons_zero, List.set_cons_succ]
            refine takeD (i := 16) (d := some 52) (v := ?_) _ rfl rfl (by kernel_rfl) (by kernel_rfl) (by kernel_rfl) (fun _ _ _ h => h) (by rfl) ?_ (by assumption) ?_
            rotate_left
            · (intro w hSw; (try dsimp only at hSw); go_simp) <;> with_reducible rfl
            try simp only [Act.put, List.setIfInBounds_toArray, List.set_cons_zero, List.set_cons_succ]
            refine takeD (i := 17) (d := some 53) (v := ?_) _ rfl rfl (by kernel_rfl) (by kernel_rfl) (by kernel_rfl) (fun _ _ _ h => h) (by rfl) ?_ (by assumption) ?_
            rotate_left
            · (intro w hSw; (try dsimp only at hSw); go_simp) <;> with_reducible rfl
            try simp only [Act.put, List.setIfInBounds_toArray, List.set_cons_zero, List.set_cons_succ]
            refine takeD (i := 18) (d := some 54) (v := ?_) _ rfl rfl (by kernel_rfl) (by kernel_rfl) (by kernel_rfl) (fun _ _ _ h => h) (by rfl) ?_ (by assumption) ?_
            rotate_left
            · (intro w hSw; (try dsimp only at hSw); go_simp) <;> with_reducible rfl
            try simp only [Act.put, List.setIfInBounds_toArray, List.set_cons_zero, List.set_cons_succ]
            refine takeD (i := 19) (d := some 55) (v := ?_) _ rfl rfl (by kernel_rfl) (by kernel_rfl) (by kernel_rfl) (fun _ _ _ h => h) (by rfl) ?_ (by assumption) ?_
            rotate_left
            · (intro w hSw; (try dsimp only at hSw); go_simp) <;> with_reducible rfl
            try simp only [Act.put, List.setIfInBounds_toArray, List.set_cons_zero, List.set_cons_succ]
            refine takeD (i := 20) (d := some 56) (v := ?_) _ rfl rfl (by kernel_rfl) (by kernel_rfl) (by kernel_rfl) (fun _ _ _ h => h) (by rfl) ?_ (by assumption) ?_
            rotate_left
            · (intro w hSw; (try dsimp only at hSw); go_simp) <;> with_reducible rfl
            try simp only [Act.put, List.setIfInBounds_toArray, List.set_cons_zero, List.set_cons_succ]
            refine takeD (i := 21) (d := some 57) (v := ?_) _ rfl rfl (by kernel_rfl) (by kernel_rfl) (by kernel_rfl) (fun _ _ _ h => h) (by rfl) ?_ (by assumption) ?_
            rotate_left
            · (intro w hSw; (try dsimp only at hSw); go_simp) <;> with_reducible rfl
            try simp only [Act.put, List.setIfInBounds_toArray, List.set_cons_zero, List.set_cons_succ]
            refine takeD (i := 22) (d := some 58) (v := ?_) _ rfl rfl (by kernel_rfl) (by kernel_rfl) (by kernel_rfl) (fun _ _ _ h => h) (by rfl) ?_ (by assumption) ?_
            rotate_left
            · (intro w hSw; (try dsimp only at hSw); go_simp) <;> with_reducible rfl
            try simp only [Act.put, List.setIfInBounds_toArray, List.set_cons_zero, List.set_cons_succ]
            refine takeD (i := 23) (d := some 59) (v := ?_) _ rfl rfl (by kernel_rfl) (by kernel_rfl) (by kernel_rfl) (fun _ _ _ h => h) (by rfl) ?_ (by assumption) ?_
            rotate_left
            · (intro w hSw; (try dsimp only at hSw); go_simp) <;> with_reducible rfl
            try simp only [Act.put, List.setIfInBounds_toArray, List.set_cons_zero, List.set_cons_succ]
            refine takeD (i := 24) (d := some 60) (v := ?_) _ rfl rfl (by kernel_rfl) (by kernel_rfl) (by kernel_rfl) (fun _ _ _ h => h) (by rfl) ?_ (by assumption) ?_
            rotate_left
            · (intro w hSw; (try dsimp only at hSw); go_simp) <;> with_reducible rfl
            try simp only [Act.put, List.setIfInBounds_toArray, List.set_cons_zero, List.set_cons_succ]
            refine takeD (i := 25) (d := some 61) (v := ?_) _ rfl rfl (by kernel_rfl) (by kernel_rfl) (by kernel_rfl) (fun _ _ _ h => h) (by rfl) ?_ (by assumption) ?_
            rotate_left
            · (intro w hSw; (try dsimp only at hSw); go_simp) <;> with_reducible rfl
            try simp only [Act.put, List.setIfInBounds_toArray, List.set_cons_zero, List.set_cons_succ]
            refine takeD (i := 26) (d := some 62) (v := ?_) _ rfl rfl (by kernel_rfl) (by kernel_rfl) (by kernel_rfl) (fun _ _ _ h => h) (by rfl) ?_ (by assumption) ?_
            rotate_left
            · (intro w hSw; (try dsimp only at hSw); go_simp) <;> with_reducible rfl
            try simp only [Act.put, List.setIfInBounds_toArray, List.set_cons_zero, List.set_cons_succ]
            refine wpAnyH_done (by kernel_rfl) ?_ _
            clear hHeld g2 g3
            have SF := Lib.hid (SC.out.below BN3.out)
            have BF : Hid (Below lo w y3) := BB.out.trans (BN3.out.mono (by have := SC.out.ev.lt; have := SC.out.ev.low; omega))
            go_wp2_with fail
            go_roundw
            case rel =>
              have Q : LR lo bw lo len 120 w (.int .i64 ((j : Int) + 1)) y3 := ⟨⟨j + 1, rb3, true, L3, .slice Aw 0 cw, HX.out.1, HX.out.2, by go_num, SF.out, HL3.out, BF.out⟩⟩
              first | exact Q | ((repeat apply Exists.intro); exact ⟨Q, rfl⟩)
            case measure => have := HX.out; simp [intOf]; omega
          | false =>
            clear NX
            go_wp2_with fail
            try rw [hWn]
            have k0 : Wn.cell? ⟨bw, 0, none⟩ = some (.bool false) := by rw [(row_cell SC.out.bx 0).1]; rfl
            have k1 : Wn.cell? ⟨bw, 1, none⟩ = some (.slice Aw nw cw) := by rw [(row_cell SC.out.bx 1).1]; rfl
            have BND : Hid (Below Wn.heap.size Wn Wn.drew) := (Below.refl _ _).drew
            refine wp_region_held_drew (S := (fun w' => w'.cell? ⟨bw, 0, none⟩ = some (.bool false) ∧ w'.cell? ⟨bw, 1, none⟩ = some (.slice Aw nw cw))) (by kernel_rfl) ?_ (fun hHeld => ?_)
            · exact ⟨k0, k1⟩
            refine takeD (i := 0) (d := some 36) (v := ?_) _ rfl rfl (by kernel_rfl) (by kernel_rfl) (by kernel_rfl) (fun _ _ _ h => h) (by rfl) ?_ (by assumption) ?_
            rotate_left
            · (intro w hSw; (try dsimp only at hSw); go_simp) <;> with_reducible rfl
            try simp only [Act.put, List.setIfInBounds_toArray, List.set_cons_zero, List.set_cons_succ]
            refine takeD (i := 1) (d := some 37) (v := ?_) _ rfl rfl (by kernel_rfl) (by kernel_rfl) (by kernel_rfl) (fun _ _ _ h => h) (by rfl) ?_ (by assumption) ?_
            rotate_left
            · (intro w hSw; (try dsimp only at hSw); go_simp) <;> with_reducible rfl
            try simp only [Act.put, List.setIfInBounds_toArray, List.set_cons_zero, List.set_cons_succ]
            refine takeD (i := 2) (d := some 38) (v := ?_) _ rfl rfl (by kernel_rfl) (by kernel_rfl) (by kernel_rfl) (fun _ _ _ h => h) (by rfl) ?_ (by assumption) ?_
            rotate_left
            · (intro w hSw; (try dsimp only at hSw); go_simp) <;> with_reducible rfl
            try simp only [Act.put, List.setIfInBounds_toArray, List.set_cons_zero, List.set_cons_succ]
            refine takeD (i := 3) (d := some 39) (v := ?_) _ rfl rfl (by kernel_rfl) (by kernel_rfl) (by kernel_rfl) (fun _ _ _ h => h) (by rfl) ?_ (by assumption) ?_
            rotate_left
            · (intro w hSw; (try dsimp only at hSw); go_simp) <;> with_reducible rfl
            try simp only [Act.put, List.setIfInBounds_toArray, List.set_cons_zero, List.set_cons_succ]
            refine takeD (i := 5) (d := some 41) (v := ?_) _ rfl rfl (by kernel_rfl) (by kernel_rfl) (by kernel_rfl) (fun _ _ _ h => h) (by rfl) ?_ (by assumption) ?_
            rotate_left
            · (intro w hSw; (try dsimp only at hSw); go_simp) <;> with_reducible rfl
            try simp only [Act.put, List.setIfInBounds_toArray, List.set_cons_zero, List.set_cons_succ]
            refine takeD (i := 6) (d := some 42) (v := ?_) _ rfl rfl (by kernel_rfl) (by kernel_rfl) (by kernel_rfl) (fun _ _ _ h => h) (by rfl) ?_ (by assumption) ?_
            rotate_left
            · (intro w hSw; (try dsimp only at hSw); go_simp) <;> with_reducible rfl
            try simp only [Act.put, List.setIfInBounds_toArray, List.set_cons_zero, List.set_cons_succ]
            refine wpAnyH_ready (rs := [4]) (by kernel_rfl) (by simp) ?_
            refine AllReadyH.cons rfl (fun K hK => ?_) AllReadyH.nil
            try go_simp
            go_at_call 12
            refine (up_any lo _ _ _ _ _ (SC.out.ev.below BND.out)).mono ?_
            rintro e y2 ⟨rfl, hw⟩
            have hw := hw.symm
            subst hw
            try go_wp2_with fail
            refine hK.out _ _ ?_ (fun hHeld => ?_)
            · exact hHeld
            clear hK K
            try simp only [Act.put, List.setIfInBounds_toArray, List.set_cons_zero, List.set_cons_succ]
            refine takeD (i := 7) (d := some 43) (v := ?_) _ rfl rfl (by kernel_rfl) (by kernel_rfl) (by kernel_rfl) (fun _ _ _ h => h) (by rfl) ?_ (by assumption) ?_
            rotate_left
            · (intro w hSw; (try dsimp only at hSw); go_simp) <;> with_reducible rfl
            try simp only [Act.put, List.setIfInBounds_toArray, List.set_cons_zero, List.set_cons_succ]
            refine takeD (i := 8) (d := some 44) (v := ?_) _ rfl rfl (by kernel_rfl) (by kernel_rfl) (by kernel_rfl) (fun _ _ _ h => h) (by rfl) ?_ (by assumption) ?_
            rotate_left
            · (intro w hSw; (try dsimp only at hSw); go_simp) <;> with_reducible rfl
            try simp only [Act.put, List.setIfInBounds_toArray, List.set_cons_zero, List.set_cons_succ]
            refine takeD (i := 9) (d := some 45) (v := ?_) _ rfl rfl (by kernel_rfl) (by kernel_rfl) (by kernel_rfl) (fun _ _ _ h => h) (by rfl) ?_ (by assumption) ?_
            rotate_left
            · (intro w hSw; (try dsimp only at hSw); go_simp) <;> with_reducible rfl
            try simp only [Act.put, List.setIfInBounds_toArray, List.set_cons_zero, List.set_cons_succ]
            refine takeD (i := 10) (d := some 46) (v := ?_) _ rfl rfl (by kernel_rfl) (by kernel_rfl) (by kernel_rfl) (fun _ _ _ h => h) (by rfl) ?_ (by assumption) ?_
            rotate_left
            · (intro w hSw; (try dsimp only at hSw); go_simp) <;> with_reducible rfl
            try simp only [Act.put, List.setIfInBounds_toArray, List.set_cons_zero, List.set_cons_succ]
            refine takeD (i := 12) (d := some 48) (v := ?_) _ rfl rfl (by kernel_rfl) (by kernel_rfl) (by kernel_rfl) (fun _ _ _ h => h) (by rfl) ?_ (by assumption) ?_
            rotate_left
            · (intro w hSw; (try dsimp only at hSw); go_simp) <;> with_reducible rfl
            try simp only [Act.put, List.setIfInBounds_toArray, List.set_cons_zero, List.set_cons_succ]
            refine takeD (i := 13) (d := some 49) (v := ?_) _ rfl rfl (by kernel_rfl) (by kernel_rfl) (by kernel_rfl) (fun _ _ _ h => h) (by rfl) ?_ (by assumption) ?_
            rotate_left
            · (intro w hSw; (try dsimp only at hSw); go_simp) <;> with_reducible rfl
            try simp only [Act.put, List.setIfInBounds_toArray, List.set_cons_zero, List.set_cons_succ]
            refine wpAnyH_ready (rs := [11]) (by kernel_rfl) (by simp) ?_
            refine AllReadyH.cons rfl (fun K hK => ?_) AllReadyH.nil
            try go_simp
            go_at_call 14
            refine (waiting_any lo _ _ _ _ _ (SC.out.ev.below BND.out) (by have := HL3.out; have := HX.out; omega)).mono ?_
            rintro e y2 ⟨A2, n2, c2, rb2, rfl, r2, _, b2⟩
            have BN2 : Hid (Below Wn.heap.size Wn y2) := BND.out.trans (b2.mono BND.out.size)
            have R2 := Lib.hid r2
            have g2 := b2
            clear r2 b2
            try go_wp2_with fail
            refine hK.out _ _ ?_ (fun hHeld => ?_)
            · exact ⟨cell_later g2 hHeld.1, cell_later g2 hHeld.2⟩
            clear hK K
            try simp only [Act.put, List.setIfInBounds_toArray, List.set_cons_zero, List.set_cons_succ]
            refine wpAnyH_ready (rs := [14]) (by kernel_rfl) (by simp) ?_
            refine AllReadyH.cons rfl (fun K hK => ?_) AllReadyH.nil
            try go_simp
            go_at_call 13
            obtain ⟨be2, hbe2⟩ := (SC.out.rl.keep_below BN2.out).row
            refine (rsame_any _ _ rb2 be2 L3 L3 y2 R2.out hbe2 (by have := HL3.out; have := HX.out; omega) (by have := HL3.out; have := HX.out; omega)).mono ?_
            rintro e y3 ⟨he3, b3⟩
            rw [decide_eq_true rfl] at he3
            subst he3
            have BN3 : Hid (Below Wn.heap.size Wn y3) := BN2.out.trans (b3.mono BN2.out.size)
            have g3 := b3
            clear hbe2 b3 R2
            try go_wp2_with fail
            refine hK.out _ _ ?_ (fun hHeld => ?_)
            · exact ⟨cell_later g3 hHeld.1, cell_later g3 hHeld.2⟩
            clear hK K
            try simp only [Act.put, List.setIfInBounds_toArray, List.set_cons_zero, List.set_cons_succ]
            refine takeD (i := 15) (d := some 51) (v := ?_) _ rfl rfl (by kernel_rfl) (by kernel_rfl) (by kernel_rfl) (fun _ _ _ h => h) (by rfl) ?_ (by assumption) ?_
            rotate_left
            · (intro w hSw; (try dsimp only at hSw); go_simp) <;> with_reducible rfl
            try simp only [Act.put, List.setIfInBounds_toArray, List.set_cons_zero, List.set_cons_succ]
            refine takeD (i := 16) (d := some 52) (v := ?_) _ rfl rfl (by kernel_rfl) (by kernel_rfl) (by kernel_rfl) (fun _ _ _ h => h) (by rfl) ?_ (by assumption) ?_
            rotate_left
            · (intro w hSw; (try dsimp only at hSw); go_simp) <;> with_reducible rfl
            try simp only [Act.put, List.setIfInBounds_toArray, List.set_cons_zero, List.set_cons_succ]
            refine takeD (i := 17) (d := some 53) (v := ?_) _ rfl rfl (by kernel_rfl) (by kernel_rfl) (by kernel_rfl) (fun _ _ _ h => h) (by rfl) ?_ (by assumption) ?_
            rotate_left
            · (intro w hSw; (try dsimp only at hSw); go_simp) <;> with_reducible rfl
            try simp only [Act.put, List.setIfInBounds_toArray, List.set_cons_zero, List.set_cons_succ]
            refine takeD (i := 18) (d := some 54) (v := ?_) _ rfl rfl (by kernel_rfl) (by kernel_rfl) (by kernel_rfl) (fun _ _ _ h => h) (by rfl) ?_ (by assumption) ?_
            rotate_left
            · (intro w hSw; (try dsimp only at hSw); go_simp) <;> with_reducible rfl
            try simp only [Act.put, List.setIfInBounds_toArray, List.set_cons_zero, List.set_cons_succ]
            refine takeD (i := 19) (d := some 55) (v := ?_) _ rfl rfl (by kernel_rfl) (by kernel_rfl) (by kernel_rfl) (fun _ _ _ h => h) (by rfl) ?_ (by assumption) ?_
            rotate_left
            · (intro w hSw; (try dsimp only at hSw); go_simp) <;> with_reducible rfl
            try simp only [Act.put, List.setIfInBounds_toArray, List.set_cons_zero, List.set_cons_succ]
            refine takeD (i := 20) (d := some 56) (v := ?_) _ rfl rfl (by kernel_rfl) (by kernel_rfl) (by kernel_rfl) (fun _ _ _ h => h) (by rfl) ?_ (by assumption) ?_
            rotate_left
            · (intro w hSw; (try dsimp only at hSw); go_simp) <;> with_reducible rfl
            try simp only [Act.put, List.setIfInBounds_toArray, List.set_cons_zero, List.set_cons_succ]
            refine skipD (i := 21) (d := some 57) _ rfl rfl (by kernel_rfl) (by kernel_rfl) (by kernel_rfl) (fun _ _ _ h => h) (by rfl) (by assumption) ?_
            try simp only [Act.put, List.setIfInBounds_toArray, List.set_cons_zero, List.set_cons_succ]
            refine skipD (i := 22) (d := some 58) _ rfl rfl (by kernel_rfl) (by kernel_rfl) (by kernel_rfl) (fun _ _ _ h => h) (by rfl) (by assumption) ?_
            try simp only [Act.put, List.setIfInBounds_toArray, List.set_cons_zero, List.set_cons_succ]
            refine skipD (i := 23) (d := some 59) _ rfl rfl (by kernel_rfl) (by kernel_rfl) (by kernel_rfl) (fun _ _ _ h => h) (by rfl) (by assumption) ?_
            try simp only [Act.put, List.setIfInBounds_toArray, List.set_cons_zero, List.set_cons_succ]
            refine skipD (i := 24) (d := some 60) _ rfl rfl (by kernel_rfl) (by kernel_rfl) (by kernel_rfl) (fun _ _ _ h => h) (by rfl) (by assumption) ?_
            try simp only [Act.put, List.setIfInBounds_toArray, List.set_cons_zero, List.set_cons_succ]
            refine takeD (i := 25) (d := some 61) (v := ?_) _ rfl rfl (by kernel_rfl) (by kernel_rfl) (by kernel_rfl) (fun _ _ _ h => h) (by rfl) ?_ (by assumption) ?_
            rotate_left
            · (intro w hSw; (try dsimp only at hSw); go_simp) <;> with_reducible rfl
            try simp only [Act.put, List.setIfInBounds_toArray, List.set_cons_zero, List.set_cons_succ]
            refine takeD (i := 26) (d := some 62) (v := ?_) _ rfl rfl (by kernel_rfl) (by kernel_rfl) (by kernel_rfl) (fun _ _ _ h => h) (by rfl) ?_ (by assumption) ?_
            rotate_left
            · (intro w hSw; (try dsimp only at hSw); go_simp) <;> with_reducible rfl
            try simp only [Act.put, List.setIfInBounds_toArray, List.set_cons_zero, List.set_cons_succ]
            refine wpAnyH_done (by kernel_rfl) ?_ _
            clear hHeld g2 g3
            have SF := Lib.hid (SC.out.below BN3.out)
            have BF : Hid (Below lo w y3) := BB.out.trans (BN3.out.mono (by have := SC.out.ev.lt; have := SC.out.ev.low; omega))
            go_wp2_with fail
            go_roundw
            case rel =>
              have Q : LR lo bw lo len 120 w (.int .i64 ((j : Int) + 1)) y3 := ⟨⟨j + 1, rb3, false, L3, .slice Aw nw cw, HX.out.1, HX.out.2, by go_num, SF.out, HL3.out, BF.out⟩⟩
              first | exact Q | ((repeat apply Exists.intro); exact ⟨Q, rfl⟩)
            case measure => have := HX.out; simp [intOf]; omega

      · have hjI : (j : Int) < (len : Int) := by omega
        have hj60 : ¬ (j : Int) < 120 := by omega
        clear hlt h60
        go_wp2_with fail
        go_ret
        exact ⟨rfl, HB.out⟩
    · have hjI : ¬ (j : Int) < (len : Int) := by omega
      clear hlt
      go_wp2_with fail
      go_ret
      exact ⟨rfl, HB.out⟩
end Go.Proofs.Ytehlgfflbbfjkaa.E
