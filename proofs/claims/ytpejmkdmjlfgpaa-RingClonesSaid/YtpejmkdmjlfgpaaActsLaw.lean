/-
  RingActs' walk: whatever is done, one thing behind the other, is answered as the document says, and all messages are told.
-/
import Derived.Test.YtpejmkdmjlfgpaaDo
namespace Go.Proofs.Ytpejmkdmjlfgpaa
open Go.RowKit
set_option linter.unusedSimpArgs false
set_option linter.unusedVariables false
theorem arith32 (x : Int) : ∃ u q n : Nat, IntKind.u64.wrap x = (u : Int) ∧ (u : Int) % 32 = (q : Int) ∧ IntKind.i64.wrap (q : Int) = (q : Int) ∧ (1 : Int) + (q : Int) = (n : Int) ∧ wrap64 (n : Int) = (n : Int) ∧ IntKind.i64.wrap (n : Int) = (n : Int) ∧ (0 : Int) ≤ (q : Int) ∧ 1 ≤ n ∧ n ≤ 32 := by
  obtain ⟨u, hu⟩ : ∃ u : Nat, IntKind.u64.wrap x = (u : Int) := ⟨(IntKind.u64.wrap x).toNat, by rw [IntKind.wrap_u64]; omega⟩
  exact ⟨u, u % 32, 1 + u % 32, hu, by omega, IntWalk.i64_in _ (by omega), by omega, by unfold wrap64; omega, IntWalk.i64_in _ (by omega), by omega, by omega, by omega⟩
theorem begin_any (room words : Int) (w : World) :
    Calls Try.prog 9 #[.int .i64 room, .int .i64 words] w fun e w' => ∃ n m g : Nat, e = .returned (.tuple #[.pointer (some ⟨g, 0, none⟩), .agg #[.int .i64 (n : Int), .int .i64 (m : Int), .slice none 0 0]]) ∧ RingF w' (fun _ => False) g n m 0 [] ∧ w.heap.size ≤ g ∧ Below w.heap.size w w' := by
  obtain ⟨u, q, n, hu, hq, qi, hn, q1, q1', q0, n1, n2⟩ := arith32 room
  obtain ⟨v, r, m, hv, hr, ri, hm, r1, r1', r0, m1, m2⟩ := arith32 words
  have NEW := Lib.hid fun (W : World) => new_ok n m W ⟨n1, n2⟩ ⟨m1, m2⟩
  clear n1 n2 m1 m2 q1 r1
  go_enter Try.func9, Try.ntmps9
  go_wp2_with fail
  refine (NEW.out _).mono ?_
  rintro e w1 ⟨rfl, R1, b1⟩
  have Z := (box_new w (.int .i64 0) (.int .i64 0) (.slice none 0 0) 26).below b1
  have z0 := Z.c0
  have z1 := Z.c1
  have z2 := Z.c2
  have zf := Z.fz
  have HR := Lib.hid R1
  have HB := Lib.hid (((Below.refl _ w).alloc (Nat.le_refl _) (.cells #[.int .i64 0, .int .i64 0, .slice none 0 0] 26)).trans (b1.mono (by simp)))
  clear R1 b1 Z NEW
  go_wp2_with fail
  clear hu hq qi hn q1' q0 hv hr ri hm r1' r0
  exact bodyPost_ret (v := .tuple #[.pointer (some ⟨w.heap.size + 1, 0, none⟩), .agg #[.int .i64 (n : Int), .int .i64 (m : Int), .slice none 0 0]]) (by simp [results, Try.results9, go_sem, z0, z1, z2]) rfl ⟨n, m, w.heap.size + 1, rfl, by
    have := HR.out
    rw [show (w.alloc (.cells #[.int .i64 0, .int .i64 0, .slice none 0 0] 26)).heap.size = w.heap.size + 1 by simp] at this
    exact this.set3 (by omega) (fun h => h) _ _ _, by omega, below3 HB.out (Nat.le_refl _) _ _ _⟩
/-- A slice of deeds as the walk reads it. -/
def OpRow (w : World) (a : Option Addr) (len : Nat) : Prop := 0 < len → ∃ (b off : Nat) (K : Nat → Int) (A : Nat → Option Addr) (L C : Nat → Nat) (M : Nat → List Int), a = some ⟨b, off, none⟩ ∧
  ∀ r, r < len → w.cell? ⟨b, off + r * 2, none⟩ = some (.int .i64 (K r)) ∧ w.cell? ⟨b, off + r * 2 + 1, none⟩ = some (.slice (A r) (L r) (C r)) ∧ L r ≤ C r ∧ C r ≤ maxLen ∧ (A r = none → C r = 0) ∧ Reads w w.heap.size 1 (A r) (L r) (U (M r))
def Off (g bw : Nat) (b : Nat) : Prop := b ≠ g ∧ b ≠ bw
structure ActsRel (w : World) (g bw n m len : Nat) (i : Value) (wr : World) : Prop where
  ex : ∃ (j : Nat) (A : Option Addr) (c f : Nat) (L : List (List Int)), j ≤ len ∧ j ≤ 120 ∧ i = .int .i64 (j : Int) ∧ Box wr bw (.int .i64 (n : Int)) (.int .i64 (m : Int)) (.slice A L.length c) ∧ RingF wr (Off g bw) g n m f L ∧ RefR wr (Off g bw) A c L ∧ Below w.heap.size w wr
structure ActsCut (w wr : World) (g bw n m : Nat) (s10 s11 : Value) (wx : World) : Prop where
  ex : ∃ tb A c f L v, s10 = .pointer (some ⟨tb, 0, none⟩) ∧ s11 = .bool true ∧ Box wx tb (.int .i64 (n : Int)) (.int .i64 (m : Int)) (.slice A L.length c) ∧ Box wx bw (.int .i64 (n : Int)) (.int .i64 (m : Int)) v ∧ tb ≠ bw ∧
    RingF wx (Off g bw) g n m f L ∧ RefR wx (Off g bw) A c L ∧ Below w.heap.size w wx

set_option maxRecDepth 100000 in
set_option maxHeartbeats 8000000 in
theorem acts_walk (room words : Int) (a : Option Addr) (len cap : Nat) (w : World) (h1 : OpRow w a len) (hlen : len ≤ maxLen) :
    Calls Try.prog 3 #[.int .i64 room, .int .i64 words, .slice a len cap] w fun e w' => e = .returned (.bool true) ∧ Below w.heap.size w w' := by
  have H1 := Lib.hid h1
  have HL : Hid (len ≤ 9223372036854775807) := by unfold maxLen at hlen; unfold Hid; omega
  clear h1 hlen
  go_enter Try.func3, Try.ntmps3
  go_wp2_with fail
  refine (begin_any room words w).mono ?_
  rintro e w1 ⟨n, m, g, rfl, R1, hg, b1⟩
  go_wp2_with fail
  refine (told_any _).mono ?_
  rintro e w2 ⟨rfl, b2⟩
  have gl := R1.lt
  have X2 := (box_new w1 (.int .i64 (n : Int)) (.int .i64 (m : Int)) (.slice none 0 0) 26).below b2
  have B1A : Below w1.heap.size w1 (w1.alloc (.cells #[.int .i64 (n : Int), .int .i64 (m : Int), .slice none 0 0] 26)) := (Below.refl _ _).alloc (Nat.le_refl _) _
  have R2 := (R1.below (B1A.trans (b2.mono (by simp)))).more (Q' := Off g w1.heap.size) (fun b hb => hb.elim) (fun hh => hh.1 rfl)
  have B2 := b1.trans ((B1A.trans (b2.mono (by simp))).mono b1.size)
  obtain ⟨bw, hbw⟩ : ∃ bw, w1.heap.size = bw := ⟨_, rfl⟩
  have gbw : g ≠ bw := by omega
  have hwb : w.heap.size ≤ bw := by have := b1.size; omega
  rw [hbw] at X2 R2
  simp only [hbw]
  have GBW := Lib.hid gbw
  have HWB := Lib.hid hwb
  have HG := Lib.hid hg
  clear R1 b1 b2 B1A gl hbw gbw hwb hg
  go_wp2_with fail
  go_loopw [9, 10, 11] (fun i _ _ wr => ActsRel w g bw n m len i wr) (fun i _ _ _ => 120 - (intOf i).toNat)
  case atStart => exact ⟨⟨0, none, 0, 0, [], by omega, by omega, rfl, X2, R2, refR_nil _ _, B2⟩⟩
  case round =>
    clear X2 R2 B2
    obtain ⟨⟨j, A, c, f, L, hj, hj3, rfl, hX, hR, hM, hB⟩⟩ := hrel
    by_cases hlt : j < len
    · by_cases h120 : j < 120
      · obtain ⟨b, off, K, Ao, Lo, Co, Mo, rfl, hc⟩ := H1.out (by omega)
        obtain ⟨c1, c2, hlc, hcm, hAn, hrd⟩ := hc j hlt
        obtain ⟨kj, hkj⟩ : ∃ kj, K j = kj := ⟨_, rfl⟩
        obtain ⟨Aj, hAj⟩ : ∃ Aj, Ao j = Aj := ⟨_, rfl⟩
        obtain ⟨Lj, hLj⟩ : ∃ Lj, Lo j = Lj := ⟨_, rfl⟩
        obtain ⟨Cj, hCj⟩ : ∃ Cj, Co j = Cj := ⟨_, rfl⟩
        obtain ⟨Mj, hMj⟩ : ∃ Mj, Mo j = Mj := ⟨_, rfl⟩
        rw [hkj] at c1
        rw [hAj, hLj, hCj] at c2
        rw [hLj, hCj] at hlc
        rw [hCj] at hcm
        rw [hAj, hCj] at hAn
        rw [hAj, hLj, hMj] at hrd
        have bl := World.block_lt_of_cell? _ _ c1
        have bl : b < w.heap.size := bl
        have c1 := cell_later hB c1
        have c2 := cell_later hB c2
        obtain ⟨NL, hNL⟩ : ∃ NL, L.length = NL := ⟨_, rfl⟩
        have HNL := Lib.hid hNL
        have X0 := hX.c0
        have X1 := hX.c1
        have X2 := hX.c2
        rw [hNL] at X2
        have HX := Lib.hid hX
        have HR := Lib.hid hR
        have HM := Lib.hid hM
        have HB := Lib.hid hB
        have HRD := Lib.hid hrd
        have HLC := Lib.hid hlc
        have HCM := Lib.hid hcm
        have HAN := Lib.hid hAn
        clear hX hR hM hB hrd hlc hcm hAn hkj hAj hLj hCj hMj hc hNL
        go_upto_region 7 with fail
        have DO := Lib.hid fun (W : World) (hb : Below wr.heap.size wr W) => do_any W _ g n m f L (HR.out.narrow.below hb) _ A c (HM.out.narrow.below hb) (fun hh => hh.1.1 rfl) kj Aj Lj Cj Mj HAN.out (((HRD.out.below HB.out).more HB.out.size |>.below hb).more hb.size) HLC.out HCM.out
        rw [HNL.out] at DO
        have glw := HR.out.lt
        have bwl := HX.out.lt
        have hws := HB.out.size
        have bg : b ≠ g := by have := HG.out; omega
        have bwb : b ≠ bw := by have := HWB.out; omega
        go_cut [10, 11] (fun s10 s11 wx => ActsCut w wr g bw n m s10 s11 wx)
        case first =>
          refine wp_region_held_drew (S := (fun w' => wr.heap.size ≤ w'.heap.size ∧ w'.cell? ⟨bw, 0, none⟩ = some (.int .i64 (n : Int)) ∧ w'.cell? ⟨bw, 1, none⟩ = some (.int .i64 (m : Int)) ∧ w'.cell? ⟨bw, 2, none⟩ = some (.slice A NL c) ∧ w'.cell? ⟨b, off + j * 2, none⟩ = some (.int .i64 kj) ∧ w'.cell? ⟨b, off + j * 2 + 1, none⟩ = some (.slice Aj Lj Cj))) (by kernel_rfl) ?_ (fun hHeld => ?_)
          · exact ⟨Nat.le_refl _, X0, X1, X2, c1, c2⟩
          refine takeD (i := 0) (d := some 35) (v := ?_) _ rfl rfl (by kernel_rfl) (by kernel_rfl) (by kernel_rfl) (fun _ _ _ h => h) (by rfl) ?_ (by assumption) ?_
          rotate_left
          · (intro w hSw; (try dsimp only at hSw); go_simp) <;> with_reducible rfl
          try simp only [Act.put, List.setIfInBounds_toArray, List.set_cons_zero, List.set_cons_succ]
          refine takeD (i := 1) (d := some 36) (v := ?_) _ rfl rfl (by kernel_rfl) (by kernel_rfl) (by kernel_rfl) (fun _ _ _ h => h) (by rfl) ?_ (by assumption) ?_
          rotate_left
          · (intro w hSw; (try dsimp only at hSw); go_simp) <;> with_reducible rfl
          try simp only [Act.put, List.setIfInBounds_toArray, List.set_cons_zero, List.set_cons_succ]
          refine takeD (i := 2) (d := some 37) (v := ?_) _ rfl rfl (by kernel_rfl) (by kernel_rfl) (by kernel_rfl) (fun _ _ _ h => h) (by rfl) ?_ (by assumption) ?_
          rotate_left
          · (intro w hSw; (try dsimp only at hSw); go_simp) <;> with_reducible rfl
          try simp only [Act.put, List.setIfInBounds_toArray, List.set_cons_zero, List.set_cons_succ]
          refine takeD (i := 3) (d := some 38) (v := ?_) _ rfl rfl (by kernel_rfl) (by kernel_rfl) (by kernel_rfl) (fun _ _ _ h => h) (by rfl) ?_ (by assumption) ?_
          rotate_left
          · (intro w hSw; (try dsimp only at hSw); go_simp) <;> with_reducible rfl
          try simp only [Act.put, List.setIfInBounds_toArray, List.set_cons_zero, List.set_cons_succ]
          refine takeD (i := 4) (d := some 39) (v := ?_) _ rfl rfl (by kernel_rfl) (by kernel_rfl) (by kernel_rfl) (fun _ _ _ h => h) (by rfl) ?_ (by assumption) ?_
          rotate_left
          · (intro w hSw; (try dsimp only at hSw); go_simp) <;> with_reducible rfl
          try simp only [Act.put, List.setIfInBounds_toArray, List.set_cons_zero, List.set_cons_succ]
          refine takeD (i := 5) (d := some 40) (v := ?_) _ rfl rfl (by kernel_rfl) (by kernel_rfl) (by kernel_rfl) (fun _ _ _ h => h) (by rfl) ?_ (by assumption) ?_
          rotate_left
          · (intro w hSw; (try dsimp only at hSw); go_simp) <;> with_reducible rfl
          try simp only [Act.put, List.setIfInBounds_toArray, List.set_cons_zero, List.set_cons_succ]
          have HP := hHeld
          refine wpAnyH_ready (rs := [6, 10]) (by kernel_rfl) (by simp) ?_
          refine AllReadyH.cons rfl (fun K hK => ?_) (AllReadyH.cons rfl (fun K hK => ?_) AllReadyH.nil)
          · (go_simp; go_at_call 11; refine (DO.out _ ((Below.refl _ _).drew)).mono ?_; rintro e wd ⟨A', c', f', L', rfl, hring, href, hpast⟩; try go_wp2_with fail)
            refine hK.out _ _ ?_ (fun hHeld => ?_)
            · exact ⟨Nat.le_trans HP.1 hpast.size, past_cell hpast GBW.out.symm HP.2.1, past_cell hpast GBW.out.symm HP.2.2.1, past_cell hpast GBW.out.symm HP.2.2.2.1, past_cell hpast bg HP.2.2.2.2.1, past_cell hpast bg HP.2.2.2.2.2⟩
            clear hK K
            try simp only [Act.put, List.setIfInBounds_toArray, List.set_cons_zero, List.set_cons_succ]
            have HP := hHeld
            refine takeD (i := 7) (d := some 34) (v := ?_) _ rfl rfl (by kernel_rfl) (by kernel_rfl) (by kernel_rfl) (fun _ _ _ h => h) (by rfl) ?_ (by assumption) ?_
            rotate_left
            · (intro w hSw; (try dsimp only at hSw); go_simp) <;> with_reducible rfl
            try simp only [Act.put, List.setIfInBounds_toArray, List.set_cons_zero, List.set_cons_succ]
            refine takeD (i := 8) (d := some 42) (v := ?_) _ rfl rfl (by kernel_rfl) (by kernel_rfl) (by kernel_rfl) (fun _ _ _ h => h) (by rfl) ?_ (by assumption) ?_
            rotate_left
            · (intro w hSw; (try dsimp only at hSw); go_simp) <;> with_reducible rfl
            try simp only [Act.put, List.setIfInBounds_toArray, List.set_cons_zero, List.set_cons_succ]
            refine takeD (i := 9) (d := some 43) (v := ?_) _ rfl rfl (by kernel_rfl) (by kernel_rfl) (by kernel_rfl) (fun _ _ _ h => h) (by rfl) ?_ (by assumption) ?_
            rotate_left
            · (intro w hSw; (try dsimp only at hSw); go_simp) <;> with_reducible rfl
            try simp only [Act.put, List.setIfInBounds_toArray, List.set_cons_zero, List.set_cons_succ]
            refine wpAnyH_ready (rs := [10]) (by kernel_rfl) (by simp) ?_
            refine AllReadyH.cons rfl (fun K hK => ?_) AllReadyH.nil
            go_simp
            refine hK.out _ _ ?_ (fun hHeld => ?_)
            · exact ⟨Nat.le_trans HP.1 (by simp), cell_al _ HP.2.1, cell_al _ HP.2.2.1, cell_al _ HP.2.2.2.1, cell_al _ HP.2.2.2.2.1, cell_al _ HP.2.2.2.2.2⟩
            clear hK K
            try simp only [Act.put, List.setIfInBounds_toArray, List.set_cons_zero, List.set_cons_succ]
            refine wpAnyH_ready (rs := [11]) (by kernel_rfl) (by simp) ?_
            refine AllReadyH.cons rfl (fun K hK => ?_) AllReadyH.nil
            go_simp
            refine hK.out _ _ ?_ (fun hHeld => ?_)
            · exact ⟨Nat.le_trans HP.1 (by simp), cell_al _ HP.2.1, cell_al _ HP.2.2.1, cell_al _ HP.2.2.2.1, cell_al _ HP.2.2.2.2.1, cell_al _ HP.2.2.2.2.2⟩
            clear hK K
            try simp only [Act.put, List.setIfInBounds_toArray, List.set_cons_zero, List.set_cons_succ]
            refine takeD (i := 12) (d := some 11) (v := ?_) _ rfl rfl (by kernel_rfl) (by kernel_rfl) (by kernel_rfl) (fun _ _ _ h => h) (by rfl) ?_ (by assumption) ?_
            rotate_left
            · (intro w hSw; (try dsimp only at hSw); go_simp) <;> with_reducible rfl
            try simp only [Act.put, List.setIfInBounds_toArray, List.set_cons_zero, List.set_cons_succ]
            refine wpAnyH_done (by kernel_rfl) ?_ _
            have sd : wr.heap.size ≤ wd.heap.size := hpast.size
            have AB : Below wd.heap.size wd (wd.alloc (.cells #[.int .i64 (n : Int), .int .i64 (m : Int), .slice A' L'.length c'] 26)) := (Below.refl _ _).alloc (Nat.le_refl _) _
            have BXn := (HX.out.past (((Past.refl g wr).drew).trans hpast) GBW.out.symm).below AB
            have RFn := (hring.below AB).more (Q' := Off g bw) (fun b hb => by
          rcases hb with h1 | h1
          · exact h1.1
          · exact ⟨by omega, by omega⟩) (fun hh => hh.1 rfl)
            have RMn := (href.below AB).more (Q' := Off g bw) (fun b _ hb => by
              rcases hb with h1 | h1
              · exact h1.1
              · exact ⟨by omega, by omega⟩)
            have BWn := HB.out.trans (((((Past.refl g wr).drew).trans hpast).below HG.out HB.out.size).trans (AB.mono (Nat.le_trans HB.out.size sd)))
            go_wp2_with fail
            go_meet
            exact ⟨⟨_, A', c', f', L', _, rfl, rfl, box_new _ _ _ _ 26, BXn, by omega, RFn, RMn, BWn⟩⟩
          · go_simp
            refine hK.out _ _ ?_ (fun hHeld => ?_)
            · exact ⟨Nat.le_trans HP.1 (by simp), cell_al _ HP.2.1, cell_al _ HP.2.2.1, cell_al _ HP.2.2.2.1, cell_al _ HP.2.2.2.2.1, cell_al _ HP.2.2.2.2.2⟩
            clear hK K
            try simp only [Act.put, List.setIfInBounds_toArray, List.set_cons_zero, List.set_cons_succ]
            have HP := hHeld
            refine wpAnyH_ready (rs := [6]) (by kernel_rfl) (by simp) ?_
            refine AllReadyH.cons rfl (fun K hK => ?_) AllReadyH.nil
            (go_simp; go_at_call 11; refine (DO.out _ (((Below.refl wr.heap.size wr).drew).alloc (Nat.le_refl _) _)).mono ?_; rintro e wd ⟨A', c', f', L', rfl, hring, href, hpast⟩; try go_wp2_with fail)
            refine hK.out _ _ ?_ (fun hHeld => ?_)
            · exact ⟨Nat.le_trans HP.1 hpast.size, past_cell hpast GBW.out.symm HP.2.1, past_cell hpast GBW.out.symm HP.2.2.1, past_cell hpast GBW.out.symm HP.2.2.2.1, past_cell hpast bg HP.2.2.2.2.1, past_cell hpast bg HP.2.2.2.2.2⟩
            clear hK K
            try simp only [Act.put, List.setIfInBounds_toArray, List.set_cons_zero, List.set_cons_succ]
            have HP := hHeld
            refine takeD (i := 7) (d := some 34) (v := ?_) _ rfl rfl (by kernel_rfl) (by kernel_rfl) (by kernel_rfl) (fun _ _ _ h => h) (by rfl) ?_ (by assumption) ?_
            rotate_left
            · (intro w hSw; (try dsimp only at hSw); go_simp) <;> with_reducible rfl
            try simp only [Act.put, List.setIfInBounds_toArray, List.set_cons_zero, List.set_cons_succ]
            refine takeD (i := 8) (d := some 42) (v := ?_) _ rfl rfl (by kernel_rfl) (by kernel_rfl) (by kernel_rfl) (fun _ _ _ h => h) (by rfl) ?_ (by assumption) ?_
            rotate_left
            · (intro w hSw; (try dsimp only at hSw); go_simp) <;> with_reducible rfl
            try simp only [Act.put, List.setIfInBounds_toArray, List.set_cons_zero, List.set_cons_succ]
            refine takeD (i := 9) (d := some 43) (v := ?_) _ rfl rfl (by kernel_rfl) (by kernel_rfl) (by kernel_rfl) (fun _ _ _ h => h) (by rfl) ?_ (by assumption) ?_
            rotate_left
            · (intro w hSw; (try dsimp only at hSw); go_simp) <;> with_reducible rfl
            try simp only [Act.put, List.setIfInBounds_toArray, List.set_cons_zero, List.set_cons_succ]
            have tg : wr.heap.size ≠ g := by omega
            have ZB : Box wd wr.heap.size (.int .i64 0) (.int .i64 0) (.slice none 0 0) := (box_new wr.drew (.int .i64 0) (.int .i64 0) (.slice none 0 0) 26).past hpast tg
            have z0 := ZB.c0
            have z1 := ZB.c1
            have z2 := ZB.c2
            have zf := ZB.fz
            refine wpAnyH_ready (rs := [11]) (by kernel_rfl) (by simp) ?_
            refine AllReadyH.cons rfl (fun K hK => ?_) AllReadyH.nil
            go_simp
            refine hK.out _ _ ?_ (fun hHeld => ?_)
            · exact ⟨by simpa [World.setCell] using HP.1, (far3 (by omega) _ _ _).trans HP.2.1, (far3 (by omega) _ _ _).trans HP.2.2.1, (far3 (by omega) _ _ _).trans HP.2.2.2.1, (far3 (by omega) _ _ _).trans HP.2.2.2.2.1, (far3 (by omega) _ _ _).trans HP.2.2.2.2.2⟩
            clear hK K
            try simp only [Act.put, List.setIfInBounds_toArray, List.set_cons_zero, List.set_cons_succ]
            refine takeD (i := 12) (d := some 11) (v := ?_) _ rfl rfl (by kernel_rfl) (by kernel_rfl) (by kernel_rfl) (fun _ _ _ h => h) (by rfl) ?_ (by assumption) ?_
            rotate_left
            · (intro w hSw; (try dsimp only at hSw); go_simp) <;> with_reducible rfl
            try simp only [Act.put, List.setIfInBounds_toArray, List.set_cons_zero, List.set_cons_succ]
            refine wpAnyH_done (by kernel_rfl) ?_ _
            have sd : wr.heap.size + 1 ≤ wd.heap.size := by have := hpast.size; simp at this; omega
            have PA : Past g wr wd := ((Past.of_below (((Below.refl wr.heap.size wr).drew).alloc (Nat.le_refl _) (.cells #[.int .i64 0, .int .i64 0, .slice none 0 0] 26)))).trans hpast
            have e1 : (wr.drew.alloc (.cells #[.int .i64 0, .int .i64 0, .slice none 0 0] 26)).heap.size = wr.heap.size + 1 := by simp
            rw [e1] at hring href
            have Bbw := HX.out.past PA GBW.out.symm
            have BXn := ((Bbw.set (q := wr.heap.size) (by omega) 0 (.int .i64 (n : Int))).set (q := wr.heap.size) (by omega) 1 (.int .i64 (m : Int))).set (q := wr.heap.size) (by omega) 2 (.slice A' L'.length c')
            have RFn := (hring.set3 (q := wr.heap.size) (by omega) (fun hh => by rcases hh with h1 | h1 <;> omega) (.int .i64 (n : Int)) (.int .i64 (m : Int)) (.slice A' L'.length c')).more (Q' := Off g bw) (fun b hb => by
          rcases hb with h1 | h1
          · exact h1.1
          · exact ⟨by omega, by omega⟩) (fun hh => hh.1 rfl)
            have RMn := (href.set3 (tb := wr.heap.size) (fun hh => by rcases hh with h1 | h1 <;> omega) (.int .i64 (n : Int)) (.int .i64 (m : Int)) (.slice A' L'.length c')).more (Q' := Off g bw) (fun b _ hb => by
              rcases hb with h1 | h1
              · exact h1.1
              · exact ⟨by omega, by omega⟩)
            have BWn := below3 (HB.out.trans (PA.below HG.out HB.out.size)) HB.out.size (.int .i64 (n : Int)) (.int .i64 (m : Int)) (.slice A' L'.length c')
            go_wp2_with fail
            go_meet
            exact ⟨⟨_, A', c', f', L', _, rfl, rfl, ZB.set3 _ _ _, BXn, by omega, RFn, RMn, BWn⟩⟩
        case rest =>
          rename World => wx
          obtain ⟨⟨tb, A1, c1', f1, L1, vv, rfl, rfl, HT, HW, htb, HR1, HM1, HB1⟩⟩ := hcut
          have t0 := HT.c0
          have t1 := HT.c1
          have t2 := HT.c2
          have w0 := HW.c0
          have w1 := HW.c1
          have w2' := HW.c2
          have wf := HW.fz
          have BX := HW.set3 (.int .i64 (n : Int)) (.int .i64 (m : Int)) (.slice A1 L1.length c1')
          have RX := HR1.set3 (q := bw) GBW.out (fun hh => hh.2 rfl) (.int .i64 (n : Int)) (.int .i64 (m : Int)) (.slice A1 L1.length c1')
          have MX := HM1.set3 (tb := bw) (fun hh => hh.2 rfl) (.int .i64 (n : Int)) (.int .i64 (m : Int)) (.slice A1 L1.length c1')
          have WX := below3 HB1 HWB.out (.int .i64 (n : Int)) (.int .i64 (m : Int)) (.slice A1 L1.length c1')
          have HBX := Lib.hid BX
          have HRX := Lib.hid RX
          have HMX := Lib.hid MX
          have HWX := Lib.hid WX
          clear BX RX MX WX HT HW HR1 HM1 HB1 X0 X1 X2 c1 c2
          go_wp2_with fail
          generalize (((wx.setCell ⟨bw, 0, none⟩ (.int .i64 (n : Int))).setCell ⟨bw, 1, none⟩ (.int .i64 (m : Int))).setCell ⟨bw, 2, none⟩ (.slice A1 L1.length c1')) = wy at *
          have b0 := HBX.out.c0
          have b1 := HBX.out.c1
          have b2 := HBX.out.c2
          obtain ⟨N1, hN1⟩ : ∃ N1, L1.length = N1 := ⟨_, rfl⟩
          have HN1 := Lib.hid hN1
          have n32 : Hid (N1 ≤ 32) := by have := HRX.out.fit; have := HRX.out.room; unfold Hid; omega
          have AL := Lib.hid fun (W : World) (hb : Below wy.heap.size wy W) => all_any W _ g n m f1 L1 (HRX.out.below hb)
          have LE := Lib.hid fun (W : World) (hb : Below wy.heap.size wy W) => len_any W _ g n m f1 L1 (HRX.out.below hb)
          have RO := Lib.hid fun (W : World) (hb : Below wy.heap.size wy W) => room_any W _ g n m f1 L1 (HRX.out.below hb)
          have WO := Lib.hid fun (W : World) (hb : Below wy.heap.size wy W) => words_any W _ g n m f1 L1 (HRX.out.below hb)
          have SA := Lib.hid fun (W : World) (hb : Below wy.heap.size wy W) (Ay : Option Addr) (cy : Nat) (Q : Nat → Prop) (h : RefR W Q Ay cy L1) => sameAll_true Ay A1 cy c1' L1 W Q _ h (HMX.out.below hb) (by have := n32.out; have := HN1.out; omega) (fun i hi => by have := HRX.out.size i hi; omega)
          rw [hN1] at b2 AL LE SA ⊢
          clear hN1
          refine wp_region_held_drew (S := (fun w' => Below wy.heap.size wy w' ∧ w'.cell? ⟨bw, 0, none⟩ = some (.int .i64 (n : Int)) ∧ w'.cell? ⟨bw, 1, none⟩ = some (.int .i64 (m : Int)) ∧ w'.cell? ⟨bw, 2, none⟩ = some (.slice A1 N1 c1'))) (by kernel_rfl) ?_ (fun hHeld => ?_)
          · exact ⟨(Below.refl _ _).drew, b0, b1, b2⟩
          refine takeD (i := 0) (d := some 45) (v := ?_) _ rfl rfl (by kernel_rfl) (by kernel_rfl) (by kernel_rfl) (fun _ _ _ h => h) (by rfl) ?_ (by assumption) ?_
          rotate_left
          · (intro w hSw; (try dsimp only at hSw); go_simp) <;> with_reducible rfl
          try simp only [Act.put, List.setIfInBounds_toArray, List.set_cons_zero, List.set_cons_succ]
          refine takeD (i := 1) (d := some 46) (v := ?_) _ rfl rfl (by kernel_rfl) (by kernel_rfl) (by kernel_rfl) (fun _ _ _ h => h) (by rfl) ?_ (by assumption) ?_
          rotate_left
          · (intro w hSw; (try dsimp only at hSw); go_simp) <;> with_reducible rfl
          try simp only [Act.put, List.setIfInBounds_toArray, List.set_cons_zero, List.set_cons_succ]
          refine takeD (i := 2) (d := some 47) (v := ?_) _ rfl rfl (by kernel_rfl) (by kernel_rfl) (by kernel_rfl) (fun _ _ _ h => h) (by rfl) ?_ (by assumption) ?_
          rotate_left
          · (intro w hSw; (try dsimp only at hSw); go_simp) <;> with_reducible rfl
          try simp only [Act.put, List.setIfInBounds_toArray, List.set_cons_zero, List.set_cons_succ]
          refine takeD (i := 3) (d := some 48) (v := ?_) _ rfl rfl (by kernel_rfl) (by kernel_rfl) (by kernel_rfl) (fun _ _ _ h => h) (by rfl) ?_ (by assumption) ?_
          rotate_left
          · (intro w hSw; (try dsimp only at hSw); go_simp) <;> with_reducible rfl
          try simp only [Act.put, List.setIfInBounds_toArray, List.set_cons_zero, List.set_cons_succ]
          refine takeD (i := 5) (d := some 50) (v := ?_) _ rfl rfl (by kernel_rfl) (by kernel_rfl) (by kernel_rfl) (fun _ _ _ h => h) (by rfl) ?_ (by assumption) ?_
          rotate_left
          · (intro w hSw; (try dsimp only at hSw); go_simp) <;> with_reducible rfl
          try simp only [Act.put, List.setIfInBounds_toArray, List.set_cons_zero, List.set_cons_succ]
          refine takeD (i := 6) (d := some 51) (v := ?_) _ rfl rfl (by kernel_rfl) (by kernel_rfl) (by kernel_rfl) (fun _ _ _ h => h) (by rfl) ?_ (by assumption) ?_
          rotate_left
          · (intro w hSw; (try dsimp only at hSw); go_simp) <;> with_reducible rfl
          try simp only [Act.put, List.setIfInBounds_toArray, List.set_cons_zero, List.set_cons_succ]
          refine wpAnyH_ready (rs := [4]) (by kernel_rfl) (by simp) ?_
          refine AllReadyH.cons rfl (fun K hK => ?_) AllReadyH.nil
          (go_simp; go_at_call 13; refine (AL.out _ hHeld.1).mono ?_; rintro e wa ⟨Ay, cy, vs, rfl, hoy, hsy, hby⟩; try go_wp2_with fail)
          refine hK.out _ _ ?_ (fun hHeld => ?_)
          · exact ⟨hHeld.1.trans (hby.mono hHeld.1.size), cell_later hby hHeld.2.1, cell_later hby hHeld.2.2.1, cell_later hby hHeld.2.2.2⟩
          clear hK K
          try simp only [Act.put, List.setIfInBounds_toArray, List.set_cons_zero, List.set_cons_succ]
          have RY : RefR wa (fun _ => True) Ay cy L1 := refR_own (by rw [HN1.out]; exact hoy) (fun j hj => (hsy j (by rw [← HN1.out]; exact hj)).more fun _ _ => trivial) (fun _ _ => trivial)
          have HRY := Lib.hid RY
          clear RY hoy hsy
          refine wpAnyH_ready (rs := [7]) (by kernel_rfl) (by simp) ?_
          refine AllReadyH.cons rfl (fun K hK => ?_) AllReadyH.nil
          (go_simp; go_at_call 12; refine (SA.out _ hHeld.1 Ay cy _ HRY.out).mono ?_; rintro e ws ⟨rfl, hbs⟩; try go_wp2_with fail)
          refine hK.out _ _ ?_ (fun hHeld => ?_)
          · exact ⟨hHeld.1.trans (hbs.mono hHeld.1.size), cell_later hbs hHeld.2.1, cell_later hbs hHeld.2.2.1, cell_later hbs hHeld.2.2.2⟩
          clear hK K
          try simp only [Act.put, List.setIfInBounds_toArray, List.set_cons_zero, List.set_cons_succ]
          refine takeD (i := 8) (d := some 53) (v := ?_) _ rfl rfl (by kernel_rfl) (by kernel_rfl) (by kernel_rfl) (fun _ _ _ h => h) (by rfl) ?_ (by assumption) ?_
          rotate_left
          · (intro w hSw; (try dsimp only at hSw); go_simp) <;> with_reducible rfl
          try simp only [Act.put, List.setIfInBounds_toArray, List.set_cons_zero, List.set_cons_succ]
          refine takeD (i := 9) (d := some 54) (v := ?_) _ rfl rfl (by kernel_rfl) (by kernel_rfl) (by kernel_rfl) (fun _ _ _ h => h) (by rfl) ?_ (by assumption) ?_
          rotate_left
          · (intro w hSw; (try dsimp only at hSw); go_simp) <;> with_reducible rfl
          try simp only [Act.put, List.setIfInBounds_toArray, List.set_cons_zero, List.set_cons_succ]
          refine takeD (i := 10) (d := some 55) (v := ?_) _ rfl rfl (by kernel_rfl) (by kernel_rfl) (by kernel_rfl) (fun _ _ _ h => h) (by rfl) ?_ (by assumption) ?_
          rotate_left
          · (intro w hSw; (try dsimp only at hSw); go_simp) <;> with_reducible rfl
          try simp only [Act.put, List.setIfInBounds_toArray, List.set_cons_zero, List.set_cons_succ]
          refine takeD (i := 11) (d := some 56) (v := ?_) _ rfl rfl (by kernel_rfl) (by kernel_rfl) (by kernel_rfl) (fun _ _ _ h => h) (by rfl) ?_ (by assumption) ?_
          rotate_left
          · (intro w hSw; (try dsimp only at hSw); go_simp) <;> with_reducible rfl
          try simp only [Act.put, List.setIfInBounds_toArray, List.set_cons_zero, List.set_cons_succ]
          refine takeD (i := 13) (d := some 58) (v := ?_) _ rfl rfl (by kernel_rfl) (by kernel_rfl) (by kernel_rfl) (fun _ _ _ h => h) (by rfl) ?_ (by assumption) ?_
          rotate_left
          · (intro w hSw; (try dsimp only at hSw); go_simp) <;> with_reducible rfl
          try simp only [Act.put, List.setIfInBounds_toArray, List.set_cons_zero, List.set_cons_succ]
          refine takeD (i := 14) (d := some 59) (v := ?_) _ rfl rfl (by kernel_rfl) (by kernel_rfl) (by kernel_rfl) (fun _ _ _ h => h) (by rfl) ?_ (by assumption) ?_
          rotate_left
          · (intro w hSw; (try dsimp only at hSw); go_simp) <;> with_reducible rfl
          try simp only [Act.put, List.setIfInBounds_toArray, List.set_cons_zero, List.set_cons_succ]
          refine takeD (i := 15) (d := some 60) (v := ?_) _ rfl rfl (by kernel_rfl) (by kernel_rfl) (by kernel_rfl) (fun _ _ _ h => h) (by rfl) ?_ (by assumption) ?_
          rotate_left
          · (intro w hSw; (try dsimp only at hSw); go_simp) <;> with_reducible rfl
          try simp only [Act.put, List.setIfInBounds_toArray, List.set_cons_zero, List.set_cons_succ]
          refine wpAnyH_ready (rs := [12]) (by kernel_rfl) (by simp) ?_
          refine AllReadyH.cons rfl (fun K hK => ?_) AllReadyH.nil
          (go_simp; go_at_call 14; refine (LE.out _ hHeld.1).mono ?_; rintro e wl ⟨rfl, hbl⟩; try go_wp2_with fail)
          refine hK.out _ _ ?_ (fun hHeld => ?_)
          · exact ⟨hHeld.1.trans (hbl.mono hHeld.1.size), cell_later hbl hHeld.2.1, cell_later hbl hHeld.2.2.1, cell_later hbl hHeld.2.2.2⟩
          clear hK K
          try simp only [Act.put, List.setIfInBounds_toArray, List.set_cons_zero, List.set_cons_succ]
          refine takeD (i := 16) (d := some 61) (v := ?_) _ rfl rfl (by kernel_rfl) (by kernel_rfl) (by kernel_rfl) (fun _ _ _ h => h) (by rfl) ?_ (by assumption) ?_
          rotate_left
          · (intro w hSw; (try dsimp only at hSw); go_simp) <;> with_reducible rfl
          try simp only [Act.put, List.setIfInBounds_toArray, List.set_cons_zero, List.set_cons_succ]
          refine takeD (i := 17) (d := some 62) (v := ?_) _ rfl rfl (by kernel_rfl) (by kernel_rfl) (by kernel_rfl) (fun _ _ _ h => h) (by rfl) ?_ (by assumption) ?_
          rotate_left
          · (intro w hSw; (try dsimp only at hSw); go_simp) <;> with_reducible rfl
          try simp only [Act.put, List.setIfInBounds_toArray, List.set_cons_zero, List.set_cons_succ]
          refine takeD (i := 18) (d := some 63) (v := ?_) _ rfl rfl (by kernel_rfl) (by kernel_rfl) (by kernel_rfl) (fun _ _ _ h => h) (by rfl) ?_ (by assumption) ?_
          rotate_left
          · (intro w hSw; (try dsimp only at hSw); go_simp) <;> with_reducible rfl
          try simp only [Act.put, List.setIfInBounds_toArray, List.set_cons_zero, List.set_cons_succ]
          refine takeD (i := 19) (d := some 64) (v := ?_) _ rfl rfl (by kernel_rfl) (by kernel_rfl) (by kernel_rfl) (fun _ _ _ h => h) (by rfl) ?_ (by assumption) ?_
          rotate_left
          · (intro w hSw; (try dsimp only at hSw); go_simp) <;> with_reducible rfl
          try simp only [Act.put, List.setIfInBounds_toArray, List.set_cons_zero, List.set_cons_succ]
          refine takeD (i := 21) (d := some 66) (v := ?_) _ rfl rfl (by kernel_rfl) (by kernel_rfl) (by kernel_rfl) (fun _ _ _ h => h) (by rfl) ?_ (by assumption) ?_
          rotate_left
          · (intro w hSw; (try dsimp only at hSw); go_simp) <;> with_reducible rfl
          try simp only [Act.put, List.setIfInBounds_toArray, List.set_cons_zero, List.set_cons_succ]
          refine takeD (i := 22) (d := some 67) (v := ?_) _ rfl rfl (by kernel_rfl) (by kernel_rfl) (by kernel_rfl) (fun _ _ _ h => h) (by rfl) ?_ (by assumption) ?_
          rotate_left
          · (intro w hSw; (try dsimp only at hSw); go_simp) <;> with_reducible rfl
          try simp only [Act.put, List.setIfInBounds_toArray, List.set_cons_zero, List.set_cons_succ]
          refine wpAnyH_ready (rs := [20]) (by kernel_rfl) (by simp) ?_
          refine AllReadyH.cons rfl (fun K hK => ?_) AllReadyH.nil
          (go_simp; go_at_call 15; refine (RO.out _ hHeld.1).mono ?_; rintro e wo ⟨rfl, hbo⟩; try go_wp2_with fail)
          refine hK.out _ _ ?_ (fun hHeld => ?_)
          · exact ⟨hHeld.1.trans (hbo.mono hHeld.1.size), cell_later hbo hHeld.2.1, cell_later hbo hHeld.2.2.1, cell_later hbo hHeld.2.2.2⟩
          clear hK K
          try simp only [Act.put, List.setIfInBounds_toArray, List.set_cons_zero, List.set_cons_succ]
          refine takeD (i := 23) (d := some 68) (v := ?_) _ rfl rfl (by kernel_rfl) (by kernel_rfl) (by kernel_rfl) (fun _ _ _ h => h) (by rfl) ?_ (by assumption) ?_
          rotate_left
          · (intro w hSw; (try dsimp only at hSw); go_simp) <;> with_reducible rfl
          try simp only [Act.put, List.setIfInBounds_toArray, List.set_cons_zero, List.set_cons_succ]
          refine takeD (i := 24) (d := some 69) (v := ?_) _ rfl rfl (by kernel_rfl) (by kernel_rfl) (by kernel_rfl) (fun _ _ _ h => h) (by rfl) ?_ (by assumption) ?_
          rotate_left
          · (intro w hSw; (try dsimp only at hSw); go_simp) <;> with_reducible rfl
          try simp only [Act.put, List.setIfInBounds_toArray, List.set_cons_zero, List.set_cons_succ]
          refine takeD (i := 25) (d := some 70) (v := ?_) _ rfl rfl (by kernel_rfl) (by kernel_rfl) (by kernel_rfl) (fun _ _ _ h => h) (by rfl) ?_ (by assumption) ?_
          rotate_left
          · (intro w hSw; (try dsimp only at hSw); go_simp) <;> with_reducible rfl
          try simp only [Act.put, List.setIfInBounds_toArray, List.set_cons_zero, List.set_cons_succ]
          refine takeD (i := 26) (d := some 71) (v := ?_) _ rfl rfl (by kernel_rfl) (by kernel_rfl) (by kernel_rfl) (fun _ _ _ h => h) (by rfl) ?_ (by assumption) ?_
          rotate_left
          · (intro w hSw; (try dsimp only at hSw); go_simp) <;> with_reducible rfl
          try simp only [Act.put, List.setIfInBounds_toArray, List.set_cons_zero, List.set_cons_succ]
          refine takeD (i := 28) (d := some 73) (v := ?_) _ rfl rfl (by kernel_rfl) (by kernel_rfl) (by kernel_rfl) (fun _ _ _ h => h) (by rfl) ?_ (by assumption) ?_
          rotate_left
          · (intro w hSw; (try dsimp only at hSw); go_simp) <;> with_reducible rfl
          try simp only [Act.put, List.setIfInBounds_toArray, List.set_cons_zero, List.set_cons_succ]
          refine takeD (i := 29) (d := some 74) (v := ?_) _ rfl rfl (by kernel_rfl) (by kernel_rfl) (by kernel_rfl) (fun _ _ _ h => h) (by rfl) ?_ (by assumption) ?_
          rotate_left
          · (intro w hSw; (try dsimp only at hSw); go_simp) <;> with_reducible rfl
          try simp only [Act.put, List.setIfInBounds_toArray, List.set_cons_zero, List.set_cons_succ]
          refine wpAnyH_ready (rs := [27]) (by kernel_rfl) (by simp) ?_
          refine AllReadyH.cons rfl (fun K hK => ?_) AllReadyH.nil
          (go_simp; go_at_call 16; refine (WO.out _ hHeld.1).mono ?_; rintro e ww ⟨rfl, hbw2⟩; try go_wp2_with fail)
          refine hK.out _ _ ?_ (fun hHeld => ?_)
          · exact ⟨hHeld.1.trans (hbw2.mono hHeld.1.size), cell_later hbw2 hHeld.2.1, cell_later hbw2 hHeld.2.2.1, cell_later hbw2 hHeld.2.2.2⟩
          clear hK K
          try simp only [Act.put, List.setIfInBounds_toArray, List.set_cons_zero, List.set_cons_succ]
          refine takeD (i := 30) (d := some 75) (v := ?_) _ rfl rfl (by kernel_rfl) (by kernel_rfl) (by kernel_rfl) (fun _ _ _ h => h) (by rfl) ?_ (by assumption) ?_
          rotate_left
          · (intro w hSw; (try dsimp only at hSw); go_simp) <;> with_reducible rfl
          try simp only [Act.put, List.setIfInBounds_toArray, List.set_cons_zero, List.set_cons_succ]
          refine takeD (i := 31) (d := some 76) (v := ?_) _ rfl rfl (by kernel_rfl) (by kernel_rfl) (by kernel_rfl) (fun _ _ _ h => h) (by rfl) ?_ (by assumption) ?_
          rotate_left
          · (intro w hSw; (try dsimp only at hSw); go_simp) <;> with_reducible rfl
          try simp only [Act.put, List.setIfInBounds_toArray, List.set_cons_zero, List.set_cons_succ]
          refine wpAnyH_done (by kernel_rfl) ?_ _
          have BF := hHeld.1
          have F1 := Lib.hid (HBX.out.below BF)
          have F2 := Lib.hid (HRX.out.below BF)
          have F3 := Lib.hid (HMX.out.below BF)
          have F4 := Lib.hid (HWX.out.trans (BF.mono HWX.out.size))
          go_wp2_with fail
          go_roundw
          case rel => first | exact ⟨⟨j + 1, A1, c1', f1, L1, by omega, by omega, by go_num, F1.out, F2.out, F3.out, F4.out⟩⟩ | ((repeat apply Exists.intro); exact ⟨⟨⟨j + 1, A1, c1', f1, L1, by omega, by omega, by go_num, F1.out, F2.out, F3.out, F4.out⟩⟩, rfl⟩)
          case measure => simp [intOf]; omega
      · have HB := Lib.hid hB
        clear hB hR hX hM
        go_wp2_with fail
        go_ret
        exact ⟨rfl, HB.out⟩
    · have HB := Lib.hid hB
      clear hB hR hX hM
      go_wp2_with fail
      go_ret
      exact ⟨rfl, HB.out⟩
end Go.Proofs.Ytpejmkdmjlfgpaa
