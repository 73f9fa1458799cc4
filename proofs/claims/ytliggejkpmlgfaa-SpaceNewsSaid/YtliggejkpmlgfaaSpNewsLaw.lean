/-
  The walk of SpaceNews. Each statement bears its own conditions.
-/
import Derived.Test.YtliggejkpmlgfaaSpY
namespace Go.Proofs.Ytliggejkpmlgfaa
open Go.RowKit
set_option linter.unusedVariables false
set_option linter.unusedSimpArgs false
set_option maxRecDepth 100000 in
set_option maxHeartbeats 16000000 in
theorem news_walk (A : Option Addr) (n c : Nat) (l : List MA) (w : World) (hl : Row w 5 RAq (.slice A n c) l) (hcap : n ≤ c) :
    Calls Try.prog 4 #[.slice A n c] w fun e w' => e = .returned (.bool true) ∧ Below w.heap.size w w' := by
  obtain ⟨h1, h2, h3⟩ := row_areas hl
  obtain ⟨n1, hn1⟩ : ∃ n1, min n 20 = n1 := ⟨_, rfl⟩
  obtain ⟨own, hown⟩ : ∃ own, l.take n1 = own := ⟨_, rfl⟩
  have HN1 : Hid (own.length = n1) := by unfold Hid; rw [← hown, List.length_take]; omega
  have HN2 : Hid (n1 ≤ 20) := by unfold Hid; omega
  have HST : Hid (∀ g, w.heap.size ≤ g → St g w 5 (.slice A n1 c) n1 (CA own)) := fun g hg => by rw [← hown]; exact (h3 g hg).cut5 (by omega)
  have HI64 : Hid (∀ x ∈ own, I64 x.frm ∧ I64 x.wds) := fun x hx => h2 x (by rw [← hown] at hx; exact List.mem_of_mem_take hx)
  have hmin : min (n : Int) 20 = (n1 : Int) := by omega
  have hc1 : n1 ≤ c := by omega
  have hn0 : ∀ w : World, (binOp .eql 25 (.pointer none) (.pointer none)).run Try.prog w = .ok (.bool true) w := fun _ => rfl
  have hn2 : ∀ w : World, (binOp .neq 25 (.pointer none) (.pointer none)).run Try.prog w = .ok (.bool false) w := fun _ => rfl
  clear h1 h2 h3 hn1 hown hl hcap
  go_enter Try.func4, Try.ntmps4
  go_wp2_with fail
  refine (new_any w.heap.size A n1 c own w (HST.out _ (Nat.le_refl _)) HN1.out hc1 HI64.out (by have := HN2.out; omega)).mono ?_
  rintro e W1 ⟨hbad, hok, b1⟩
  have CRN := Lib.hid (rnew_any W1.heap.size A n1 c own W1 ((HST.out W1.heap.size b1.size).below b1) HN1.out HI64.out (by have := HN2.out; omega))
  have HSTA := Lib.hid fun g (hg : w.heap.size ≤ g) => (HST.out g hg).below b1
  have HB1 := Lib.hid b1
  by_cases hz : newErr own = 0
  · obtain ⟨p, rb, rfl, hsp⟩ := hok hz
    have hne : ∀ w : World, (binOp .neq 25 (.pointer (some ⟨p, 0, none⟩)) (.pointer none)).run Try.prog w = .ok (.bool true) w := fun _ => rfl
    have he : ∀ w : World, (binOp .eql 25 (.pointer (some ⟨p, 0, none⟩)) (.pointer none)).run Try.prog w = .ok (.bool false) w := fun _ => rfl
    have HSH := Lib.hid (LL0_sh hz)
    have HSP1 := Lib.hid hsp
    have HZ := Lib.hid hz
    clear hbad hok hsp b1 hz
    go_wp2_with fail
    refine CRN.out.mono ?_
    rintro e W2 ⟨_, hok, b2⟩
    obtain ⟨va, vl, rfl, hrs⟩ := hok HZ.out
    have HRS2 := Lib.hid (hrs rb (by have := HSP1.out.hr.2; omega))
    obtain ⟨A2, c2, A3, c3, hva, hvl⟩ := HRS2.out.form
    obtain ⟨m2, hm2⟩ : ∃ m2, own.length = m2 := ⟨_, rfl⟩
    obtain ⟨m3, hm3⟩ : ∃ m3, (LL0 own).length = m3 := ⟨_, rfl⟩
    rw [hm2] at hva
    rw [hm3] at hvl
    subst hva hvl
    have HSP2 := Lib.hid (HSP1.out.below b2)
    have HB2 : Hid (Below w.heap.size w W2) := HB1.out.trans (b2.mono HB1.out.size)
    have HRW : Hid (w.heap.size ≤ rb) := HSP1.out.hr.1
    have HSTB := Lib.hid ((HSTA.out rb HRW.out).below b2)
    clear hok hrs b2 hm2 hm3 CRN
    go_wp2_with fail
    obtain ⟨W3, hW3⟩ : ∃ W3, W2.alloc (.cells #[.slice A2 m2 c2, .slice A3 m3 c3] 31) = W3 := ⟨_, rfl⟩
    simp only [hW3]
    have b23 : Below W2.heap.size W2 W3 := by rw [← hW3]; exact (Below.refl _ _).alloc (Nat.le_refl _) _
    obtain ⟨b5, hb5⟩ : ∃ b5, W2.heap.size = b5 := ⟨_, rfl⟩
    have HQ3 : Hid (W3.heap[b5]? = some (.cells #[.slice A2 m2 c2, .slice A3 m3 c3] 31 (0, 0))) := by rw [← hW3, ← hb5]; exact heap_alloc_new _ _
    have B := Lib.hid b23
    have HB3 : Hid (Below w.heap.size w W3) := HB2.out.trans (b23.mono HB2.out.size)
    try simp only [hb5]
    clear hW3 b23
    obtain ⟨WZ, hWZ⟩ : ∃ WZ, WZ = W3 := ⟨_, rfl⟩
    have BZ : Hid (Below W3.heap.size W3 WZ) := by rw [hWZ]; exact Below.refl _ _
    rw [← hWZ]
    clear hWZ
    refine (fresh_nil WZ).mono ?_
    rintro e W10 ⟨rfl, bb⟩
    have BW10 : Hid (Below W3.heap.size W3 W10) := BZ.out.trans (bb.mono BZ.out.size)
    clear bb
    go_wp2_with fail
    refine (load_nil W10).mono ?_
    rintro e W11 ⟨rfl, bb⟩
    have BW11 : Hid (Below W3.heap.size W3 W11) := BW10.out.trans (bb.mono BW10.out.size)
    clear bb
    go_wp2_with fail
    refine (fetch_nil W11).mono ?_
    rintro e W12 ⟨rfl, bb⟩
    have BW12 : Hid (Below W3.heap.size W3 W12) := BW11.out.trans (bb.mono BW11.out.size)
    clear bb
    go_wp2_with fail
    refine (told_any W12).mono ?_
    rintro e W13 ⟨rfl, bb⟩
    have BW13 : Hid (Below W3.heap.size W3 W13) := BW12.out.trans (bb.mono BW12.out.size)
    clear bb
    go_wp2_with fail
    refine (store_nil W13).mono ?_
    rintro e W14 ⟨rfl, bb⟩
    have BW14 : Hid (Below W3.heap.size W3 W14) := BW13.out.trans (bb.mono BW13.out.size)
    clear bb
    go_wp2_with fail
    refine (fill_nil W14).mono ?_
    rintro e W15 ⟨rfl, bb⟩
    have BW15 : Hid (Below W3.heap.size W3 W15) := BW14.out.trans (bb.mono BW14.out.size)
    clear bb
    go_wp2_with fail
    refine (areas_nil W15).mono ?_
    rintro e W16 ⟨rfl, bb⟩
    have BW16 : Hid (Below W3.heap.size W3 W16) := BW15.out.trans (bb.mono BW15.out.size)
    clear bb
    go_wp2_with fail
    refine (words_nil W16).mono ?_
    rintro e W17 ⟨rfl, bb⟩
    have BW17 : Hid (Below W3.heap.size W3 W17) := BW16.out.trans (bb.mono BW16.out.size)
    clear bb
    go_wp2_with fail
    refine (clone_nil W17).mono ?_
    rintro e W18 ⟨rfl, bb⟩
    have BW18 : Hid (Below W3.heap.size W3 W18) := BW17.out.trans (bb.mono BW17.out.size)
    clear bb
    go_wp2_with fail
    refine (same_nil W18).mono ?_
    rintro e W19 ⟨rfl, bb⟩
    have BW19 : Hid (Below W3.heap.size W3 W19) := BW18.out.trans (bb.mono BW18.out.size)
    clear bb
    go_wp2_with fail
    refine (same_nil_some p W19).mono ?_
    rintro e W20 ⟨rfl, bb⟩
    have BW20 : Hid (Below W3.heap.size W3 W20) := BW19.out.trans (bb.mono BW19.out.size)
    clear bb
    go_wp2_with fail
    have hsp9 := HSP2.out.below (B.out.trans (BW20.out.mono B.out.size))
    have hrs9 := HRS2.out.below (B.out.trans (BW20.out.mono B.out.size))
    have HST9 := Lib.hid (HSTB.out.below (B.out.trans (BW20.out.mono B.out.size)))
    have HQ9 := Lib.hid (heap_keep BW20.out HQ3.out)
    have HB9 : Hid (Below w.heap.size w W20) := HB3.out.trans (BW20.out.mono HB3.out.size)
    have HSP9 := Lib.hid hsp9
    have HRS9 := Lib.hid hrs9
    have q0 : W20.cell? ⟨b5, 0, none⟩ = some (.slice A2 m2 c2) := by have := (row_cell HQ9.out 0).1; simpa using this
    have q1 : W20.cell? ⟨b5, 1, none⟩ = some (.slice A3 m3 c3) := by have := (row_cell HQ9.out 1).1; simpa using this
    have HQC := Lib.hid (And.intro q0 q1)
    clear hsp9 hrs9 q0 q1
    have hfl := HSH.out.flat
    have hsm := HSH.out.sum
    have HFL : Hid ((LL0 own).flatten.length ≤ 5000) := by unfold Hid; omega
    have hzz : zeros own = (LL0 own).flatten := (LL0_flat HSH.out.good).symm
    rw [hzz] at HSP9
    have CAR := Lib.hid fun (W : World) (hb : Below W20.heap.size W20 W) => areas_any _ _ p rb own _ W (HSP9.out.below hb) HSH.out.few
    have CSA := Lib.hid fun (g : Nat) (v : Value) (W : World) (h : St g W 5 v own.length (CA own)) (hb : Below W20.heap.size W20 W) => rsameA_same g rb v (.slice A n1 c) own W h (by rw [HN1.out]; exact HST9.out.below hb) (by have := HSH.out.few; omega)
    have CW := Lib.hid fun (W : World) (hb : Below W20.heap.size W20 W) => words_any _ _ p rb own (LL0 own).flatten W (HSP9.out.below hb) HFL.out
    have CRW := Lib.hid fun (W : World) (hb : Below W20.heap.size W20 W) => rwords_any rb (.slice A2 m2 c2) (.slice A3 m3 c3) own (LL0 own) W (HRS9.out.below hb) (by rw [HSH.out.len]; exact HSH.out.few) HFL.out
    obtain ⟨Fl, hFl⟩ : ∃ Fl, (LL0 own).flatten.length = Fl := ⟨_, rfl⟩
    rw [hFl] at CW CRW
    obtain ⟨m9, hm9⟩ : ∃ m9, own.length = m9 := ⟨_, rfl⟩
    rw [hm9] at CAR CSA
    clear hfl hsm hzz hFl hm9
    refine wp_region_held_drew (S := (fun w' => w'.cell? ⟨b5, 0, none⟩ = some (.slice A2 m2 c2) ∧ w'.cell? ⟨b5, 1, none⟩ = some (.slice A3 m3 c3))) (by kernel_rfl) ?_ (fun hHeld => ?_)
    · exact HQC.out
    refine takeD (i := 0) (d := some 100) (v := ?_) _ rfl rfl (by kernel_rfl) (by kernel_rfl) (by kernel_rfl) (fun _ _ _ h => h) (by rfl) ?_ (by assumption) ?_
    rotate_left
    · (intro w hSw; (try dsimp only at hSw); go_simp) <;> with_reducible rfl
    try simp only [Act.put, List.setIfInBounds_toArray, List.set_cons_zero, List.set_cons_succ]
    refine takeD (i := 1) (d := some 101) (v := ?_) _ rfl rfl (by kernel_rfl) (by kernel_rfl) (by kernel_rfl) (fun _ _ _ h => h) (by rfl) ?_ (by assumption) ?_
    rotate_left
    · (intro w hSw; (try dsimp only at hSw); go_simp) <;> with_reducible rfl
    try simp only [Act.put, List.setIfInBounds_toArray, List.set_cons_zero, List.set_cons_succ]
    refine takeD (i := 2) (d := some 102) (v := ?_) _ rfl rfl (by kernel_rfl) (by kernel_rfl) (by kernel_rfl) (fun _ _ _ h => h) (by rfl) ?_ (by assumption) ?_
    rotate_left
    · (intro w hSw; (try dsimp only at hSw); go_simp) <;> with_reducible rfl
    try simp only [Act.put, List.setIfInBounds_toArray, List.set_cons_zero, List.set_cons_succ]
    refine takeD (i := 3) (d := some 103) (v := ?_) _ rfl rfl (by kernel_rfl) (by kernel_rfl) (by kernel_rfl) (fun _ _ _ h => h) (by rfl) ?_ (by assumption) ?_
    rotate_left
    · (intro w hSw; (try dsimp only at hSw); go_simp) <;> with_reducible rfl
    try simp only [Act.put, List.setIfInBounds_toArray, List.set_cons_zero, List.set_cons_succ]
    refine takeD (i := 5) (d := some 105) (v := ?_) _ rfl rfl (by kernel_rfl) (by kernel_rfl) (by kernel_rfl) (fun _ _ _ h => h) (by rfl) ?_ (by assumption) ?_
    rotate_left
    · (intro w hSw; (try dsimp only at hSw); go_simp) <;> with_reducible rfl
    try simp only [Act.put, List.setIfInBounds_toArray, List.set_cons_zero, List.set_cons_succ]
    refine wpAnyH_ready (rs := [4]) (by kernel_rfl) (by simp) ?_
    refine AllReadyH.cons rfl (fun K hK => ?_) AllReadyH.nil
    go_simp
    go_at_call 14
    refine (CAR.out _ (below_drewN (Below.refl _ _) 1)).mono ?_
    rintro e V1 ⟨⟨r1, rfl, hr1⟩, bv1'⟩
    obtain ⟨Ar, cr, rfl⟩ := slice_form hr1
    have bv1 : Below W20.heap.size W20 V1 := (below_drewN (Below.refl _ _) 1).trans bv1'
    have HR1 : Hid (St V1.heap.size V1 5 (.slice Ar m9 cr) m9 (CA own)) := St.of_own' hr1 (fun k hk => by have := (hr1.lt k hk).2; omega)
    try go_wp2_with fail
    refine hK.out _ _ ⟨cell_later bv1 HQC.out.1, cell_later bv1 HQC.out.2⟩ (fun hHeld => ?_)
    clear hK K
    try simp only [Act.put, List.setIfInBounds_toArray, List.set_cons_zero, List.set_cons_succ]
    refine wpAnyH_ready (rs := [6]) (by kernel_rfl) (by simp) ?_
    refine AllReadyH.cons rfl (fun K hK => ?_) AllReadyH.nil
    go_simp
    go_at_call 13
    refine (CSA.out V1.heap.size _ V1 HR1.out bv1).mono ?_
    rintro e V2 ⟨rfl, bv2'⟩
    have bv2 : Below W20.heap.size W20 V2 := bv1.trans (bv2'.mono bv1.size)
    try go_wp2_with fail
    refine hK.out _ _ ⟨cell_later bv2 HQC.out.1, cell_later bv2 HQC.out.2⟩ (fun hHeld => ?_)
    clear hK K
    try simp only [Act.put, List.setIfInBounds_toArray, List.set_cons_zero, List.set_cons_succ]
    refine takeD (i := 7) (d := some 107) (v := ?_) _ rfl rfl (by kernel_rfl) (by kernel_rfl) (by kernel_rfl) (fun _ _ _ h => h) (by rfl) ?_ (by assumption) ?_
    rotate_left
    · (intro w hSw; (try dsimp only at hSw); go_simp) <;> with_reducible rfl
    try simp only [Act.put, List.setIfInBounds_toArray, List.set_cons_zero, List.set_cons_succ]
    refine takeD (i := 8) (d := some 108) (v := ?_) _ rfl rfl (by kernel_rfl) (by kernel_rfl) (by kernel_rfl) (fun _ _ _ h => h) (by rfl) ?_ (by assumption) ?_
    rotate_left
    · (intro w hSw; (try dsimp only at hSw); go_simp) <;> with_reducible rfl
    try simp only [Act.put, List.setIfInBounds_toArray, List.set_cons_zero, List.set_cons_succ]
    refine takeD (i := 11) (d := some 111) (v := ?_) _ rfl rfl (by kernel_rfl) (by kernel_rfl) (by kernel_rfl) (fun _ _ _ h => h) (by rfl) ?_ (by assumption) ?_
    rotate_left
    · (intro w hSw; (try dsimp only at hSw); go_simp) <;> with_reducible rfl
    try simp only [Act.put, List.setIfInBounds_toArray, List.set_cons_zero, List.set_cons_succ]
    refine wpAnyH_ready (rs := [9]) (by kernel_rfl) (by simp) ?_
    refine AllReadyH.cons rfl (fun K hK => ?_) AllReadyH.nil
    go_simp
    go_at_call 17
    refine (CW.out V2 bv2).mono ?_
    rintro e V3 ⟨⟨k3, c33, rfl, hw3⟩, bv3'⟩
    have bv3 : Below W20.heap.size W20 V3 := bv2.trans (bv3'.mono bv2.size)
    try go_wp2_with fail
    refine hK.out _ _ ⟨cell_later bv3 HQC.out.1, cell_later bv3 HQC.out.2⟩ (fun hHeld => ?_)
    clear hK K
    try simp only [Act.put, List.setIfInBounds_toArray, List.set_cons_zero, List.set_cons_succ]
    refine takeD (i := 10) (d := some 110) (v := ?_) _ rfl rfl (by kernel_rfl) (by kernel_rfl) (by kernel_rfl) (fun _ _ _ h => h) (by rfl) ?_ (by assumption) ?_
    rotate_left
    · (intro w hSw; (try dsimp only at hSw); go_simp) <;> with_reducible rfl
    try simp only [Act.put, List.setIfInBounds_toArray, List.set_cons_zero, List.set_cons_succ]
    refine wpAnyH_ready (rs := [12]) (by kernel_rfl) (by simp) ?_
    refine AllReadyH.cons rfl (fun K hK => ?_) AllReadyH.nil
    go_simp
    go_at_call 18
    refine (CRW.out V3 bv3).mono ?_
    rintro e V4 ⟨⟨r4, rfl, hr4⟩, bv4'⟩
    obtain ⟨A4, c4, rfl⟩ := slice_form hr4
    have bv4 : Below W20.heap.size W20 V4 := bv3.trans (bv4'.mono bv3.size)
    try go_wp2_with fail
    refine hK.out _ _ ⟨cell_later bv4 HQC.out.1, cell_later bv4 HQC.out.2⟩ (fun hHeld => ?_)
    clear hK K
    try simp only [Act.put, List.setIfInBounds_toArray, List.set_cons_zero, List.set_cons_succ]
    refine takeD (i := 13) (d := some 113) (v := ?_) _ rfl rfl (by kernel_rfl) (by kernel_rfl) (by kernel_rfl) (fun _ _ _ h => h) (by rfl) ?_ (by assumption) ?_
    rotate_left
    · (intro w hSw; (try dsimp only at hSw); go_simp) <;> with_reducible rfl
    try simp only [Act.put, List.setIfInBounds_toArray, List.set_cons_zero, List.set_cons_succ]
    refine takeD (i := 14) (d := some 114) (v := ?_) _ rfl rfl (by kernel_rfl) (by kernel_rfl) (by kernel_rfl) (fun _ _ _ h => h) (by rfl) ?_ (by assumption) ?_
    rotate_left
    · (intro w hSw; (try dsimp only at hSw); go_simp) <;> with_reducible rfl
    try simp only [Act.put, List.setIfInBounds_toArray, List.set_cons_zero, List.set_cons_succ]
    refine takeD (i := 15) (d := some 115) (v := ?_) _ rfl rfl (by kernel_rfl) (by kernel_rfl) (by kernel_rfl) (fun _ _ _ h => h) (by rfl) ?_ (by assumption) ?_
    rotate_left
    · (intro w hSw; (try dsimp only at hSw); go_simp) <;> with_reducible rfl
    try simp only [Act.put, List.setIfInBounds_toArray, List.set_cons_zero, List.set_cons_succ]
    refine takeD (i := 16) (d := some 116) (v := ?_) _ rfl rfl (by kernel_rfl) (by kernel_rfl) (by kernel_rfl) (fun _ _ _ h => h) (by rfl) ?_ (by assumption) ?_
    rotate_left
    · (intro w hSw; (try dsimp only at hSw); go_simp) <;> with_reducible rfl
    try simp only [Act.put, List.setIfInBounds_toArray, List.set_cons_zero, List.set_cons_succ]
    refine takeD (i := 17) (d := some 2) (v := ?_) _ rfl rfl (by kernel_rfl) (by kernel_rfl) (by kernel_rfl) (fun _ _ _ h => h) (by rfl) ?_ (by assumption) ?_
    rotate_left
    · (intro w hSw; (try dsimp only at hSw); go_simp) <;> with_reducible rfl
    try simp only [Act.put, List.setIfInBounds_toArray, List.set_cons_zero, List.set_cons_succ]
    refine wpAnyH_done (by kernel_rfl) ?_ _
    have BF : Below w.heap.size w V4 := HB9.out.trans (bv4.mono HB9.out.size)
    clear hHeld
    go_wp2_with fail
    go_ret
    exact ⟨by first | rfl | simp, BF⟩
  · obtain ⟨z, hzz⟩ : ∃ z, newErr own = z := ⟨_, rfl⟩
    have hb := hbad hz
    rw [hzz] at hb hz
    subst hb
    have hz1 : (z == 0) = false := by simpa using hz
    have HZ : Hid (newErr own = z ∧ z ≠ 0) := ⟨hzz, hz⟩
    clear hbad hok b1 hzz hz
    go_wp2_with fail
    refine CRN.out.mono ?_
    rintro e W2 ⟨hbad, _, b2⟩
    have hb := hbad (by rw [HZ.out.1]; exact HZ.out.2)
    rw [HZ.out.1] at hb
    subst hb
    have HB2 : Hid (Below w.heap.size w W2) := HB1.out.trans (b2.mono HB1.out.size)
    clear hbad b2 CRN
    go_wp2_with fail
    obtain ⟨W3, hW3⟩ : ∃ W3, W2.alloc (.cells #[.slice none 0 0, .slice none 0 0] 31) = W3 := ⟨_, rfl⟩
    simp only [hW3]
    have HB3 : Hid (Below w.heap.size w W3) := by rw [← hW3]; exact HB2.out.alloc HB2.out.size _
    clear hW3
    obtain ⟨WZ, hWZ⟩ : ∃ WZ, WZ = W3 := ⟨_, rfl⟩
    have BZ : Hid (Below W3.heap.size W3 WZ) := by rw [hWZ]; exact Below.refl _ _
    rw [← hWZ]
    clear hWZ
    refine (fresh_nil WZ).mono ?_
    rintro e W10 ⟨rfl, bb⟩
    have BW10 : Hid (Below W3.heap.size W3 W10) := BZ.out.trans (bb.mono BZ.out.size)
    clear bb
    go_wp2_with fail
    refine (load_nil W10).mono ?_
    rintro e W11 ⟨rfl, bb⟩
    have BW11 : Hid (Below W3.heap.size W3 W11) := BW10.out.trans (bb.mono BW10.out.size)
    clear bb
    go_wp2_with fail
    refine (fetch_nil W11).mono ?_
    rintro e W12 ⟨rfl, bb⟩
    have BW12 : Hid (Below W3.heap.size W3 W12) := BW11.out.trans (bb.mono BW11.out.size)
    clear bb
    go_wp2_with fail
    refine (told_any W12).mono ?_
    rintro e W13 ⟨rfl, bb⟩
    have BW13 : Hid (Below W3.heap.size W3 W13) := BW12.out.trans (bb.mono BW12.out.size)
    clear bb
    go_wp2_with fail
    refine (store_nil W13).mono ?_
    rintro e W14 ⟨rfl, bb⟩
    have BW14 : Hid (Below W3.heap.size W3 W14) := BW13.out.trans (bb.mono BW13.out.size)
    clear bb
    go_wp2_with fail
    refine (fill_nil W14).mono ?_
    rintro e W15 ⟨rfl, bb⟩
    have BW15 : Hid (Below W3.heap.size W3 W15) := BW14.out.trans (bb.mono BW14.out.size)
    clear bb
    go_wp2_with fail
    refine (areas_nil W15).mono ?_
    rintro e W16 ⟨rfl, bb⟩
    have BW16 : Hid (Below W3.heap.size W3 W16) := BW15.out.trans (bb.mono BW15.out.size)
    clear bb
    go_wp2_with fail
    refine (words_nil W16).mono ?_
    rintro e W17 ⟨rfl, bb⟩
    have BW17 : Hid (Below W3.heap.size W3 W17) := BW16.out.trans (bb.mono BW16.out.size)
    clear bb
    go_wp2_with fail
    refine (clone_nil W17).mono ?_
    rintro e W18 ⟨rfl, bb⟩
    have BW18 : Hid (Below W3.heap.size W3 W18) := BW17.out.trans (bb.mono BW17.out.size)
    clear bb
    go_wp2_with fail
    refine (same_nil W18).mono ?_
    rintro e W19 ⟨rfl, bb⟩
    have BW19 : Hid (Below W3.heap.size W3 W19) := BW18.out.trans (bb.mono BW18.out.size)
    clear bb
    go_wp2_with fail
    have HB9 : Hid (Below w.heap.size w W19) := HB3.out.trans (BW19.out.mono HB3.out.size)
    refine wp_region_held_drew (S := fun w' => Below w.heap.size w w') (by kernel_rfl) ?_ (fun hHeld => ?_)
    · exact below_drewN HB9.out 1
    refine takeD (i := 0) (d := some 100) (v := ?_) _ rfl rfl (by kernel_rfl) (by kernel_rfl) (by kernel_rfl) (fun _ _ _ h => h) (by rfl) ?_ (by assumption) ?_
    rotate_left
    · (intro w hSw; (try dsimp only at hSw); go_simp) <;> with_reducible rfl
    try simp only [Act.put, List.setIfInBounds_toArray, List.set_cons_zero, List.set_cons_succ]
    refine takeD (i := 1) (d := some 101) (v := ?_) _ rfl rfl (by kernel_rfl) (by kernel_rfl) (by kernel_rfl) (fun _ _ _ h => h) (by rfl) ?_ (by assumption) ?_
    rotate_left
    · (intro w hSw; (try dsimp only at hSw); go_simp) <;> with_reducible rfl
    try simp only [Act.put, List.setIfInBounds_toArray, List.set_cons_zero, List.set_cons_succ]
    refine takeD (i := 2) (d := some 102) (v := ?_) _ rfl rfl (by kernel_rfl) (by kernel_rfl) (by kernel_rfl) (fun _ _ _ h => h) (by rfl) ?_ (by assumption) ?_
    rotate_left
    · (intro w hSw; (try dsimp only at hSw); go_simp) <;> with_reducible rfl
    try simp only [Act.put, List.setIfInBounds_toArray, List.set_cons_zero, List.set_cons_succ]
    refine skipD (i := 3) (d := some 103) _ rfl rfl (by kernel_rfl) (by kernel_rfl) (by kernel_rfl) (fun _ _ _ h => h) (by rfl) (by assumption) ?_
    try simp only [Act.put, List.setIfInBounds_toArray, List.set_cons_zero, List.set_cons_succ]
    refine skipD (i := 4) (d := some 104) _ rfl rfl (by kernel_rfl) (by kernel_rfl) (by kernel_rfl) (fun _ _ _ h => h) (by rfl) (by assumption) ?_
    try simp only [Act.put, List.setIfInBounds_toArray, List.set_cons_zero, List.set_cons_succ]
    refine skipD (i := 5) (d := some 105) _ rfl rfl (by kernel_rfl) (by kernel_rfl) (by kernel_rfl) (fun _ _ _ h => h) (by rfl) (by assumption) ?_
    try simp only [Act.put, List.setIfInBounds_toArray, List.set_cons_zero, List.set_cons_succ]
    refine skipD (i := 6) (d := some 106) _ rfl rfl (by kernel_rfl) (by kernel_rfl) (by kernel_rfl) (fun _ _ _ h => h) (by rfl) (by assumption) ?_
    try simp only [Act.put, List.setIfInBounds_toArray, List.set_cons_zero, List.set_cons_succ]
    refine skipD (i := 7) (d := some 107) _ rfl rfl (by kernel_rfl) (by kernel_rfl) (by kernel_rfl) (fun _ _ _ h => h) (by rfl) (by assumption) ?_
    try simp only [Act.put, List.setIfInBounds_toArray, List.set_cons_zero, List.set_cons_succ]
    refine skipD (i := 8) (d := some 108) _ rfl rfl (by kernel_rfl) (by kernel_rfl) (by kernel_rfl) (fun _ _ _ h => h) (by rfl) (by assumption) ?_
    try simp only [Act.put, List.setIfInBounds_toArray, List.set_cons_zero, List.set_cons_succ]
    refine skipD (i := 9) (d := some 109) _ rfl rfl (by kernel_rfl) (by kernel_rfl) (by kernel_rfl) (fun _ _ _ h => h) (by rfl) (by assumption) ?_
    try simp only [Act.put, List.setIfInBounds_toArray, List.set_cons_zero, List.set_cons_succ]
    refine skipD (i := 10) (d := some 110) _ rfl rfl (by kernel_rfl) (by kernel_rfl) (by kernel_rfl) (fun _ _ _ h => h) (by rfl) (by assumption) ?_
    try simp only [Act.put, List.setIfInBounds_toArray, List.set_cons_zero, List.set_cons_succ]
    refine skipD (i := 11) (d := some 111) _ rfl rfl (by kernel_rfl) (by kernel_rfl) (by kernel_rfl) (fun _ _ _ h => h) (by rfl) (by assumption) ?_
    try simp only [Act.put, List.setIfInBounds_toArray, List.set_cons_zero, List.set_cons_succ]
    refine skipD (i := 12) (d := some 112) _ rfl rfl (by kernel_rfl) (by kernel_rfl) (by kernel_rfl) (fun _ _ _ h => h) (by rfl) (by assumption) ?_
    try simp only [Act.put, List.setIfInBounds_toArray, List.set_cons_zero, List.set_cons_succ]
    refine skipD (i := 13) (d := some 113) _ rfl rfl (by kernel_rfl) (by kernel_rfl) (by kernel_rfl) (fun _ _ _ h => h) (by rfl) (by assumption) ?_
    try simp only [Act.put, List.setIfInBounds_toArray, List.set_cons_zero, List.set_cons_succ]
    refine skipD (i := 14) (d := some 114) _ rfl rfl (by kernel_rfl) (by kernel_rfl) (by kernel_rfl) (fun _ _ _ h => h) (by rfl) (by assumption) ?_
    try simp only [Act.put, List.setIfInBounds_toArray, List.set_cons_zero, List.set_cons_succ]
    refine skipD (i := 15) (d := some 115) _ rfl rfl (by kernel_rfl) (by kernel_rfl) (by kernel_rfl) (fun _ _ _ h => h) (by rfl) (by assumption) ?_
    try simp only [Act.put, List.setIfInBounds_toArray, List.set_cons_zero, List.set_cons_succ]
    refine takeD (i := 16) (d := some 116) (v := ?_) _ rfl rfl (by kernel_rfl) (by kernel_rfl) (by kernel_rfl) (fun _ _ _ h => h) (by rfl) ?_ (by assumption) ?_
    rotate_left
    · (intro w hSw; (try dsimp only at hSw); go_simp) <;> with_reducible rfl
    try simp only [Act.put, List.setIfInBounds_toArray, List.set_cons_zero, List.set_cons_succ]
    refine takeD (i := 17) (d := some 2) (v := ?_) _ rfl rfl (by kernel_rfl) (by kernel_rfl) (by kernel_rfl) (fun _ _ _ h => h) (by rfl) ?_ (by assumption) ?_
    rotate_left
    · (intro w hSw; (try dsimp only at hSw); go_simp) <;> with_reducible rfl
    try simp only [Act.put, List.setIfInBounds_toArray, List.set_cons_zero, List.set_cons_succ]
    refine wpAnyH_done (by kernel_rfl) ?_ _
    go_wp2_with fail
    go_ret
    exact ⟨rfl, hHeld⟩
end Go.Proofs.Ytliggejkpmlgfaa
