/-
  CallsWords' walk. Each statement bears its own conditions.
-/
import Derived.Test.YtglpbngdikfliaaDoorCaS
namespace Go.Proofs.YtglpbngdikfliaaDoor.Ca
open Go.RowKit Go.Proofs.YtglpbngdikfliaaDoor.F
set_option linter.unusedVariables false
set_option linter.unusedSimpArgs false
structure VR (s : ByteArray) (X : Nat) (w0 : World) (wv fv iv : Value) (wr : World) : Prop where
  ex : ∃ j : Nat, j ≤ 28 ∧ wv = .int .i64 (numJ j s).1 ∧ fv = .bool (numJ j s).2 ∧ iv = .int .i64 (j : Int) ∧ Below X w0 wr ∧ X ≤ wr.heap.size
theorem numJ_found {j : Nat} {s : ByteArray} (hj : j < 28) (h : eqS j s = true) : numJ (j + 1) s = ((j : Int), true) := by
  refine numJ_hit h (fun i hi => ?_) (j + 1) (by omega)
  by_cases e : eqS i s = true
  · have := eqS_one (by omega) hj e h; omega
  · simpa using e
set_option maxRecDepth 100000 in
set_option maxHeartbeats 32000000 in
theorem words_walk (n : Int) (s : ByteArray) (w : World) (hs : s.size ≤ maxLen) (hL : Laid w) : Calls Tryd.prog 6 #[.int .i64 n, .string s] w fun e w' => e = .returned (.bool true) ∧ Below w.heap.size w w' := by
  have hsz : (s.size : Int) ≤ 9223372036854775807 := by unfold maxLen at hs; omega
  obtain ⟨X, hX⟩ : ∃ X, w.heap.size = X := ⟨_, rfl⟩
  have HLw := Lib.hid hL
  have B_w : Hid (Below X w w) := by rw [← hX]; exact Below.refl _ _
  have S_w : Hid (X ≤ w.heap.size) := by rw [hX]; exact Nat.le_refl _
  have L_w := Lib.hid hL
  simp only [hX]
  go_enter Tryd.func6, Tryd.ntmps6
  go_upto_region 2 with fail
  obtain ⟨s2, hs2⟩ : ∃ x, s.extract 0 (min (↑s.size) (20 : Int)).toNat = x := ⟨_, rfl⟩
  simp only [hs2]
  clear hs2 hsz hs hL
  have CO := Lib.hid (of_any n w)
  obtain ⟨v, hv⟩ : ∃ v, is n = v := ⟨_, rfl⟩
  obtain ⟨wb, bo, ba, bw, bt, p, hrow, hword, hbad⟩ : ∃ (wb : ByteArray) (bo ba bw bt : Bool) (p : Int), rowQ n = .agg #[.string wb, .bool bo, .bool ba, .bool bw, .bool bt, .int .i64 p] ∧ wordA n = .string wb ∧ (v = true → ∃ k : Nat, n = (k : Int) ∧ k < 28 ∧ wb = ⟨byteL.getD k #[]⟩) := by
    cases v with
    | true =>
      refine ⟨⟨byteL.getD n.toNat #[]⟩, oB n, aB n, wB n, tB n, priceL.getD n.toNat 0, ?_, ?_, fun _ => ?_⟩
      · unfold rowQ wordV; rw [if_pos hv]
      · unfold wordA wordV; rw [if_pos hv]
      · obtain ⟨k, hk, hk2⟩ := is_nat hv
        exact ⟨k, hk, hk2, by rw [hk]; rfl⟩
    | false =>
      refine ⟨⟨#[]⟩, false, false, false, false, 0, ?_, ?_, fun h => by cases h⟩
      · unfold rowQ; rw [if_neg (by rw [hv]; simp)]
      · unfold wordA; rw [if_neg (by rw [hv]; simp)]
  rw [hv, hrow] at CO
  have HBD := Lib.hid hbad
  have CW : Hid (∀ W, Laid W → Calls Tryd.prog 20 #[.int .i64 n] W fun e w' => e = .returned (.string wb) ∧ Below W.heap.size W w') := fun W h => by rw [← hword]; exact word_any n W h
  obtain ⟨M, hM⟩ : ∃ M, mostV n = M := ⟨_, rfl⟩
  have CM : Hid (∀ W, Laid W → Calls Tryd.prog 15 #[.int .i64 n] W fun e w' => e = .returned (.int .i64 M) ∧ Below W.heap.size W w') := fun W h => by rw [← hM]; exact most_any n W h
  have CRM : Hid (∀ W, Calls Tryd.prog 21 #[.int .i64 n] W fun e w' => e = .returned (.int .i64 M) ∧ Below W.heap.size W w') := fun W => by rw [← hM]; exact rmost_any n W
  clear hv hrow hword hbad hM
  go_wp2_with fail
  refine (CO.out).mono ?_
  rintro e w1 ⟨rfl, hb⟩
  have B_w1 : Hid (Below X w w1) := B_w.out.trans (hb.mono S_w.out)
  have S_w1 : Hid (X ≤ w1.heap.size) := Nat.le_trans S_w.out hb.size
  have L_w1 : Hid (Laid w1) := HLw.out.below (by rw [hX]; exact B_w1.out)
  clear  B_w S_w L_w
  clear hb
  obtain ⟨T0, hT0⟩ : ∃ Z, w1.heap.size = Z := ⟨_, rfl⟩
  go_upto_region 3 with fail
  obtain ⟨w2, hw2⟩ : ∃ W, w1.alloc (.cells #[.string wb, .bool bo, .bool ba, .bool bw, .bool bt, .int .i64 p] 46) = W := ⟨_, rfl⟩
  rw [hw2]
  have hb : Below w1.heap.size w1 w2 := by rw [← hw2]; exact (Below.refl _ _).alloc (Nat.le_refl _) _
  have HR_w2 : Hid (w2.heap[T0]? = some (.cells #[.string wb, .bool bo, .bool ba, .bool bw, .bool bt, .int .i64 p] 46 (0, 0))) := by unfold Hid; rw [← hw2, ← hT0]; exact heap_alloc_new _ _
  have B_w2 : Hid (Below X w w2) := B_w1.out.trans (hb.mono S_w1.out)
  have S_w2 : Hid (X ≤ w2.heap.size) := Nat.le_trans S_w1.out hb.size
  have L_w2 : Hid (Laid w2) := HLw.out.below (by rw [hX]; exact B_w2.out)
  clear  B_w1 S_w1 L_w1
  clear hb hw2 hT0
  have z0 : w2.cell? ⟨T0, 0, none⟩ = some (.string wb) := by rw [(row_cell HR_w2.out 0).1]; rfl
  have HRL : Hid (∀ W, Below w2.heap.size w2 W → Laid W) := fun W hb => HLw.out.below (by rw [hX]; exact B_w2.out.trans (hb.mono S_w2.out))
  refine wp_region_held_drew (S := (fun w' => Below w2.heap.size w2 w' ∧ w'.cell? ⟨T0, 0, none⟩ = some (.string wb))) (by kernel_rfl) ⟨(Below.refl _ _).drew, z0⟩ (fun hHeld => ?_)
  clear z0
  refine takeD (i := 0) (d := some 26) (v := ?_) _ rfl rfl (by kernel_rfl) (by kernel_rfl) (by kernel_rfl) (fun _ _ _ h => h) (by rfl) ?_ (by assumption) ?_
  rotate_left
  · (intro w hSw; (try dsimp only at hSw); go_simp) <;> with_reducible rfl
  try simp only [Act.put, List.setIfInBounds_toArray, List.set_cons_zero, List.set_cons_succ]
  refine takeD (i := 2) (d := some 28) (v := ?_) _ rfl rfl (by kernel_rfl) (by kernel_rfl) (by kernel_rfl) (fun _ _ _ h => h) (by rfl) ?_ (by assumption) ?_
  rotate_left
  · (intro w hSw; (try dsimp only at hSw); go_simp) <;> with_reducible rfl
  try simp only [Act.put, List.setIfInBounds_toArray, List.set_cons_zero, List.set_cons_succ]
  refine takeD (i := 3) (d := some 29) (v := ?_) _ rfl rfl (by kernel_rfl) (by kernel_rfl) (by kernel_rfl) (fun _ _ _ h => h) (by rfl) ?_ (by assumption) ?_
  rotate_left
  · (intro w hSw; (try dsimp only at hSw); go_simp) <;> with_reducible rfl
  try simp only [Act.put, List.setIfInBounds_toArray, List.set_cons_zero, List.set_cons_succ]
  refine wpAnyH_ready (rs := [1]) (by kernel_rfl) (by simp) ?_
  refine AllReadyH.cons rfl (fun K hK => ?_) AllReadyH.nil
  (go_simp; go_at_call 20; refine (CW.out _ (HRL.out _ hHeld.1)).mono ?_; rintro e wt ⟨rfl, hbt⟩; try go_wp2_with fail)
  refine hK.out _ _ ?_ (fun hHeld => ?_)
  · exact ⟨hHeld.1.trans (hbt.mono hHeld.1.size), cell_later hbt hHeld.2⟩
  clear hK K
  try simp only [Act.put, List.setIfInBounds_toArray, List.set_cons_zero, List.set_cons_succ]
  refine takeD (i := 4) (d := some 30) (v := ?_) _ rfl rfl (by kernel_rfl) (by kernel_rfl) (by kernel_rfl) (fun _ _ _ h => h) (by rfl) ?_ (by assumption) ?_
  rotate_left
  · (intro w hSw; (try dsimp only at hSw); go_simp) <;> with_reducible rfl
  try simp only [Act.put, List.setIfInBounds_toArray, List.set_cons_zero, List.set_cons_succ]
  refine takeD (i := 5) (d := some 31) (v := ?_) _ rfl rfl (by kernel_rfl) (by kernel_rfl) (by kernel_rfl) (fun _ _ _ h => h) (by rfl) ?_ (by assumption) ?_
  rotate_left
  · (intro w hSw; (try dsimp only at hSw); go_simp) <;> with_reducible rfl
  try simp only [Act.put, List.setIfInBounds_toArray, List.set_cons_zero, List.set_cons_succ]
  refine takeD (i := 6) (d := some 32) (v := ?_) _ rfl rfl (by kernel_rfl) (by kernel_rfl) (by kernel_rfl) (fun _ _ _ h => h) (by rfl) ?_ (by assumption) ?_
  rotate_left
  · (intro w hSw; (try dsimp only at hSw); go_simp) <;> with_reducible rfl
  try simp only [Act.put, List.setIfInBounds_toArray, List.set_cons_zero, List.set_cons_succ]
  refine takeD (i := 8) (d := some 34) (v := ?_) _ rfl rfl (by kernel_rfl) (by kernel_rfl) (by kernel_rfl) (fun _ _ _ h => h) (by rfl) ?_ (by assumption) ?_
  rotate_left
  · (intro w hSw; (try dsimp only at hSw); go_simp) <;> with_reducible rfl
  try simp only [Act.put, List.setIfInBounds_toArray, List.set_cons_zero, List.set_cons_succ]
  refine wpAnyH_ready (rs := [7]) (by kernel_rfl) (by simp) ?_
  refine AllReadyH.cons rfl (fun K hK => ?_) AllReadyH.nil
  (go_simp; go_at_call 15; refine (CM.out _ (HRL.out _ hHeld.1)).mono ?_; rintro e wt ⟨rfl, hbt⟩; try go_wp2_with fail)
  refine hK.out _ _ ?_ (fun hHeld => ?_)
  · exact ⟨hHeld.1.trans (hbt.mono hHeld.1.size), cell_later hbt hHeld.2⟩
  clear hK K
  try simp only [Act.put, List.setIfInBounds_toArray, List.set_cons_zero, List.set_cons_succ]
  refine wpAnyH_ready (rs := [9]) (by kernel_rfl) (by simp) ?_
  refine AllReadyH.cons rfl (fun K hK => ?_) AllReadyH.nil
  (go_simp; go_at_call 21; refine (CRM.out _).mono ?_; rintro e wt ⟨rfl, hbt⟩; try go_wp2_with fail)
  refine hK.out _ _ ?_ (fun hHeld => ?_)
  · exact ⟨hHeld.1.trans (hbt.mono hHeld.1.size), cell_later hbt hHeld.2⟩
  clear hK K
  try simp only [Act.put, List.setIfInBounds_toArray, List.set_cons_zero, List.set_cons_succ]
  refine takeD (i := 10) (d := some 36) (v := ?_) _ rfl rfl (by kernel_rfl) (by kernel_rfl) (by kernel_rfl) (fun _ _ _ h => h) (by rfl) ?_ (by assumption) ?_
  rotate_left
  · (intro w hSw; (try dsimp only at hSw); go_simp) <;> with_reducible rfl
  try simp only [Act.put, List.setIfInBounds_toArray, List.set_cons_zero, List.set_cons_succ]
  refine takeD (i := 11) (d := some 37) (v := ?_) _ rfl rfl (by kernel_rfl) (by kernel_rfl) (by kernel_rfl) (fun _ _ _ h => h) (by rfl) ?_ (by assumption) ?_
  rotate_left
  · (intro w hSw; (try dsimp only at hSw); go_simp) <;> with_reducible rfl
  try simp only [Act.put, List.setIfInBounds_toArray, List.set_cons_zero, List.set_cons_succ]
  refine wpAnyH_done (by kernel_rfl) ?_ _
  obtain ⟨v2, hv2⟩ : ∃ W, W = wt := ⟨_, rfl⟩
  have hb2 : Below w2.heap.size w2 v2 := by rw [hv2]; exact hHeld.1
  simp only [← hv2]
  clear hHeld hv2 HRL CRM CM CW
  have HR_v2 : Hid (v2.heap[T0]? = some (.cells #[.string wb, .bool bo, .bool ba, .bool bw, .bool bt, .int .i64 p] 46 (0, 0))) := (hb2.block (T0) (Array.getElem?_eq_some_iff.1 HR_w2.out).1).trans HR_w2.out
  have B_v2 : Hid (Below X w v2) := B_w2.out.trans (hb2.mono S_w2.out)
  have S_v2 : Hid (X ≤ v2.heap.size) := Nat.le_trans S_w2.out hb2.size
  have L_v2 : Hid (Laid v2) := HLw.out.below (by rw [hX]; exact B_v2.out)
  clear HR_w2 B_w2 S_w2 L_w2
  clear hb2
  go_upto_if 38 with fail
  go_cut [1] (fun sv wx => sv = .string s2 ∧ Below X w wx ∧ X ≤ wx.heap.size)
  case first =>
    cases v
    · go_wp2_with fail
      go_meet
      exact ⟨rfl, B_v2.out, S_v2.out⟩
    · obtain ⟨k, hk, hk2, hw⟩ := HBD.out rfl
      subst hk
      have CN := number_any wb v2 L_v2.out
      have hn : numJ 28 wb = ((k : Int), true) := by
        rw [hw]
        refine numJ_hit ?_ (fun i hi => ?_) 28 hk2
        · rw [eqS_word hk2 hk2]; simp
        · rw [eqS_word (by omega) hk2]; simp; omega
      rw [hn] at CN
      have HN := Lib.hid CN
      have z0 : v2.cell? ⟨T0, 0, none⟩ = some (.string wb) := by rw [(row_cell HR_v2.out 0).1]; rfl
      clear CN hn hw hk2
      go_wp2_with fail
      refine HN.out.mono ?_
      rintro e v3 ⟨rfl, hb⟩
      have B3 : Hid (Below X w v3) := B_v2.out.trans (hb.mono S_v2.out)
      have S3 : Hid (X ≤ v3.heap.size) := Nat.le_trans S_v2.out hb.size
      clear hb HN z0
      go_wp2_with fail
      go_meet
      exact ⟨rfl, B3.out, S3.out⟩
  case rest =>
    obtain ⟨v4, hv4⟩ : ∃ w', w' = wc := ⟨_, rfl⟩
    subst hv4
    obtain ⟨rfl, hb, hs⟩ := hcut
    have B_v4 := Lib.hid hb
    have S_v4 := Lib.hid hs
    have L_v4 : Hid (Laid v4) := HLw.out.below (by rw [hX]; exact hb)
    clear hb hs HR_v2 B_v2 S_v2 L_v2 HBD CO
    have CN := Lib.hid (number_any s2 v4 L_v4.out)
    obtain ⟨K, hK⟩ : ∃ K, (numJ 28 s2).1 = K := ⟨_, rfl⟩
    obtain ⟨F, hF⟩ : ∃ K, (numJ 28 s2).2 = K := ⟨_, rfl⟩
    rw [hK, hF] at CN
    have HKF := Lib.hid (And.intro hK hF)
    clear hK hF
    go_wp2_with fail
    refine CN.out.mono ?_
    rintro e v5 ⟨rfl, hb⟩
    have B5 : Hid (Below X w v5) := B_v4.out.trans (hb.mono S_v4.out)
    have S5 : Hid (X ≤ v5.heap.size) := Nat.le_trans S_v4.out hb.size
    clear hb CN B_v4 S_v4 L_v4
    go_wp2_with fail
    go_loopw [11, 12, 13] (fun wv fv iv wr => VR s2 X w wv fv iv wr) (fun _ _ i _ => 28 - (intOf i).toNat)
    case atStart => exact ⟨⟨0, Nat.zero_le _, rfl, rfl, rfl, B5.out, S5.out⟩⟩
    case round =>
      clear B5 S5
      obtain ⟨⟨j, hj, rfl, rfl, rfl, hb, hs⟩⟩ := hrel
      have HB := Lib.hid hb
      have HS := Lib.hid hs
      have HLr : Hid (Laid wr) := HLw.out.below (by rw [hX]; exact hb)
      clear hb hs
      obtain ⟨a, ha⟩ : ∃ a, (numJ j s2).1 = a := ⟨_, rfl⟩
      obtain ⟨f, hf⟩ : ∃ f, (numJ j s2).2 = f := ⟨_, rfl⟩
      by_cases hlt : j < 28
      rotate_left
      · have hjI : ¬ (j : Int) < 28 := by omega
        have k0 : decide ((j : Int) < 28) = false := by simp only [hjI, decide_false]
        have e28 : j = 28 := by omega
        have e1 : K = a := by rw [← HKF.out.1, ← ha, e28]
        have e2 : F = f := by rw [← HKF.out.2, ← hf, e28]
        rw [ha, hf]
        subst e1
        subst e2
        have KN := Lib.hid (known_any wr HLr.out)
        clear hlt hj e28 ha hf
        go_wp2_with fail
        refine KN.out.mono ?_
        rintro e v7 ⟨rfl, hb⟩
        have B7 : Hid (Below X w v7) := HB.out.trans (hb.mono HS.out)
        clear hb KN
        go_wp2_with fail
        go_ret
        exact ⟨by simp, B7.out⟩
      have hjI : (j : Int) < 28 := by omega
      have k0 : decide ((j : Int) < 28) = true := by simp only [hjI, decide_true]
      have HJ : Hid (j < 28) := hlt
      have hjn : is (j : Int) = true := by unfold is; rw [decide_eq_true (by omega)]
      have CO := Lib.hid (of_any (j : Int) wr)
      have HQ : rowQ (j : Int) = .agg #[.string ⟨byteL.getD j #[]⟩, .bool (oB (j : Int)), .bool (aB (j : Int)), .bool (wB (j : Int)), .bool (tB (j : Int)), .int .i64 (priceL.getD j 0)] := by unfold rowQ wordV; rw [if_pos hjn]; rfl
      rw [hjn, HQ] at CO
      obtain ⟨by_, hby⟩ : ∃ x, byteL.getD j #[] = x := ⟨_, rfl⟩
      obtain ⟨c, hc⟩ : ∃ c, eqS j s2 = c := ⟨_, rfl⟩
      have HC := Lib.hid hc
      have heq2 : ((⟨by_⟩ : ByteArray).toList == s2.toList) = c := by rw [← beq_toListBytes, bytes_eq, ← hc, ← hby]; rfl
      rw [hby] at CO
      generalize oB (j : Int) = bo at CO
      generalize aB (j : Int) = ba at CO
      generalize wB (j : Int) = bw at CO
      generalize tB (j : Int) = bt at CO
      generalize priceL.getD j 0 = p at CO
      have HAF := Lib.hid (And.intro ha hf)
      rw [ha, hf]
      clear HQ hjn hby hc hlt hj ha hf
      go_wp2_with fail
      refine CO.out.mono ?_
      rintro e v6 ⟨rfl, hb⟩
      have B6 : Hid (Below X w v6) := HB.out.trans (hb.mono HS.out)
      have S6 : Hid (X ≤ v6.heap.size) := Nat.le_trans HS.out hb.size
      obtain ⟨Z, hZ⟩ : ∃ Z, v6.heap.size = Z := ⟨_, rfl⟩
      clear hb CO
      go_upto_region 15 with fail
      obtain ⟨v7, hv7⟩ : ∃ W, v6.alloc (.cells #[.string ⟨by_⟩, .bool bo, .bool ba, .bool bw, .bool bt, .int .i64 p] 46) = W := ⟨_, rfl⟩
      rw [hv7]
      have z0 : v7.cell? ⟨Z, 0, none⟩ = some (.string ⟨by_⟩) := by rw [← hv7, ← hZ]; simp
      have B7 : Hid (Below X w v7) := by rw [← hv7]; exact B6.out.alloc S6.out _
      have S7 : Hid (X ≤ v7.heap.size) := by rw [← hv7]; have := S6.out; unfold Hid; simp; omega
      clear hv7 hZ B6 S6
      cases c
      · go_wp2_with fail
        have Q : VR s2 X w (.int .i64 a) (.bool f) (.int .i64 ((j : Int) + 1)) v7 := ⟨⟨j + 1, HJ.out, by rw [numJ_step HC.out, HAF.out.1], by rw [numJ_step HC.out, HAF.out.2], by go_num, B7.out, S7.out⟩⟩
        refine ⟨Q, ?_⟩
        have := HJ.out
        simp [intOf]
        omega
      · go_wp2_with fail
        have Q : VR s2 X w (.int .i64 (j : Int)) (.bool true) (.int .i64 ((j : Int) + 1)) v7 := ⟨⟨j + 1, HJ.out, by rw [numJ_found HJ.out HC.out], by rw [numJ_found HJ.out HC.out], by go_num, B7.out, S7.out⟩⟩
        refine ⟨Q, ?_⟩
        have := HJ.out
        simp [intOf]
        omega
end Go.Proofs.YtglpbngdikfliaaDoor.Ca
