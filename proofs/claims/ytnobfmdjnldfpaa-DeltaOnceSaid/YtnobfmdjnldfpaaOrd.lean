/-
  The reference's Order. Each statement bears its own conditions.
-/
import Derived.Test.YtnobfmdjnldfpaaRef
namespace Go.Proofs.Ytnobfmdjnldfpaa
open Go.RowKit
set_option linter.unusedVariables false
set_option linter.unusedSimpArgs false
/-- One more in its place: behind all that are not later. -/
def ins (D : List (Int × Int)) (x : Int × Int) : List (Int × Int) := D.take (cnt D x.2) ++ x :: D.drop (cnt D x.2)
def ord (L : List (Int × Int)) : List (Int × Int) := L.foldl ins []
theorem ord_app (L : List (Int × Int)) (x : Int × Int) : ord (L ++ [x]) = ins (ord L) x := by simp [ord]
theorem ins_perm (D : List (Int × Int)) (x : Int × Int) : (ins D x).Perm (x :: D) := by
  unfold ins
  refine List.perm_middle.trans ?_
  rw [List.take_append_drop]
theorem ins_srt {D : List (Int × Int)} (h : Srt D) (x : Int × Int) : Srt (ins D x) := by
  obtain ⟨c1, c2⟩ := cnt_cut h x.2
  unfold ins Srt
  refine List.pairwise_append.2 ⟨h.sublist (List.take_sublist _ _), List.pairwise_cons.2 ⟨fun y hy => Int.le_of_lt (c2 y hy), h.sublist (List.drop_sublist _ _)⟩, fun u hu y hy => ?_⟩
  rcases List.mem_cons.1 hy with rfl | hy
  · exact c1 u hu
  · exact Int.le_trans (c1 u hu) (Int.le_of_lt (c2 y hy))
theorem ord_srt_len (L : List (Int × Int)) : ∀ n, n ≤ L.length → Srt (ord (L.take n)) ∧ (ord (L.take n)).length = n := by
  intro n
  induction n with
  | zero => intro _; exact ⟨by simp [ord, Srt], by simp [ord]⟩
  | succ n ih =>
    intro h
    obtain ⟨a, b⟩ := ih (by omega)
    rw [take_getD (by omega), ord_app]
    exact ⟨ins_srt a _, by rw [(ins_perm _ _).length_eq, List.length_cons, b]⟩
structure OrRel (n : Nat) (L : List (Int × Int)) (w : World) (v iv : Value) (wr : World) : Prop where
  ex : ∃ (i q c : Nat), i ≤ n ∧ iv = .int .i64 (i : Int) ∧ v = .slice (some ⟨q, 0, none⟩) i c ∧ wr.ownsRow w.heap.size 66 2 (.slice (some ⟨q, 0, none⟩) i c) i (C (ord (L.take i))) ∧ Below w.heap.size w wr ∧ w.heap.size < wr.heap.size
structure OiRel (m : Nat) (D : List (Int × Int)) (y : Int) (w : World) (iv : Value) (wr : World) : Prop where
  ex : ∃ k : Nat, k ≤ m ∧ iv = .int .i64 (k : Int) ∧ (∀ j, k ≤ j → j < m → y < (D.getD j (0, 0)).2) ∧ Below w.heap.size w wr
set_option maxRecDepth 100000 in
set_option maxHeartbeats 2000000 in
theorem order_any (A : Option Addr) (n c : Nat) (L : List (Int × Int)) (w : World) (B : Nat) (h : Reads w B 2 A n (C L)) (hL : L.length = n) (hn : n ≤ 1000) (hB : B ≤ w.heap.size) :
    Calls Try.prog 33 #[.slice A n c] w fun e w' => ∃ A' c', e = .returned (.slice A' n c') ∧ w'.ownsRow w.heap.size 66 2 (.slice A' n c') n (C (ord L)) ∧ Below w.heap.size w w' := by
  obtain ⟨i0, hi, hz0, hz1, hz2⟩ := info_of pair_info
  have H := Lib.hid h
  have HL := Lib.hid hL
  have HN := Lib.hid hn
  clear h hL hn hB
  go_enter Try.func33, Try.ntmps33
  go_wp2_with fail
  go_loopw [3, 4] (fun v i wr => OrRel n L w v i wr) (fun _ i => fun _ => 1001 - (intOf i).toNat)
  case atStart => exact ⟨⟨0, w.heap.size, 0, Nat.zero_le _, rfl, rfl, row_newP _ w (Nat.le_refl _), (Below.refl _ _).alloc (Nat.le_refl _) _, by simp⟩⟩
  case round =>
    obtain ⟨⟨i, q, c, hj, rfl, rfl, ho, hb, hsz⟩⟩ := hrel
    obtain ⟨wo, hwo⟩ : ∃ wo, wo = wr := ⟨_, rfl⟩
    subst hwo
    have HB := Lib.hid hb
    have HO := Lib.hid ho
    have HSZ := Lib.hid hsz
    clear hb ho hsz
    by_cases hlt : i < n
    · obtain ⟨b, off, rfl, _, _, hc⟩ := place_p H.out (by omega)
      obtain ⟨e0, e1⟩ := hc i hlt
      obtain ⟨x, hx⟩ : ∃ x, Hid ((L.getD i (0, 0)).1 = x) := ⟨_, rfl⟩
      obtain ⟨y, hy⟩ : ∃ x, Hid ((L.getD i (0, 0)).2 = x) := ⟨_, rfl⟩
      rw [hx.out] at e0
      rw [hy.out] at e1
      have hjI : (i : Int) < (n : Int) := by omega
      have hj2 : (i : Int) < 1000 := by have := HN.out; omega
      have HX : Hid (i < n) := hlt
      have HI1 : Hid (i ≤ 1000) := by unfold Hid; have := HN.out; omega
      have HOI : Hid (ord (L.take (i + 1)) = ins (ord (L.take i)) (x, y)) := by
        unfold Hid
        rw [take_getD (by rw [HL.out]; exact HX.out), ord_app, show L.getD i (0, 0) = (x, y) from Prod.ext hx.out hy.out]
      obtain ⟨hsr, hdl⟩ := ord_srt_len L i (by rw [HL.out]; omega)
      have HSR := Lib.hid hsr
      have HDL := Lib.hid hdl
      have HIC : Hid (i ≤ c) := by
        unfold Hid
        rcases HO.out.2 with ⟨h1, h2⟩ | ⟨_, cap', _, h1, _, _, h3, _⟩
        · cases h1
        · injection h1 with _ _ h1
          rw [h1]; exact h3
      obtain ⟨D, hD⟩ : ∃ D, ord (L.take i) = D := ⟨_, rfl⟩
      rw [hD] at HO HOI HSR HDL
      clear hc hlt hj hsr hdl hD
      go_wp2_with fail
      go_loopw [5] (fun kv wr => OiRel i D y wo kv wr) (fun kv => fun _ => (intOf kv).toNat)
      case atStart => exact ⟨⟨i, Nat.le_refl _, rfl, fun j h1 h2 => by omega, Below.refl _ _⟩⟩
      case round =>
        obtain ⟨⟨k, hk, rfl, hall, hbi⟩⟩ := hrel
        have HBI := Lib.hid hbi
        have HK := Lib.hid hk
        have HALL := Lib.hid hall
        have d0 := cell_later (HB.out.trans (hbi.mono HB.out.size)) e0
        have d1 := cell_later (HB.out.trans (hbi.mono HB.out.size)) e1
        clear hbi hk hall
        by_cases hk0 : k = 0
        · have hkB : decide (0 < k) = false := by rw [decide_eq_false_iff_not]; omega
          have KC : Hid (cnt D y = k) := by
            unfold Hid
            exact cnt_of (by have := HK.out; have := HDL.out; omega) (fun j hj => by omega) (fun j h1 h2 => HALL.out j h1 (by have := HDL.out; omega))
          clear hk0
          go_wp2_with fail
          refine wp_region_held_drew (S := (fun w' => Below wr.heap.size wr w')) (by kernel_rfl) ?_ (fun hHeld => ?_)
          · exact (Below.refl _ _).drew
          refine takeD (i := 0) (d := some 16) (v := ?_) _ rfl rfl (by kernel_rfl) (by kernel_rfl) (by kernel_rfl) (fun _ _ _ h => h) (by rfl) ?_ (by assumption) ?_
          rotate_left
          · (intro w hSw; (try dsimp only at hSw); go_simp) <;> with_reducible rfl
          try simp only [Act.put, List.setIfInBounds_toArray, List.set_cons_zero, List.set_cons_succ]
          refine takeD (i := 1) (d := some 17) (v := ?_) _ rfl rfl (by kernel_rfl) (by kernel_rfl) (by kernel_rfl) (fun _ _ _ h => h) (by rfl) ?_ (by assumption) ?_
          rotate_left
          · (intro w hSw; (try dsimp only at hSw); go_simp) <;> with_reducible rfl
          try simp only [Act.put, List.setIfInBounds_toArray, List.set_cons_zero, List.set_cons_succ]
          refine takeD (i := 2) (d := some 18) (v := ?_) _ rfl rfl (by kernel_rfl) (by kernel_rfl) (by kernel_rfl) (fun _ _ _ h => h) (by rfl) ?_ (by assumption) ?_
          rotate_left
          · (intro w hSw; (try dsimp only at hSw); go_simp) <;> with_reducible rfl
          try simp only [Act.put, List.setIfInBounds_toArray, List.set_cons_zero, List.set_cons_succ]
          refine skipD (i := 3) (d := some 19) _ rfl rfl (by kernel_rfl) (by kernel_rfl) (by kernel_rfl) (fun _ _ _ h => h) (by rfl) (by assumption) ?_
          try simp only [Act.put, List.setIfInBounds_toArray, List.set_cons_zero, List.set_cons_succ]
          refine skipD (i := 4) (d := some 20) _ rfl rfl (by kernel_rfl) (by kernel_rfl) (by kernel_rfl) (fun _ _ _ h => h) (by rfl) (by assumption) ?_
          try simp only [Act.put, List.setIfInBounds_toArray, List.set_cons_zero, List.set_cons_succ]
          refine skipD (i := 5) (d := some 21) _ rfl rfl (by kernel_rfl) (by kernel_rfl) (by kernel_rfl) (fun _ _ _ h => h) (by rfl) (by assumption) ?_
          try simp only [Act.put, List.setIfInBounds_toArray, List.set_cons_zero, List.set_cons_succ]
          refine skipD (i := 6) (d := some 22) _ rfl rfl (by kernel_rfl) (by kernel_rfl) (by kernel_rfl) (fun _ _ _ h => h) (by rfl) (by assumption) ?_
          try simp only [Act.put, List.setIfInBounds_toArray, List.set_cons_zero, List.set_cons_succ]
          refine skipD (i := 7) (d := some 23) _ rfl rfl (by kernel_rfl) (by kernel_rfl) (by kernel_rfl) (fun _ _ _ h => h) (by rfl) (by assumption) ?_
          try simp only [Act.put, List.setIfInBounds_toArray, List.set_cons_zero, List.set_cons_succ]
          refine skipD (i := 8) (d := some 24) _ rfl rfl (by kernel_rfl) (by kernel_rfl) (by kernel_rfl) (fun _ _ _ h => h) (by rfl) (by assumption) ?_
          try simp only [Act.put, List.setIfInBounds_toArray, List.set_cons_zero, List.set_cons_succ]
          refine skipD (i := 9) (d := some 25) _ rfl rfl (by kernel_rfl) (by kernel_rfl) (by kernel_rfl) (fun _ _ _ h => h) (by rfl) (by assumption) ?_
          try simp only [Act.put, List.setIfInBounds_toArray, List.set_cons_zero, List.set_cons_succ]
          refine skipD (i := 10) (d := some 26) _ rfl rfl (by kernel_rfl) (by kernel_rfl) (by kernel_rfl) (fun _ _ _ h => h) (by rfl) (by assumption) ?_
          try simp only [Act.put, List.setIfInBounds_toArray, List.set_cons_zero, List.set_cons_succ]
          refine skipD (i := 11) (d := some 27) _ rfl rfl (by kernel_rfl) (by kernel_rfl) (by kernel_rfl) (fun _ _ _ h => h) (by rfl) (by assumption) ?_
          try simp only [Act.put, List.setIfInBounds_toArray, List.set_cons_zero, List.set_cons_succ]
          refine skipD (i := 12) (d := some 28) _ rfl rfl (by kernel_rfl) (by kernel_rfl) (by kernel_rfl) (fun _ _ _ h => h) (by rfl) (by assumption) ?_
          try simp only [Act.put, List.setIfInBounds_toArray, List.set_cons_zero, List.set_cons_succ]
          refine skipD (i := 13) (d := some 29) _ rfl rfl (by kernel_rfl) (by kernel_rfl) (by kernel_rfl) (fun _ _ _ h => h) (by rfl) (by assumption) ?_
          try simp only [Act.put, List.setIfInBounds_toArray, List.set_cons_zero, List.set_cons_succ]
          refine skipD (i := 14) (d := some 30) _ rfl rfl (by kernel_rfl) (by kernel_rfl) (by kernel_rfl) (fun _ _ _ h => h) (by rfl) (by assumption) ?_
          try simp only [Act.put, List.setIfInBounds_toArray, List.set_cons_zero, List.set_cons_succ]
          refine takeD (i := 15) (d := some 31) (v := ?_) _ rfl rfl (by kernel_rfl) (by kernel_rfl) (by kernel_rfl) (fun _ _ _ h => h) (by rfl) ?_ (by assumption) ?_
          rotate_left
          · (intro w hSw; (try dsimp only at hSw); go_simp) <;> with_reducible rfl
          try simp only [Act.put, List.setIfInBounds_toArray, List.set_cons_zero, List.set_cons_succ]
          refine wpAnyH_done (by kernel_rfl) ?_ _
          have HBI := Lib.hid (HBI.out.trans (hHeld.mono HBI.out.size))
          clear hHeld d0 d1
          have CNT : Hid (cnt D y = k) := KC.out
          obtain ⟨W0, hW0⟩ : ∃ W0, wr.drew = W0 := ⟨_, rfl⟩
          rw [hW0] at HBI ⊢
          clear hW0
          have HBW := Lib.hid (HB.out.trans (HBI.out.mono HB.out.size))
          have RO : Hid (Reads W0 W0.heap.size 2 (some ⟨q, 0, none⟩) i (C D)) := Reads.of_own (own_below HO.out HBI.out)
          have RT : Hid (Reads W0 W0.heap.size 2 (some ⟨q, 0, none⟩) k (C (D.take k))) := by
            refine ⟨by rw [C_len, List.length_take, HDL.out]; have := HK.out; omega, fun hk => ?_⟩
            obtain ⟨ad, h1, h2, h3⟩ := RO.out.2 (by have := HK.out; omega)
            refine ⟨ad, h1, h2, fun j u hu => h3 j u ?_⟩
            rw [← C_take] at hu
            have h5 : j < k * 2 := by
              have := (List.getElem?_eq_some_iff.1 hu).1
              rw [List.length_take] at this; omega
            rwa [List.getElem?_take_of_lt h5] at hu
          have hkc : (k : Int) ≤ (c : Int) := by have := HK.out; have := HIC.out; omega
          have hki : (k : Int) ≤ (i : Int) := by have := HK.out; omega
          have hic : (i : Int) ≤ (c : Int) := by have := HIC.out; omega
          obtain ⟨A2, hA2⟩ : ∃ A2, (if c = k then some (⟨q, 0, none⟩ : Addr) else some ⟨q, k * 2, none⟩) = A2 := ⟨_, rfl⟩
          have RD : Hid (Reads W0 W0.heap.size 2 A2 (i - k) (C (D.drop k))) := by
            unfold Hid
            have := RO.out.cut (k := k) (cap := c) HK.out HIC.out
            rw [C_drop] at this
            rw [← hA2]
            simpa [Addr.add_lit] using this
          go_wp2_with (at_builtin; refine wpList_append_any _ rfl (.tmp 34) (.tmp 37) _ rfl W0.heap.size 66 i0 _ 2 16 Try.underlying26 hi hz0 hz1 hz2 rfl (by omega) (.slice (some ⟨W0.heap.size, 0, none⟩) 0 0) 0 (C []) rfl (row_newP _ W0 (Nat.le_refl _)) W0.heap.size (some ⟨q, 0, none⟩) k c (C (D.take k)) rfl (RT.out.alloc (Nat.le_refl _) _) (C_one _) ?c2 ?c3 ?c4 ?_)
          case c2 => have := HK.out; have := HI1.out; unfold maxLen; omega
          case c3 => have := HK.out; have := HI1.out; omega
          try (case c4 => simp)
          intro v1 w1 hown1 hg1 _
          have hown1' : w1.ownsRow W0.heap.size 66 2 v1 k (C (D.take k)) := by simpa [C_nil] using hown1
          obtain ⟨A3, c3, hv, ho1, hb1⟩ := own_ofP (row_newP W0.heap.size W0 (Nat.le_refl _)) ((Below.refl _ _).alloc (Nat.le_refl _) _) (by simp) hown1' hg1
          rw [hv]
          have HO1 := Lib.hid ho1
          have HB1 := Lib.hid hb1
          clear hv hown1 hown1' hg1 ho1 hb1
          have f0 := cell_later (HBW.out.trans (HB1.out.mono HBW.out.size)) e0
          have f1 := cell_later (HBW.out.trans (HB1.out.mono HBW.out.size)) e1
          go_wp2_with (at_builtin; refine wpList_append_any _ rfl (.tmp 39) (.tmp 44) _ rfl W0.heap.size 66 i0 _ 2 16 Try.underlying26 hi hz0 hz1 hz2 rfl (by omega) (.slice A3 k c3) k (C (D.take k)) rfl (own_below HO1.out ((Below.refl _ _).alloc (Nat.le_refl _) _)) (w1.heap.size + 1) (some ⟨w1.heap.size, 0, none⟩) 1 1 (C [(x, y)]) rfl (reads_newP w1 x y) (C_one _) ?d2 ?d3 ?d4 ?_)
          case d2 => have := HK.out; have := HI1.out; unfold maxLen; omega
          case d3 => have := HK.out; have := HI1.out; omega
          try (case d4 => have := HB1.out.size; simp; omega)
          intro v2 w2 hown2 hg2 _
          have hown2' : w2.ownsRow W0.heap.size 66 2 v2 (k + 1) (C (D.take k ++ [(x, y)])) := by rw [C_app]; exact hown2
          obtain ⟨A4, c4, hv, ho2, hb2⟩ := own_ofP (own_below HO1.out ((Below.refl _ _).alloc (Nat.le_refl _) _)) (HB1.out.alloc HB1.out.size _) (by have := HB1.out.size; simp; omega) hown2' hg2
          rw [hv]
          have HO2 := Lib.hid ho2
          have HB2 := Lib.hid hb2
          clear hv hown2 hown2' hg2 ho2 hb2 f0 f1
          go_wp2_with (at_builtin; refine wpList_append_any _ rfl (.tmp 46) (.tmp 49) _ rfl W0.heap.size 66 i0 _ 2 16 Try.underlying26 hi hz0 hz1 hz2 rfl (by omega) (.slice A4 (k + 1) c4) (k + 1) (C (D.take k ++ [(x, y)])) rfl HO2.out W0.heap.size A2 (i - k) (c - k) (C (D.drop k)) rfl (RD.out.below HB2.out) (C_one _) ?e2 ?e3 ?e4 ?_)
          case e2 => have := HK.out; have := HI1.out; unfold maxLen; omega
          case e3 => have := HK.out; have := HI1.out; omega
          try (case e4 => exact HB2.out.size)
          intro v3 w3 hown3 hg3 _
          have hlen : k + 1 + (i - k) = i + 1 := by have := HK.out; omega
          have hown3' : w3.ownsRow W0.heap.size 66 2 v3 (i + 1) (C (ins D (x, y))) := by
            rw [hlen] at hown3
            unfold ins
            rw [CNT.out, show D.take k ++ (x, y) :: D.drop k = (D.take k ++ [(x, y)]) ++ D.drop k by simp, C_app _ (D.drop k)]
            exact hown3
          rw [← HOI.out] at hown3'
          obtain ⟨A5, c5, hv, ho3, hb3⟩ := own_ofP HO2.out HB2.out HB2.out.size hown3' hg3
          obtain ⟨q5, hq5⟩ : ∃ q5, A5 = some ⟨q5, 0, none⟩ := by
            rcases ho3.2 with ⟨h1, h2⟩ | ⟨q5, _, _, h1, _⟩
            · omega
            · injection h1 with h1
              exact ⟨q5, h1⟩
          rw [hv]
          subst hq5
          have HO3 : Hid (w3.ownsRow w.heap.size 66 2 (.slice (some ⟨q5, 0, none⟩) (i + 1) c5) (i + 1) (C (ord (L.take (i + 1))))) := own_keepI ho3 HBW.out.size (fun _ _ _ => rfl)
          have HB3 : Hid (Below w.heap.size w w3) := HBW.out.trans (hb3.mono HBW.out.size)
          have HS3 : Hid (w.heap.size < w3.heap.size) := by unfold Hid; have := hb3.size; have := HSZ.out; have := HBI.out.size; omega
          clear hv hown3 hown3' hg3 ho3 hb3 hA2 hlen
          go_wp2_with fail
          go_roundw
          case rel =>
            have Q : OrRel n L w (.slice (some ⟨q5, 0, none⟩) (i + 1) c5) (.int .i64 ((i : Int) + 1)) w3 := ⟨⟨i + 1, q5, c5, HX.out, by go_num, rfl, HO3.out, HB3.out, HS3.out⟩⟩
            first | exact Q | ((repeat apply Exists.intro); exact ⟨Q, rfl⟩)
          case measure => have := HX.out; have := HN.out; simp [intOf]; omega
        · obtain ⟨k', hk'⟩ : ∃ k', Hid (k = k' + 1) := ⟨k - 1, by unfold Hid; omega⟩
          have hkB : decide (0 < k) = true := by rw [decide_eq_true_iff]; omega
          have hk1 : (k : Int) - 1 = (k' : Int) := by have := hk'.out; omega
          have hk1b : IntKind.i64.wrap (k' : Int) = (k' : Int) := by rw [IntKind.wrap_i64]; have := hk'.out; have := HK.out; have := HI1.out; omega
          have hk2 : (k' : Int) < (i : Int) := by have := hk'.out; have := HK.out; omega
          have hk3 : (k' : Int) < 1000 := by have := hk'.out; have := HK.out; have := HX.out; have := HN.out; omega
          have PL := place_p (Reads.of_own HO.out) (by have := hk'.out; have := HK.out; omega)
          obtain ⟨b5, off5, hA5, _, _, hc5⟩ := PL
          injection hA5 with hA5
          injection hA5 with hb5 ho5
          subst hb5 ho5
          obtain ⟨g0, g1⟩ := hc5 k' (by have := hk'.out; have := HK.out; omega)
          obtain ⟨z, hz⟩ : ∃ z, Hid ((D.getD k' (0, 0)).2 = z) := ⟨_, rfl⟩
          rw [hz.out] at g1
          have d2 : wr.cell? ⟨q, k' * 2 + 1, none⟩ = some (.int .i64 z) := by simpa using cell_later HBI.out g1
          clear hc5 g0 g1 hk0
          go_wp2_with fail
          refine wp_region_held_drew (S := (fun w' => Below wr.heap.size wr w' ∧ w'.cell? ⟨b, off + i * 2 + 1, none⟩ = some (.int .i64 y) ∧ w'.cell? ⟨q, k' * 2 + 1, none⟩ = some (.int .i64 z))) (by kernel_rfl) ?_ (fun hHeld => ?_)
          · exact ⟨(Below.refl _ _).drew, d1, d2⟩
          refine takeD (i := 0) (d := some 16) (v := ?_) _ rfl rfl (by kernel_rfl) (by kernel_rfl) (by kernel_rfl) (fun _ _ _ h => h) (by rfl) ?_ (by assumption) ?_
          rotate_left
          · (intro w hSw; (try dsimp only at hSw); go_simp) <;> with_reducible rfl
          try simp only [Act.put, List.setIfInBounds_toArray, List.set_cons_zero, List.set_cons_succ]
          refine takeD (i := 1) (d := some 17) (v := ?_) _ rfl rfl (by kernel_rfl) (by kernel_rfl) (by kernel_rfl) (fun _ _ _ h => h) (by rfl) ?_ (by assumption) ?_
          rotate_left
          · (intro w hSw; (try dsimp only at hSw); go_simp) <;> with_reducible rfl
          try simp only [Act.put, List.setIfInBounds_toArray, List.set_cons_zero, List.set_cons_succ]
          refine takeD (i := 2) (d := some 18) (v := ?_) _ rfl rfl (by kernel_rfl) (by kernel_rfl) (by kernel_rfl) (fun _ _ _ h => h) (by rfl) ?_ (by assumption) ?_
          rotate_left
          · (intro w hSw; (try dsimp only at hSw); go_simp) <;> with_reducible rfl
          try simp only [Act.put, List.setIfInBounds_toArray, List.set_cons_zero, List.set_cons_succ]
          refine takeD (i := 3) (d := some 19) (v := ?_) _ rfl rfl (by kernel_rfl) (by kernel_rfl) (by kernel_rfl) (fun _ _ _ h => h) (by rfl) ?_ (by assumption) ?_
          rotate_left
          · (intro w hSw; (try dsimp only at hSw); go_simp) <;> with_reducible rfl
          try simp only [Act.put, List.setIfInBounds_toArray, List.set_cons_zero, List.set_cons_succ]
          refine takeD (i := 4) (d := some 20) (v := ?_) _ rfl rfl (by kernel_rfl) (by kernel_rfl) (by kernel_rfl) (fun _ _ _ h => h) (by rfl) ?_ (by assumption) ?_
          rotate_left
          · (intro w hSw; (try dsimp only at hSw); go_simp) <;> with_reducible rfl
          try simp only [Act.put, List.setIfInBounds_toArray, List.set_cons_zero, List.set_cons_succ]
          refine takeD (i := 5) (d := some 21) (v := ?_) _ rfl rfl (by kernel_rfl) (by kernel_rfl) (by kernel_rfl) (fun _ _ _ h => h) (by rfl) ?_ (by assumption) ?_
          rotate_left
          · (intro w hSw; (try dsimp only at hSw); go_simp) <;> with_reducible rfl
          try simp only [Act.put, List.setIfInBounds_toArray, List.set_cons_zero, List.set_cons_succ]
          refine takeD (i := 6) (d := some 22) (v := ?_) _ rfl rfl (by kernel_rfl) (by kernel_rfl) (by kernel_rfl) (fun _ _ _ h => h) (by rfl) ?_ (by assumption) ?_
          rotate_left
          · (intro w hSw; (try dsimp only at hSw); go_simp) <;> with_reducible rfl
          try simp only [Act.put, List.setIfInBounds_toArray, List.set_cons_zero, List.set_cons_succ]
          refine takeD (i := 7) (d := some 23) (v := ?_) _ rfl rfl (by kernel_rfl) (by kernel_rfl) (by kernel_rfl) (fun _ _ _ h => h) (by rfl) ?_ (by assumption) ?_
          rotate_left
          · (intro w hSw; (try dsimp only at hSw); go_simp) <;> with_reducible rfl
          try simp only [Act.put, List.setIfInBounds_toArray, List.set_cons_zero, List.set_cons_succ]
          refine takeD (i := 8) (d := some 24) (v := ?_) _ rfl rfl (by kernel_rfl) (by kernel_rfl) (by kernel_rfl) (fun _ _ _ h => h) (by rfl) ?_ (by assumption) ?_
          rotate_left
          · (intro w hSw; (try dsimp only at hSw); go_simp) <;> with_reducible rfl
          try simp only [Act.put, List.setIfInBounds_toArray, List.set_cons_zero, List.set_cons_succ]
          refine takeD (i := 9) (d := some 25) (v := ?_) _ rfl rfl (by kernel_rfl) (by kernel_rfl) (by kernel_rfl) (fun _ _ _ h => h) (by rfl) ?_ (by assumption) ?_
          rotate_left
          · (intro w hSw; (try dsimp only at hSw); go_simp) <;> with_reducible rfl
          try simp only [Act.put, List.setIfInBounds_toArray, List.set_cons_zero, List.set_cons_succ]
          refine takeD (i := 10) (d := some 26) (v := ?_) _ rfl rfl (by kernel_rfl) (by kernel_rfl) (by kernel_rfl) (fun _ _ _ h => h) (by rfl) ?_ (by assumption) ?_
          rotate_left
          · (intro w hSw; (try dsimp only at hSw); go_simp) <;> with_reducible rfl
          try simp only [Act.put, List.setIfInBounds_toArray, List.set_cons_zero, List.set_cons_succ]
          refine takeD (i := 11) (d := some 27) (v := ?_) _ rfl rfl (by kernel_rfl) (by kernel_rfl) (by kernel_rfl) (fun _ _ _ h => h) (by rfl) ?_ (by assumption) ?_
          rotate_left
          · (intro w hSw; (try dsimp only at hSw); go_simp) <;> with_reducible rfl
          try simp only [Act.put, List.setIfInBounds_toArray, List.set_cons_zero, List.set_cons_succ]
          refine takeD (i := 12) (d := some 28) (v := ?_) _ rfl rfl (by kernel_rfl) (by kernel_rfl) (by kernel_rfl) (fun _ _ _ h => h) (by rfl) ?_ (by assumption) ?_
          rotate_left
          · (intro w hSw; (try dsimp only at hSw); go_simp) <;> with_reducible rfl
          try simp only [Act.put, List.setIfInBounds_toArray, List.set_cons_zero, List.set_cons_succ]
          refine takeD (i := 13) (d := some 29) (v := ?_) _ rfl rfl (by kernel_rfl) (by kernel_rfl) (by kernel_rfl) (fun _ _ _ h => h) (by rfl) ?_ (by assumption) ?_
          rotate_left
          · (intro w hSw; (try dsimp only at hSw); go_simp) <;> with_reducible rfl
          try simp only [Act.put, List.setIfInBounds_toArray, List.set_cons_zero, List.set_cons_succ]
          refine takeD (i := 14) (d := some 30) (v := ?_) _ rfl rfl (by kernel_rfl) (by kernel_rfl) (by kernel_rfl) (fun _ _ _ h => h) (by rfl) ?_ (by assumption) ?_
          rotate_left
          · (intro w hSw; (try dsimp only at hSw); go_simp) <;> with_reducible rfl
          try simp only [Act.put, List.setIfInBounds_toArray, List.set_cons_zero, List.set_cons_succ]
          refine takeD (i := 15) (d := some 31) (v := ?_) _ rfl rfl (by kernel_rfl) (by kernel_rfl) (by kernel_rfl) (fun _ _ _ h => h) (by rfl) ?_ (by assumption) ?_
          rotate_left
          · (intro w hSw; (try dsimp only at hSw); go_simp) <;> with_reducible rfl
          try simp only [Act.put, List.setIfInBounds_toArray, List.set_cons_zero, List.set_cons_succ]
          refine wpAnyH_done (by kernel_rfl) ?_ _
          have HBI := Lib.hid (HBI.out.trans (hHeld.1.mono HBI.out.size))
          clear hHeld d0 d1 d2
          by_cases hzy : y < z
          · go_wp2_with fail
            go_roundw
            case rel =>
              have Q : OiRel i D y wo (.int .i64 (k' : Int)) wr.drew := ⟨⟨k', by have := hk'.out; have := HK.out; omega, rfl, fun j h1 h2 => by
                rcases Nat.lt_or_ge k' j with h | h
                · exact HALL.out j (by have := hk'.out; omega) h2
                · rw [show j = k' by omega, hz.out]; exact hzy, HBI.out⟩⟩
              first | exact Q | ((repeat apply Exists.intro); exact ⟨Q, rfl⟩)
            case measure => have := hk'.out; simp [intOf]; omega
          · have KC : Hid (cnt D y = k) := by
              unfold Hid
              refine cnt_of (by have := HK.out; have := HDL.out; omega) (fun j hj => ?_) (fun j h1 h2 => HALL.out j h1 (by have := HDL.out; omega))
              have := srt_le HSR.out (i := j) (j := k') (by have := hk'.out; omega) (by have := hk'.out; have := HK.out; have := HDL.out; omega)
              rw [hz.out] at this; omega
            have CNT : Hid (cnt D y = k) := KC.out
            obtain ⟨W0, hW0⟩ : ∃ W0, wr.drew = W0 := ⟨_, rfl⟩
            rw [hW0] at HBI ⊢
            clear hW0
            have HBW := Lib.hid (HB.out.trans (HBI.out.mono HB.out.size))
            have RO : Hid (Reads W0 W0.heap.size 2 (some ⟨q, 0, none⟩) i (C D)) := Reads.of_own (own_below HO.out HBI.out)
            have RT : Hid (Reads W0 W0.heap.size 2 (some ⟨q, 0, none⟩) k (C (D.take k))) := by
              refine ⟨by rw [C_len, List.length_take, HDL.out]; have := HK.out; omega, fun hk => ?_⟩
              obtain ⟨ad, h1, h2, h3⟩ := RO.out.2 (by have := HK.out; omega)
              refine ⟨ad, h1, h2, fun j u hu => h3 j u ?_⟩
              rw [← C_take] at hu
              have h5 : j < k * 2 := by
                have := (List.getElem?_eq_some_iff.1 hu).1
                rw [List.length_take] at this; omega
              rwa [List.getElem?_take_of_lt h5] at hu
            have hkc : (k : Int) ≤ (c : Int) := by have := HK.out; have := HIC.out; omega
            have hki : (k : Int) ≤ (i : Int) := by have := HK.out; omega
            have hic : (i : Int) ≤ (c : Int) := by have := HIC.out; omega
            obtain ⟨A2, hA2⟩ : ∃ A2, (if c = k then some (⟨q, 0, none⟩ : Addr) else some ⟨q, k * 2, none⟩) = A2 := ⟨_, rfl⟩
            have RD : Hid (Reads W0 W0.heap.size 2 A2 (i - k) (C (D.drop k))) := by
              unfold Hid
              have := RO.out.cut (k := k) (cap := c) HK.out HIC.out
              rw [C_drop] at this
              rw [← hA2]
              simpa [Addr.add_lit] using this
            go_wp2_with (at_builtin; refine wpList_append_any _ rfl (.tmp 34) (.tmp 37) _ rfl W0.heap.size 66 i0 _ 2 16 Try.underlying26 hi hz0 hz1 hz2 rfl (by omega) (.slice (some ⟨W0.heap.size, 0, none⟩) 0 0) 0 (C []) rfl (row_newP _ W0 (Nat.le_refl _)) W0.heap.size (some ⟨q, 0, none⟩) k c (C (D.take k)) rfl (RT.out.alloc (Nat.le_refl _) _) (C_one _) ?p2 ?p3 ?p4 ?_)
            case p2 => have := HK.out; have := HI1.out; unfold maxLen; omega
            case p3 => have := HK.out; have := HI1.out; omega
            try (case p4 => simp)
            intro v1 w1 hown1 hg1 _
            have hown1' : w1.ownsRow W0.heap.size 66 2 v1 k (C (D.take k)) := by simpa [C_nil] using hown1
            obtain ⟨A3, c3, hv, ho1, hb1⟩ := own_ofP (row_newP W0.heap.size W0 (Nat.le_refl _)) ((Below.refl _ _).alloc (Nat.le_refl _) _) (by simp) hown1' hg1
            rw [hv]
            have HO1 := Lib.hid ho1
            have HB1 := Lib.hid hb1
            clear hv hown1 hown1' hg1 ho1 hb1
            have f0 := cell_later (HBW.out.trans (HB1.out.mono HBW.out.size)) e0
            have f1 := cell_later (HBW.out.trans (HB1.out.mono HBW.out.size)) e1
            go_wp2_with (at_builtin; refine wpList_append_any _ rfl (.tmp 39) (.tmp 44) _ rfl W0.heap.size 66 i0 _ 2 16 Try.underlying26 hi hz0 hz1 hz2 rfl (by omega) (.slice A3 k c3) k (C (D.take k)) rfl (own_below HO1.out ((Below.refl _ _).alloc (Nat.le_refl _) _)) (w1.heap.size + 1) (some ⟨w1.heap.size, 0, none⟩) 1 1 (C [(x, y)]) rfl (reads_newP w1 x y) (C_one _) ?r2 ?r3 ?r4 ?_)
            case r2 => have := HK.out; have := HI1.out; unfold maxLen; omega
            case r3 => have := HK.out; have := HI1.out; omega
            try (case r4 => have := HB1.out.size; simp; omega)
            intro v2 w2 hown2 hg2 _
            have hown2' : w2.ownsRow W0.heap.size 66 2 v2 (k + 1) (C (D.take k ++ [(x, y)])) := by rw [C_app]; exact hown2
            obtain ⟨A4, c4, hv, ho2, hb2⟩ := own_ofP (own_below HO1.out ((Below.refl _ _).alloc (Nat.le_refl _) _)) (HB1.out.alloc HB1.out.size _) (by have := HB1.out.size; simp; omega) hown2' hg2
            rw [hv]
            have HO2 := Lib.hid ho2
            have HB2 := Lib.hid hb2
            clear hv hown2 hown2' hg2 ho2 hb2 f0 f1
            go_wp2_with (at_builtin; refine wpList_append_any _ rfl (.tmp 46) (.tmp 49) _ rfl W0.heap.size 66 i0 _ 2 16 Try.underlying26 hi hz0 hz1 hz2 rfl (by omega) (.slice A4 (k + 1) c4) (k + 1) (C (D.take k ++ [(x, y)])) rfl HO2.out W0.heap.size A2 (i - k) (c - k) (C (D.drop k)) rfl (RD.out.below HB2.out) (C_one _) ?s2 ?s3 ?s4 ?_)
            case s2 => have := HK.out; have := HI1.out; unfold maxLen; omega
            case s3 => have := HK.out; have := HI1.out; omega
            try (case s4 => exact HB2.out.size)
            intro v3 w3 hown3 hg3 _
            have hlen : k + 1 + (i - k) = i + 1 := by have := HK.out; omega
            have hown3' : w3.ownsRow W0.heap.size 66 2 v3 (i + 1) (C (ins D (x, y))) := by
              rw [hlen] at hown3
              unfold ins
              rw [CNT.out, show D.take k ++ (x, y) :: D.drop k = (D.take k ++ [(x, y)]) ++ D.drop k by simp, C_app _ (D.drop k)]
              exact hown3
            rw [← HOI.out] at hown3'
            obtain ⟨A5, c5, hv, ho3, hb3⟩ := own_ofP HO2.out HB2.out HB2.out.size hown3' hg3
            obtain ⟨q5, hq5⟩ : ∃ q5, A5 = some ⟨q5, 0, none⟩ := by
              rcases ho3.2 with ⟨h1, h2⟩ | ⟨q5, _, _, h1, _⟩
              · omega
              · injection h1 with h1
                exact ⟨q5, h1⟩
            rw [hv]
            subst hq5
            have HO3 : Hid (w3.ownsRow w.heap.size 66 2 (.slice (some ⟨q5, 0, none⟩) (i + 1) c5) (i + 1) (C (ord (L.take (i + 1))))) := own_keepI ho3 HBW.out.size (fun _ _ _ => rfl)
            have HB3 : Hid (Below w.heap.size w w3) := HBW.out.trans (hb3.mono HBW.out.size)
            have HS3 : Hid (w.heap.size < w3.heap.size) := by unfold Hid; have := hb3.size; have := HSZ.out; have := HBI.out.size; omega
            clear hv hown3 hown3' hg3 ho3 hb3 hA2 hlen
            go_wp2_with fail
            go_roundw
            case rel =>
              have Q : OrRel n L w (.slice (some ⟨q5, 0, none⟩) (i + 1) c5) (.int .i64 ((i : Int) + 1)) w3 := ⟨⟨i + 1, q5, c5, HX.out, by go_num, rfl, HO3.out, HB3.out, HS3.out⟩⟩
              first | exact Q | ((repeat apply Exists.intro); exact ⟨Q, rfl⟩)
            case measure => have := HX.out; have := HN.out; simp [intOf]; omega
    · have hjI : ¬ (i : Int) < (n : Int) := by omega
      have hjn : i = n := by omega
      rw [hjn, ← HL.out, List.take_length] at HO
      clear hlt hj
      subst hjn
      go_wp2_with fail
      go_ret
      rw [HL.out] at HO
      exact ⟨_, c, rfl, HO.out, HB.out⟩
end Go.Proofs.Ytnobfmdjnldfpaa
