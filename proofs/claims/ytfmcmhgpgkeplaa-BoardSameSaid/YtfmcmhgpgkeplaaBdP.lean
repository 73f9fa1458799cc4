/-
  What the reference answers: Drop of one who waits. Each statement bears its own conditions.
-/
import Derived.Test.YtfmcmhgpgkeplaaBdQ
namespace Go.Proofs.Ytfmcmhgpgkeplaa.B
open Go.RowKit Go.Proofs.Ytfmcmhgpgkeplaa.F Go.Proofs.Ytfmcmhgpgkeplaa.I
set_option linter.unusedVariables false
set_option linter.unusedSimpArgs false
set_option maxRecDepth 100000 in
set_option maxHeartbeats 8000000 in
theorem rdrop_yes (n : Int) (Am : Option Addr) (nm cm : Nat) (Al : Option Addr) (nl cl : Nat) (is : Bool) (p : Nat → Prop) (KK : List Int) (id : Int) (w : World) (hl : Ow 3 w p (.slice Al nl cl) nl (C KK)) (hk : KK.length ≤ 900) (hm : id ∈ KK) :
    Calls Try.prog 19 #[.agg #[.int .i64 n, .slice Am nm cm, .bool is, .slice Al nl cl], .int .i64 id] w fun e w' => ∃ v', e = .returned (.tuple #[.agg #[.int .i64 n, .slice Am nm cm, .bool is, v'], .bool true]) ∧ Ow 3 w' (fun b => w.heap.size ≤ b) v' (KK.erase id).length (C (KK.erase id)) ∧ Below w.heap.size w w' := by
  have hkl : KK.length = nl := by have := hl.len; simpa [C] using this
  obtain ⟨i0, hi, hz0, hz1, hz2⟩ := info_of int_info
  obtain ⟨b, hAl, hcl⟩ : ∃ b, Al = some ⟨b, 0, none⟩ ∧ nl ≤ cl := by
    rcases hl.form with ⟨_, h0, _⟩ | ⟨b, cap, cur, hv, _, _, _, h1, _⟩
    · have : KK = [] := List.eq_nil_of_length_eq_zero (by omega)
      subst this; cases hm
    · injection hv with hv _ hc
      subst hc
      exact ⟨b, hv, h1⟩
  subst hAl
  obtain ⟨X, hX⟩ : ∃ X, w.heap.size = X := ⟨_, rfl⟩
  obtain ⟨W0, hW0⟩ : ∃ W0, (w.alloc (.cells #[.int .i64 n, .slice Am nm cm, .bool is, .slice (some ⟨b, 0, none⟩) nl cl] 31)).alloc (.cells #[.int .i64 0, .slice none 0 0, .bool false, .slice none 0 0] 31) = W0 := ⟨_, rfl⟩
  have B0 : Hid (Below X w W0) := by rw [← hW0, ← hX]; exact (((Below.refl _ _).alloc (Nat.le_refl _) _).alloc (by simp) _)
  have S0 : Hid (W0.heap.size = X + 2) := by unfold Hid; rw [← hW0, ← hX]; simp
  have HX0 : Hid (W0.heap[X]? = some (.cells #[.int .i64 n, .slice Am nm cm, .bool is, .slice (some ⟨b, 0, none⟩) nl cl] 31 (0, 0))) := by
    rw [← hW0, ← hX]; exact (((Below.refl _ _).alloc (Nat.le_refl _) _).block _ (by simp)).trans (heap_alloc_new _ _)
  have HY0 : Hid (W0.heap[X + 1]? = some (.cells #[.int .i64 0, .slice none 0 0, .bool false, .slice none 0 0] 31 (0, 0))) := by
    rw [← hW0, ← hX]; have := heap_alloc_new (w.alloc (.cells #[.int .i64 n, .slice Am nm cm, .bool is, .slice (some ⟨b, 0, none⟩) nl cl] 31)) (.cells #[.int .i64 0, .slice none 0 0, .bool false, .slice none 0 0] 31); unfold Hid; simpa using this
  have x0 : W0.cell? ⟨X, 0, none⟩ = some (.int .i64 n) := by rw [(row_cell HX0.out 0).1]; rfl
  have xf0 : W0.frozen? ⟨X, 0, none⟩ = false := (row_cell HX0.out 0).2
  have x1 : W0.cell? ⟨X, 1, none⟩ = some (.slice Am nm cm) := by rw [(row_cell HX0.out 1).1]; rfl
  have xf1 : W0.frozen? ⟨X, 1, none⟩ = false := (row_cell HX0.out 1).2
  have x2 : W0.cell? ⟨X, 2, none⟩ = some (.bool is) := by rw [(row_cell HX0.out 2).1]; rfl
  have xf2 : W0.frozen? ⟨X, 2, none⟩ = false := (row_cell HX0.out 2).2
  have x3 : W0.cell? ⟨X, 3, none⟩ = some (.slice (some ⟨b, 0, none⟩) nl cl) := by rw [(row_cell HX0.out 3).1]; rfl
  have xf3 : W0.frozen? ⟨X, 3, none⟩ = false := (row_cell HX0.out 3).2
  have y0 : W0.cell? ⟨X + 1, 0, none⟩ = some (.int .i64 0) := by rw [(row_cell HY0.out 0).1]; rfl
  have yf0 : W0.frozen? ⟨X + 1, 0, none⟩ = false := (row_cell HY0.out 0).2
  have y1 : W0.cell? ⟨X + 1, 1, none⟩ = some (.slice none 0 0) := by rw [(row_cell HY0.out 1).1]; rfl
  have yf1 : W0.frozen? ⟨X + 1, 1, none⟩ = false := (row_cell HY0.out 1).2
  have y2 : W0.cell? ⟨X + 1, 2, none⟩ = some (.bool false) := by rw [(row_cell HY0.out 2).1]; rfl
  have yf2 : W0.frozen? ⟨X + 1, 2, none⟩ = false := (row_cell HY0.out 2).2
  have y3 : W0.cell? ⟨X + 1, 3, none⟩ = some (.slice none 0 0) := by rw [(row_cell HY0.out 3).1]; rfl
  have yf3 : W0.frozen? ⟨X + 1, 3, none⟩ = false := (row_cell HY0.out 3).2
  have hl0 : Sq W0 p (.slice (some ⟨b, 0, none⟩) nl cl) nl (C KK) := hl.sq.belowP (by rw [hX]; exact B0.out)
  have CH := Lib.hid (rhas_any _ (.slice (some ⟨b, 0, none⟩) nl cl) KK id W0 (by rw [hkl]; exact hl0) (by omega))
  have HM := Lib.hid hm
  have R0 : Hid (Reads W0 W0.heap.size 1 (some ⟨b, 0, none⟩) nl (C KK)) := hl0.st.reads.2
  have HKL : Hid (KK.length = nl ∧ nl ≤ 900 ∧ nl ≤ cl) := ⟨hkl, by omega, hcl⟩
  rw [hX]
  clear hl hk hm hkl hl0 hcl
  go_enter Try.func19, Try.ntmps19
  go_wp2_with fail
  refine CH.out.mono ?_
  rintro e w1 ⟨hx, hw⟩
  have hw := hw.symm
  subst hw
  rcases hx with ⟨k, hk, hm, hno, rfl⟩ | ⟨hno, _⟩
  rotate_left
  · exact absurd HM.out hno
  have HCE := Lib.hid (cut_erase hm hno)
  have HK : Hid (k < nl ∧ nl ≤ 900 ∧ nl ≤ cl ∧ KK.length = nl) := by have := HKL.out; unfold Hid; omega
  have hk0 : ¬ (k : Int) < 0 := by omega
  have hkc : (k : Int) ≤ (cl : Int) := by have := HK.out; omega
  have hkn : (k : Int) ≤ (nl : Int) := by have := HK.out; omega
  have hk1 : IntKind.i64.wrap ((k : Int) + 1) = (k : Int) + 1 := by have := HK.out; rw [IntKind.wrap_i64]; omega
  have hkn1 : (k : Int) + 1 ≤ (nl : Int) := by have := HK.out; omega
  have hnc : (nl : Int) ≤ (cl : Int) := by have := HK.out; omega
  have hkx : ¬ (k : Int) + 1 < 0 := by omega
  obtain ⟨A2, hA2⟩ : ∃ A2, (if cl = k + 1 then some (⟨b, 0, none⟩ : Addr) else some ⟨b, k + 1, none⟩) = A2 := ⟨_, rfl⟩
  have RT0 : Hid (Reads W0 W0.heap.size 1 (some ⟨b, 0, none⟩) k (C (KK.take k))) := by
    have h := R0.out
    refine ⟨by rw [C_len, List.length_take]; have := HK.out; omega, fun hk0 => ?_⟩
    obtain ⟨ad, h1, h2, h3⟩ := h.2 (by have := HK.out; omega)
    refine ⟨ad, h1, h2, fun j u hu => h3 j u ?_⟩
    rw [← C_take] at hu
    have h5 : j < k := by
      have := (List.getElem?_eq_some_iff.1 hu).1
      rw [List.length_take] at this; omega
    rwa [List.getElem?_take_of_lt h5] at hu
  have RD0 : Hid (Reads W0 W0.heap.size 1 A2 (nl - (k + 1)) (C (KK.drop (k + 1)))) := by
    unfold Hid
    have := R0.out.cut (k := k + 1) (cap := cl) (by have := HK.out; omega) (by have := HK.out; omega)
    rw [Nat.mul_one, C_drop] at this
    rw [← hA2]
    simpa [Addr.add_lit] using this
  clear hk hm hno
  go_wp2_with fail
  refine wp_region_held_drew (S := (fun _ => True)) (by kernel_rfl) trivial (fun _ => ?_)
  have RT : Hid (Reads W0.drew W0.drew.heap.size 1 (some ⟨b, 0, none⟩) k (C (KK.take k))) := RT0.out
  have RD : Hid (Reads W0.drew W0.drew.heap.size 1 A2 (nl - (k + 1)) (C (KK.drop (k + 1)))) := RD0.out
  have HX1 : Hid (W0.drew.heap[X]? = some (.cells #[.int .i64 n, .slice Am nm cm, .bool is, .slice (some ⟨b, 0, none⟩) nl cl] 31 (0, 0))) := HX0.out
  have HY1 : Hid (W0.drew.heap[X + 1]? = some (.cells #[.int .i64 0, .slice none 0 0, .bool false, .slice none 0 0] 31 (0, 0))) := HY0.out
  have S1 : Hid (W0.drew.heap.size = X + 2) := S0.out
  have B0' : Hid (Below X w W0.drew) := B0.out.drew
  clear B0 S0 HX0 HY0 R0 RT0 RD0 CH x0 x1 x2 x3 xf0 xf1 xf2 xf3 y0 y1 y2 y3 yf0 yf1 yf2 yf3
  have B0 := B0'
  clear B0'
  generalize W0.drew = W1 at RT RD HX1 HY1 S1 B0 ⊢
  have x3 : W1.cell? ⟨X, 3, none⟩ = some (.slice (some ⟨b, 0, none⟩) nl cl) := by rw [(row_cell HX1.out 3).1]; rfl
  have x3a : (W1.alloc (.cells #[] 3)).cell? ⟨X, 3, none⟩ = some (.slice (some ⟨b, 0, none⟩) nl cl) := cell_al _ x3
  refine takeD (i := 1) (d := some 15) (v := ?_) _ rfl rfl (by kernel_rfl) (by kernel_rfl) (by kernel_rfl) (fun _ _ _ h => h) (by rfl) ?_ trivial ?_
  rotate_left
  · (intro w hSw; (try dsimp only at hSw); go_simp) <;> with_reducible rfl
  try simp only [Act.put, List.setIfInBounds_toArray, List.set_cons_zero, List.set_cons_succ]
  refine takeD (i := 3) (d := some 17) (v := ?_) _ rfl rfl (by kernel_rfl) (by kernel_rfl) (by kernel_rfl) (fun _ _ _ h => h) (by rfl) ?_ trivial ?_
  rotate_left
  · (intro w hSw; (try dsimp only at hSw); go_simp) <;> with_reducible rfl
  try simp only [Act.put, List.setIfInBounds_toArray, List.set_cons_zero, List.set_cons_succ]
  refine takeD (i := 6) (d := some 20) (v := ?_) _ rfl rfl (by kernel_rfl) (by kernel_rfl) (by kernel_rfl) (fun _ _ _ h => h) (by rfl) ?_ trivial ?_
  rotate_left
  · (intro w hSw; (try dsimp only at hSw); go_simp) <;> with_reducible rfl
  try simp only [Act.put, List.setIfInBounds_toArray, List.set_cons_zero, List.set_cons_succ]
  refine takeD (i := 8) (d := some 22) (v := ?_) _ rfl rfl (by kernel_rfl) (by kernel_rfl) (by kernel_rfl) (fun _ _ _ h => h) (by rfl) ?_ trivial ?_
  rotate_left
  · (intro w hSw; (try dsimp only at hSw); go_simp) <;> with_reducible rfl
  try simp only [Act.put, List.setIfInBounds_toArray, List.set_cons_zero, List.set_cons_succ]
  refine takeD (i := 9) (d := some 23) (v := ?_) _ rfl rfl (by kernel_rfl) (by kernel_rfl) (by kernel_rfl) (fun _ _ _ h => h) (by rfl) ?_ trivial ?_
  rotate_left
  · (intro w hSw; (try dsimp only at hSw); go_simp) <;> with_reducible rfl
  try simp only [Act.put, List.setIfInBounds_toArray, List.set_cons_zero, List.set_cons_succ]
  refine wpAnyH_ready (rs := [0, 2, 7]) (by kernel_rfl) (by simp) ?_
  refine (AllReadyH.cons rfl (fun K hK => ?_) (AllReadyH.cons rfl (fun K hK => ?_) (AllReadyH.cons rfl (fun K hK => ?_) AllReadyH.nil)))
  · try go_simp
    refine hK.out _ _ trivial (fun _ => ?_)
    clear hK K
    try simp only [Act.put, List.getElem_toArray, List.getElem_cons_succ, List.getElem_cons_zero, List.setIfInBounds_toArray, List.set_cons_zero, List.set_cons_succ]
    refine wpAnyH_ready (rs := [2, 7]) (by kernel_rfl) (by simp) ?_
    refine (AllReadyH.cons rfl (fun K hK => ?_) (AllReadyH.cons rfl (fun K hK => ?_) AllReadyH.nil))
    · try go_simp
      refine hK.out _ _ trivial (fun _ => ?_)
      clear hK K
      try simp only [Act.put, List.getElem_toArray, List.getElem_cons_succ, List.getElem_cons_zero, List.setIfInBounds_toArray, List.set_cons_zero, List.set_cons_succ]
      refine takeD (i := 4) (d := some 18) (v := ?_) _ rfl rfl (by kernel_rfl) (by kernel_rfl) (by kernel_rfl) (fun _ _ _ h => h) (by rfl) ?_ trivial ?_
      rotate_left
      · (intro w hSw; (try dsimp only at hSw); go_simp) <;> with_reducible rfl
      try simp only [Act.put, List.setIfInBounds_toArray, List.set_cons_zero, List.set_cons_succ]
      refine wpAnyH_ready (rs := [5, 7]) (by kernel_rfl) (by simp) ?_
      refine (AllReadyH.cons rfl (fun K hK => ?_) (AllReadyH.cons rfl (fun K hK => ?_) AllReadyH.nil))
      · refine wp_append_any _ (.tmp 14) (.tmp 18) _ rfl W1.heap.size 3 i0 _ 1 8 Try.underlying29 hi hz0 hz1 hz2 rfl (by omega) (.slice (some ⟨W1.heap.size, 0, none⟩) 0 0) 0 (C []) rfl (rowB_new W1) W1.heap.size (some ⟨b, 0, none⟩) k cl (C (KK.take k)) rfl (RT.out.alloc (Nat.le_refl _) _) (C_one _) ?c2 ?c3 ?c4 ?_
        case c2 => have := HK.out; unfold maxLen; omega
        case c3 => have := HK.out; omega
        case c4 => simp
        intro v1 w1 ho1 hg1 hb1
        have B1 : Hid (Below W1.heap.size W1 w1) := ((Below.refl _ _).alloc (Nat.le_refl _) _).grown hg1 (by simp) (fun q hq => by have h' : some W1.heap.size = some q := hq; injection h' with h'; omega)
        have HO1 : Hid (w1.ownsRow W1.heap.size 3 1 v1 k (C (KK.take k))) := by have := ho1; unfold Hid; simpa [C] using this
        have x3w : w1.cell? ⟨X, 3, none⟩ = some (.slice (some ⟨b, 0, none⟩) nl cl) := cell_later B1.out x3
        have OB1 : Hid (∀ q, v1.ownBlock = some q → W1.heap.size ≤ q) := fun q hq => by
          rcases hb1 with hb | hb
          · rw [hb] at hq; have h' : some W1.heap.size = some q := hq; injection h' with h'; omega
          · rw [hb] at hq; injection hq with hq; rw [← hq]; simp
        clear ho1 hg1 hb1
        refine hK.out _ _ trivial (fun _ => ?_)
        clear hK K
        try simp only [Act.put, List.getElem_toArray, List.getElem_cons_succ, List.getElem_cons_zero, List.setIfInBounds_toArray, List.set_cons_zero, List.set_cons_succ]
        refine wpAnyH_ready (rs := [7]) (by kernel_rfl) (by simp) ?_
        refine (AllReadyH.cons rfl (fun K hK => ?_) AllReadyH.nil)
        · try go_simp
          refine hK.out _ _ trivial (fun _ => ?_)
          clear hK K
          try simp only [Act.put, List.getElem_toArray, List.getElem_cons_succ, List.getElem_cons_zero, List.setIfInBounds_toArray, List.set_cons_zero, List.set_cons_succ]
          refine takeD (i := 10) (d := some 24) (v := ?_) _ rfl rfl (by kernel_rfl) (by kernel_rfl) (by kernel_rfl) (fun _ _ _ h => h) (by rfl) ?_ trivial ?_
          rotate_left
          · (intro w hSw; (try dsimp only at hSw); go_simp) <;> with_reducible rfl
          try simp only [Act.put, List.setIfInBounds_toArray, List.set_cons_zero, List.set_cons_succ]
          refine wpAnyH_ready (rs := [11]) (by kernel_rfl) (by simp) ?_
          refine AllReadyH.cons rfl (fun K hK => ?_) AllReadyH.nil
          refine wp_append_any _ (.tmp 19) (.tmp 24) _ rfl W1.heap.size 3 i0 _ 1 8 Try.underlying29 hi hz0 hz1 hz2 rfl (by omega) v1 k (C (KK.take k)) rfl HO1.out W1.heap.size A2 (nl - (k + 1)) (cl - (k + 1)) (C (KK.drop (k + 1))) rfl (RD.out.below B1.out) (C_one _) ?d2 ?d3 ?d4 ?_
          case d2 => have := HK.out; unfold maxLen; omega
          case d3 => have := HK.out; omega
          case d4 => exact B1.out.size
          intro v2 w2 ho2 hg2 hb2
          have B2 : Hid (Below W1.heap.size W1 w2) := B1.out.grown hg2 (B1.out.size) (fun q hq => OB1.out q hq)
          have X2 : Hid (w2.heap[X]? = some (.cells #[.int .i64 n, .slice Am nm cm, .bool is, .slice (some ⟨b, 0, none⟩) nl cl] 31 (0, 0))) := (B2.out.block _ (by have := S1.out; omega)).trans HX1.out
          have Y2 : Hid (w2.heap[X + 1]? = some (.cells #[.int .i64 0, .slice none 0 0, .bool false, .slice none 0 0] 31 (0, 0))) := (B2.out.block _ (by have := S1.out; omega)).trans HY1.out
          obtain ⟨A3, c3, rfl⟩ := slice_form ho2
          obtain ⟨W3, hW3⟩ : ∃ W3, w2.setCell ⟨X, 3, none⟩ (.slice A3 (k + (nl - (k + 1))) c3) = W3 := ⟨_, rfl⟩
          have X3 : Hid (W3.heap[X]? = some (.cells #[.int .i64 n, .slice Am nm cm, .bool is, .slice A3 (k + (nl - (k + 1))) c3] 31 (0, 0))) := by rw [← hW3]; exact set_at X2.out 3 _
          have Y3 : Hid (W3.heap[X + 1]? = some (.cells #[.int .i64 0, .slice none 0 0, .bool false, .slice none 0 0] 31 (0, 0))) := by rw [← hW3]; exact (set_far 3 _ (by omega)).trans Y2.out
          have R3 : Hid (Ow 3 W3 (fun b => W1.heap.size ≤ b) (.slice A3 (k + (nl - (k + 1))) c3) (KK.erase id).length (C (KK.erase id))) := by
            have h1 : w2.ownsRow W1.heap.size 3 1 (.slice A3 (k + (nl - (k + 1))) c3) (KK.erase id).length (C (KK.erase id)) := by
              have hl : (KK.erase id).length = k + (nl - (k + 1)) := by rw [← HCE.out, List.length_append, List.length_take, List.length_drop]; have := HK.out; omega
              rw [hl, ← HCE.out, C_app]; exact ho2
            rw [← hW3]
            exact ((Ow.of_own h1).keep (by simp) (fun b _ hb => set_far 3 _ (by have := S1.out; omega))).imp fun b _ h => h.2
          have B3 : Hid (Below X w W3) := by
            rw [← hW3]
            exact (B0.out.trans (B2.out.mono (by have := S1.out; omega))).setCell (Nat.le_refl _) _
          have q0 : w2.cell? ⟨X, 3, none⟩ = some (.slice (some ⟨b, 0, none⟩) nl cl) := by rw [(row_cell X2.out 3).1]; rfl
          have q1 : w2.frozen? ⟨X, 3, none⟩ = false := (row_cell X2.out 3).2
          clear ho2 hg2 hb2 HO1 OB1 B1
          refine hK.out _ _ trivial (fun _ => ?_)
          clear hK K
          try simp only [Act.put, List.getElem_toArray, List.getElem_cons_succ, List.getElem_cons_zero, List.setIfInBounds_toArray, List.set_cons_zero, List.set_cons_succ]
          refine takeD (i := 12) (d := some 26) (v := ?_) _ rfl rfl (by kernel_rfl) (by kernel_rfl) (by kernel_rfl) (fun _ _ _ h => h) (by rfl) ?_ trivial ?_
          rotate_left
          · (intro w hSw; (try dsimp only at hSw); go_simp) <;> with_reducible rfl
          try simp only [Act.put, List.setIfInBounds_toArray, List.set_cons_zero, List.set_cons_succ]
          refine wpAnyH_ready (rs := [13]) (by kernel_rfl) (by simp) ?_
          refine AllReadyH.cons rfl (fun K hK => ?_) AllReadyH.nil
          try go_simp
          refine hK.out _ _ trivial (fun _ => ?_)
          clear hK K
          try simp only [Act.put, List.getElem_toArray, List.getElem_cons_succ, List.getElem_cons_zero, List.setIfInBounds_toArray, List.set_cons_zero, List.set_cons_succ]
          refine wpAnyH_done (by kernel_rfl) ?_ _
          try rw [hW3]
          have p0 : W3.cell? ⟨X, 0, none⟩ = some (.int .i64 n) := by rw [(row_cell X3.out 0).1]; rfl
          have pf0 : W3.frozen? ⟨X, 0, none⟩ = false := (row_cell X3.out 0).2
          have p1 : W3.cell? ⟨X, 1, none⟩ = some (.slice Am nm cm) := by rw [(row_cell X3.out 1).1]; rfl
          have pf1 : W3.frozen? ⟨X, 1, none⟩ = false := (row_cell X3.out 1).2
          have p2 : W3.cell? ⟨X, 2, none⟩ = some (.bool is) := by rw [(row_cell X3.out 2).1]; rfl
          have pf2 : W3.frozen? ⟨X, 2, none⟩ = false := (row_cell X3.out 2).2
          have p3 : W3.cell? ⟨X, 3, none⟩ = some (.slice A3 (k + (nl - (k + 1))) c3) := by rw [(row_cell X3.out 3).1]; rfl
          have pf3 : W3.frozen? ⟨X, 3, none⟩ = false := (row_cell X3.out 3).2
          have s0 : W3.cell? ⟨X + 1, 0, none⟩ = some (.int .i64 0) := by rw [(row_cell Y3.out 0).1]; rfl
          have sf0 : W3.frozen? ⟨X + 1, 0, none⟩ = false := (row_cell Y3.out 0).2
          have s1 : W3.cell? ⟨X + 1, 1, none⟩ = some (.slice none 0 0) := by rw [(row_cell Y3.out 1).1]; rfl
          have sf1 : W3.frozen? ⟨X + 1, 1, none⟩ = false := (row_cell Y3.out 1).2
          have s2 : W3.cell? ⟨X + 1, 2, none⟩ = some (.bool false) := by rw [(row_cell Y3.out 2).1]; rfl
          have sf2 : W3.frozen? ⟨X + 1, 2, none⟩ = false := (row_cell Y3.out 2).2
          have s3 : W3.cell? ⟨X + 1, 3, none⟩ = some (.slice none 0 0) := by rw [(row_cell Y3.out 3).1]; rfl
          have sf3 : W3.frozen? ⟨X + 1, 3, none⟩ = false := (row_cell Y3.out 3).2
          clear q0 q1 hW3
          go_wp2_with fail
          refine bodyPost_ret (results_cell_tmp rfl _ _ (X + 1) _ _ rfl (set_four Y3.out _ _ _ _) Try.underlying31 rfl (by kernel_rfl)) rfl ?_
          refine ⟨_, rfl, ?_, ((((B3.out.setCell (by exact Nat.le_succ _) _).setCell (by exact Nat.le_succ _) _).setCell (by exact Nat.le_succ _) _).setCell (by exact Nat.le_succ _) _)⟩
          refine (R3.out.fo ((((((Fo.refl (fun b => b = X + 1) W3).setCell (.inl rfl) 0 _).setCell (.inl rfl) 1 _).setCell (.inl rfl) 2 _).setCell (.inl rfl) 3 _)) (fun b hb => by have := S1.out; omega)).imp fun b _ hb => ?_
          have := S1.out
          have hb : W1.heap.size ≤ b := hb
          omega
      · try go_simp
        refine hK.out _ _ trivial (fun _ => ?_)
        clear hK K
        try simp only [Act.put, List.getElem_toArray, List.getElem_cons_succ, List.getElem_cons_zero, List.setIfInBounds_toArray, List.set_cons_zero, List.set_cons_succ]
        refine takeD (i := 10) (d := some 24) (v := ?_) _ rfl rfl (by kernel_rfl) (by kernel_rfl) (by kernel_rfl) (fun _ _ _ h => h) (by rfl) ?_ trivial ?_
        rotate_left
        · (intro w hSw; (try dsimp only at hSw); go_simp) <;> with_reducible rfl
        try simp only [Act.put, List.setIfInBounds_toArray, List.set_cons_zero, List.set_cons_succ]
        refine wpAnyH_ready (rs := [5]) (by kernel_rfl) (by simp) ?_
        refine AllReadyH.cons rfl (fun K hK => ?_) AllReadyH.nil
        refine wp_append_any _ (.tmp 14) (.tmp 18) _ rfl W1.heap.size 3 i0 _ 1 8 Try.underlying29 hi hz0 hz1 hz2 rfl (by omega) (.slice (some ⟨W1.heap.size, 0, none⟩) 0 0) 0 (C []) rfl (rowB_new W1) W1.heap.size (some ⟨b, 0, none⟩) k cl (C (KK.take k)) rfl (RT.out.alloc (Nat.le_refl _) _) (C_one _) ?c2 ?c3 ?c4 ?_
        case c2 => have := HK.out; unfold maxLen; omega
        case c3 => have := HK.out; omega
        case c4 => simp
        intro v1 w1 ho1 hg1 hb1
        have B1 : Hid (Below W1.heap.size W1 w1) := ((Below.refl _ _).alloc (Nat.le_refl _) _).grown hg1 (by simp) (fun q hq => by have h' : some W1.heap.size = some q := hq; injection h' with h'; omega)
        have HO1 : Hid (w1.ownsRow W1.heap.size 3 1 v1 k (C (KK.take k))) := by have := ho1; unfold Hid; simpa [C] using this
        have x3w : w1.cell? ⟨X, 3, none⟩ = some (.slice (some ⟨b, 0, none⟩) nl cl) := cell_later B1.out x3
        have OB1 : Hid (∀ q, v1.ownBlock = some q → W1.heap.size ≤ q) := fun q hq => by
          rcases hb1 with hb | hb
          · rw [hb] at hq; have h' : some W1.heap.size = some q := hq; injection h' with h'; omega
          · rw [hb] at hq; injection hq with hq; rw [← hq]; simp
        clear ho1 hg1 hb1
        refine hK.out _ _ trivial (fun _ => ?_)
        clear hK K
        try simp only [Act.put, List.getElem_toArray, List.getElem_cons_succ, List.getElem_cons_zero, List.setIfInBounds_toArray, List.set_cons_zero, List.set_cons_succ]
        refine wpAnyH_ready (rs := [11]) (by kernel_rfl) (by simp) ?_
        refine AllReadyH.cons rfl (fun K hK => ?_) AllReadyH.nil
        refine wp_append_any _ (.tmp 19) (.tmp 24) _ rfl W1.heap.size 3 i0 _ 1 8 Try.underlying29 hi hz0 hz1 hz2 rfl (by omega) v1 k (C (KK.take k)) rfl HO1.out W1.heap.size A2 (nl - (k + 1)) (cl - (k + 1)) (C (KK.drop (k + 1))) rfl (RD.out.below B1.out) (C_one _) ?d2 ?d3 ?d4 ?_
        case d2 => have := HK.out; unfold maxLen; omega
        case d3 => have := HK.out; omega
        case d4 => exact B1.out.size
        intro v2 w2 ho2 hg2 hb2
        have B2 : Hid (Below W1.heap.size W1 w2) := B1.out.grown hg2 (B1.out.size) (fun q hq => OB1.out q hq)
        have X2 : Hid (w2.heap[X]? = some (.cells #[.int .i64 n, .slice Am nm cm, .bool is, .slice (some ⟨b, 0, none⟩) nl cl] 31 (0, 0))) := (B2.out.block _ (by have := S1.out; omega)).trans HX1.out
        have Y2 : Hid (w2.heap[X + 1]? = some (.cells #[.int .i64 0, .slice none 0 0, .bool false, .slice none 0 0] 31 (0, 0))) := (B2.out.block _ (by have := S1.out; omega)).trans HY1.out
        obtain ⟨A3, c3, rfl⟩ := slice_form ho2
        obtain ⟨W3, hW3⟩ : ∃ W3, w2.setCell ⟨X, 3, none⟩ (.slice A3 (k + (nl - (k + 1))) c3) = W3 := ⟨_, rfl⟩
        have X3 : Hid (W3.heap[X]? = some (.cells #[.int .i64 n, .slice Am nm cm, .bool is, .slice A3 (k + (nl - (k + 1))) c3] 31 (0, 0))) := by rw [← hW3]; exact set_at X2.out 3 _
        have Y3 : Hid (W3.heap[X + 1]? = some (.cells #[.int .i64 0, .slice none 0 0, .bool false, .slice none 0 0] 31 (0, 0))) := by rw [← hW3]; exact (set_far 3 _ (by omega)).trans Y2.out
        have R3 : Hid (Ow 3 W3 (fun b => W1.heap.size ≤ b) (.slice A3 (k + (nl - (k + 1))) c3) (KK.erase id).length (C (KK.erase id))) := by
          have h1 : w2.ownsRow W1.heap.size 3 1 (.slice A3 (k + (nl - (k + 1))) c3) (KK.erase id).length (C (KK.erase id)) := by
            have hl : (KK.erase id).length = k + (nl - (k + 1)) := by rw [← HCE.out, List.length_append, List.length_take, List.length_drop]; have := HK.out; omega
            rw [hl, ← HCE.out, C_app]; exact ho2
          rw [← hW3]
          exact ((Ow.of_own h1).keep (by simp) (fun b _ hb => set_far 3 _ (by have := S1.out; omega))).imp fun b _ h => h.2
        have B3 : Hid (Below X w W3) := by
          rw [← hW3]
          exact (B0.out.trans (B2.out.mono (by have := S1.out; omega))).setCell (Nat.le_refl _) _
        have q0 : w2.cell? ⟨X, 3, none⟩ = some (.slice (some ⟨b, 0, none⟩) nl cl) := by rw [(row_cell X2.out 3).1]; rfl
        have q1 : w2.frozen? ⟨X, 3, none⟩ = false := (row_cell X2.out 3).2
        clear ho2 hg2 hb2 HO1 OB1 B1
        refine hK.out _ _ trivial (fun _ => ?_)
        clear hK K
        try simp only [Act.put, List.getElem_toArray, List.getElem_cons_succ, List.getElem_cons_zero, List.setIfInBounds_toArray, List.set_cons_zero, List.set_cons_succ]
        refine takeD (i := 12) (d := some 26) (v := ?_) _ rfl rfl (by kernel_rfl) (by kernel_rfl) (by kernel_rfl) (fun _ _ _ h => h) (by rfl) ?_ trivial ?_
        rotate_left
        · (intro w hSw; (try dsimp only at hSw); go_simp) <;> with_reducible rfl
        try simp only [Act.put, List.setIfInBounds_toArray, List.set_cons_zero, List.set_cons_succ]
        refine wpAnyH_ready (rs := [13]) (by kernel_rfl) (by simp) ?_
        refine AllReadyH.cons rfl (fun K hK => ?_) AllReadyH.nil
        try go_simp
        refine hK.out _ _ trivial (fun _ => ?_)
        clear hK K
        try simp only [Act.put, List.getElem_toArray, List.getElem_cons_succ, List.getElem_cons_zero, List.setIfInBounds_toArray, List.set_cons_zero, List.set_cons_succ]
        refine wpAnyH_done (by kernel_rfl) ?_ _
        try rw [hW3]
        have p0 : W3.cell? ⟨X, 0, none⟩ = some (.int .i64 n) := by rw [(row_cell X3.out 0).1]; rfl
        have pf0 : W3.frozen? ⟨X, 0, none⟩ = false := (row_cell X3.out 0).2
        have p1 : W3.cell? ⟨X, 1, none⟩ = some (.slice Am nm cm) := by rw [(row_cell X3.out 1).1]; rfl
        have pf1 : W3.frozen? ⟨X, 1, none⟩ = false := (row_cell X3.out 1).2
        have p2 : W3.cell? ⟨X, 2, none⟩ = some (.bool is) := by rw [(row_cell X3.out 2).1]; rfl
        have pf2 : W3.frozen? ⟨X, 2, none⟩ = false := (row_cell X3.out 2).2
        have p3 : W3.cell? ⟨X, 3, none⟩ = some (.slice A3 (k + (nl - (k + 1))) c3) := by rw [(row_cell X3.out 3).1]; rfl
        have pf3 : W3.frozen? ⟨X, 3, none⟩ = false := (row_cell X3.out 3).2
        have s0 : W3.cell? ⟨X + 1, 0, none⟩ = some (.int .i64 0) := by rw [(row_cell Y3.out 0).1]; rfl
        have sf0 : W3.frozen? ⟨X + 1, 0, none⟩ = false := (row_cell Y3.out 0).2
        have s1 : W3.cell? ⟨X + 1, 1, none⟩ = some (.slice none 0 0) := by rw [(row_cell Y3.out 1).1]; rfl
        have sf1 : W3.frozen? ⟨X + 1, 1, none⟩ = false := (row_cell Y3.out 1).2
        have s2 : W3.cell? ⟨X + 1, 2, none⟩ = some (.bool false) := by rw [(row_cell Y3.out 2).1]; rfl
        have sf2 : W3.frozen? ⟨X + 1, 2, none⟩ = false := (row_cell Y3.out 2).2
        have s3 : W3.cell? ⟨X + 1, 3, none⟩ = some (.slice none 0 0) := by rw [(row_cell Y3.out 3).1]; rfl
        have sf3 : W3.frozen? ⟨X + 1, 3, none⟩ = false := (row_cell Y3.out 3).2
        clear q0 q1 hW3
        go_wp2_with fail
        refine bodyPost_ret (results_cell_tmp rfl _ _ (X + 1) _ _ rfl (set_four Y3.out _ _ _ _) Try.underlying31 rfl (by kernel_rfl)) rfl ?_
        refine ⟨_, rfl, ?_, ((((B3.out.setCell (by exact Nat.le_succ _) _).setCell (by exact Nat.le_succ _) _).setCell (by exact Nat.le_succ _) _).setCell (by exact Nat.le_succ _) _)⟩
        refine (R3.out.fo ((((((Fo.refl (fun b => b = X + 1) W3).setCell (.inl rfl) 0 _).setCell (.inl rfl) 1 _).setCell (.inl rfl) 2 _).setCell (.inl rfl) 3 _)) (fun b hb => by have := S1.out; omega)).imp fun b _ hb => ?_
        have := S1.out
        have hb : W1.heap.size ≤ b := hb
        omega
    · try go_simp
      refine hK.out _ _ trivial (fun _ => ?_)
      clear hK K
      try simp only [Act.put, List.getElem_toArray, List.getElem_cons_succ, List.getElem_cons_zero, List.setIfInBounds_toArray, List.set_cons_zero, List.set_cons_succ]
      refine takeD (i := 10) (d := some 24) (v := ?_) _ rfl rfl (by kernel_rfl) (by kernel_rfl) (by kernel_rfl) (fun _ _ _ h => h) (by rfl) ?_ trivial ?_
      rotate_left
      · (intro w hSw; (try dsimp only at hSw); go_simp) <;> with_reducible rfl
      try simp only [Act.put, List.setIfInBounds_toArray, List.set_cons_zero, List.set_cons_succ]
      refine wpAnyH_ready (rs := [2]) (by kernel_rfl) (by simp) ?_
      refine (AllReadyH.cons rfl (fun K hK => ?_) AllReadyH.nil)
      · try go_simp
        refine hK.out _ _ trivial (fun _ => ?_)
        clear hK K
        try simp only [Act.put, List.getElem_toArray, List.getElem_cons_succ, List.getElem_cons_zero, List.setIfInBounds_toArray, List.set_cons_zero, List.set_cons_succ]
        refine takeD (i := 4) (d := some 18) (v := ?_) _ rfl rfl (by kernel_rfl) (by kernel_rfl) (by kernel_rfl) (fun _ _ _ h => h) (by rfl) ?_ trivial ?_
        rotate_left
        · (intro w hSw; (try dsimp only at hSw); go_simp) <;> with_reducible rfl
        try simp only [Act.put, List.setIfInBounds_toArray, List.set_cons_zero, List.set_cons_succ]
        refine wpAnyH_ready (rs := [5]) (by kernel_rfl) (by simp) ?_
        refine AllReadyH.cons rfl (fun K hK => ?_) AllReadyH.nil
        refine wp_append_any _ (.tmp 14) (.tmp 18) _ rfl W1.heap.size 3 i0 _ 1 8 Try.underlying29 hi hz0 hz1 hz2 rfl (by omega) (.slice (some ⟨W1.heap.size, 0, none⟩) 0 0) 0 (C []) rfl (rowB_new W1) W1.heap.size (some ⟨b, 0, none⟩) k cl (C (KK.take k)) rfl (RT.out.alloc (Nat.le_refl _) _) (C_one _) ?c2 ?c3 ?c4 ?_
        case c2 => have := HK.out; unfold maxLen; omega
        case c3 => have := HK.out; omega
        case c4 => simp
        intro v1 w1 ho1 hg1 hb1
        have B1 : Hid (Below W1.heap.size W1 w1) := ((Below.refl _ _).alloc (Nat.le_refl _) _).grown hg1 (by simp) (fun q hq => by have h' : some W1.heap.size = some q := hq; injection h' with h'; omega)
        have HO1 : Hid (w1.ownsRow W1.heap.size 3 1 v1 k (C (KK.take k))) := by have := ho1; unfold Hid; simpa [C] using this
        have x3w : w1.cell? ⟨X, 3, none⟩ = some (.slice (some ⟨b, 0, none⟩) nl cl) := cell_later B1.out x3
        have OB1 : Hid (∀ q, v1.ownBlock = some q → W1.heap.size ≤ q) := fun q hq => by
          rcases hb1 with hb | hb
          · rw [hb] at hq; have h' : some W1.heap.size = some q := hq; injection h' with h'; omega
          · rw [hb] at hq; injection hq with hq; rw [← hq]; simp
        clear ho1 hg1 hb1
        refine hK.out _ _ trivial (fun _ => ?_)
        clear hK K
        try simp only [Act.put, List.getElem_toArray, List.getElem_cons_succ, List.getElem_cons_zero, List.setIfInBounds_toArray, List.set_cons_zero, List.set_cons_succ]
        refine wpAnyH_ready (rs := [11]) (by kernel_rfl) (by simp) ?_
        refine AllReadyH.cons rfl (fun K hK => ?_) AllReadyH.nil
        refine wp_append_any _ (.tmp 19) (.tmp 24) _ rfl W1.heap.size 3 i0 _ 1 8 Try.underlying29 hi hz0 hz1 hz2 rfl (by omega) v1 k (C (KK.take k)) rfl HO1.out W1.heap.size A2 (nl - (k + 1)) (cl - (k + 1)) (C (KK.drop (k + 1))) rfl (RD.out.below B1.out) (C_one _) ?d2 ?d3 ?d4 ?_
        case d2 => have := HK.out; unfold maxLen; omega
        case d3 => have := HK.out; omega
        case d4 => exact B1.out.size
        intro v2 w2 ho2 hg2 hb2
        have B2 : Hid (Below W1.heap.size W1 w2) := B1.out.grown hg2 (B1.out.size) (fun q hq => OB1.out q hq)
        have X2 : Hid (w2.heap[X]? = some (.cells #[.int .i64 n, .slice Am nm cm, .bool is, .slice (some ⟨b, 0, none⟩) nl cl] 31 (0, 0))) := (B2.out.block _ (by have := S1.out; omega)).trans HX1.out
        have Y2 : Hid (w2.heap[X + 1]? = some (.cells #[.int .i64 0, .slice none 0 0, .bool false, .slice none 0 0] 31 (0, 0))) := (B2.out.block _ (by have := S1.out; omega)).trans HY1.out
        obtain ⟨A3, c3, rfl⟩ := slice_form ho2
        obtain ⟨W3, hW3⟩ : ∃ W3, w2.setCell ⟨X, 3, none⟩ (.slice A3 (k + (nl - (k + 1))) c3) = W3 := ⟨_, rfl⟩
        have X3 : Hid (W3.heap[X]? = some (.cells #[.int .i64 n, .slice Am nm cm, .bool is, .slice A3 (k + (nl - (k + 1))) c3] 31 (0, 0))) := by rw [← hW3]; exact set_at X2.out 3 _
        have Y3 : Hid (W3.heap[X + 1]? = some (.cells #[.int .i64 0, .slice none 0 0, .bool false, .slice none 0 0] 31 (0, 0))) := by rw [← hW3]; exact (set_far 3 _ (by omega)).trans Y2.out
        have R3 : Hid (Ow 3 W3 (fun b => W1.heap.size ≤ b) (.slice A3 (k + (nl - (k + 1))) c3) (KK.erase id).length (C (KK.erase id))) := by
          have h1 : w2.ownsRow W1.heap.size 3 1 (.slice A3 (k + (nl - (k + 1))) c3) (KK.erase id).length (C (KK.erase id)) := by
            have hl : (KK.erase id).length = k + (nl - (k + 1)) := by rw [← HCE.out, List.length_append, List.length_take, List.length_drop]; have := HK.out; omega
            rw [hl, ← HCE.out, C_app]; exact ho2
          rw [← hW3]
          exact ((Ow.of_own h1).keep (by simp) (fun b _ hb => set_far 3 _ (by have := S1.out; omega))).imp fun b _ h => h.2
        have B3 : Hid (Below X w W3) := by
          rw [← hW3]
          exact (B0.out.trans (B2.out.mono (by have := S1.out; omega))).setCell (Nat.le_refl _) _
        have q0 : w2.cell? ⟨X, 3, none⟩ = some (.slice (some ⟨b, 0, none⟩) nl cl) := by rw [(row_cell X2.out 3).1]; rfl
        have q1 : w2.frozen? ⟨X, 3, none⟩ = false := (row_cell X2.out 3).2
        clear ho2 hg2 hb2 HO1 OB1 B1
        refine hK.out _ _ trivial (fun _ => ?_)
        clear hK K
        try simp only [Act.put, List.getElem_toArray, List.getElem_cons_succ, List.getElem_cons_zero, List.setIfInBounds_toArray, List.set_cons_zero, List.set_cons_succ]
        refine takeD (i := 12) (d := some 26) (v := ?_) _ rfl rfl (by kernel_rfl) (by kernel_rfl) (by kernel_rfl) (fun _ _ _ h => h) (by rfl) ?_ trivial ?_
        rotate_left
        · (intro w hSw; (try dsimp only at hSw); go_simp) <;> with_reducible rfl
        try simp only [Act.put, List.setIfInBounds_toArray, List.set_cons_zero, List.set_cons_succ]
        refine wpAnyH_ready (rs := [13]) (by kernel_rfl) (by simp) ?_
        refine AllReadyH.cons rfl (fun K hK => ?_) AllReadyH.nil
        try go_simp
        refine hK.out _ _ trivial (fun _ => ?_)
        clear hK K
        try simp only [Act.put, List.getElem_toArray, List.getElem_cons_succ, List.getElem_cons_zero, List.setIfInBounds_toArray, List.set_cons_zero, List.set_cons_succ]
        refine wpAnyH_done (by kernel_rfl) ?_ _
        try rw [hW3]
        have p0 : W3.cell? ⟨X, 0, none⟩ = some (.int .i64 n) := by rw [(row_cell X3.out 0).1]; rfl
        have pf0 : W3.frozen? ⟨X, 0, none⟩ = false := (row_cell X3.out 0).2
        have p1 : W3.cell? ⟨X, 1, none⟩ = some (.slice Am nm cm) := by rw [(row_cell X3.out 1).1]; rfl
        have pf1 : W3.frozen? ⟨X, 1, none⟩ = false := (row_cell X3.out 1).2
        have p2 : W3.cell? ⟨X, 2, none⟩ = some (.bool is) := by rw [(row_cell X3.out 2).1]; rfl
        have pf2 : W3.frozen? ⟨X, 2, none⟩ = false := (row_cell X3.out 2).2
        have p3 : W3.cell? ⟨X, 3, none⟩ = some (.slice A3 (k + (nl - (k + 1))) c3) := by rw [(row_cell X3.out 3).1]; rfl
        have pf3 : W3.frozen? ⟨X, 3, none⟩ = false := (row_cell X3.out 3).2
        have s0 : W3.cell? ⟨X + 1, 0, none⟩ = some (.int .i64 0) := by rw [(row_cell Y3.out 0).1]; rfl
        have sf0 : W3.frozen? ⟨X + 1, 0, none⟩ = false := (row_cell Y3.out 0).2
        have s1 : W3.cell? ⟨X + 1, 1, none⟩ = some (.slice none 0 0) := by rw [(row_cell Y3.out 1).1]; rfl
        have sf1 : W3.frozen? ⟨X + 1, 1, none⟩ = false := (row_cell Y3.out 1).2
        have s2 : W3.cell? ⟨X + 1, 2, none⟩ = some (.bool false) := by rw [(row_cell Y3.out 2).1]; rfl
        have sf2 : W3.frozen? ⟨X + 1, 2, none⟩ = false := (row_cell Y3.out 2).2
        have s3 : W3.cell? ⟨X + 1, 3, none⟩ = some (.slice none 0 0) := by rw [(row_cell Y3.out 3).1]; rfl
        have sf3 : W3.frozen? ⟨X + 1, 3, none⟩ = false := (row_cell Y3.out 3).2
        clear q0 q1 hW3
        go_wp2_with fail
        refine bodyPost_ret (results_cell_tmp rfl _ _ (X + 1) _ _ rfl (set_four Y3.out _ _ _ _) Try.underlying31 rfl (by kernel_rfl)) rfl ?_
        refine ⟨_, rfl, ?_, ((((B3.out.setCell (by exact Nat.le_succ _) _).setCell (by exact Nat.le_succ _) _).setCell (by exact Nat.le_succ _) _).setCell (by exact Nat.le_succ _) _)⟩
        refine (R3.out.fo ((((((Fo.refl (fun b => b = X + 1) W3).setCell (.inl rfl) 0 _).setCell (.inl rfl) 1 _).setCell (.inl rfl) 2 _).setCell (.inl rfl) 3 _)) (fun b hb => by have := S1.out; omega)).imp fun b _ hb => ?_
        have := S1.out
        have hb : W1.heap.size ≤ b := hb
        omega
  · try go_simp
    refine hK.out _ _ trivial (fun _ => ?_)
    clear hK K
    try simp only [Act.put, List.getElem_toArray, List.getElem_cons_succ, List.getElem_cons_zero, List.setIfInBounds_toArray, List.set_cons_zero, List.set_cons_succ]
    refine takeD (i := 4) (d := some 18) (v := ?_) _ rfl rfl (by kernel_rfl) (by kernel_rfl) (by kernel_rfl) (fun _ _ _ h => h) (by rfl) ?_ trivial ?_
    rotate_left
    · (intro w hSw; (try dsimp only at hSw); go_simp) <;> with_reducible rfl
    try simp only [Act.put, List.setIfInBounds_toArray, List.set_cons_zero, List.set_cons_succ]
    refine wpAnyH_ready (rs := [0, 7]) (by kernel_rfl) (by simp) ?_
    refine (AllReadyH.cons rfl (fun K hK => ?_) (AllReadyH.cons rfl (fun K hK => ?_) AllReadyH.nil))
    · try go_simp
      refine hK.out _ _ trivial (fun _ => ?_)
      clear hK K
      try simp only [Act.put, List.getElem_toArray, List.getElem_cons_succ, List.getElem_cons_zero, List.setIfInBounds_toArray, List.set_cons_zero, List.set_cons_succ]
      refine wpAnyH_ready (rs := [5, 7]) (by kernel_rfl) (by simp) ?_
      refine (AllReadyH.cons rfl (fun K hK => ?_) (AllReadyH.cons rfl (fun K hK => ?_) AllReadyH.nil))
      · refine wp_append_any _ (.tmp 14) (.tmp 18) _ rfl W1.heap.size 3 i0 _ 1 8 Try.underlying29 hi hz0 hz1 hz2 rfl (by omega) (.slice (some ⟨W1.heap.size, 0, none⟩) 0 0) 0 (C []) rfl (rowB_new W1) W1.heap.size (some ⟨b, 0, none⟩) k cl (C (KK.take k)) rfl (RT.out.alloc (Nat.le_refl _) _) (C_one _) ?c2 ?c3 ?c4 ?_
        case c2 => have := HK.out; unfold maxLen; omega
        case c3 => have := HK.out; omega
        case c4 => simp
        intro v1 w1 ho1 hg1 hb1
        have B1 : Hid (Below W1.heap.size W1 w1) := ((Below.refl _ _).alloc (Nat.le_refl _) _).grown hg1 (by simp) (fun q hq => by have h' : some W1.heap.size = some q := hq; injection h' with h'; omega)
        have HO1 : Hid (w1.ownsRow W1.heap.size 3 1 v1 k (C (KK.take k))) := by have := ho1; unfold Hid; simpa [C] using this
        have x3w : w1.cell? ⟨X, 3, none⟩ = some (.slice (some ⟨b, 0, none⟩) nl cl) := cell_later B1.out x3
        have OB1 : Hid (∀ q, v1.ownBlock = some q → W1.heap.size ≤ q) := fun q hq => by
          rcases hb1 with hb | hb
          · rw [hb] at hq; have h' : some W1.heap.size = some q := hq; injection h' with h'; omega
          · rw [hb] at hq; injection hq with hq; rw [← hq]; simp
        clear ho1 hg1 hb1
        refine hK.out _ _ trivial (fun _ => ?_)
        clear hK K
        try simp only [Act.put, List.getElem_toArray, List.getElem_cons_succ, List.getElem_cons_zero, List.setIfInBounds_toArray, List.set_cons_zero, List.set_cons_succ]
        refine wpAnyH_ready (rs := [7]) (by kernel_rfl) (by simp) ?_
        refine (AllReadyH.cons rfl (fun K hK => ?_) AllReadyH.nil)
        · try go_simp
          refine hK.out _ _ trivial (fun _ => ?_)
          clear hK K
          try simp only [Act.put, List.getElem_toArray, List.getElem_cons_succ, List.getElem_cons_zero, List.setIfInBounds_toArray, List.set_cons_zero, List.set_cons_succ]
          refine takeD (i := 10) (d := some 24) (v := ?_) _ rfl rfl (by kernel_rfl) (by kernel_rfl) (by kernel_rfl) (fun _ _ _ h => h) (by rfl) ?_ trivial ?_
          rotate_left
          · (intro w hSw; (try dsimp only at hSw); go_simp) <;> with_reducible rfl
          try simp only [Act.put, List.setIfInBounds_toArray, List.set_cons_zero, List.set_cons_succ]
          refine wpAnyH_ready (rs := [11]) (by kernel_rfl) (by simp) ?_
          refine AllReadyH.cons rfl (fun K hK => ?_) AllReadyH.nil
          refine wp_append_any _ (.tmp 19) (.tmp 24) _ rfl W1.heap.size 3 i0 _ 1 8 Try.underlying29 hi hz0 hz1 hz2 rfl (by omega) v1 k (C (KK.take k)) rfl HO1.out W1.heap.size A2 (nl - (k + 1)) (cl - (k + 1)) (C (KK.drop (k + 1))) rfl (RD.out.below B1.out) (C_one _) ?d2 ?d3 ?d4 ?_
          case d2 => have := HK.out; unfold maxLen; omega
          case d3 => have := HK.out; omega
          case d4 => exact B1.out.size
          intro v2 w2 ho2 hg2 hb2
          have B2 : Hid (Below W1.heap.size W1 w2) := B1.out.grown hg2 (B1.out.size) (fun q hq => OB1.out q hq)
          have X2 : Hid (w2.heap[X]? = some (.cells #[.int .i64 n, .slice Am nm cm, .bool is, .slice (some ⟨b, 0, none⟩) nl cl] 31 (0, 0))) := (B2.out.block _ (by have := S1.out; omega)).trans HX1.out
          have Y2 : Hid (w2.heap[X + 1]? = some (.cells #[.int .i64 0, .slice none 0 0, .bool false, .slice none 0 0] 31 (0, 0))) := (B2.out.block _ (by have := S1.out; omega)).trans HY1.out
          obtain ⟨A3, c3, rfl⟩ := slice_form ho2
          obtain ⟨W3, hW3⟩ : ∃ W3, w2.setCell ⟨X, 3, none⟩ (.slice A3 (k + (nl - (k + 1))) c3) = W3 := ⟨_, rfl⟩
          have X3 : Hid (W3.heap[X]? = some (.cells #[.int .i64 n, .slice Am nm cm, .bool is, .slice A3 (k + (nl - (k + 1))) c3] 31 (0, 0))) := by rw [← hW3]; exact set_at X2.out 3 _
          have Y3 : Hid (W3.heap[X + 1]? = some (.cells #[.int .i64 0, .slice none 0 0, .bool false, .slice none 0 0] 31 (0, 0))) := by rw [← hW3]; exact (set_far 3 _ (by omega)).trans Y2.out
          have R3 : Hid (Ow 3 W3 (fun b => W1.heap.size ≤ b) (.slice A3 (k + (nl - (k + 1))) c3) (KK.erase id).length (C (KK.erase id))) := by
            have h1 : w2.ownsRow W1.heap.size 3 1 (.slice A3 (k + (nl - (k + 1))) c3) (KK.erase id).length (C (KK.erase id)) := by
              have hl : (KK.erase id).length = k + (nl - (k + 1)) := by rw [← HCE.out, List.length_append, List.length_take, List.length_drop]; have := HK.out; omega
              rw [hl, ← HCE.out, C_app]; exact ho2
            rw [← hW3]
            exact ((Ow.of_own h1).keep (by simp) (fun b _ hb => set_far 3 _ (by have := S1.out; omega))).imp fun b _ h => h.2
          have B3 : Hid (Below X w W3) := by
            rw [← hW3]
            exact (B0.out.trans (B2.out.mono (by have := S1.out; omega))).setCell (Nat.le_refl _) _
          have q0 : w2.cell? ⟨X, 3, none⟩ = some (.slice (some ⟨b, 0, none⟩) nl cl) := by rw [(row_cell X2.out 3).1]; rfl
          have q1 : w2.frozen? ⟨X, 3, none⟩ = false := (row_cell X2.out 3).2
          clear ho2 hg2 hb2 HO1 OB1 B1
          refine hK.out _ _ trivial (fun _ => ?_)
          clear hK K
          try simp only [Act.put, List.getElem_toArray, List.getElem_cons_succ, List.getElem_cons_zero, List.setIfInBounds_toArray, List.set_cons_zero, List.set_cons_succ]
          refine takeD (i := 12) (d := some 26) (v := ?_) _ rfl rfl (by kernel_rfl) (by kernel_rfl) (by kernel_rfl) (fun _ _ _ h => h) (by rfl) ?_ trivial ?_
          rotate_left
          · (intro w hSw; (try dsimp only at hSw); go_simp) <;> with_reducible rfl
          try simp only [Act.put, List.setIfInBounds_toArray, List.set_cons_zero, List.set_cons_succ]
          refine wpAnyH_ready (rs := [13]) (by kernel_rfl) (by simp) ?_
          refine AllReadyH.cons rfl (fun K hK => ?_) AllReadyH.nil
          try go_simp
          refine hK.out _ _ trivial (fun _ => ?_)
          clear hK K
          try simp only [Act.put, List.getElem_toArray, List.getElem_cons_succ, List.getElem_cons_zero, List.setIfInBounds_toArray, List.set_cons_zero, List.set_cons_succ]
          refine wpAnyH_done (by kernel_rfl) ?_ _
          try rw [hW3]
          have p0 : W3.cell? ⟨X, 0, none⟩ = some (.int .i64 n) := by rw [(row_cell X3.out 0).1]; rfl
          have pf0 : W3.frozen? ⟨X, 0, none⟩ = false := (row_cell X3.out 0).2
          have p1 : W3.cell? ⟨X, 1, none⟩ = some (.slice Am nm cm) := by rw [(row_cell X3.out 1).1]; rfl
          have pf1 : W3.frozen? ⟨X, 1, none⟩ = false := (row_cell X3.out 1).2
          have p2 : W3.cell? ⟨X, 2, none⟩ = some (.bool is) := by rw [(row_cell X3.out 2).1]; rfl
          have pf2 : W3.frozen? ⟨X, 2, none⟩ = false := (row_cell X3.out 2).2
          have p3 : W3.cell? ⟨X, 3, none⟩ = some (.slice A3 (k + (nl - (k + 1))) c3) := by rw [(row_cell X3.out 3).1]; rfl
          have pf3 : W3.frozen? ⟨X, 3, none⟩ = false := (row_cell X3.out 3).2
          have s0 : W3.cell? ⟨X + 1, 0, none⟩ = some (.int .i64 0) := by rw [(row_cell Y3.out 0).1]; rfl
          have sf0 : W3.frozen? ⟨X + 1, 0, none⟩ = false := (row_cell Y3.out 0).2
          have s1 : W3.cell? ⟨X + 1, 1, none⟩ = some (.slice none 0 0) := by rw [(row_cell Y3.out 1).1]; rfl
          have sf1 : W3.frozen? ⟨X + 1, 1, none⟩ = false := (row_cell Y3.out 1).2
          have s2 : W3.cell? ⟨X + 1, 2, none⟩ = some (.bool false) := by rw [(row_cell Y3.out 2).1]; rfl
          have sf2 : W3.frozen? ⟨X + 1, 2, none⟩ = false := (row_cell Y3.out 2).2
          have s3 : W3.cell? ⟨X + 1, 3, none⟩ = some (.slice none 0 0) := by rw [(row_cell Y3.out 3).1]; rfl
          have sf3 : W3.frozen? ⟨X + 1, 3, none⟩ = false := (row_cell Y3.out 3).2
          clear q0 q1 hW3
          go_wp2_with fail
          refine bodyPost_ret (results_cell_tmp rfl _ _ (X + 1) _ _ rfl (set_four Y3.out _ _ _ _) Try.underlying31 rfl (by kernel_rfl)) rfl ?_
          refine ⟨_, rfl, ?_, ((((B3.out.setCell (by exact Nat.le_succ _) _).setCell (by exact Nat.le_succ _) _).setCell (by exact Nat.le_succ _) _).setCell (by exact Nat.le_succ _) _)⟩
          refine (R3.out.fo ((((((Fo.refl (fun b => b = X + 1) W3).setCell (.inl rfl) 0 _).setCell (.inl rfl) 1 _).setCell (.inl rfl) 2 _).setCell (.inl rfl) 3 _)) (fun b hb => by have := S1.out; omega)).imp fun b _ hb => ?_
          have := S1.out
          have hb : W1.heap.size ≤ b := hb
          omega
      · try go_simp
        refine hK.out _ _ trivial (fun _ => ?_)
        clear hK K
        try simp only [Act.put, List.getElem_toArray, List.getElem_cons_succ, List.getElem_cons_zero, List.setIfInBounds_toArray, List.set_cons_zero, List.set_cons_succ]
        refine takeD (i := 10) (d := some 24) (v := ?_) _ rfl rfl (by kernel_rfl) (by kernel_rfl) (by kernel_rfl) (fun _ _ _ h => h) (by rfl) ?_ trivial ?_
        rotate_left
        · (intro w hSw; (try dsimp only at hSw); go_simp) <;> with_reducible rfl
        try simp only [Act.put, List.setIfInBounds_toArray, List.set_cons_zero, List.set_cons_succ]
        refine wpAnyH_ready (rs := [5]) (by kernel_rfl) (by simp) ?_
        refine AllReadyH.cons rfl (fun K hK => ?_) AllReadyH.nil
        refine wp_append_any _ (.tmp 14) (.tmp 18) _ rfl W1.heap.size 3 i0 _ 1 8 Try.underlying29 hi hz0 hz1 hz2 rfl (by omega) (.slice (some ⟨W1.heap.size, 0, none⟩) 0 0) 0 (C []) rfl (rowB_new W1) W1.heap.size (some ⟨b, 0, none⟩) k cl (C (KK.take k)) rfl (RT.out.alloc (Nat.le_refl _) _) (C_one _) ?c2 ?c3 ?c4 ?_
        case c2 => have := HK.out; unfold maxLen; omega
        case c3 => have := HK.out; omega
        case c4 => simp
        intro v1 w1 ho1 hg1 hb1
        have B1 : Hid (Below W1.heap.size W1 w1) := ((Below.refl _ _).alloc (Nat.le_refl _) _).grown hg1 (by simp) (fun q hq => by have h' : some W1.heap.size = some q := hq; injection h' with h'; omega)
        have HO1 : Hid (w1.ownsRow W1.heap.size 3 1 v1 k (C (KK.take k))) := by have := ho1; unfold Hid; simpa [C] using this
        have x3w : w1.cell? ⟨X, 3, none⟩ = some (.slice (some ⟨b, 0, none⟩) nl cl) := cell_later B1.out x3
        have OB1 : Hid (∀ q, v1.ownBlock = some q → W1.heap.size ≤ q) := fun q hq => by
          rcases hb1 with hb | hb
          · rw [hb] at hq; have h' : some W1.heap.size = some q := hq; injection h' with h'; omega
          · rw [hb] at hq; injection hq with hq; rw [← hq]; simp
        clear ho1 hg1 hb1
        refine hK.out _ _ trivial (fun _ => ?_)
        clear hK K
        try simp only [Act.put, List.getElem_toArray, List.getElem_cons_succ, List.getElem_cons_zero, List.setIfInBounds_toArray, List.set_cons_zero, List.set_cons_succ]
        refine wpAnyH_ready (rs := [11]) (by kernel_rfl) (by simp) ?_
        refine AllReadyH.cons rfl (fun K hK => ?_) AllReadyH.nil
        refine wp_append_any _ (.tmp 19) (.tmp 24) _ rfl W1.heap.size 3 i0 _ 1 8 Try.underlying29 hi hz0 hz1 hz2 rfl (by omega) v1 k (C (KK.take k)) rfl HO1.out W1.heap.size A2 (nl - (k + 1)) (cl - (k + 1)) (C (KK.drop (k + 1))) rfl (RD.out.below B1.out) (C_one _) ?d2 ?d3 ?d4 ?_
        case d2 => have := HK.out; unfold maxLen; omega
        case d3 => have := HK.out; omega
        case d4 => exact B1.out.size
        intro v2 w2 ho2 hg2 hb2
        have B2 : Hid (Below W1.heap.size W1 w2) := B1.out.grown hg2 (B1.out.size) (fun q hq => OB1.out q hq)
        have X2 : Hid (w2.heap[X]? = some (.cells #[.int .i64 n, .slice Am nm cm, .bool is, .slice (some ⟨b, 0, none⟩) nl cl] 31 (0, 0))) := (B2.out.block _ (by have := S1.out; omega)).trans HX1.out
        have Y2 : Hid (w2.heap[X + 1]? = some (.cells #[.int .i64 0, .slice none 0 0, .bool false, .slice none 0 0] 31 (0, 0))) := (B2.out.block _ (by have := S1.out; omega)).trans HY1.out
        obtain ⟨A3, c3, rfl⟩ := slice_form ho2
        obtain ⟨W3, hW3⟩ : ∃ W3, w2.setCell ⟨X, 3, none⟩ (.slice A3 (k + (nl - (k + 1))) c3) = W3 := ⟨_, rfl⟩
        have X3 : Hid (W3.heap[X]? = some (.cells #[.int .i64 n, .slice Am nm cm, .bool is, .slice A3 (k + (nl - (k + 1))) c3] 31 (0, 0))) := by rw [← hW3]; exact set_at X2.out 3 _
        have Y3 : Hid (W3.heap[X + 1]? = some (.cells #[.int .i64 0, .slice none 0 0, .bool false, .slice none 0 0] 31 (0, 0))) := by rw [← hW3]; exact (set_far 3 _ (by omega)).trans Y2.out
        have R3 : Hid (Ow 3 W3 (fun b => W1.heap.size ≤ b) (.slice A3 (k + (nl - (k + 1))) c3) (KK.erase id).length (C (KK.erase id))) := by
          have h1 : w2.ownsRow W1.heap.size 3 1 (.slice A3 (k + (nl - (k + 1))) c3) (KK.erase id).length (C (KK.erase id)) := by
            have hl : (KK.erase id).length = k + (nl - (k + 1)) := by rw [← HCE.out, List.length_append, List.length_take, List.length_drop]; have := HK.out; omega
            rw [hl, ← HCE.out, C_app]; exact ho2
          rw [← hW3]
          exact ((Ow.of_own h1).keep (by simp) (fun b _ hb => set_far 3 _ (by have := S1.out; omega))).imp fun b _ h => h.2
        have B3 : Hid (Below X w W3) := by
          rw [← hW3]
          exact (B0.out.trans (B2.out.mono (by have := S1.out; omega))).setCell (Nat.le_refl _) _
        have q0 : w2.cell? ⟨X, 3, none⟩ = some (.slice (some ⟨b, 0, none⟩) nl cl) := by rw [(row_cell X2.out 3).1]; rfl
        have q1 : w2.frozen? ⟨X, 3, none⟩ = false := (row_cell X2.out 3).2
        clear ho2 hg2 hb2 HO1 OB1 B1
        refine hK.out _ _ trivial (fun _ => ?_)
        clear hK K
        try simp only [Act.put, List.getElem_toArray, List.getElem_cons_succ, List.getElem_cons_zero, List.setIfInBounds_toArray, List.set_cons_zero, List.set_cons_succ]
        refine takeD (i := 12) (d := some 26) (v := ?_) _ rfl rfl (by kernel_rfl) (by kernel_rfl) (by kernel_rfl) (fun _ _ _ h => h) (by rfl) ?_ trivial ?_
        rotate_left
        · (intro w hSw; (try dsimp only at hSw); go_simp) <;> with_reducible rfl
        try simp only [Act.put, List.setIfInBounds_toArray, List.set_cons_zero, List.set_cons_succ]
        refine wpAnyH_ready (rs := [13]) (by kernel_rfl) (by simp) ?_
        refine AllReadyH.cons rfl (fun K hK => ?_) AllReadyH.nil
        try go_simp
        refine hK.out _ _ trivial (fun _ => ?_)
        clear hK K
        try simp only [Act.put, List.getElem_toArray, List.getElem_cons_succ, List.getElem_cons_zero, List.setIfInBounds_toArray, List.set_cons_zero, List.set_cons_succ]
        refine wpAnyH_done (by kernel_rfl) ?_ _
        try rw [hW3]
        have p0 : W3.cell? ⟨X, 0, none⟩ = some (.int .i64 n) := by rw [(row_cell X3.out 0).1]; rfl
        have pf0 : W3.frozen? ⟨X, 0, none⟩ = false := (row_cell X3.out 0).2
        have p1 : W3.cell? ⟨X, 1, none⟩ = some (.slice Am nm cm) := by rw [(row_cell X3.out 1).1]; rfl
        have pf1 : W3.frozen? ⟨X, 1, none⟩ = false := (row_cell X3.out 1).2
        have p2 : W3.cell? ⟨X, 2, none⟩ = some (.bool is) := by rw [(row_cell X3.out 2).1]; rfl
        have pf2 : W3.frozen? ⟨X, 2, none⟩ = false := (row_cell X3.out 2).2
        have p3 : W3.cell? ⟨X, 3, none⟩ = some (.slice A3 (k + (nl - (k + 1))) c3) := by rw [(row_cell X3.out 3).1]; rfl
        have pf3 : W3.frozen? ⟨X, 3, none⟩ = false := (row_cell X3.out 3).2
        have s0 : W3.cell? ⟨X + 1, 0, none⟩ = some (.int .i64 0) := by rw [(row_cell Y3.out 0).1]; rfl
        have sf0 : W3.frozen? ⟨X + 1, 0, none⟩ = false := (row_cell Y3.out 0).2
        have s1 : W3.cell? ⟨X + 1, 1, none⟩ = some (.slice none 0 0) := by rw [(row_cell Y3.out 1).1]; rfl
        have sf1 : W3.frozen? ⟨X + 1, 1, none⟩ = false := (row_cell Y3.out 1).2
        have s2 : W3.cell? ⟨X + 1, 2, none⟩ = some (.bool false) := by rw [(row_cell Y3.out 2).1]; rfl
        have sf2 : W3.frozen? ⟨X + 1, 2, none⟩ = false := (row_cell Y3.out 2).2
        have s3 : W3.cell? ⟨X + 1, 3, none⟩ = some (.slice none 0 0) := by rw [(row_cell Y3.out 3).1]; rfl
        have sf3 : W3.frozen? ⟨X + 1, 3, none⟩ = false := (row_cell Y3.out 3).2
        clear q0 q1 hW3
        go_wp2_with fail
        refine bodyPost_ret (results_cell_tmp rfl _ _ (X + 1) _ _ rfl (set_four Y3.out _ _ _ _) Try.underlying31 rfl (by kernel_rfl)) rfl ?_
        refine ⟨_, rfl, ?_, ((((B3.out.setCell (by exact Nat.le_succ _) _).setCell (by exact Nat.le_succ _) _).setCell (by exact Nat.le_succ _) _).setCell (by exact Nat.le_succ _) _)⟩
        refine (R3.out.fo ((((((Fo.refl (fun b => b = X + 1) W3).setCell (.inl rfl) 0 _).setCell (.inl rfl) 1 _).setCell (.inl rfl) 2 _).setCell (.inl rfl) 3 _)) (fun b hb => by have := S1.out; omega)).imp fun b _ hb => ?_
        have := S1.out
        have hb : W1.heap.size ≤ b := hb
        omega
    · try go_simp
      refine hK.out _ _ trivial (fun _ => ?_)
      clear hK K
      try simp only [Act.put, List.getElem_toArray, List.getElem_cons_succ, List.getElem_cons_zero, List.setIfInBounds_toArray, List.set_cons_zero, List.set_cons_succ]
      refine takeD (i := 10) (d := some 24) (v := ?_) _ rfl rfl (by kernel_rfl) (by kernel_rfl) (by kernel_rfl) (fun _ _ _ h => h) (by rfl) ?_ trivial ?_
      rotate_left
      · (intro w hSw; (try dsimp only at hSw); go_simp) <;> with_reducible rfl
      try simp only [Act.put, List.setIfInBounds_toArray, List.set_cons_zero, List.set_cons_succ]
      refine wpAnyH_ready (rs := [0]) (by kernel_rfl) (by simp) ?_
      refine (AllReadyH.cons rfl (fun K hK => ?_) AllReadyH.nil)
      · try go_simp
        refine hK.out _ _ trivial (fun _ => ?_)
        clear hK K
        try simp only [Act.put, List.getElem_toArray, List.getElem_cons_succ, List.getElem_cons_zero, List.setIfInBounds_toArray, List.set_cons_zero, List.set_cons_succ]
        refine wpAnyH_ready (rs := [5]) (by kernel_rfl) (by simp) ?_
        refine AllReadyH.cons rfl (fun K hK => ?_) AllReadyH.nil
        refine wp_append_any _ (.tmp 14) (.tmp 18) _ rfl W1.heap.size 3 i0 _ 1 8 Try.underlying29 hi hz0 hz1 hz2 rfl (by omega) (.slice (some ⟨W1.heap.size, 0, none⟩) 0 0) 0 (C []) rfl (rowB_new W1) W1.heap.size (some ⟨b, 0, none⟩) k cl (C (KK.take k)) rfl (RT.out.alloc (Nat.le_refl _) _) (C_one _) ?c2 ?c3 ?c4 ?_
        case c2 => have := HK.out; unfold maxLen; omega
        case c3 => have := HK.out; omega
        case c4 => simp
        intro v1 w1 ho1 hg1 hb1
        have B1 : Hid (Below W1.heap.size W1 w1) := ((Below.refl _ _).alloc (Nat.le_refl _) _).grown hg1 (by simp) (fun q hq => by have h' : some W1.heap.size = some q := hq; injection h' with h'; omega)
        have HO1 : Hid (w1.ownsRow W1.heap.size 3 1 v1 k (C (KK.take k))) := by have := ho1; unfold Hid; simpa [C] using this
        have x3w : w1.cell? ⟨X, 3, none⟩ = some (.slice (some ⟨b, 0, none⟩) nl cl) := cell_later B1.out x3
        have OB1 : Hid (∀ q, v1.ownBlock = some q → W1.heap.size ≤ q) := fun q hq => by
          rcases hb1 with hb | hb
          · rw [hb] at hq; have h' : some W1.heap.size = some q := hq; injection h' with h'; omega
          · rw [hb] at hq; injection hq with hq; rw [← hq]; simp
        clear ho1 hg1 hb1
        refine hK.out _ _ trivial (fun _ => ?_)
        clear hK K
        try simp only [Act.put, List.getElem_toArray, List.getElem_cons_succ, List.getElem_cons_zero, List.setIfInBounds_toArray, List.set_cons_zero, List.set_cons_succ]
        refine wpAnyH_ready (rs := [11]) (by kernel_rfl) (by simp) ?_
        refine AllReadyH.cons rfl (fun K hK => ?_) AllReadyH.nil
        refine wp_append_any _ (.tmp 19) (.tmp 24) _ rfl W1.heap.size 3 i0 _ 1 8 Try.underlying29 hi hz0 hz1 hz2 rfl (by omega) v1 k (C (KK.take k)) rfl HO1.out W1.heap.size A2 (nl - (k + 1)) (cl - (k + 1)) (C (KK.drop (k + 1))) rfl (RD.out.below B1.out) (C_one _) ?d2 ?d3 ?d4 ?_
        case d2 => have := HK.out; unfold maxLen; omega
        case d3 => have := HK.out; omega
        case d4 => exact B1.out.size
        intro v2 w2 ho2 hg2 hb2
        have B2 : Hid (Below W1.heap.size W1 w2) := B1.out.grown hg2 (B1.out.size) (fun q hq => OB1.out q hq)
        have X2 : Hid (w2.heap[X]? = some (.cells #[.int .i64 n, .slice Am nm cm, .bool is, .slice (some ⟨b, 0, none⟩) nl cl] 31 (0, 0))) := (B2.out.block _ (by have := S1.out; omega)).trans HX1.out
        have Y2 : Hid (w2.heap[X + 1]? = some (.cells #[.int .i64 0, .slice none 0 0, .bool false, .slice none 0 0] 31 (0, 0))) := (B2.out.block _ (by have := S1.out; omega)).trans HY1.out
        obtain ⟨A3, c3, rfl⟩ := slice_form ho2
        obtain ⟨W3, hW3⟩ : ∃ W3, w2.setCell ⟨X, 3, none⟩ (.slice A3 (k + (nl - (k + 1))) c3) = W3 := ⟨_, rfl⟩
        have X3 : Hid (W3.heap[X]? = some (.cells #[.int .i64 n, .slice Am nm cm, .bool is, .slice A3 (k + (nl - (k + 1))) c3] 31 (0, 0))) := by rw [← hW3]; exact set_at X2.out 3 _
        have Y3 : Hid (W3.heap[X + 1]? = some (.cells #[.int .i64 0, .slice none 0 0, .bool false, .slice none 0 0] 31 (0, 0))) := by rw [← hW3]; exact (set_far 3 _ (by omega)).trans Y2.out
        have R3 : Hid (Ow 3 W3 (fun b => W1.heap.size ≤ b) (.slice A3 (k + (nl - (k + 1))) c3) (KK.erase id).length (C (KK.erase id))) := by
          have h1 : w2.ownsRow W1.heap.size 3 1 (.slice A3 (k + (nl - (k + 1))) c3) (KK.erase id).length (C (KK.erase id)) := by
            have hl : (KK.erase id).length = k + (nl - (k + 1)) := by rw [← HCE.out, List.length_append, List.length_take, List.length_drop]; have := HK.out; omega
            rw [hl, ← HCE.out, C_app]; exact ho2
          rw [← hW3]
          exact ((Ow.of_own h1).keep (by simp) (fun b _ hb => set_far 3 _ (by have := S1.out; omega))).imp fun b _ h => h.2
        have B3 : Hid (Below X w W3) := by
          rw [← hW3]
          exact (B0.out.trans (B2.out.mono (by have := S1.out; omega))).setCell (Nat.le_refl _) _
        have q0 : w2.cell? ⟨X, 3, none⟩ = some (.slice (some ⟨b, 0, none⟩) nl cl) := by rw [(row_cell X2.out 3).1]; rfl
        have q1 : w2.frozen? ⟨X, 3, none⟩ = false := (row_cell X2.out 3).2
        clear ho2 hg2 hb2 HO1 OB1 B1
        refine hK.out _ _ trivial (fun _ => ?_)
        clear hK K
        try simp only [Act.put, List.getElem_toArray, List.getElem_cons_succ, List.getElem_cons_zero, List.setIfInBounds_toArray, List.set_cons_zero, List.set_cons_succ]
        refine takeD (i := 12) (d := some 26) (v := ?_) _ rfl rfl (by kernel_rfl) (by kernel_rfl) (by kernel_rfl) (fun _ _ _ h => h) (by rfl) ?_ trivial ?_
        rotate_left
        · (intro w hSw; (try dsimp only at hSw); go_simp) <;> with_reducible rfl
        try simp only [Act.put, List.setIfInBounds_toArray, List.set_cons_zero, List.set_cons_succ]
        refine wpAnyH_ready (rs := [13]) (by kernel_rfl) (by simp) ?_
        refine AllReadyH.cons rfl (fun K hK => ?_) AllReadyH.nil
        try go_simp
        refine hK.out _ _ trivial (fun _ => ?_)
        clear hK K
        try simp only [Act.put, List.getElem_toArray, List.getElem_cons_succ, List.getElem_cons_zero, List.setIfInBounds_toArray, List.set_cons_zero, List.set_cons_succ]
        refine wpAnyH_done (by kernel_rfl) ?_ _
        try rw [hW3]
        have p0 : W3.cell? ⟨X, 0, none⟩ = some (.int .i64 n) := by rw [(row_cell X3.out 0).1]; rfl
        have pf0 : W3.frozen? ⟨X, 0, none⟩ = false := (row_cell X3.out 0).2
        have p1 : W3.cell? ⟨X, 1, none⟩ = some (.slice Am nm cm) := by rw [(row_cell X3.out 1).1]; rfl
        have pf1 : W3.frozen? ⟨X, 1, none⟩ = false := (row_cell X3.out 1).2
        have p2 : W3.cell? ⟨X, 2, none⟩ = some (.bool is) := by rw [(row_cell X3.out 2).1]; rfl
        have pf2 : W3.frozen? ⟨X, 2, none⟩ = false := (row_cell X3.out 2).2
        have p3 : W3.cell? ⟨X, 3, none⟩ = some (.slice A3 (k + (nl - (k + 1))) c3) := by rw [(row_cell X3.out 3).1]; rfl
        have pf3 : W3.frozen? ⟨X, 3, none⟩ = false := (row_cell X3.out 3).2
        have s0 : W3.cell? ⟨X + 1, 0, none⟩ = some (.int .i64 0) := by rw [(row_cell Y3.out 0).1]; rfl
        have sf0 : W3.frozen? ⟨X + 1, 0, none⟩ = false := (row_cell Y3.out 0).2
        have s1 : W3.cell? ⟨X + 1, 1, none⟩ = some (.slice none 0 0) := by rw [(row_cell Y3.out 1).1]; rfl
        have sf1 : W3.frozen? ⟨X + 1, 1, none⟩ = false := (row_cell Y3.out 1).2
        have s2 : W3.cell? ⟨X + 1, 2, none⟩ = some (.bool false) := by rw [(row_cell Y3.out 2).1]; rfl
        have sf2 : W3.frozen? ⟨X + 1, 2, none⟩ = false := (row_cell Y3.out 2).2
        have s3 : W3.cell? ⟨X + 1, 3, none⟩ = some (.slice none 0 0) := by rw [(row_cell Y3.out 3).1]; rfl
        have sf3 : W3.frozen? ⟨X + 1, 3, none⟩ = false := (row_cell Y3.out 3).2
        clear q0 q1 hW3
        go_wp2_with fail
        refine bodyPost_ret (results_cell_tmp rfl _ _ (X + 1) _ _ rfl (set_four Y3.out _ _ _ _) Try.underlying31 rfl (by kernel_rfl)) rfl ?_
        refine ⟨_, rfl, ?_, ((((B3.out.setCell (by exact Nat.le_succ _) _).setCell (by exact Nat.le_succ _) _).setCell (by exact Nat.le_succ _) _).setCell (by exact Nat.le_succ _) _)⟩
        refine (R3.out.fo ((((((Fo.refl (fun b => b = X + 1) W3).setCell (.inl rfl) 0 _).setCell (.inl rfl) 1 _).setCell (.inl rfl) 2 _).setCell (.inl rfl) 3 _)) (fun b hb => by have := S1.out; omega)).imp fun b _ hb => ?_
        have := S1.out
        have hb : W1.heap.size ≤ b := hb
        omega
  · try go_simp
    refine hK.out _ _ trivial (fun _ => ?_)
    clear hK K
    try simp only [Act.put, List.getElem_toArray, List.getElem_cons_succ, List.getElem_cons_zero, List.setIfInBounds_toArray, List.set_cons_zero, List.set_cons_succ]
    refine takeD (i := 10) (d := some 24) (v := ?_) _ rfl rfl (by kernel_rfl) (by kernel_rfl) (by kernel_rfl) (fun _ _ _ h => h) (by rfl) ?_ trivial ?_
    rotate_left
    · (intro w hSw; (try dsimp only at hSw); go_simp) <;> with_reducible rfl
    try simp only [Act.put, List.setIfInBounds_toArray, List.set_cons_zero, List.set_cons_succ]
    refine wpAnyH_ready (rs := [0, 2]) (by kernel_rfl) (by simp) ?_
    refine (AllReadyH.cons rfl (fun K hK => ?_) (AllReadyH.cons rfl (fun K hK => ?_) AllReadyH.nil))
    · try go_simp
      refine hK.out _ _ trivial (fun _ => ?_)
      clear hK K
      try simp only [Act.put, List.getElem_toArray, List.getElem_cons_succ, List.getElem_cons_zero, List.setIfInBounds_toArray, List.set_cons_zero, List.set_cons_succ]
      refine wpAnyH_ready (rs := [2]) (by kernel_rfl) (by simp) ?_
      refine (AllReadyH.cons rfl (fun K hK => ?_) AllReadyH.nil)
      · try go_simp
        refine hK.out _ _ trivial (fun _ => ?_)
        clear hK K
        try simp only [Act.put, List.getElem_toArray, List.getElem_cons_succ, List.getElem_cons_zero, List.setIfInBounds_toArray, List.set_cons_zero, List.set_cons_succ]
        refine takeD (i := 4) (d := some 18) (v := ?_) _ rfl rfl (by kernel_rfl) (by kernel_rfl) (by kernel_rfl) (fun _ _ _ h => h) (by rfl) ?_ trivial ?_
        rotate_left
        · (intro w hSw; (try dsimp only at hSw); go_simp) <;> with_reducible rfl
        try simp only [Act.put, List.setIfInBounds_toArray, List.set_cons_zero, List.set_cons_succ]
        refine wpAnyH_ready (rs := [5]) (by kernel_rfl) (by simp) ?_
        refine AllReadyH.cons rfl (fun K hK => ?_) AllReadyH.nil
        refine wp_append_any _ (.tmp 14) (.tmp 18) _ rfl W1.heap.size 3 i0 _ 1 8 Try.underlying29 hi hz0 hz1 hz2 rfl (by omega) (.slice (some ⟨W1.heap.size, 0, none⟩) 0 0) 0 (C []) rfl (rowB_new W1) W1.heap.size (some ⟨b, 0, none⟩) k cl (C (KK.take k)) rfl (RT.out.alloc (Nat.le_refl _) _) (C_one _) ?c2 ?c3 ?c4 ?_
        case c2 => have := HK.out; unfold maxLen; omega
        case c3 => have := HK.out; omega
        case c4 => simp
        intro v1 w1 ho1 hg1 hb1
        have B1 : Hid (Below W1.heap.size W1 w1) := ((Below.refl _ _).alloc (Nat.le_refl _) _).grown hg1 (by simp) (fun q hq => by have h' : some W1.heap.size = some q := hq; injection h' with h'; omega)
        have HO1 : Hid (w1.ownsRow W1.heap.size 3 1 v1 k (C (KK.take k))) := by have := ho1; unfold Hid; simpa [C] using this
        have x3w : w1.cell? ⟨X, 3, none⟩ = some (.slice (some ⟨b, 0, none⟩) nl cl) := cell_later B1.out x3
        have OB1 : Hid (∀ q, v1.ownBlock = some q → W1.heap.size ≤ q) := fun q hq => by
          rcases hb1 with hb | hb
          · rw [hb] at hq; have h' : some W1.heap.size = some q := hq; injection h' with h'; omega
          · rw [hb] at hq; injection hq with hq; rw [← hq]; simp
        clear ho1 hg1 hb1
        refine hK.out _ _ trivial (fun _ => ?_)
        clear hK K
        try simp only [Act.put, List.getElem_toArray, List.getElem_cons_succ, List.getElem_cons_zero, List.setIfInBounds_toArray, List.set_cons_zero, List.set_cons_succ]
        refine wpAnyH_ready (rs := [11]) (by kernel_rfl) (by simp) ?_
        refine AllReadyH.cons rfl (fun K hK => ?_) AllReadyH.nil
        refine wp_append_any _ (.tmp 19) (.tmp 24) _ rfl W1.heap.size 3 i0 _ 1 8 Try.underlying29 hi hz0 hz1 hz2 rfl (by omega) v1 k (C (KK.take k)) rfl HO1.out W1.heap.size A2 (nl - (k + 1)) (cl - (k + 1)) (C (KK.drop (k + 1))) rfl (RD.out.below B1.out) (C_one _) ?d2 ?d3 ?d4 ?_
        case d2 => have := HK.out; unfold maxLen; omega
        case d3 => have := HK.out; omega
        case d4 => exact B1.out.size
        intro v2 w2 ho2 hg2 hb2
        have B2 : Hid (Below W1.heap.size W1 w2) := B1.out.grown hg2 (B1.out.size) (fun q hq => OB1.out q hq)
        have X2 : Hid (w2.heap[X]? = some (.cells #[.int .i64 n, .slice Am nm cm, .bool is, .slice (some ⟨b, 0, none⟩) nl cl] 31 (0, 0))) := (B2.out.block _ (by have := S1.out; omega)).trans HX1.out
        have Y2 : Hid (w2.heap[X + 1]? = some (.cells #[.int .i64 0, .slice none 0 0, .bool false, .slice none 0 0] 31 (0, 0))) := (B2.out.block _ (by have := S1.out; omega)).trans HY1.out
        obtain ⟨A3, c3, rfl⟩ := slice_form ho2
        obtain ⟨W3, hW3⟩ : ∃ W3, w2.setCell ⟨X, 3, none⟩ (.slice A3 (k + (nl - (k + 1))) c3) = W3 := ⟨_, rfl⟩
        have X3 : Hid (W3.heap[X]? = some (.cells #[.int .i64 n, .slice Am nm cm, .bool is, .slice A3 (k + (nl - (k + 1))) c3] 31 (0, 0))) := by rw [← hW3]; exact set_at X2.out 3 _
        have Y3 : Hid (W3.heap[X + 1]? = some (.cells #[.int .i64 0, .slice none 0 0, .bool false, .slice none 0 0] 31 (0, 0))) := by rw [← hW3]; exact (set_far 3 _ (by omega)).trans Y2.out
        have R3 : Hid (Ow 3 W3 (fun b => W1.heap.size ≤ b) (.slice A3 (k + (nl - (k + 1))) c3) (KK.erase id).length (C (KK.erase id))) := by
          have h1 : w2.ownsRow W1.heap.size 3 1 (.slice A3 (k + (nl - (k + 1))) c3) (KK.erase id).length (C (KK.erase id)) := by
            have hl : (KK.erase id).length = k + (nl - (k + 1)) := by rw [← HCE.out, List.length_append, List.length_take, List.length_drop]; have := HK.out; omega
            rw [hl, ← HCE.out, C_app]; exact ho2
          rw [← hW3]
          exact ((Ow.of_own h1).keep (by simp) (fun b _ hb => set_far 3 _ (by have := S1.out; omega))).imp fun b _ h => h.2
        have B3 : Hid (Below X w W3) := by
          rw [← hW3]
          exact (B0.out.trans (B2.out.mono (by have := S1.out; omega))).setCell (Nat.le_refl _) _
        have q0 : w2.cell? ⟨X, 3, none⟩ = some (.slice (some ⟨b, 0, none⟩) nl cl) := by rw [(row_cell X2.out 3).1]; rfl
        have q1 : w2.frozen? ⟨X, 3, none⟩ = false := (row_cell X2.out 3).2
        clear ho2 hg2 hb2 HO1 OB1 B1
        refine hK.out _ _ trivial (fun _ => ?_)
        clear hK K
        try simp only [Act.put, List.getElem_toArray, List.getElem_cons_succ, List.getElem_cons_zero, List.setIfInBounds_toArray, List.set_cons_zero, List.set_cons_succ]
        refine takeD (i := 12) (d := some 26) (v := ?_) _ rfl rfl (by kernel_rfl) (by kernel_rfl) (by kernel_rfl) (fun _ _ _ h => h) (by rfl) ?_ trivial ?_
        rotate_left
        · (intro w hSw; (try dsimp only at hSw); go_simp) <;> with_reducible rfl
        try simp only [Act.put, List.setIfInBounds_toArray, List.set_cons_zero, List.set_cons_succ]
        refine wpAnyH_ready (rs := [13]) (by kernel_rfl) (by simp) ?_
        refine AllReadyH.cons rfl (fun K hK => ?_) AllReadyH.nil
        try go_simp
        refine hK.out _ _ trivial (fun _ => ?_)
        clear hK K
        try simp only [Act.put, List.getElem_toArray, List.getElem_cons_succ, List.getElem_cons_zero, List.setIfInBounds_toArray, List.set_cons_zero, List.set_cons_succ]
        refine wpAnyH_done (by kernel_rfl) ?_ _
        try rw [hW3]
        have p0 : W3.cell? ⟨X, 0, none⟩ = some (.int .i64 n) := by rw [(row_cell X3.out 0).1]; rfl
        have pf0 : W3.frozen? ⟨X, 0, none⟩ = false := (row_cell X3.out 0).2
        have p1 : W3.cell? ⟨X, 1, none⟩ = some (.slice Am nm cm) := by rw [(row_cell X3.out 1).1]; rfl
        have pf1 : W3.frozen? ⟨X, 1, none⟩ = false := (row_cell X3.out 1).2
        have p2 : W3.cell? ⟨X, 2, none⟩ = some (.bool is) := by rw [(row_cell X3.out 2).1]; rfl
        have pf2 : W3.frozen? ⟨X, 2, none⟩ = false := (row_cell X3.out 2).2
        have p3 : W3.cell? ⟨X, 3, none⟩ = some (.slice A3 (k + (nl - (k + 1))) c3) := by rw [(row_cell X3.out 3).1]; rfl
        have pf3 : W3.frozen? ⟨X, 3, none⟩ = false := (row_cell X3.out 3).2
        have s0 : W3.cell? ⟨X + 1, 0, none⟩ = some (.int .i64 0) := by rw [(row_cell Y3.out 0).1]; rfl
        have sf0 : W3.frozen? ⟨X + 1, 0, none⟩ = false := (row_cell Y3.out 0).2
        have s1 : W3.cell? ⟨X + 1, 1, none⟩ = some (.slice none 0 0) := by rw [(row_cell Y3.out 1).1]; rfl
        have sf1 : W3.frozen? ⟨X + 1, 1, none⟩ = false := (row_cell Y3.out 1).2
        have s2 : W3.cell? ⟨X + 1, 2, none⟩ = some (.bool false) := by rw [(row_cell Y3.out 2).1]; rfl
        have sf2 : W3.frozen? ⟨X + 1, 2, none⟩ = false := (row_cell Y3.out 2).2
        have s3 : W3.cell? ⟨X + 1, 3, none⟩ = some (.slice none 0 0) := by rw [(row_cell Y3.out 3).1]; rfl
        have sf3 : W3.frozen? ⟨X + 1, 3, none⟩ = false := (row_cell Y3.out 3).2
        clear q0 q1 hW3
        go_wp2_with fail
        refine bodyPost_ret (results_cell_tmp rfl _ _ (X + 1) _ _ rfl (set_four Y3.out _ _ _ _) Try.underlying31 rfl (by kernel_rfl)) rfl ?_
        refine ⟨_, rfl, ?_, ((((B3.out.setCell (by exact Nat.le_succ _) _).setCell (by exact Nat.le_succ _) _).setCell (by exact Nat.le_succ _) _).setCell (by exact Nat.le_succ _) _)⟩
        refine (R3.out.fo ((((((Fo.refl (fun b => b = X + 1) W3).setCell (.inl rfl) 0 _).setCell (.inl rfl) 1 _).setCell (.inl rfl) 2 _).setCell (.inl rfl) 3 _)) (fun b hb => by have := S1.out; omega)).imp fun b _ hb => ?_
        have := S1.out
        have hb : W1.heap.size ≤ b := hb
        omega
    · try go_simp
      refine hK.out _ _ trivial (fun _ => ?_)
      clear hK K
      try simp only [Act.put, List.getElem_toArray, List.getElem_cons_succ, List.getElem_cons_zero, List.setIfInBounds_toArray, List.set_cons_zero, List.set_cons_succ]
      refine takeD (i := 4) (d := some 18) (v := ?_) _ rfl rfl (by kernel_rfl) (by kernel_rfl) (by kernel_rfl) (fun _ _ _ h => h) (by rfl) ?_ trivial ?_
      rotate_left
      · (intro w hSw; (try dsimp only at hSw); go_simp) <;> with_reducible rfl
      try simp only [Act.put, List.setIfInBounds_toArray, List.set_cons_zero, List.set_cons_succ]
      refine wpAnyH_ready (rs := [0]) (by kernel_rfl) (by simp) ?_
      refine (AllReadyH.cons rfl (fun K hK => ?_) AllReadyH.nil)
      · try go_simp
        refine hK.out _ _ trivial (fun _ => ?_)
        clear hK K
        try simp only [Act.put, List.getElem_toArray, List.getElem_cons_succ, List.getElem_cons_zero, List.setIfInBounds_toArray, List.set_cons_zero, List.set_cons_succ]
        refine wpAnyH_ready (rs := [5]) (by kernel_rfl) (by simp) ?_
        refine AllReadyH.cons rfl (fun K hK => ?_) AllReadyH.nil
        refine wp_append_any _ (.tmp 14) (.tmp 18) _ rfl W1.heap.size 3 i0 _ 1 8 Try.underlying29 hi hz0 hz1 hz2 rfl (by omega) (.slice (some ⟨W1.heap.size, 0, none⟩) 0 0) 0 (C []) rfl (rowB_new W1) W1.heap.size (some ⟨b, 0, none⟩) k cl (C (KK.take k)) rfl (RT.out.alloc (Nat.le_refl _) _) (C_one _) ?c2 ?c3 ?c4 ?_
        case c2 => have := HK.out; unfold maxLen; omega
        case c3 => have := HK.out; omega
        case c4 => simp
        intro v1 w1 ho1 hg1 hb1
        have B1 : Hid (Below W1.heap.size W1 w1) := ((Below.refl _ _).alloc (Nat.le_refl _) _).grown hg1 (by simp) (fun q hq => by have h' : some W1.heap.size = some q := hq; injection h' with h'; omega)
        have HO1 : Hid (w1.ownsRow W1.heap.size 3 1 v1 k (C (KK.take k))) := by have := ho1; unfold Hid; simpa [C] using this
        have x3w : w1.cell? ⟨X, 3, none⟩ = some (.slice (some ⟨b, 0, none⟩) nl cl) := cell_later B1.out x3
        have OB1 : Hid (∀ q, v1.ownBlock = some q → W1.heap.size ≤ q) := fun q hq => by
          rcases hb1 with hb | hb
          · rw [hb] at hq; have h' : some W1.heap.size = some q := hq; injection h' with h'; omega
          · rw [hb] at hq; injection hq with hq; rw [← hq]; simp
        clear ho1 hg1 hb1
        refine hK.out _ _ trivial (fun _ => ?_)
        clear hK K
        try simp only [Act.put, List.getElem_toArray, List.getElem_cons_succ, List.getElem_cons_zero, List.setIfInBounds_toArray, List.set_cons_zero, List.set_cons_succ]
        refine wpAnyH_ready (rs := [11]) (by kernel_rfl) (by simp) ?_
        refine AllReadyH.cons rfl (fun K hK => ?_) AllReadyH.nil
        refine wp_append_any _ (.tmp 19) (.tmp 24) _ rfl W1.heap.size 3 i0 _ 1 8 Try.underlying29 hi hz0 hz1 hz2 rfl (by omega) v1 k (C (KK.take k)) rfl HO1.out W1.heap.size A2 (nl - (k + 1)) (cl - (k + 1)) (C (KK.drop (k + 1))) rfl (RD.out.below B1.out) (C_one _) ?d2 ?d3 ?d4 ?_
        case d2 => have := HK.out; unfold maxLen; omega
        case d3 => have := HK.out; omega
        case d4 => exact B1.out.size
        intro v2 w2 ho2 hg2 hb2
        have B2 : Hid (Below W1.heap.size W1 w2) := B1.out.grown hg2 (B1.out.size) (fun q hq => OB1.out q hq)
        have X2 : Hid (w2.heap[X]? = some (.cells #[.int .i64 n, .slice Am nm cm, .bool is, .slice (some ⟨b, 0, none⟩) nl cl] 31 (0, 0))) := (B2.out.block _ (by have := S1.out; omega)).trans HX1.out
        have Y2 : Hid (w2.heap[X + 1]? = some (.cells #[.int .i64 0, .slice none 0 0, .bool false, .slice none 0 0] 31 (0, 0))) := (B2.out.block _ (by have := S1.out; omega)).trans HY1.out
        obtain ⟨A3, c3, rfl⟩ := slice_form ho2
        obtain ⟨W3, hW3⟩ : ∃ W3, w2.setCell ⟨X, 3, none⟩ (.slice A3 (k + (nl - (k + 1))) c3) = W3 := ⟨_, rfl⟩
        have X3 : Hid (W3.heap[X]? = some (.cells #[.int .i64 n, .slice Am nm cm, .bool is, .slice A3 (k + (nl - (k + 1))) c3] 31 (0, 0))) := by rw [← hW3]; exact set_at X2.out 3 _
        have Y3 : Hid (W3.heap[X + 1]? = some (.cells #[.int .i64 0, .slice none 0 0, .bool false, .slice none 0 0] 31 (0, 0))) := by rw [← hW3]; exact (set_far 3 _ (by omega)).trans Y2.out
        have R3 : Hid (Ow 3 W3 (fun b => W1.heap.size ≤ b) (.slice A3 (k + (nl - (k + 1))) c3) (KK.erase id).length (C (KK.erase id))) := by
          have h1 : w2.ownsRow W1.heap.size 3 1 (.slice A3 (k + (nl - (k + 1))) c3) (KK.erase id).length (C (KK.erase id)) := by
            have hl : (KK.erase id).length = k + (nl - (k + 1)) := by rw [← HCE.out, List.length_append, List.length_take, List.length_drop]; have := HK.out; omega
            rw [hl, ← HCE.out, C_app]; exact ho2
          rw [← hW3]
          exact ((Ow.of_own h1).keep (by simp) (fun b _ hb => set_far 3 _ (by have := S1.out; omega))).imp fun b _ h => h.2
        have B3 : Hid (Below X w W3) := by
          rw [← hW3]
          exact (B0.out.trans (B2.out.mono (by have := S1.out; omega))).setCell (Nat.le_refl _) _
        have q0 : w2.cell? ⟨X, 3, none⟩ = some (.slice (some ⟨b, 0, none⟩) nl cl) := by rw [(row_cell X2.out 3).1]; rfl
        have q1 : w2.frozen? ⟨X, 3, none⟩ = false := (row_cell X2.out 3).2
        clear ho2 hg2 hb2 HO1 OB1 B1
        refine hK.out _ _ trivial (fun _ => ?_)
        clear hK K
        try simp only [Act.put, List.getElem_toArray, List.getElem_cons_succ, List.getElem_cons_zero, List.setIfInBounds_toArray, List.set_cons_zero, List.set_cons_succ]
        refine takeD (i := 12) (d := some 26) (v := ?_) _ rfl rfl (by kernel_rfl) (by kernel_rfl) (by kernel_rfl) (fun _ _ _ h => h) (by rfl) ?_ trivial ?_
        rotate_left
        · (intro w hSw; (try dsimp only at hSw); go_simp) <;> with_reducible rfl
        try simp only [Act.put, List.setIfInBounds_toArray, List.set_cons_zero, List.set_cons_succ]
        refine wpAnyH_ready (rs := [13]) (by kernel_rfl) (by simp) ?_
        refine AllReadyH.cons rfl (fun K hK => ?_) AllReadyH.nil
        try go_simp
        refine hK.out _ _ trivial (fun _ => ?_)
        clear hK K
        try simp only [Act.put, List.getElem_toArray, List.getElem_cons_succ, List.getElem_cons_zero, List.setIfInBounds_toArray, List.set_cons_zero, List.set_cons_succ]
        refine wpAnyH_done (by kernel_rfl) ?_ _
        try rw [hW3]
        have p0 : W3.cell? ⟨X, 0, none⟩ = some (.int .i64 n) := by rw [(row_cell X3.out 0).1]; rfl
        have pf0 : W3.frozen? ⟨X, 0, none⟩ = false := (row_cell X3.out 0).2
        have p1 : W3.cell? ⟨X, 1, none⟩ = some (.slice Am nm cm) := by rw [(row_cell X3.out 1).1]; rfl
        have pf1 : W3.frozen? ⟨X, 1, none⟩ = false := (row_cell X3.out 1).2
        have p2 : W3.cell? ⟨X, 2, none⟩ = some (.bool is) := by rw [(row_cell X3.out 2).1]; rfl
        have pf2 : W3.frozen? ⟨X, 2, none⟩ = false := (row_cell X3.out 2).2
        have p3 : W3.cell? ⟨X, 3, none⟩ = some (.slice A3 (k + (nl - (k + 1))) c3) := by rw [(row_cell X3.out 3).1]; rfl
        have pf3 : W3.frozen? ⟨X, 3, none⟩ = false := (row_cell X3.out 3).2
        have s0 : W3.cell? ⟨X + 1, 0, none⟩ = some (.int .i64 0) := by rw [(row_cell Y3.out 0).1]; rfl
        have sf0 : W3.frozen? ⟨X + 1, 0, none⟩ = false := (row_cell Y3.out 0).2
        have s1 : W3.cell? ⟨X + 1, 1, none⟩ = some (.slice none 0 0) := by rw [(row_cell Y3.out 1).1]; rfl
        have sf1 : W3.frozen? ⟨X + 1, 1, none⟩ = false := (row_cell Y3.out 1).2
        have s2 : W3.cell? ⟨X + 1, 2, none⟩ = some (.bool false) := by rw [(row_cell Y3.out 2).1]; rfl
        have sf2 : W3.frozen? ⟨X + 1, 2, none⟩ = false := (row_cell Y3.out 2).2
        have s3 : W3.cell? ⟨X + 1, 3, none⟩ = some (.slice none 0 0) := by rw [(row_cell Y3.out 3).1]; rfl
        have sf3 : W3.frozen? ⟨X + 1, 3, none⟩ = false := (row_cell Y3.out 3).2
        clear q0 q1 hW3
        go_wp2_with fail
        refine bodyPost_ret (results_cell_tmp rfl _ _ (X + 1) _ _ rfl (set_four Y3.out _ _ _ _) Try.underlying31 rfl (by kernel_rfl)) rfl ?_
        refine ⟨_, rfl, ?_, ((((B3.out.setCell (by exact Nat.le_succ _) _).setCell (by exact Nat.le_succ _) _).setCell (by exact Nat.le_succ _) _).setCell (by exact Nat.le_succ _) _)⟩
        refine (R3.out.fo ((((((Fo.refl (fun b => b = X + 1) W3).setCell (.inl rfl) 0 _).setCell (.inl rfl) 1 _).setCell (.inl rfl) 2 _).setCell (.inl rfl) 3 _)) (fun b hb => by have := S1.out; omega)).imp fun b _ hb => ?_
        have := S1.out
        have hb : W1.heap.size ≤ b := hb
        omega
end Go.Proofs.Ytfmcmhgpgkeplaa.B
