/-
  A step stores one word at most: the law. Each statement bears its own conditions.
-/
import Derived.Test.YthmalhakkdjilaaDoorCq2
namespace Go.Proofs.YthmalhakkdjilaaDoor
open Go.RowKit
set_option linter.unusedVariables false
set_option linter.unusedSimpArgs false
theorem stV_mem (μ : MS) (a x : Int) (ha : 0 ≤ a) : (stV μ a x).1 = μ ∨ ((stV μ a x).2 = 0 ∧ ∃ (i : Nat) (y : Int), μ.code ≤ i ∧ (stV μ a x).1 = ⟨μ.W.set i y, μ.code, IntKind.i64.wrap (μ.st + 1)⟩) := by
  unfold stV
  split
  · split
    · exact .inl rfl
    · exact .inr ⟨rfl, a.toNat, x, by omega, rfl⟩
  · exact .inl rfl
theorem putV_mem (r : List Int) (μ : MS) (x : Int) (hr : RegOk r) : (putV r μ x).μ = μ ∨ ((putV r μ x).e = 0 ∧ ∃ (i : Nat) (y : Int), μ.code ≤ i ∧ (putV r μ x).μ = ⟨μ.W.set i y, μ.code, IntKind.i64.wrap (μ.st + 1)⟩) := by
  have u := hr.u32 (j := 18) (by omega)
  unfold putV
  split
  · exact .inl rfl
  · exact stV_mem μ _ x (by omega)
theorem effV_mem (k : Nat) (a b n : Int) (r : List Int) (μ : MS) (hr : RegOk r) : (effV k a b n r μ).μ = μ ∨ ((effV k a b n r μ).e = 0 ∧ ∃ (i : Nat) (y : Int), μ.code ≤ i ∧ (effV k a b n r μ).μ = ⟨μ.W.set i y, μ.code, IntKind.i64.wrap (μ.st + 1)⟩) := by
  by_cases h14 : k = 14
  · subst h14
    exact stV_mem μ _ _ (num_u32 _).1
  by_cases h19 : k = 19
  · subst h19
    exact putV_mem r μ _ hr
  by_cases h21 : k = 21
  · subst h21
    exact putV_mem r μ _ hr
  left
  unfold effV
  simp only [h14, h19, h21, if_false, apply_ite ER.μ, ite_self]
theorem stV1_mem (r : List Int) (μ : MS) (hr : RegOk r) : (stV1 r μ).μ = μ ∨ ((stV1 r μ).e = 0 ∧ ∃ (i : Nat) (y : Int), μ.code ≤ i ∧ (stV1 r μ).μ = ⟨μ.W.set i y, μ.code, IntKind.i64.wrap (μ.st + 1)⟩) := by
  have hr1 : RegOk (r.set 16 (IntKind.u32.wrap (r.getD 16 0 + 1))) := hr.set 16 _ (by rw [kd_reg (by omega), IntKind.wrap_u32]; exact ⟨by omega, by omega⟩)
  have h := effV_mem (nextV r μ).o.toNat (nextV r μ).a (nextV r μ).b (nextV r μ).n _ μ hr1
  unfold stV1
  dsimp only
  split
  · split
    next he =>
      rcases h with h | ⟨_, h⟩
      · exact .inl h
      · exact .inr ⟨rfl, h⟩
    next he =>
      rcases h with h | ⟨h0, _⟩
      · exact .inl h
      · exact absurd h0 he
  · exact .inl rfl
theorem stV1_err (r : List Int) (μ : MS) (h : (stV1 r μ).e ≠ 0) : (stV1 r μ).r = r ∧ (stV1 r μ).c = -1 := by
  unfold stV1 at h ⊢
  dsimp only at h ⊢
  split
  next hx =>
    rw [if_pos hx] at h
    split
    next he => rw [if_pos he] at h; exact absurd rfl h
    next => exact ⟨rfl, rfl⟩
  next => exact ⟨rfl, rfl⟩
theorem next_t (r : List Int) (μ : MS) : 1 ≤ (nextV r μ).t := by
  unfold nextV
  split
  · exact Int.le_refl _
  · split
    · unfold decV
      split
      next hv =>
        have ho := valid_of hv
        have hp : ∀ k, k < 24 → 1 ≤ priceL.getD k 0 := by decide
        show 1 ≤ priceV _
        unfold priceV
        rw [if_pos ⟨ho.1, ho.2.1⟩]
        exact hp _ (by omega)
      next => exact Int.le_refl _
    · exact Int.le_refl _
theorem stV1_t (r : List Int) (μ : MS) : 1 ≤ (stV1 r μ).t := by
  have h := next_t r μ
  unfold stV1
  dsimp only
  split
  · split <;> exact h
  · exact h
/-- What a step leaves of the memory. -/
structure After (μ μ' : MS) (e : Int) (i1 : Nat) : Prop where
  code : μ.code ≤ i1
  same : ∀ t, t ≠ i1 → μ'.W.getD t 0 = μ.W.getD t 0
  len : μ'.W.length = μ.W.length
  code' : μ'.code = μ.code
  st : μ'.st = μ.st ∨ μ'.st = μ.st + 1
  err : e ≠ 0 → μ' = μ
theorem after_step (r : List Int) (μ : MS) (hr : RegOk r) (h0 : 0 ≤ μ.st ∧ μ.st ≤ 60) : ∃ i1, After μ (stV1 r μ).μ (stV1 r μ).e i1 := by
  rcases stV1_mem r μ hr with h | ⟨he, i, y, hi, h⟩
  · exact ⟨μ.code, Nat.le_refl _, fun t _ => by rw [h], by rw [h], by rw [h], .inl (by rw [h]), fun _ => h⟩
  · refine ⟨i, hi, fun t ht => ?_, by rw [h]; simp, by rw [h], .inr ?_, fun hn => absurd he hn⟩
    · rw [h]; exact getD_set_ne y ht
    · rw [h]; exact i64_ok (by omega) (by omega)
structure StoR (w : World) (g3 gm : Nat) (v8 : Value) (wr : World) : Prop where
  ex : ∃ (i : Nat) (r : List Int) (μ : MS), v8 = .int .i64 (i : Int) ∧ i ≤ 60 ∧ 0 ≤ μ.st ∧ μ.st ≤ (i : Int) ∧ RegOk r ∧ RB wr g3 r [] 28 ∧ MM wr gm (.iface 31 (.pointer (some ⟨gm, 0, none⟩))) μ (fun b => b = g3) ∧ Below w.heap.size w wr
structure CntR (W0 : World) (L i1 : Nat) (v13 v14 : Value) (wr : World) : Prop where
  ex : ∃ ch k : Nat, v13 = .int .i64 (ch : Int) ∧ v14 = .int .i64 (k : Int) ∧ k ≤ L ∧ ch ≤ 1 ∧ (ch = 1 → i1 < k) ∧ Below W0.heap.size W0 wr
set_option maxRecDepth 100000 in
set_option maxHeartbeats 16000000 in
theorem stores_core (r : List Int) (A A' : Option Addr) (p q c c' : Nat) (xs ys : List Int) (w : World) (hr : RegOk r) (h1 : WordsAt w A p xs) (h2 : WordsAt w A' q ys) (hc : p ≤ c ∧ c ≤ maxLen) (hc' : q ≤ c' ∧ c' ≤ maxLen) (hL : Laid w) :
    Calls Tryd.prog 4 #[.agg (cells r).toArray, .slice A p c, .slice A' q c'] w fun e w' => e = .returned (.bool true) ∧ Below w.heap.size w w' := by
  obtain ⟨i0, hinf, hz0, hz1, hz2⟩ := cinfo_of cu32_info
  obtain ⟨n, hn⟩ : ∃ n : Nat, min p 60 = n := ⟨_, rfl⟩
  obtain ⟨m, hm⟩ : ∃ m : Nat, min q 60 = m := ⟨_, rfl⟩
  have HR1 := Lib.hid (takeN_reads h1 (by omega : n ≤ p))
  have HR2 := Lib.hid (takeN_reads h2 (by omega : m ≤ q))
  have HU := Lib.hid (And.intro (takeN_mem (n := n) h1.u32) (takeN_mem (n := m) h2.u32))
  have HN := Lib.hid (And.intro hn (And.intro hm (And.intro hc hc')))
  obtain ⟨Xs, hXs⟩ : ∃ Xs, takeN xs n = Xs := ⟨_, rfl⟩
  obtain ⟨Ys, hYs⟩ : ∃ Ys, takeN ys m = Ys := ⟨_, rfl⟩
  rw [hXs] at HR1 HU
  rw [hYs] at HR2 HU
  have HLD := Lib.hid hL
  obtain ⟨W1, hW1⟩ : ∃ W1, w.alloc (.cells (cells r).toArray 28) = W1 := ⟨_, rfl⟩
  obtain ⟨g3, hg3⟩ : ∃ g3, w.heap.size = g3 := ⟨_, rfl⟩
  have q3 : RB W1 g3 r [] 28 := by rw [← hW1, ← hg3]; exact RB.new _ _ _
  have HB1 : Hid (Below w.heap.size w W1) := by rw [← hW1]; exact (Below.refl _ _).alloc (Nat.le_refl _) _
  have H4 := Lib.hid q3
  have HG3 : Hid (w.heap.size = g3) := hg3
  have HLR := Lib.hid hr.len
  have CC := Lib.hid (clean_any r W1 hr)
  clear q3 h1 h2 hn hm hXs hYs hL hr hc hc'
  go_enter Tryd.func4, Tryd.ntmps4
  go_upto_region 1 with (fail)
  try rw [hW1]
  try simp only [hg3]
  clear hW1 hg3
  go_wp2_with (refine wpList_load_regs rfl _ rfl rfl H4.out HLR.out ?_)
  refine CC.out.mono ?_
  rintro e W2 ⟨r1, rfl, hr1, b⟩
  have H42 := Lib.hid (H4.out.below b)
  have HB2 : Hid (Below w.heap.size w W2) := HB1.out.trans (b.mono HB1.out.size)
  have HRO := Lib.hid hr1
  have HL1 := Lib.hid hr1.len
  clear hr1 b CC HB1 H4
  obtain ⟨W3, hW3⟩ : ∃ W, W2.setCells g3 0 (cells r1) = W := ⟨_, rfl⟩
  have H43 : Hid (RB W3 g3 r1 [] 28) := by rw [← hW3]; exact H42.out.store r1 (by rw [HL1.out, HLR.out])
  have HB3 : Hid (Below w.heap.size w W3) := by rw [← hW3]; exact HB2.out.trans ((past_setCells g3 _ _ _).below (by rw [HG3.out]; exact Nat.le_refl _) HB2.out.size)
  have E3' := Lib.hid hW3
  clear hW3
  go_upto_region 2 with (refine wpList_store_regs rfl _ _ rfl rfl rfl H42.out HLR.out HL1.out ?_; dsimp only [Act.put])
  rw [E3'.out]
  clear E3' H42 HB2
  go_wp2_with fail
  refine (new_any A A' p q n m c c' Xs Ys W3 ((HR1.out.below HB3.out).more HB3.out.size) ((HR2.out.below HB3.out).more HB3.out.size) HN.out.1 HN.out.2.1 (by have := HN.out; omega) (by have := HN.out; omega) HN.out.2.2.1.2 HN.out.2.2.2.2 HU.out.1 HU.out.2).mono ?_
  rintro e V1 ⟨gm, rfl, a1, a2, b, hm1⟩
  have HBV1 : Hid (Below w.heap.size w V1) := HB3.out.trans (b.mono HB3.out.size)
  have HM1 := Lib.hid (hm1 (fun b => b = g3) (fun b hb => by rw [hb]; exact H43.out.lt))
  have H44 := Lib.hid (H43.out.below b)
  have HGM0 : Hid (g3 < gm) := by have := H43.out.lt; unfold Hid; omega
  clear a1 a2 b hm1 H43 HB3 HR1 HR2 HU HN HL1 HLR
  go_wp2_with fail
  go_loopw [8, 9, 10, 11, 12, 13, 14] (fun v8 _ _ _ _ _ _ wr => StoR w g3 gm v8 wr) (fun v8 _ _ _ _ _ _ => fun _ => 60 - (intOf v8).toNat)
  case atStart => exact ⟨⟨0, r1, _, rfl, by decide, Int.le_refl 0, Int.le_refl 0, HRO.out, H44.out, HM1.out, HBV1.out⟩⟩
  case round =>
    obtain ⟨⟨i, r, μ, rfl, hi, hst0, hst1, hr, hrb, hmm, hb⟩⟩ := hrel
    have HI : Hid (i ≤ 60 ∧ 0 ≤ μ.st ∧ μ.st ≤ (i : Int)) := ⟨hi, hst0, hst1⟩
    have HRR := Lib.hid hr
    have HLR := Lib.hid hr.len
    have HRB := Lib.hid hrb
    have HMM := Lib.hid hmm
    have HB := Lib.hid hb
    clear hi hst0 hst1 hr hrb hmm hb H44 HM1 HBV1 HRO
    by_cases hlt : i < 60
    · have HIX : Hid (i < 60) := hlt
      have hltI : (i : Int) < 60 := by omega
      obtain ⟨v1, _, hb1, _, hs1⟩ := HMM.out.ex
      obtain ⟨A1, cp1, rfl, hc1⟩ := hs1.ex
      have m0 := (row_cell hb1 0).1
      have m2 := (row_cell hb1 2).1
      simp at m0 m2
      have HGM : Hid (g3 < gm ∧ gm < wr.heap.size ∧ w.heap.size = g3) := ⟨HGM0.out, HMM.out.lt, HG3.out⟩
      obtain ⟨μW, hμW⟩ : ∃ W, μ.W = W := ⟨_, rfl⟩
      obtain ⟨L, hLe⟩ : ∃ L, μW.length = L := ⟨_, rfl⟩
      obtain ⟨st, hste⟩ : ∃ st, μ.st = st := ⟨_, rfl⟩
      have RDW : Hid (Reads wr wr.heap.size 1 A1 L (CW μW)) := ⟨by rw [CW_len]; omega, fun h0 => by
        obtain ⟨rb, off, hA, _, hr2, hr3⟩ := hc1 (by rw [hμW]; omega)
        exact ⟨_, hA, hr2, fun j u hj => by
          have hjl : j < μW.length := by have := (List.getElem?_eq_some_iff.1 hj).1; rw [CW_len] at this; exact this
          rw [CW_at _ j hjl] at hj
          injection hj with hj
          subst hj
          rw [Addr.add_lit, ← hμW]
          exact hr3 j (by rw [hμW]; omega)⟩⟩
      have HLL : Hid (L ≤ 120) := by have := HMM.out.len; rw [hμW, hLe] at this; exact this
      have HLW := Lib.hid hLe
      rw [hμW, hLe] at m0
      rw [hste] at m2
      have MC := Lib.hid (And.intro m0 m2)
      have HMU := Lib.hid (And.intro hμW hste)
      clear hb1 hs1 hc1 hμW hLe hste hlt
      go_upto_region 6 with (fail)
      refine wp_region_held_drew (S := fun w' => Below wr.heap.size wr w' ∧ w'.cell? ⟨gm, 0, none⟩ = some (.slice A1 L cp1) ∧ w'.cell? ⟨gm, 2, none⟩ = some (.int .i64 st)) (by kernel_rfl) ?_ (fun hHeld => ?_)
      · exact ⟨(Below.refl _ _).drew, m0, m2⟩
      refine takeD (i := 1) (d := some 25) (v := ?_) _ rfl rfl (by kernel_rfl) (by kernel_rfl) (by kernel_rfl) (fun _ _ _ h => h) (by rfl) ?_ (by assumption) ?_
      rotate_left
      · (intro w hSw; (try dsimp only at hSw); go_simp) <;> with_reducible rfl
      try simp only [Act.put, List.setIfInBounds_toArray, List.set_cons_zero, List.set_cons_succ]
      refine takeD (i := 2) (d := some 26) (v := ?_) _ rfl rfl (by kernel_rfl) (by kernel_rfl) (by kernel_rfl) (fun _ _ _ h => h) (by rfl) ?_ (by assumption) ?_
      rotate_left
      · (intro w hSw; (try dsimp only at hSw); go_simp) <;> with_reducible rfl
      try simp only [Act.put, List.setIfInBounds_toArray, List.set_cons_zero, List.set_cons_succ]
      refine takeD (i := 3) (d := some 27) (v := ?_) _ rfl rfl (by kernel_rfl) (by kernel_rfl) (by kernel_rfl) (fun _ _ _ h => h) (by rfl) ?_ (by assumption) ?_
      rotate_left
      · (intro w hSw; (try dsimp only at hSw); go_simp) <;> with_reducible rfl
      try simp only [Act.put, List.setIfInBounds_toArray, List.set_cons_zero, List.set_cons_succ]
      refine takeD (i := 4) (d := some 28) (v := ?_) _ rfl rfl (by kernel_rfl) (by kernel_rfl) (by kernel_rfl) (fun _ _ _ h => h) (by rfl) ?_ (by assumption) ?_
      rotate_left
      · (intro w hSw; (try dsimp only at hSw); go_simp) <;> with_reducible rfl
      try simp only [Act.put, List.setIfInBounds_toArray, List.set_cons_zero, List.set_cons_succ]
      refine takeD (i := 6) (d := some 30) (v := ?_) _ rfl rfl (by kernel_rfl) (by kernel_rfl) (by kernel_rfl) (fun _ _ _ h => h) (by rfl) ?_ (by assumption) ?_
      rotate_left
      · (intro w hSw; (try dsimp only at hSw); go_simp) <;> with_reducible rfl
      try simp only [Act.put, List.setIfInBounds_toArray, List.set_cons_zero, List.set_cons_succ]
      refine takeD (i := 7) (d := some 31) (v := ?_) _ rfl rfl (by kernel_rfl) (by kernel_rfl) (by kernel_rfl) (fun _ _ _ h => h) (by rfl) ?_ (by assumption) ?_
      rotate_left
      · (intro w hSw; (try dsimp only at hSw); go_simp) <;> with_reducible rfl
      try simp only [Act.put, List.setIfInBounds_toArray, List.set_cons_zero, List.set_cons_succ]
      refine takeD (i := 8) (d := some 32) (v := ?_) _ rfl rfl (by kernel_rfl) (by kernel_rfl) (by kernel_rfl) (fun _ _ _ h => h) (by rfl) ?_ (by assumption) ?_
      rotate_left
      · (intro w hSw; (try dsimp only at hSw); go_simp) <;> with_reducible rfl
      try simp only [Act.put, List.setIfInBounds_toArray, List.set_cons_zero, List.set_cons_succ]
      refine takeD (i := 9) (d := some 33) (v := ?_) _ rfl rfl (by kernel_rfl) (by kernel_rfl) (by kernel_rfl) (fun _ _ _ h => h) (by rfl) ?_ (by assumption) ?_
      rotate_left
      · (intro w hSw; (try dsimp only at hSw); go_simp) <;> with_reducible rfl
      try simp only [Act.put, List.setIfInBounds_toArray, List.set_cons_zero, List.set_cons_succ]
      refine wpAnyH_ready (rs := [0]) (by kernel_rfl) (by simp) ?_
      refine AllReadyH.cons rfl (fun K hK => ?_) AllReadyH.nil
      go_simp
      refine hK.out _ _ ⟨hHeld.1.alloc hHeld.1.size _, cell_al _ hHeld.2.1, cell_al _ hHeld.2.2⟩ (fun hHeld => ?_)
      clear hK K
      try simp only [Act.put, List.setIfInBounds_toArray, List.set_cons_zero, List.set_cons_succ]
      clear hHeld
      obtain ⟨Wa, hWa⟩ : ∃ Wa, (wr.alloc (.cells #[] 22)).drew = Wa := ⟨_, rfl⟩
      have BWa : Hid (Below wr.heap.size wr Wa) := by rw [← hWa]; exact below_drewN ((Below.refl _ _).alloc (Nat.le_refl _) _) 1
      have HSa : Hid (Wa.heap.size = wr.heap.size + 1) := by rw [← hWa]; show (wr.alloc _).heap.size = _; simp
      have HOa : Hid (Wa.ownsRow wr.heap.size 22 1 (.slice (some ⟨wr.heap.size, 0, none⟩) 0 0) 0 []) := by rw [← hWa]; exact crow_empty _ wr
      have RDa : Hid (Reads Wa Wa.heap.size 1 A1 L (CW μW)) := (RDW.out.below BWa.out).more BWa.out.size
      have M0a := Lib.hid (And.intro (cell_later BWa.out m0) (cell_later BWa.out m2))
      simp only [hWa]
      clear hWa m0 m2
      refine wpAnyH_ready (rs := [5]) (by kernel_rfl) (by simp) ?_
      refine AllReadyH.cons rfl (fun K hK => ?_) AllReadyH.nil
      refine wp_append_any Wa (.tmp 24) (.tmp 28) _ rfl wr.heap.size 22 i0 (.int .u32 0) 1 4 Tryd.underlying29 hinf hz0 hz1 hz2 rfl (by decide) (.slice (some ⟨wr.heap.size, 0, none⟩) 0 0) 0 [] rfl HOa.out Wa.heap.size A1 L cp1 (CW μW) rfl RDa.out (CW_one _) ?c2 ?c3 ?c4 ?_
      case c2 => have := HLL.out; unfold maxLen; omega
      case c3 => have := HLL.out; omega
      case c4 => have := HSa.out; omega
      intro v2 W2 ho hgr hbl
      have ho' : W2.ownsRow wr.heap.size 22 1 v2 μW.length (CW μW) := by rw [HLW.out]; simpa using ho
      obtain ⟨ra, rc, rfl⟩ := slice_form ho'
      have BW2 : Hid (Below wr.heap.size wr W2) := BWa.out.grown hgr (by have := HSa.out; omega) (fun q hq => by have h' : some wr.heap.size = some q := hq; injection h' with h'; omega)
      have HWAS : Hid (SlW W2 (.slice ra μW.length rc) μW (fun b => b = gm)) := SlW.of_own ho' (fun b h1 _ h => by have := HGM.out; rw [h] at h1; omega)
      rw [HLW.out] at HWAS ⊢
      clear ho ho' hgr hbl
      refine hK.out _ _ ⟨BW2.out, cell_later BW2.out MC.out.1, cell_later BW2.out MC.out.2⟩ (fun hHeld => ?_)
      clear hK K HOa RDa M0a HSa BWa
      try simp only [Act.put, List.setIfInBounds_toArray, List.set_cons_zero, List.set_cons_succ]
      refine takeD (i := 10) (d := some 9) (v := ?_) _ rfl rfl (by kernel_rfl) (by kernel_rfl) (by kernel_rfl) (fun _ _ _ h => h) (by rfl) ?_ (by assumption) ?_
      rotate_left
      · (intro w hSw; (try dsimp only at hSw); go_simp) <;> with_reducible rfl
      try simp only [Act.put, List.setIfInBounds_toArray, List.set_cons_zero, List.set_cons_succ]
      refine takeD (i := 11) (d := some 10) (v := ?_) _ rfl rfl (by kernel_rfl) (by kernel_rfl) (by kernel_rfl) (fun _ _ _ h => h) (by rfl) ?_ (by assumption) ?_
      rotate_left
      · (intro w hSw; (try dsimp only at hSw); go_simp) <;> with_reducible rfl
      try simp only [Act.put, List.setIfInBounds_toArray, List.set_cons_zero, List.set_cons_succ]
      refine wpAnyH_done (by kernel_rfl) ?_ _
      clear hHeld
      have HB2 : Hid (Below w.heap.size w W2) := HB.out.trans (BW2.out.mono HB.out.size)
      have HRB2 := Lib.hid (HRB.out.below BW2.out)
      have HMM2 := Lib.hid (HMM.out.below BW2.out)
      obtain ⟨i1, hi1⟩ := after_step r μ HRR.out (by have := HI.out; omega)
      have hlx := stV1_ok HRR.out HMM.out.u32
      have hcs := step_any (domMem gm (.iface 31 (.pointer (some ⟨gm, 0, none⟩)))) (scMem gm (.iface 31 (.pointer (some ⟨gm, 0, none⟩)))) r μ W2 (fun b => b = g3) HRR.out (ok_any _ _) HMM2.out (fun b hb => by rw [hb]; exact HRB2.out.lt) (HLD.out.below HB2.out) (fun b hb => by rw [hb]; exact HMM2.out.lt) (by have := HGM.out; omega)
      have herr := stV1_err r μ
      have hts := stV1_t r μ
      obtain ⟨Y, hY⟩ : ∃ Y, stV1 r μ = Y := ⟨_, rfl⟩
      rw [hY] at hi1 hlx hcs herr hts
      clear hY
      obtain ⟨xr, xt, xc, xe, xμ⟩ := Y
      unfold SR.val at hcs
      dsimp only at hi1 hlx hcs herr hts
      have CS := Lib.hid hcs
      have HAF := Lib.hid hi1
      have HLX := Lib.hid hlx
      have HER := Lib.hid herr
      have HTS := Lib.hid hts
      have HXL := Lib.hid hlx.len
      clear hi1 hlx hcs herr hts HMM HRB BW2 MC RDW
      go_wp2_with (refine wpList_load_regs rfl _ rfl rfl HRB2.out HLR.out ?_)
      refine CS.out.mono ?_
      rintro e V7 ⟨rfl, hm7, hps⟩
      have HB7 : Hid (Below w.heap.size w V7) := HB2.out.trans (hps.below (fun q hq => by have := HGM.out; rw [hq]; omega) HB2.out.size)
      have HR7 : Hid (RB V7 g3 r [] 28) := HRB2.out.keep (hps.block g3 HRB2.out.lt (fun h => by have := HGM.out; omega))
      have HM7 := Lib.hid hm7
      have HW7 : Hid (SlW V7 (.slice ra L rc) μW (fun b => b = gm)) := HWAS.out.keep hps.size (fun b hb hn => hps.block b hb hn) (fun _ _ h => h)
      clear hm7 hps CS HRB2 HMM2 HB2 HWAS
      obtain ⟨Va, hVa⟩ : ∃ V, V7.alloc (.cells #[.int .u32 0, .int .u32 0, .int .u32 0, .int .u32 0, .int .u32 0, .int .u32 0, .int .u32 0, .int .u32 0, .int .u32 0, .int .u32 0, .int .u32 0, .int .u32 0, .int .u32 0, .int .u32 0, .int .u32 0, .int .u32 0, .int .u32 0, .int .u32 0, .int .u32 0, .int .u32 0, .int .u32 0, .int .u32 0, .int .i64 0, .int .u32 0, .int .u32 0, .int .i64 0, .int .u32 0, .int .u32 0, .int .i64 0, .int .u32 0, .int .u32 0, .int .i64 0, .int .u32 0, .int .u32 0, .int .i64 0, .int .u32 0, .int .u32 0, .int .i64 0, .int .u32 0, .int .u32 0, .int .i64 0, .int .u32 0, .int .u32 0, .int .i64 0, .int .i64 0] 28) = V := ⟨_, rfl⟩
      obtain ⟨p1, hp⟩ : ∃ p, V7.heap.size = p := ⟨_, rfl⟩
      have z : RB Va p1 R0 [] 28 := by rw [← hVa, ← hp]; exact RB.zero _ _
      have b : Below V7.heap.size V7 Va := by rw [← hVa]; exact (Below.refl _ _).alloc (Nat.le_refl _) _
      obtain ⟨Vb, hVb⟩ : ∃ V, Va.alloc (.cells #[.int .i64 0, .int .i64 0, .int .i64 0] 35) = V := ⟨_, rfl⟩
      obtain ⟨q1, hq⟩ : ∃ p, Va.heap.size = p := ⟨_, rfl⟩
      have yv : Vb.heap[q1]? = some (.cells #[.int .i64 0, .int .i64 0, .int .i64 0] 35 (0, 0)) := by rw [← hVb, ← hq]; exact heap_alloc_new _ _
      have b2 : Below Va.heap.size Va Vb := by rw [← hVb]; exact (Below.refl _ _).alloc (Nat.le_refl _) _
      have z2 := z.below b2
      have bb : Below V7.heap.size V7 Vb := b.trans (b2.mono b.size)
      obtain ⟨Vc, hVc⟩ : ∃ V, Vb.setCells p1 0 (cells (xr)) = V := ⟨_, rfl⟩
      have p3 : Past p1 Vb Vc := by rw [← hVc]; exact past_setCells _ _ _ _
      have hlt' : p1 < q1 := by rw [← hq]; exact z.lt
      have hwp : V7.heap.size ≤ p1 := by rw [← hp]; exact Nat.le_refl _
      have z3 : RB Vc p1 (xr) [] 28 := by rw [← hVc]; exact z2.store _ (by rw [r0_len]; exact HXL.out)
      have y3 := (p3.block q1 (Array.getElem?_eq_some_iff.1 yv).1 (by omega)).trans yv
      have e0 := (row_cell y3 0).1
      have e1 := (row_cell y3 1).1
      have e2 := (row_cell y3 2).1
      have e3 := (row_cell y3 0).2
      have e4 := (row_cell y3 1).2
      have e5 := (row_cell y3 2).2
      simp at e0 e1 e2
      have p4 := set3_past (Past.refl q1 Vc) (.int .i64 xt) (.int .i64 (xc)) (.int .i64 (xe))
      have y4 := set3_heap y3 (.int .i64 xt) (.int .i64 (xc)) (.int .i64 (xe))
      have z4 := z3.keep (p4.block p1 z3.lt (by omega))
      have bc := bb.trans ((p3.below hwp bb.size).trans (p4.below (by omega) (by have := bb.size; have := p3.size; omega)))
      have Z2 := Lib.hid z2
      have E3 := Lib.hid hVc
      have HY1 := Lib.hid y4
      have HZ1 := Lib.hid z4
      have HW1 := Lib.hid bc
      have HPQ1 : Hid (V7.heap.size ≤ p1) := hwp
      clear z b yv b2 z2 bb p3 hlt' hwp z3 y3 p4 y4 z4 bc hVc
      go_upto_region 8 with (refine wpList_store_regs rfl _ _ rfl rfl rfl Z2.out r0_len HXL.out ?_; rw [E3.out]; dsimp only [Act.put])
      clear hVa hVb hp hq e0 e1 e2 e3 e4 e5 Z2 E3
      generalize ((Vc.setCell ⟨q1, 0, none⟩ (.int .i64 xt)).setCell ⟨q1, 1, none⟩ (.int .i64 (xc))).setCell ⟨q1, 2, none⟩ (.int .i64 (xe)) = W1 at HY1 HZ1 HW1 ⊢
      have HR8 := Lib.hid (HR7.out.below HW1.out)
      have HM8 := Lib.hid (HM7.out.below HW1.out)
      have HB8 : Hid (Below w.heap.size w W1) := HB7.out.trans (HW1.out.mono HB7.out.size)
      have HW8 := Lib.hid (HW7.out.keep HW1.out.size (fun b hb _ => HW1.out.block b hb) (fun _ _ h => h))
      clear HR7 HM7 HB7 HW1 HPQ1 HW7
      obtain ⟨v3, _, hb3, _, hs3⟩ := HM8.out.ex
      obtain ⟨A3, cp3, rfl, hc3⟩ := hs3.ex
      have n0 := (row_cell hb3 0).1
      have n1 := (row_cell hb3 1).1
      have n2 := (row_cell hb3 2).1
      simp at n0 n1 n2
      have hxl : xμ.W.length = L := by rw [HAF.out.len, HMU.out.1, HLW.out]
      rw [hxl] at n0 hc3
      rw [HAF.out.code'] at n1
      have NC := Lib.hid (And.intro n0 (And.intro n1 n2))
      obtain ⟨A2, c2, hse, hcw⟩ := HW8.out.ex
      have hra : ra = A2 := by injection hse
      subst hra
      have HC2 := Lib.hid hcw
      have HC3 := Lib.hid hc3
      clear hb3 hs3 hc3 n0 n1 n2 hxl hse hcw HW8
      go_wp2_with fail
      obtain ⟨wo, hwo⟩ : ∃ wo, wo = wr := ⟨_, rfl⟩
      subst hwo
      go_loopw [13, 14] (fun v13 v14 wr => CntR W1 L i1 v13 v14 wr) (fun _ v14 => fun _ => L - (intOf v14).toNat)
      case atStart => exact ⟨⟨0, 0, rfl, rfl, Nat.zero_le _, by decide, fun h => by omega, Below.refl _ _⟩⟩
      case round =>
        obtain ⟨⟨ch, k, rfl, rfl, hkL, hch, hci, hbw⟩⟩ := hrel
        have HK : Hid (k ≤ L ∧ ch ≤ 1 ∧ (ch = 1 → i1 < k)) := ⟨hkL, hch, hci⟩
        have HBW := Lib.hid hbw
        clear hkL hch hci hbw
        have n0 := cell_later HBW.out NC.out.1
        have n1 := cell_later HBW.out NC.out.2.1
        have n2 := cell_later HBW.out NC.out.2.2
        by_cases hkl : k < L
        · have hkI : (k : Int) < (L : Int) := by omega
          have HKX : Hid (k < L) := hkl
          obtain ⟨rb, off, rfl, _, _, hd⟩ := HC2.out (by rw [HLW.out]; omega)
          obtain ⟨rb', off', rfl, _, _, hd'⟩ := HC3.out (by omega)
          have hxx := hd k (by rw [HLW.out]; exact hkl)
          have hyy := hd' k hkl
          obtain ⟨x, hx⟩ : ∃ x, μW.getD k 0 = x := ⟨_, rfl⟩
          obtain ⟨y, hy⟩ : ∃ y, xμ.W.getD k 0 = y := ⟨_, rfl⟩
          rw [hx] at hxx
          rw [hy] at hyy
          have d0 := cell_later HBW.out hxx
          have d1 := cell_later HBW.out hyy
          have HXY : Hid (k ≠ i1 → y = x) := fun h => by rw [← hx, ← hy, HAF.out.same k h, HMU.out.1]
          have hk1 : wrap64 ((k : Int) + 1) = (k : Int) + 1 := IntWalk.wrap64_in _ (by have := HLL.out; omega)
          clear hd hd' hxx hyy hx hy hkl
          go_upto_region 12 with (fail)
          go_quiet (fail)
          have HBN : Hid (Below W1.heap.size W1 (wr.drewN nq)) := below_drewN HBW.out _
          have n1' : (wr.drewN nq).cell? ⟨gm, 1, none⟩ = some (.int .i64 (μ.code : Int)) := n1
          clear n0 n1 n2 d0 d1
          generalize wr.drewN nq = Wn at HBN n1' ⊢
          by_cases hxy : x = y
          · subst hxy
            clear n1'
            go_wp2_with fail
            go_roundw
            case rel =>
              have Q : CntR W1 L i1 (.int .i64 (ch : Int)) (.int .i64 ((k : Int) + 1)) Wn := ⟨⟨ch, k + 1, rfl, by go_num, HKX.out, HK.out.2.1, fun h => by have := HK.out.2.2 h; omega, HBN.out⟩⟩
              first | exact Q | (rw [hk1]; exact Q) | (simp only [hk1]; exact Q)
            case measure =>
              have := HKX.out
              try rw [hk1]
              show L - ((k : Int) + 1).toNat < L - (k : Int).toNat
              clear hk1
              omega
          · have hki : k = i1 := Decidable.byContradiction fun h => hxy (HXY.out h).symm
            have hc0 : ch = 0 := by have := HK.out; omega
            have hne : (x != y) = true := by simpa using hxy
            have hkc : decide ((k : Int) < (μ.code : Int)) = false := by have := HAF.out.code; simp; omega
            have hkn : decide (k < μ.code) = false := by have := HAF.out.code; simp; omega
            subst hc0
            have HKI := Lib.hid hki
            clear hxy hki
            go_wp2_with fail
            go_roundw
            case rel =>
              have Q : CntR W1 L i1 (.int .i64 1) (.int .i64 ((k : Int) + 1)) Wn := ⟨⟨1, k + 1, rfl, by go_num, HKX.out, Nat.le_refl _, fun _ => by have := HKI.out; omega, HBN.out⟩⟩
              first | exact Q | (rw [hk1]; exact Q) | (simp only [hk1]; exact Q)
            case measure =>
              have := HKX.out
              try rw [hk1]
              show L - ((k : Int) + 1).toNat < L - (k : Int).toNat
              clear hk1
              omega
        · have hkn : k = L := by have := HK.out; omega
          clear hkl
          subst hkn
          have hyw := heap_keep HBW.out HY1.out
          have a0 := (row_cell hyw 0).1
          have a1 := (row_cell hyw 1).1
          have a2 := (row_cell hyw 2).1
          simp at a0 a1 a2
          have HZW := Lib.hid (HZ1.out.below HBW.out)
          have HRW := Lib.hid (HR8.out.below HBW.out)
          have HMW := Lib.hid (HM8.out.below HBW.out)
          have HBB : Hid (Below w.heap.size w wr) := HB8.out.trans (HBW.out.mono HB8.out.size)
          obtain ⟨sx, hsx⟩ : ∃ sx, xμ.st = sx := ⟨_, rfl⟩
          rw [hsx] at n2
          have HSX : Hid (xμ.st = sx ∧ (sx = st ∨ sx = st + 1)) := ⟨hsx, by have := HAF.out.st; rw [HMU.out.2, hsx] at this; exact this⟩
          have hst0 : 0 ≤ st ∧ st ≤ (i : Int) := by have := HI.out; rw [HMU.out.2] at this; exact ⟨this.2.1, this.2.2⟩
          have HST0 := Lib.hid hst0
          obtain ⟨dd, hdd⟩ : ∃ dd, sx - st = dd := ⟨_, rfl⟩
          have hd1 : decide (1 < dd) = false := by have := HSX.out.2; simp; omega
          have hwd : wrap64 (sx - st) = dd := by rw [hdd]; exact IntWalk.wrap64_in _ (by have := HSX.out.2; omega)
          have hch1 : decide ((1 : Int) < (ch : Int)) = false := by have := HK.out; simp; omega
          have hch2 : decide (1 < ch) = false := by have := HK.out; simp; omega
          have ht1 : decide (xt < 1) = false := by have := HTS.out; simp; omega
          clear hyw hsx hdd hst0 HY1 HZ1 HR8 HM8 HB8
          by_cases hxe : xe = 0
          · have hwk : wrap64 ((i : Int) + 1) = (i : Int) + 1 := IntWalk.wrap64_in _ (by have := HIX.out; omega)
            have HXE := Lib.hid hxe
            rw [hxe] at a2
            clear hxe
            go_upto_region 19 with (fail)
            clear a0 a1 a2 n0 n1 n2 hd1 hwd hch1 hch2 ht1
            obtain ⟨W9, hW9⟩ : ∃ V, wr.setCells g3 0 (cells xr) = V := ⟨_, rfl⟩
            have HP9 : Hid (Past g3 wr W9) := by rw [← hW9]; exact past_setCells _ _ _ _
            have HR9 : Hid (RB W9 g3 xr [] 28) := by rw [← hW9]; exact HRW.out.store _ (by rw [HXL.out, HLR.out])
            have E9 := Lib.hid hW9
            clear hW9
            go_upto_region 5 with (first | (refine wpList_load_regs rfl _ rfl rfl HZW.out HXL.out ?_) | (refine wpList_store_regs rfl _ _ rfl rfl rfl HRW.out HLR.out HXL.out ?_; dsimp only [Act.put]))
            rw [E9.out]
            go_wp2_with fail
            go_roundw
            case rel =>
              have Q : StoR w g3 gm (.int .i64 ((i : Int) + 1)) W9 :=
                ⟨⟨i + 1, xr, xμ, by go_num, by have := HIX.out; omega, by have := HSX.out; have := HST0.out; omega, by have := HSX.out; have := HST0.out; omega, HLX.out, HR9.out, HMW.out.past HP9.out rfl, HBB.out.trans (HP9.out.below (by rw [HG3.out]; exact Nat.le_refl _) HBB.out.size)⟩⟩
              first | exact Q | (rw [hwk]; exact Q) | (simp only [hwk]; exact Q)
            case measure =>
              have := HIX.out
              try rw [hwk]
              show 60 - ((i : Int) + 1).toNat < 60 - (i : Int).toNat
              clear hwk
              omega
          · have hxn : (xe != 0) = true := by simpa using hxe
            have hxq : (xe == 0) = false := by simpa using hxe
            obtain ⟨hxr, hxc⟩ := HER.out hxe
            have hss : sx = st := by have h1 := HAF.out.err hxe; have h2 := HSX.out.1; rw [h1, HMU.out.2] at h2; exact h2.symm
            rw [hss] at n2
            rw [hxc] at a1
            have HZ' : Hid (RB wr p1 r [] 28) := by have := HZW.out; rw [hxr] at this; exact this
            have HEQ : Hid ((!decide (r = r)) = false) := by unfold Hid; rw [decide_eq_true rfl]; rfl
            have hwd' : wrap64 (st - st) = dd := by rw [← hwd, hss]
            have hd0 : dd = 0 := by have := HST0.out; rw [← hwd', IntWalk.wrap64_in _ (by omega)]; omega
            have hw0 : wrap64 (st - st) = 0 := by rw [hwd']; exact hd0
            clear hxe hxr hxc hss hwd hwd' hd0 hd1 HZW
            go_upto_region 20 with (first | ((with_reducible refine wpList_loadg (.tmp 11) ?_ ?_ ?_ HZ'.out HLR.out ?_); rfl; rfl; rfl) | ((with_reducible refine wpList_loadg (.tmp 3) ?_ ?_ ?_ HRW.out HLR.out ?_); rfl; rfl; rfl) | ((with_reducible refine wpList_neqg (.tmp 109) (.tmp 110) 28 ?_ ?_ ?_ ?_ HLR.out HLR.out HEQ.out ?_); rfl; rfl; rfl; rfl))
            clear a0 a1 a2 n0 n1 n2 hch1 hch2 ht1 hw0
            go_wp2_with fail
            refine (known_any wr (HLD.out.below HBB.out)).mono ?_
            rintro e V9 ⟨rfl, b⟩
            have HB9 : Hid (Below w.heap.size w V9) := HBB.out.trans (b.mono HBB.out.size)
            clear b
            go_wp2_with fail
            go_ret
            exact ⟨rfl, HB9.out⟩
    · have hi60 : i = 60 := by have := HI.out; omega
      clear hlt
      subst hi60
      go_wp2_with fail
      refine (known_any wr (HLD.out.below HB.out)).mono ?_
      rintro e V9 ⟨rfl, b⟩
      have HB9 : Hid (Below w.heap.size w V9) := HB.out.trans (b.mono HB.out.size)
      clear b
      go_wp2_with fail
      go_ret
      exact ⟨rfl, HB9.out⟩
theorem stores_walk (r : List Int) (a a' : Option Addr) (len cap len' cap' : Nat) (zs zs' : List Int) (w : World) (hr : RegOk r) (h : IsRow .u32 w a len cap zs) (h' : IsRow .u32 w a' len' cap' zs') (hL : Laid w) :
    Calls Tryd.prog 4 #[.agg (cells r).toArray, .slice a len cap, .slice a' len' cap'] w fun e w' => e = .returned (.bool true) ∧ Below w.heap.size w w' :=
  stores_core r a a' len len' cap cap' zs zs' w hr (words_at h) (words_at h') (row_cap h) (row_cap h') hL
end Go.Proofs.YthmalhakkdjilaaDoor
