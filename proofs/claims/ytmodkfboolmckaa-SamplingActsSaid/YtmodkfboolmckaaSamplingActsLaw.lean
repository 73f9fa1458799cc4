/-
  SamplingActs's walk. Each statement bears its own conditions.
-/
import Derived.Test.YtmodkfboolmckaaSaU
namespace Go.Proofs.Ytmodkfboolmckaa.Sa
open Go.RowKit Go.Proofs.Ytmodkfboolmckaa.F Go.Proofs.Ytmodkfboolmckaa.U
set_option linter.unusedVariables false
set_option linter.unusedSimpArgs false
structure AR (lo bw g len : Nat) (n k : Int) (w : World) (iv : Value) (wr : World) : Prop where
  ex : ∃ (j : Nat) (p : Nat → Prop) (has : Bool) (M : List Int) (st : Int) (Am : Option Addr) (cm : Nat), j ≤ len ∧ iv = .int .i64 (j : Int) ∧ PS lo bw wr p g n k has M st Am cm ∧ Below lo w wr
set_option maxRecDepth 100000 in
set_option maxHeartbeats 16000000 in
theorem acts_walk (a0 a1 : Int) (a : Option Addr) (len cap : Nat) (m1 : List AC) (w : World) (h0 : Row w 3 (RA w) (.slice a len cap) m1) : Calls Try.prog 3 #[.int .i64 a0, .int .i64 a1, .slice a len cap] w fun e w' => e = .returned (.bool true) ∧ Below w.heap.size w w' := by
  have HR := Lib.hid h0
  have he := he_sa
  obtain ⟨lo, hlo⟩ : ∃ lo, w.heap.size = lo := ⟨_, rfl⟩
  have HLO : Hid (lo ≤ w.heap.size ∧ w.heap.size ≤ lo) := by unfold Hid; omega
  rw [hlo]
  clear h0
  go_enter Try.func3, Try.ntmps3
  go_wp2_with fail
  refine (begin_any a0 a1 w).mono ?_
  rintro e w1 ⟨n, k, g, hn, hk, rfl, q1, b1⟩
  have HNK : Hid (n = 1 + (IntKind.u64.wrap a0).tmod 32 ∧ k = (IntKind.u64.wrap a1).tmod 1048577) := ⟨hn, hk⟩
  clear hn hk
  rw [hlo] at q1 b1
  obtain ⟨bw, hbw⟩ : ∃ bw, w1.heap.size = bw := ⟨_, rfl⟩
  have hx : Below w1.heap.size w1 (w1.alloc (.cells #[.int .i64 n, .int .i64 k, .bool false, .slice none 0 0, .int .i64 0] 26)) := (Below.refl _ _).alloc (Nat.le_refl _) _
  have P2 : Hid (PS lo bw (w1.alloc (.cells #[.int .i64 n, .int .i64 k, .bool false, .slice none 0 0, .int .i64 0] 26)) (fun b => b = g) g n k false [] 0 none 0) :=
    ⟨q1.below hx, by rw [← hbw]; exact heap_alloc_new w1 _, Sq.nil _ _, fun e => by have := q1.lt; have e : bw = g := e; omega, by have := q1.nil; omega⟩
  have B2 : Hid (Below lo w (w1.alloc (.cells #[.int .i64 n, .int .i64 k, .bool false, .slice none 0 0, .int .i64 0] 26))) := b1.trans (hx.mono q1.nil)
  clear q1 b1 hx
  go_wp2_with fail
  try simp only [hbw]
  refine (told_any _).mono ?_
  rintro e w3 ⟨rfl, b3⟩
  have P3 := Lib.hid (P2.out.below b3)
  have B3 : Hid (Below lo w w3) := B2.out.trans (b3.mono P2.out.pv.nil)
  clear b3 P2 B2 hbw
  go_wp2_with fail
  go_loopw [9] (fun iv wr => AR lo bw g len n k w iv wr) (fun i _ => len - (intOf i).toNat)
  case atStart => exact ⟨⟨0, _, false, [], 0, none, 0, Nat.zero_le _, rfl, P3.out, B3.out⟩⟩
  case round =>
    obtain ⟨⟨j, p, has, M, st, Am, cm, hj, rfl, hps, hb⟩⟩ := hrel
    have HB := Lib.hid hb
    have HP := Lib.hid hps
    clear hb hps
    by_cases hlt : j < len
    rotate_left
    · have hjI : ¬ (j : Int) < (len : Int) := by omega
      have hjb : decide ((j : Int) < (len : Int)) = false := by simpa using hjI
      have HX : Hid (¬ j < len) := hlt
      clear hlt hj
      go_wp2_with fail
      go_ret
      exact ⟨rfl, HB.out⟩
    by_cases hcap : j < 100
    rotate_left
    · have hjI : (j : Int) < (len : Int) := by omega
      have hjb : decide ((j : Int) < (len : Int)) = true := by simpa using hjI
      have hcI : ¬ (j : Int) < 100 := by omega
      have hcb : decide ((j : Int) < 100) = false := by simpa using hcI
      have HX : Hid (¬ j < 100) := hcap
      clear hlt hj hcap
      go_wp2_with fail
      go_ret
      exact ⟨rfl, HB.out⟩
    have hjI : (j : Int) < (len : Int) := by omega
    have hjb : decide ((j : Int) < (len : Int)) = true := by simpa using hjI
    have hcI : (j : Int) < 100 := by omega
    have hcb : decide ((j : Int) < 100) = true := by simpa using hcI
    have HX : Hid (j < len) := hlt
    obtain ⟨hlen, b, off, x, cs, hax, hbl, _, hRA, _, hc⟩ := HR.out.at_ j hlt
    clear hlen
    subst hax
    obtain ⟨v', rfl, hK⟩ := hRA
    have HBL : Hid (b < lo) := by have := HLO.out; unfold Hid; omega
    have e0 : wr.cell? ⟨b, off + j * 3, none⟩ = some (.int .i64 x.kd) := cell_low HB.out HBL.out (hc 0 _ rfl)
    have e1 : wr.cell? ⟨b, off + j * 3 + 1, none⟩ = some (.int .i64 x.now) := cell_low HB.out HBL.out (hc 1 _ rfl)
    have e2 : wr.cell? ⟨b, off + j * 3 + 2, none⟩ = some v' := cell_low HB.out HBL.out (hc 2 _ rfl)
    obtain ⟨Ak, ck, rfl⟩ := hK.form
    have hK2 := hK.sq.2
    obtain ⟨nk, hnk⟩ : ∃ nk, x.m.length = nk := ⟨_, rfl⟩
    rw [hnk] at e2 hK2
    have HKC : Hid (nk ≤ ck ∧ (Ak = none → ck = 0)) := hK2.2
    have HKS : Hid (Sq wr (fun b => ¬ p b) (.slice Ak nk ck) nk (CU x.m)) := (sq_low (hK2.1.imp fun b _ hb => by have := HLO.out; omega) HB.out).imp fun b _ hb hp => by have := (HP.out.pv.low b hp).1; omega
    have HPL : Hid (∀ b, wr.heap.size ≤ b → ¬ p b) := fun b hb hp => by have := (HP.out.pv.low b hp).2; omega
    clear hc hbl hlt hj hK hK2 hnk hcap
    have y0 : wr.cell? ⟨bw, 0, none⟩ = some (.int .i64 n) := by rw [(row_cell HP.out.bx 0).1]; rfl
    have y1 : wr.cell? ⟨bw, 1, none⟩ = some (.int .i64 k) := by rw [(row_cell HP.out.bx 1).1]; rfl
    have y2 : wr.cell? ⟨bw, 2, none⟩ = some (.bool has) := by rw [(row_cell HP.out.bx 2).1]; rfl
    have y3 : wr.cell? ⟨bw, 3, none⟩ = some (.slice Am M.length cm) := by rw [(row_cell HP.out.bx 3).1]; rfl
    have y4 : wr.cell? ⟨bw, 4, none⟩ = some (.int .i64 st) := by rw [(row_cell HP.out.bx 4).1]; rfl
    go_wp2_with fail
    refine wp_region_held_drew (S := (fun w' => w'.cell? ⟨bw, 0, none⟩ = some (.int .i64 n) ∧ w'.cell? ⟨bw, 1, none⟩ = some (.int .i64 k) ∧ w'.cell? ⟨bw, 2, none⟩ = some (.bool has) ∧ w'.cell? ⟨bw, 3, none⟩ = some (.slice Am M.length cm) ∧ w'.cell? ⟨bw, 4, none⟩ = some (.int .i64 st) ∧ w'.cell? ⟨b, off + j * 3, none⟩ = some (.int .i64 x.kd) ∧ w'.cell? ⟨b, off + j * 3 + 1, none⟩ = some (.int .i64 x.now) ∧ w'.cell? ⟨b, off + j * 3 + 2, none⟩ = some (.slice Ak nk ck))) (by kernel_rfl) ?_ (fun hHeld => ?_)
    · exact ⟨y0, y1, y2, y3, y4, e0, e1, e2⟩
    clear y0 y1 y2 y3 y4 e0 e1 e2
    refine takeD (i := 0) (d := some 35) (v := ?_) _ rfl rfl (by kernel_rfl) (by kernel_rfl) (by kernel_rfl) (fun _ _ _ h => h) (by rfl) ?_ (by assumption) ?_
    rotate_left
    · (intro w hSw; (try dsimp only at hSw); go_simp) <;> with_reducible rfl
    try simp only [Act.put, List.setIfInBounds_toArray, List.set_cons_zero, List.set_cons_succ]
    refine takeD (i := 1) (d := some 36) (v := ?_) _ rfl rfl (by kernel_rfl) (by kernel_rfl) (by kernel_rfl) (fun _ _ _ h => h) (by rfl) ?_ (by assumption) ?_
    rotate_left
    · (intro w hSw; (try dsimp only at hSw); go_simp) <;> with_reducible rfl
    try simp only [Act.put, List.setIfInBounds_toArray, List.set_cons_zero, List.set_cons_succ]
    refine takeD (i := 2) (d := some 37) (v := ?_) _ rfl rfl (by kernel_rfl) (by kernel_rfl) (by kernel_rfl) (fun _ _ _ h => h) (by rfl) ?_ (by assumption) ?_
    rotate_left
    · (intro w hSw; (try dsimp only at hSw); go_simp) <;> with_reducible rfl
    try simp only [Act.put, List.setIfInBounds_toArray, List.set_cons_zero, List.set_cons_succ]
    refine takeD (i := 3) (d := some 38) (v := ?_) _ rfl rfl (by kernel_rfl) (by kernel_rfl) (by kernel_rfl) (fun _ _ _ h => h) (by rfl) ?_ (by assumption) ?_
    rotate_left
    · (intro w hSw; (try dsimp only at hSw); go_simp) <;> with_reducible rfl
    try simp only [Act.put, List.setIfInBounds_toArray, List.set_cons_zero, List.set_cons_succ]
    refine takeD (i := 4) (d := some 39) (v := ?_) _ rfl rfl (by kernel_rfl) (by kernel_rfl) (by kernel_rfl) (fun _ _ _ h => h) (by rfl) ?_ (by assumption) ?_
    rotate_left
    · (intro w hSw; (try dsimp only at hSw); go_simp) <;> with_reducible rfl
    try simp only [Act.put, List.setIfInBounds_toArray, List.set_cons_zero, List.set_cons_succ]
    refine takeD (i := 5) (d := some 40) (v := ?_) _ rfl rfl (by kernel_rfl) (by kernel_rfl) (by kernel_rfl) (fun _ _ _ h => h) (by rfl) ?_ (by assumption) ?_
    rotate_left
    · (intro w hSw; (try dsimp only at hSw); go_simp) <;> with_reducible rfl
    try simp only [Act.put, List.setIfInBounds_toArray, List.set_cons_zero, List.set_cons_succ]
    obtain ⟨V, hV⟩ : ∃ V, wr.drew = V := ⟨_, rfl⟩
    have BB_V : Hid (Below wr.heap.size wr V) := by rw [← hV]; exact (Below.refl _ _).drew
    rw [hV] at hHeld
    simp only [hV]
    clear hV
    refine wpAnyH_ready (rs := [6, 10]) (by kernel_rfl) (by simp) ?_
    refine AllReadyH.cons rfl (fun K0 hK => ?_) (AllReadyH.cons rfl (fun K0 hK => ?_) (AllReadyH.nil))
    · try go_simp
      go_at_call 11
      refine (do_any lo p g n k has M st Am M.length cm Ak nk ck x.kd x.now x.m V (HP.out.pv.below BB_V.out) (HP.out.ms.belowP BB_V.out) (HKS.out.belowP BB_V.out) HKC.out.1 HKC.out.2).mono ?_
      rintro e Vb ⟨q, has', M', st', A', c', rfl, q1, s1, n1⟩
      have Q1 := Lib.hid q1
      have SS := Lib.hid s1
      have N1 := Lib.hid n1
      have NQ : Hid (∀ b, q b → p b ∨ V.heap.size ≤ b) := n1.sub
      have BX : Hid (Vb.heap[bw]? = some (.cells #[.int .i64 n, .int .i64 k, .bool has, .slice Am M.length cm, .int .i64 st] 26 (0, 0)) ∧ ¬ q bw) := ⟨(n1.fo.block bw (by have := HP.out.blt; have := BB_V.out.size; omega) HP.out.nq.1).trans ((BB_V.out.block bw HP.out.blt).trans HP.out.bx), fun hq => by (rcases NQ.out bw hq with h | h); exact HP.out.nq.1 h; have := HP.out.blt; have := BB_V.out.size; omega⟩
      have BW_Vb : Hid (Below lo w Vb) := (HB.out.trans (BB_V.out.mono HP.out.pv.nil)).trans (n1.fo.below (fun b hb => (HP.out.pv.low b hb).1) (by have := HP.out.pv.nil; have := BB_V.out.size; omega))
      try go_wp2_with fail
      refine hK.out _ _ (And.intro ((n1.fo.cell (HP.out.nq.1) hHeld.1)) (And.intro ((n1.fo.cell (HP.out.nq.1) hHeld.2.1)) (And.intro ((n1.fo.cell (HP.out.nq.1) hHeld.2.2.1)) (And.intro ((n1.fo.cell (HP.out.nq.1) hHeld.2.2.2.1)) (And.intro ((n1.fo.cell (HP.out.nq.1) hHeld.2.2.2.2.1)) (And.intro ((n1.fo.cell (fun hq => by have h1 : p b := hq; have := (HP.out.pv.low b h1).1; have := HBL.out; omega) hHeld.2.2.2.2.2.1)) (And.intro ((n1.fo.cell (fun hq => by have h1 : p b := hq; have := (HP.out.pv.low b h1).1; have := HBL.out; omega) hHeld.2.2.2.2.2.2.1)) ((n1.fo.cell (fun hq => by have h1 : p b := hq; have := (HP.out.pv.low b h1).1; have := HBL.out; omega) hHeld.2.2.2.2.2.2.2))))))))) (fun hHeld => ?_)
      clear q1 s1 n1
      clear hK K0
      try simp only [Act.put, List.getElem_toArray, List.getElem_cons_succ, List.getElem_cons_zero, List.setIfInBounds_toArray, List.set_cons_zero, List.set_cons_succ]
      refine takeD (i := 7) (d := some 34) (v := ?_) _ rfl rfl (by kernel_rfl) (by kernel_rfl) (by kernel_rfl) (fun _ _ _ h => h) (by rfl) ?_ (by assumption) ?_
      rotate_left
      · (intro w hSw; (try dsimp only at hSw); go_simp) <;> with_reducible rfl
      try simp only [Act.put, List.setIfInBounds_toArray, List.set_cons_zero, List.set_cons_succ]
      refine takeD (i := 8) (d := some 42) (v := ?_) _ rfl rfl (by kernel_rfl) (by kernel_rfl) (by kernel_rfl) (fun _ _ _ h => h) (by rfl) ?_ (by assumption) ?_
      rotate_left
      · (intro w hSw; (try dsimp only at hSw); go_simp) <;> with_reducible rfl
      try simp only [Act.put, List.setIfInBounds_toArray, List.set_cons_zero, List.set_cons_succ]
      refine takeD (i := 9) (d := some 43) (v := ?_) _ rfl rfl (by kernel_rfl) (by kernel_rfl) (by kernel_rfl) (fun _ _ _ h => h) (by rfl) ?_ (by assumption) ?_
      rotate_left
      · (intro w hSw; (try dsimp only at hSw); go_simp) <;> with_reducible rfl
      try simp only [Act.put, List.setIfInBounds_toArray, List.set_cons_zero, List.set_cons_succ]
      refine wpAnyH_ready (rs := [10]) (by kernel_rfl) (by simp) ?_
      refine AllReadyH.cons rfl (fun K0 hK => ?_) (AllReadyH.nil)
      · have hal := And.intro (cell_al (.cells #[.int .i64 0, .int .i64 0, .bool false, .slice none 0 0, .int .i64 0] 26) (hHeld.1)) (And.intro (cell_al (.cells #[.int .i64 0, .int .i64 0, .bool false, .slice none 0 0, .int .i64 0] 26) (hHeld.2.1)) (And.intro (cell_al (.cells #[.int .i64 0, .int .i64 0, .bool false, .slice none 0 0, .int .i64 0] 26) (hHeld.2.2.1)) (And.intro (cell_al (.cells #[.int .i64 0, .int .i64 0, .bool false, .slice none 0 0, .int .i64 0] 26) (hHeld.2.2.2.1)) (And.intro (cell_al (.cells #[.int .i64 0, .int .i64 0, .bool false, .slice none 0 0, .int .i64 0] 26) (hHeld.2.2.2.2.1)) (And.intro (cell_al (.cells #[.int .i64 0, .int .i64 0, .bool false, .slice none 0 0, .int .i64 0] 26) (hHeld.2.2.2.2.2.1)) (And.intro (cell_al (.cells #[.int .i64 0, .int .i64 0, .bool false, .slice none 0 0, .int .i64 0] 26) (hHeld.2.2.2.2.2.2.1)) (cell_al (.cells #[.int .i64 0, .int .i64 0, .bool false, .slice none 0 0, .int .i64 0] 26) (hHeld.2.2.2.2.2.2.2))))))))
        have hxx : Below Vb.heap.size Vb (Vb.alloc (.cells #[.int .i64 0, .int .i64 0, .bool false, .slice none 0 0, .int .i64 0] 26)) := (Below.refl _ _).alloc (Nat.le_refl _) _
        obtain ⟨Vba, h_Vba⟩ : ∃ W, Vb.alloc (.cells #[.int .i64 0, .int .i64 0, .bool false, .slice none 0 0, .int .i64 0] 26) = W := ⟨_, rfl⟩
        obtain ⟨bz, h_bz⟩ : ∃ vb, Vb.heap.size = vb := ⟨_, rfl⟩
        rw [h_Vba] at hal hxx
        have SS : Hid (Sq Vba (fun b => ¬ q b) (.slice A' M'.length c') M'.length (CU M')) := SS.out.belowP hxx
        have VV_Vba : Hid (Vba.heap[bz]? = some (.cells #[.int .i64 0, .int .i64 0, .bool false, .slice none 0 0, .int .i64 0] 26 (0, 0)) ∧ ¬ q bz ∧ wr.heap.size ≤ bz) := by unfold Hid; rw [← h_Vba, ← h_bz]; exact ⟨heap_alloc_new _ _, fun hq => by (have := (Q1.out.low _ hq).2; omega), by have := BB_V.out.size; have := N1.out.fo.size; omega⟩
        have Q1 : Hid (PV lo Vba q g n k has' M' st') := Q1.out.below hxx
        have BX : Hid (Vba.heap[bw]? = some (.cells #[.int .i64 n, .int .i64 k, .bool has, .slice Am M.length cm, .int .i64 st] 26 (0, 0)) ∧ ¬ q bw) := ⟨(hxx.block bw (Array.getElem?_eq_some_iff.1 BX.out.1).1).trans BX.out.1, BX.out.2⟩
        have BW_Vba : Hid (Below lo w Vba) := BW_Vb.out.trans (hxx.mono (by have := Q1.out.nil; have h5 := N1.out.fo.size; have h6 := HP.out.pv.nil; have h7 := BB_V.out.size; omega))
        clear hxx
        try go_simp
        try rw [h_Vba]
        try rw [h_bz]
        refine hK.out _ _ hal (fun hHeld => ?_)
        clear h_Vba h_bz hal
        clear hK K0
        try simp only [Act.put, List.getElem_toArray, List.getElem_cons_succ, List.getElem_cons_zero, List.setIfInBounds_toArray, List.set_cons_zero, List.set_cons_succ]
        have z0 : Vba.cell? ⟨bz, 0, none⟩ = some (.int .i64 0) := by rw [(row_cell VV_Vba.out.1 0).1]; rfl
        have zf0 : Vba.frozen? ⟨bz, 0, none⟩ = false := (row_cell VV_Vba.out.1 0).2
        have z1 : Vba.cell? ⟨bz, 1, none⟩ = some (.int .i64 0) := by rw [(row_cell VV_Vba.out.1 1).1]; rfl
        have zf1 : Vba.frozen? ⟨bz, 1, none⟩ = false := (row_cell VV_Vba.out.1 1).2
        have z2 : Vba.cell? ⟨bz, 2, none⟩ = some (.bool false) := by rw [(row_cell VV_Vba.out.1 2).1]; rfl
        have zf2 : Vba.frozen? ⟨bz, 2, none⟩ = false := (row_cell VV_Vba.out.1 2).2
        have z3 : Vba.cell? ⟨bz, 3, none⟩ = some (.slice none 0 0) := by rw [(row_cell VV_Vba.out.1 3).1]; rfl
        have zf3 : Vba.frozen? ⟨bz, 3, none⟩ = false := (row_cell VV_Vba.out.1 3).2
        have z4 : Vba.cell? ⟨bz, 4, none⟩ = some (.int .i64 0) := by rw [(row_cell VV_Vba.out.1 4).1]; rfl
        have zf4 : Vba.frozen? ⟨bz, 4, none⟩ = false := (row_cell VV_Vba.out.1 4).2
        have hpb := put_box Q1.out VV_Vba.out.1 (box_no _ _ _ _ _ _ _) SS.out VV_Vba.out.2.1
        have hbz : bw ≠ bz := by have h1 := HP.out.blt; have h2 := VV_Vba.out.2.2; omega
        have hx2 := And.intro ((hpb.2.2.2.cell (fun h7 => hbz h7) hHeld.1)) (And.intro ((hpb.2.2.2.cell (fun h7 => hbz h7) hHeld.2.1)) (And.intro ((hpb.2.2.2.cell (fun h7 => hbz h7) hHeld.2.2.1)) (And.intro ((hpb.2.2.2.cell (fun h7 => hbz h7) hHeld.2.2.2.1)) (And.intro ((hpb.2.2.2.cell (fun h7 => hbz h7) hHeld.2.2.2.2.1)) (And.intro ((hpb.2.2.2.cell (fun h7 => by have h8 : b = bz := h7; have := HBL.out; have h1 := HP.out.pv.nil; have h2 := VV_Vba.out.2.2; omega) hHeld.2.2.2.2.2.1)) (And.intro ((hpb.2.2.2.cell (fun h7 => by have h8 : b = bz := h7; have := HBL.out; have h1 := HP.out.pv.nil; have h2 := VV_Vba.out.2.2; omega) hHeld.2.2.2.2.2.2.1)) ((hpb.2.2.2.cell (fun h7 => by have h8 : b = bz := h7; have := HBL.out; have h1 := HP.out.pv.nil; have h2 := VV_Vba.out.2.2; omega) hHeld.2.2.2.2.2.2.2))))))))
        have BW2 : Hid (Below lo w (((((Vba.setCell ⟨bz, 0, none⟩ (.int .i64 n)).setCell ⟨bz, 1, none⟩ (.int .i64 k)).setCell ⟨bz, 2, none⟩ (.bool has')).setCell ⟨bz, 3, none⟩ (.slice A' M'.length c')).setCell ⟨bz, 4, none⟩ (.int .i64 st'))) := BW_Vba.out.trans (hpb.2.2.2.below (fun b hb => by have h1 := HP.out.pv.nil; have h2 := VV_Vba.out.2.2; omega) (by have := Q1.out.nil; omega))
        have hbx2 := (hpb.2.2.2.block bw (Array.getElem?_eq_some_iff.1 BX.out.1).1 (fun h7 => hbz h7)).trans BX.out.1
        have HPB := Lib.hid hpb
        have HBX2 := Lib.hid hbx2
        clear hpb hbx2
        refine wpAnyH_ready (rs := [11]) (by kernel_rfl) (by simp) ?_
        refine AllReadyH.cons rfl (fun K0 hK => ?_) AllReadyH.nil
        try go_simp
        refine hK.out _ _ hx2 (fun hHeld => ?_)
        clear hK K0
        try simp only [Act.put, List.getElem_toArray, List.getElem_cons_succ, List.getElem_cons_zero, List.setIfInBounds_toArray, List.set_cons_zero, List.set_cons_succ]
        refine takeD (i := 12) (d := some 11) (v := ?_) _ rfl rfl (by kernel_rfl) (by kernel_rfl) (by kernel_rfl) (fun _ _ _ h => h) (by rfl) ?_ (by assumption) ?_
        rotate_left
        · (intro w hSw; (try dsimp only at hSw); go_simp) <;> with_reducible rfl
        try simp only [Act.put, List.setIfInBounds_toArray, List.set_cons_zero, List.set_cons_succ]
        refine wpAnyH_done (by kernel_rfl) ?_ _
        clear hHeld hx2 z0 z1 z2 z3 z4 zf0 zf1 zf2 zf3 zf4
        obtain ⟨Y2, hY2⟩ : ∃ Y2, (((((Vba.setCell ⟨bz, 0, none⟩ (.int .i64 n)).setCell ⟨bz, 1, none⟩ (.int .i64 k)).setCell ⟨bz, 2, none⟩ (.bool has')).setCell ⟨bz, 3, none⟩ (.slice A' M'.length c')).setCell ⟨bz, 4, none⟩ (.int .i64 st')) = Y2 := ⟨_, rfl⟩
        rw [hY2] at BW2 HPB HBX2
        rw [hY2]
        clear hY2
        have r0 : Y2.cell? ⟨bz, 0, none⟩ = some (.int .i64 n) := by rw [(row_cell HPB.out.2.2.1 0).1]; rfl
        have r1 : Y2.cell? ⟨bz, 1, none⟩ = some (.int .i64 k) := by rw [(row_cell HPB.out.2.2.1 1).1]; rfl
        have r2 : Y2.cell? ⟨bz, 2, none⟩ = some (.bool has') := by rw [(row_cell HPB.out.2.2.1 2).1]; rfl
        have r3 : Y2.cell? ⟨bz, 3, none⟩ = some (.slice A' M'.length c') := by rw [(row_cell HPB.out.2.2.1 3).1]; rfl
        have r4 : Y2.cell? ⟨bz, 4, none⟩ = some (.int .i64 st') := by rw [(row_cell HPB.out.2.2.1 4).1]; rfl
        have y0 : Y2.cell? ⟨bw, 0, none⟩ = some (.int .i64 n) := by rw [(row_cell HBX2.out 0).1]; rfl
        have yf0 : Y2.frozen? ⟨bw, 0, none⟩ = false := (row_cell HBX2.out 0).2
        have y1 : Y2.cell? ⟨bw, 1, none⟩ = some (.int .i64 k) := by rw [(row_cell HBX2.out 1).1]; rfl
        have yf1 : Y2.frozen? ⟨bw, 1, none⟩ = false := (row_cell HBX2.out 1).2
        have y2 : Y2.cell? ⟨bw, 2, none⟩ = some (.bool has) := by rw [(row_cell HBX2.out 2).1]; rfl
        have yf2 : Y2.frozen? ⟨bw, 2, none⟩ = false := (row_cell HBX2.out 2).2
        have y3 : Y2.cell? ⟨bw, 3, none⟩ = some (.slice Am M.length cm) := by rw [(row_cell HBX2.out 3).1]; rfl
        have yf3 : Y2.frozen? ⟨bw, 3, none⟩ = false := (row_cell HBX2.out 3).2
        have y4 : Y2.cell? ⟨bw, 4, none⟩ = some (.int .i64 st) := by rw [(row_cell HBX2.out 4).1]; rfl
        have yf4 : Y2.frozen? ⟨bw, 4, none⟩ = false := (row_cell HBX2.out 4).2
        have PP := PS.put HPB.out.1 HBX2.out (box_no _ _ _ _ _ _ _) HPB.out.2.1 ⟨BX.out.2, HP.out.nq.2⟩
        have P3 := Lib.hid PP.1
        have B3 : Hid (Below lo w _) := BW2.out.trans PP.2.1
        clear PP
        go_wp2_with fail
        refine (stamped_any lo q g n k has' M' st' A' M'.length c' _ P3.out.pv).mono ?_
        rintro e w9 ⟨rfl, b9⟩
        have P9 := Lib.hid (P3.out.below b9)
        have B9 : Hid (Below lo w w9) := B3.out.trans (b9.mono P3.out.pv.nil)
        clear b9 P3 B3
        go_wp2_with fail
        go_roundw
        case rel =>
          have Q : AR lo bw g len n k w (.int .i64 ((j : Int) + 1)) w9 := ⟨⟨j + 1, q, has', M', st', A', c', HX.out, by go_num, P9.out, B9.out⟩⟩
          first | exact Q | ((repeat apply Exists.intro); exact ⟨Q, rfl⟩)
        case measure => have := HX.out; simp [intOf]; omega
    · have hal := And.intro (cell_al (.cells #[.int .i64 0, .int .i64 0, .bool false, .slice none 0 0, .int .i64 0] 26) (hHeld.1)) (And.intro (cell_al (.cells #[.int .i64 0, .int .i64 0, .bool false, .slice none 0 0, .int .i64 0] 26) (hHeld.2.1)) (And.intro (cell_al (.cells #[.int .i64 0, .int .i64 0, .bool false, .slice none 0 0, .int .i64 0] 26) (hHeld.2.2.1)) (And.intro (cell_al (.cells #[.int .i64 0, .int .i64 0, .bool false, .slice none 0 0, .int .i64 0] 26) (hHeld.2.2.2.1)) (And.intro (cell_al (.cells #[.int .i64 0, .int .i64 0, .bool false, .slice none 0 0, .int .i64 0] 26) (hHeld.2.2.2.2.1)) (And.intro (cell_al (.cells #[.int .i64 0, .int .i64 0, .bool false, .slice none 0 0, .int .i64 0] 26) (hHeld.2.2.2.2.2.1)) (And.intro (cell_al (.cells #[.int .i64 0, .int .i64 0, .bool false, .slice none 0 0, .int .i64 0] 26) (hHeld.2.2.2.2.2.2.1)) (cell_al (.cells #[.int .i64 0, .int .i64 0, .bool false, .slice none 0 0, .int .i64 0] 26) (hHeld.2.2.2.2.2.2.2))))))))
      obtain ⟨Va, h_Va⟩ : ∃ W, V.alloc (.cells #[.int .i64 0, .int .i64 0, .bool false, .slice none 0 0, .int .i64 0] 26) = W := ⟨_, rfl⟩
      obtain ⟨bz, h_bz⟩ : ∃ vb, V.heap.size = vb := ⟨_, rfl⟩
      rw [h_Va] at hal
      have BB_Va : Hid (Below wr.heap.size wr Va) := by unfold Hid; rw [← h_Va]; exact BB_V.out.alloc BB_V.out.size _
      have VV_Va : Hid (Va.heap[bz]? = some (.cells #[.int .i64 0, .int .i64 0, .bool false, .slice none 0 0, .int .i64 0] 26 (0, 0)) ∧ wr.heap.size ≤ bz) := by unfold Hid; rw [← h_Va, ← h_bz]; exact ⟨heap_alloc_new _ _, BB_V.out.size⟩
      try go_simp
      try rw [h_Va]
      try rw [h_bz]
      refine hK.out _ _ hal (fun hHeld => ?_)
      clear h_Va h_bz hal
      clear hK K0
      try simp only [Act.put, List.getElem_toArray, List.getElem_cons_succ, List.getElem_cons_zero, List.setIfInBounds_toArray, List.set_cons_zero, List.set_cons_succ]
      refine wpAnyH_ready (rs := [6]) (by kernel_rfl) (by simp) ?_
      refine AllReadyH.cons rfl (fun K0 hK => ?_) (AllReadyH.nil)
      · try go_simp
        go_at_call 11
        refine (do_any lo p g n k has M st Am M.length cm Ak nk ck x.kd x.now x.m Va (HP.out.pv.below BB_Va.out) (HP.out.ms.belowP BB_Va.out) (HKS.out.belowP BB_Va.out) HKC.out.1 HKC.out.2).mono ?_
        rintro e Vab ⟨q, has', M', st', A', c', rfl, q1, s1, n1⟩
        have Q1 := Lib.hid q1
        have SS := Lib.hid s1
        have N1 := Lib.hid n1
        have NQ : Hid (∀ b, q b → p b ∨ Va.heap.size ≤ b) := n1.sub
        have VV_Vab : Hid (Vab.heap[bz]? = some (.cells #[.int .i64 0, .int .i64 0, .bool false, .slice none 0 0, .int .i64 0] 26 (0, 0)) ∧ ¬ q bz ∧ wr.heap.size ≤ bz) := ⟨(n1.fo.block bz (Array.getElem?_eq_some_iff.1 VV_Va.out.1).1 (HPL.out bz VV_Va.out.2)).trans VV_Va.out.1, fun hq => by (rcases NQ.out bz hq with h | h); exact HPL.out bz VV_Va.out.2 h; have := (Array.getElem?_eq_some_iff.1 VV_Va.out.1).1; omega, VV_Va.out.2⟩
        have BX : Hid (Vab.heap[bw]? = some (.cells #[.int .i64 n, .int .i64 k, .bool has, .slice Am M.length cm, .int .i64 st] 26 (0, 0)) ∧ ¬ q bw) := ⟨(n1.fo.block bw (by have := HP.out.blt; have := BB_Va.out.size; omega) HP.out.nq.1).trans ((BB_Va.out.block bw HP.out.blt).trans HP.out.bx), fun hq => by (rcases NQ.out bw hq with h | h); exact HP.out.nq.1 h; have := HP.out.blt; have := BB_Va.out.size; omega⟩
        have BW_Vab : Hid (Below lo w Vab) := (HB.out.trans (BB_Va.out.mono HP.out.pv.nil)).trans (n1.fo.below (fun b hb => (HP.out.pv.low b hb).1) (by have := HP.out.pv.nil; have := BB_Va.out.size; omega))
        try go_wp2_with fail
        refine hK.out _ _ (And.intro ((n1.fo.cell (HP.out.nq.1) hHeld.1)) (And.intro ((n1.fo.cell (HP.out.nq.1) hHeld.2.1)) (And.intro ((n1.fo.cell (HP.out.nq.1) hHeld.2.2.1)) (And.intro ((n1.fo.cell (HP.out.nq.1) hHeld.2.2.2.1)) (And.intro ((n1.fo.cell (HP.out.nq.1) hHeld.2.2.2.2.1)) (And.intro ((n1.fo.cell (fun hq => by have h1 : p b := hq; have := (HP.out.pv.low b h1).1; have := HBL.out; omega) hHeld.2.2.2.2.2.1)) (And.intro ((n1.fo.cell (fun hq => by have h1 : p b := hq; have := (HP.out.pv.low b h1).1; have := HBL.out; omega) hHeld.2.2.2.2.2.2.1)) ((n1.fo.cell (fun hq => by have h1 : p b := hq; have := (HP.out.pv.low b h1).1; have := HBL.out; omega) hHeld.2.2.2.2.2.2.2))))))))) (fun hHeld => ?_)
        clear q1 s1 n1
        clear hK K0
        try simp only [Act.put, List.getElem_toArray, List.getElem_cons_succ, List.getElem_cons_zero, List.setIfInBounds_toArray, List.set_cons_zero, List.set_cons_succ]
        refine takeD (i := 7) (d := some 34) (v := ?_) _ rfl rfl (by kernel_rfl) (by kernel_rfl) (by kernel_rfl) (fun _ _ _ h => h) (by rfl) ?_ (by assumption) ?_
        rotate_left
        · (intro w hSw; (try dsimp only at hSw); go_simp) <;> with_reducible rfl
        try simp only [Act.put, List.setIfInBounds_toArray, List.set_cons_zero, List.set_cons_succ]
        refine takeD (i := 8) (d := some 42) (v := ?_) _ rfl rfl (by kernel_rfl) (by kernel_rfl) (by kernel_rfl) (fun _ _ _ h => h) (by rfl) ?_ (by assumption) ?_
        rotate_left
        · (intro w hSw; (try dsimp only at hSw); go_simp) <;> with_reducible rfl
        try simp only [Act.put, List.setIfInBounds_toArray, List.set_cons_zero, List.set_cons_succ]
        refine takeD (i := 9) (d := some 43) (v := ?_) _ rfl rfl (by kernel_rfl) (by kernel_rfl) (by kernel_rfl) (fun _ _ _ h => h) (by rfl) ?_ (by assumption) ?_
        rotate_left
        · (intro w hSw; (try dsimp only at hSw); go_simp) <;> with_reducible rfl
        try simp only [Act.put, List.setIfInBounds_toArray, List.set_cons_zero, List.set_cons_succ]
        have z0 : Vab.cell? ⟨bz, 0, none⟩ = some (.int .i64 0) := by rw [(row_cell VV_Vab.out.1 0).1]; rfl
        have zf0 : Vab.frozen? ⟨bz, 0, none⟩ = false := (row_cell VV_Vab.out.1 0).2
        have z1 : Vab.cell? ⟨bz, 1, none⟩ = some (.int .i64 0) := by rw [(row_cell VV_Vab.out.1 1).1]; rfl
        have zf1 : Vab.frozen? ⟨bz, 1, none⟩ = false := (row_cell VV_Vab.out.1 1).2
        have z2 : Vab.cell? ⟨bz, 2, none⟩ = some (.bool false) := by rw [(row_cell VV_Vab.out.1 2).1]; rfl
        have zf2 : Vab.frozen? ⟨bz, 2, none⟩ = false := (row_cell VV_Vab.out.1 2).2
        have z3 : Vab.cell? ⟨bz, 3, none⟩ = some (.slice none 0 0) := by rw [(row_cell VV_Vab.out.1 3).1]; rfl
        have zf3 : Vab.frozen? ⟨bz, 3, none⟩ = false := (row_cell VV_Vab.out.1 3).2
        have z4 : Vab.cell? ⟨bz, 4, none⟩ = some (.int .i64 0) := by rw [(row_cell VV_Vab.out.1 4).1]; rfl
        have zf4 : Vab.frozen? ⟨bz, 4, none⟩ = false := (row_cell VV_Vab.out.1 4).2
        have hpb := put_box Q1.out VV_Vab.out.1 (box_no _ _ _ _ _ _ _) SS.out VV_Vab.out.2.1
        have hbz : bw ≠ bz := by have h1 := HP.out.blt; have h2 := VV_Vab.out.2.2; omega
        have hx2 := And.intro ((hpb.2.2.2.cell (fun h7 => hbz h7) hHeld.1)) (And.intro ((hpb.2.2.2.cell (fun h7 => hbz h7) hHeld.2.1)) (And.intro ((hpb.2.2.2.cell (fun h7 => hbz h7) hHeld.2.2.1)) (And.intro ((hpb.2.2.2.cell (fun h7 => hbz h7) hHeld.2.2.2.1)) (And.intro ((hpb.2.2.2.cell (fun h7 => hbz h7) hHeld.2.2.2.2.1)) (And.intro ((hpb.2.2.2.cell (fun h7 => by have h8 : b = bz := h7; have := HBL.out; have h1 := HP.out.pv.nil; have h2 := VV_Vab.out.2.2; omega) hHeld.2.2.2.2.2.1)) (And.intro ((hpb.2.2.2.cell (fun h7 => by have h8 : b = bz := h7; have := HBL.out; have h1 := HP.out.pv.nil; have h2 := VV_Vab.out.2.2; omega) hHeld.2.2.2.2.2.2.1)) ((hpb.2.2.2.cell (fun h7 => by have h8 : b = bz := h7; have := HBL.out; have h1 := HP.out.pv.nil; have h2 := VV_Vab.out.2.2; omega) hHeld.2.2.2.2.2.2.2))))))))
        have BW2 : Hid (Below lo w (((((Vab.setCell ⟨bz, 0, none⟩ (.int .i64 n)).setCell ⟨bz, 1, none⟩ (.int .i64 k)).setCell ⟨bz, 2, none⟩ (.bool has')).setCell ⟨bz, 3, none⟩ (.slice A' M'.length c')).setCell ⟨bz, 4, none⟩ (.int .i64 st'))) := BW_Vab.out.trans (hpb.2.2.2.below (fun b hb => by have h1 := HP.out.pv.nil; have h2 := VV_Vab.out.2.2; omega) (by have := Q1.out.nil; omega))
        have hbx2 := (hpb.2.2.2.block bw (Array.getElem?_eq_some_iff.1 BX.out.1).1 (fun h7 => hbz h7)).trans BX.out.1
        have HPB := Lib.hid hpb
        have HBX2 := Lib.hid hbx2
        clear hpb hbx2
        refine wpAnyH_ready (rs := [11]) (by kernel_rfl) (by simp) ?_
        refine AllReadyH.cons rfl (fun K0 hK => ?_) AllReadyH.nil
        try go_simp
        refine hK.out _ _ hx2 (fun hHeld => ?_)
        clear hK K0
        try simp only [Act.put, List.getElem_toArray, List.getElem_cons_succ, List.getElem_cons_zero, List.setIfInBounds_toArray, List.set_cons_zero, List.set_cons_succ]
        refine takeD (i := 12) (d := some 11) (v := ?_) _ rfl rfl (by kernel_rfl) (by kernel_rfl) (by kernel_rfl) (fun _ _ _ h => h) (by rfl) ?_ (by assumption) ?_
        rotate_left
        · (intro w hSw; (try dsimp only at hSw); go_simp) <;> with_reducible rfl
        try simp only [Act.put, List.setIfInBounds_toArray, List.set_cons_zero, List.set_cons_succ]
        refine wpAnyH_done (by kernel_rfl) ?_ _
        clear hHeld hx2 z0 z1 z2 z3 z4 zf0 zf1 zf2 zf3 zf4
        obtain ⟨Y2, hY2⟩ : ∃ Y2, (((((Vab.setCell ⟨bz, 0, none⟩ (.int .i64 n)).setCell ⟨bz, 1, none⟩ (.int .i64 k)).setCell ⟨bz, 2, none⟩ (.bool has')).setCell ⟨bz, 3, none⟩ (.slice A' M'.length c')).setCell ⟨bz, 4, none⟩ (.int .i64 st')) = Y2 := ⟨_, rfl⟩
        rw [hY2] at BW2 HPB HBX2
        rw [hY2]
        clear hY2
        have r0 : Y2.cell? ⟨bz, 0, none⟩ = some (.int .i64 n) := by rw [(row_cell HPB.out.2.2.1 0).1]; rfl
        have r1 : Y2.cell? ⟨bz, 1, none⟩ = some (.int .i64 k) := by rw [(row_cell HPB.out.2.2.1 1).1]; rfl
        have r2 : Y2.cell? ⟨bz, 2, none⟩ = some (.bool has') := by rw [(row_cell HPB.out.2.2.1 2).1]; rfl
        have r3 : Y2.cell? ⟨bz, 3, none⟩ = some (.slice A' M'.length c') := by rw [(row_cell HPB.out.2.2.1 3).1]; rfl
        have r4 : Y2.cell? ⟨bz, 4, none⟩ = some (.int .i64 st') := by rw [(row_cell HPB.out.2.2.1 4).1]; rfl
        have y0 : Y2.cell? ⟨bw, 0, none⟩ = some (.int .i64 n) := by rw [(row_cell HBX2.out 0).1]; rfl
        have yf0 : Y2.frozen? ⟨bw, 0, none⟩ = false := (row_cell HBX2.out 0).2
        have y1 : Y2.cell? ⟨bw, 1, none⟩ = some (.int .i64 k) := by rw [(row_cell HBX2.out 1).1]; rfl
        have yf1 : Y2.frozen? ⟨bw, 1, none⟩ = false := (row_cell HBX2.out 1).2
        have y2 : Y2.cell? ⟨bw, 2, none⟩ = some (.bool has) := by rw [(row_cell HBX2.out 2).1]; rfl
        have yf2 : Y2.frozen? ⟨bw, 2, none⟩ = false := (row_cell HBX2.out 2).2
        have y3 : Y2.cell? ⟨bw, 3, none⟩ = some (.slice Am M.length cm) := by rw [(row_cell HBX2.out 3).1]; rfl
        have yf3 : Y2.frozen? ⟨bw, 3, none⟩ = false := (row_cell HBX2.out 3).2
        have y4 : Y2.cell? ⟨bw, 4, none⟩ = some (.int .i64 st) := by rw [(row_cell HBX2.out 4).1]; rfl
        have yf4 : Y2.frozen? ⟨bw, 4, none⟩ = false := (row_cell HBX2.out 4).2
        have PP := PS.put HPB.out.1 HBX2.out (box_no _ _ _ _ _ _ _) HPB.out.2.1 ⟨BX.out.2, HP.out.nq.2⟩
        have P3 := Lib.hid PP.1
        have B3 : Hid (Below lo w _) := BW2.out.trans PP.2.1
        clear PP
        go_wp2_with fail
        refine (stamped_any lo q g n k has' M' st' A' M'.length c' _ P3.out.pv).mono ?_
        rintro e w9 ⟨rfl, b9⟩
        have P9 := Lib.hid (P3.out.below b9)
        have B9 : Hid (Below lo w w9) := B3.out.trans (b9.mono P3.out.pv.nil)
        clear b9 P3 B3
        go_wp2_with fail
        go_roundw
        case rel =>
          have Q : AR lo bw g len n k w (.int .i64 ((j : Int) + 1)) w9 := ⟨⟨j + 1, q, has', M', st', A', c', HX.out, by go_num, P9.out, B9.out⟩⟩
          first | exact Q | ((repeat apply Exists.intro); exact ⟨Q, rfl⟩)
        case measure => have := HX.out; simp [intOf]; omega
end Go.Proofs.Ytmodkfboolmckaa.Sa
