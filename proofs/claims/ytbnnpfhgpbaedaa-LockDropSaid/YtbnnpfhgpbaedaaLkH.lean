/-
  Locks: New. Each statement bears its own conditions.
-/
import Derived.Test.YtbnnpfhgpbaedaaLkG
import Derived.Deep.OwnRows
namespace Go.Proofs.Ytbnnpfhgpbaedaa.K
open Go.RowKit Go.Maps
set_option linter.unusedVariables false
set_option linter.unusedSimpArgs false
theorem wl_info : (Try.prog.info? 79).map (fun i => (i.zero, i.size, i.bytes)) = some (some (.slice none 0 0), 1, 24) := by kernel_rfl
theorem made_at (z : Value) (n i : Nat) (h : i < n) : (madeCells #[z] n)[i]? = some z ∧ (madeCells #[z] n).size = n := by
  constructor
  · simp [madeCells, h, Nat.mod_one]
  · simp [madeCells]
theorem new_LV {w X : World} {cs : List Int} {A2 : Option Addr} {n c2 rc bw bm : Nat} (hn : cs.length = n) (hb : Below w.heap.size w X) (c1 : I.RowV X (.slice A2 n c2) rc cs) (c3 : Value.slice A2 n c2 = .slice none 0 0 ∨ (w.heap.size ≤ rc ∧ rc < X.heap.size))
    (m : X.heap[bw]? = some (.cells (madeCells #[.slice none 0 0] n) 79 (0, 0))) (hbw : w.heap.size ≤ bw) (p : MapV X bm 0 (fun _ => none)) (hbm : w.heap.size ≤ bm) :
    LV w.heap.size (X.alloc (.cells #[.slice A2 n c2, .slice (some ⟨bw, 0, none⟩) n n, .map (some bm)] 66)) X.heap.size rc bw bm 0 (fun _ => bw) cs (fun _ => []) (fun _ => none) := by
  subst hn
  have hlw : bw < X.heap.size := (Array.getElem?_eq_some_iff.1 m).1
  have hlm := p.lt
  have hba : Below X.heap.size X (X.alloc (.cells #[.slice A2 cs.length c2, .slice (some ⟨bw, 0, none⟩) cs.length cs.length, .map (some bm)] 66)) := (Below.refl _ _).alloc (Nat.le_refl _) _
  have hsz := hba.size
  have hg : X.heap.size < (X.alloc (.cells #[.slice A2 cs.length c2, .slice (some ⟨bw, 0, none⟩) cs.length cs.length, .map (some bm)] 66)).heap.size := by simp
  have hs := hb.size
  have hwm : bw ≠ bm := by
    intro e
    obtain ⟨D, ⟨es, c, h1, _⟩, _⟩ := p
    rw [← e, m] at h1
    cases h1
  refine ⟨⟨hs, hbw, hbm, fun _ _ => hbw⟩, ⟨hg, by omega, by omega, fun _ _ => by omega⟩, ⟨by omega, by omega, hwm, fun i _ => ⟨by omega, hwm⟩, fun i j _ _ _ h => absurd rfl h⟩, ⟨_, _, heap_alloc_new _ _, c1.keep (c3.imp (fun h => h) fun h => hba.block rc h.2), ?_⟩, ⟨_, ?_, (hba.block bw hlw).trans m, fun i hi => ⟨_, (made_at _ _ i hi).1, ⟨World.ownsRow_nil _ _ _ _, fun q hq => by cases hq⟩, .inl rfl⟩⟩, p.keep (hba.block bm hlm)⟩
  · rcases c1.form with ⟨hv, _⟩ | ⟨cap, cur, hv, hg1, _⟩
    · exact .inl hv
    · have hr : rc < X.heap.size := (Array.getElem?_eq_some_iff.1 hg1).1
      refine .inr ⟨by omega, by omega, ?_, ?_, fun i _ => ?_⟩
      · intro e; rw [e, m] at hg1; cases hg1
      · intro e
        obtain ⟨D, ⟨es, c, h1, _⟩, _⟩ := p
        rw [← e, hg1] at h1
        cases h1
      · intro e
        have e : bw = rc := e
        rw [← e, m] at hg1; cases hg1
  · simp [madeCells]
structure NwRel (n : Nat) (w : World) (iv : Value) (wr : World) : Prop where
  ex : ∃ j : Nat, j ≤ n ∧ iv = .int .i64 (j : Int) ∧ wr = w
set_option maxRecDepth 100000 in
set_option maxHeartbeats 8000000 in
theorem new_any (v : Value) (b : Nat) (cs : List Int) (w : World) (hr : I.RowV w v b cs) (hn : cs.length ≤ 16) (hp : ∀ i, i < cs.length → 1 ≤ cs.getD i 0 ∧ cs.getD i 0 ≤ 63) :
    Calls Try.prog 9 #[v] w fun e w' => ∃ g bc bw bm, e = .returned (.tuple #[.pointer (some ⟨g, 0, none⟩), .int .i64 0]) ∧ LV w.heap.size w' g bc bw bm 0 (fun _ => bw) cs (fun _ => []) (fun _ => none) ∧ Below w.heap.size w w' := by
  obtain ⟨A, c, rfl, hc⟩ := hr.slice
  obtain ⟨n, hnn⟩ : ∃ n, cs.length = n := ⟨_, rfl⟩
  have HN := Lib.hid hnn
  rw [hnn] at hn hc hr ⊢
  have H16 := Lib.hid hn
  have HP := Lib.hid hp
  have HR : Hid (∀ X, Below w.heap.size w X → I.RowV X (.slice A n c) b cs) := fun X hb => hr.keep (hr.lt.imp (fun h => h) fun h => hb.block b h)
  have HR0 := Lib.hid hr
  have h16 : ¬ (16 : Int) < (n : Int) := by omega
  clear hr hnn hn hp
  go_enter Try.func9, Try.ntmps9
  go_wp2_with fail
  go_loopw [11] (fun iv wr => NwRel n w iv wr) (fun i _ => 1001 - (intOf i).toNat)
  case atStart => exact ⟨⟨0, Nat.zero_le _, rfl, rfl⟩⟩
  case round =>
    obtain ⟨⟨j, hj, rfl, hw⟩⟩ := hrel
    subst hw
    have HJ := Lib.hid hj
    clear hj
    by_cases hlt : j < n
    · have hjI : (j : Int) < (n : Int) := by omega
      have hj2 : (j : Int) < 16 := by have := H16.out; omega
      have HX : Hid (j < n) := hlt
      obtain ⟨⟨c', hv⟩, e0, _⟩ := HR0.out.cells j (by rw [HN.out]; exact hlt)
      injection hv with hv hq hcc
      subst hv hcc
      clear hq
      have PR := prio_any (cs.getD j 0) wr
      rw [decide_eq_true (HP.out j (by rw [HN.out]; exact hlt))] at PR
      have PR := Lib.hid PR
      obtain ⟨y, hy⟩ : ∃ y, cs.getD j 0 = y := ⟨_, rfl⟩
      rw [hy] at PR e0
      clear hlt hy
      go_wp2_with fail
      refine PR.out.mono ?_
      rintro e w0 ⟨rfl, hw0⟩
      rw [hw0]
      clear hw0 w0 PR
      go_wp2_with fail
      go_roundw
      case rel =>
        have Q : NwRel n wr (.int .i64 ((j : Int) + 1)) wr := ⟨⟨j + 1, HX.out, by go_num, rfl⟩⟩
        first | exact Q | ((repeat apply Exists.intro); exact ⟨Q, rfl⟩)
      case measure => have := HX.out; have := H16.out; simp [intOf]; omega
    · have hjI : ¬ (j : Int) < (n : Int) := by omega
      clear hlt
      have B_x0 : Hid (Below wr.heap.size wr wr) := Below.refl _ _
      go_wp2_with fail
      refine wp_region_held_drew (S := (fun _ => True)) (by kernel_rfl) trivial (fun _ => ?_)
      have B_x : Hid (Below wr.heap.size wr wr.drew) := B_x0.out.drew
      clear B_x0
      generalize hxx : wr.drew = x at B_x ⊢
      refine takeD (i := 0) (d := some 19) (v := ?_) _ rfl rfl (by kernel_rfl) (by kernel_rfl) (by kernel_rfl) (fun _ _ _ h => h) (by rfl) ?_ trivial ?_
      rotate_left
      · (intro w hSw; (try dsimp only at hSw); go_simp) <;> with_reducible rfl
      try simp only [Act.put, List.setIfInBounds_toArray, List.set_cons_zero, List.set_cons_succ]
      refine takeD (i := 2) (d := some 21) (v := ?_) _ rfl rfl (by kernel_rfl) (by kernel_rfl) (by kernel_rfl) (fun _ _ _ h => h) (by rfl) ?_ trivial ?_
      rotate_left
      · (intro w hSw; (try dsimp only at hSw); go_simp) <;> with_reducible rfl
      try simp only [Act.put, List.setIfInBounds_toArray, List.set_cons_zero, List.set_cons_succ]
      refine takeD (i := 3) (d := some 22) (v := ?_) _ rfl rfl (by kernel_rfl) (by kernel_rfl) (by kernel_rfl) (fun _ _ _ h => h) (by rfl) ?_ trivial ?_
      rotate_left
      · (intro w hSw; (try dsimp only at hSw); go_simp) <;> with_reducible rfl
      try simp only [Act.put, List.setIfInBounds_toArray, List.set_cons_zero, List.set_cons_succ]
      refine wpAnyH_ready (rs := [1, 4, 5]) (by kernel_rfl) (by simp) ?_
      refine AllReadyH.cons rfl (fun K hK => ?_) (AllReadyH.cons rfl (fun K hK => ?_) (AllReadyH.cons rfl (fun K hK => ?_) (AllReadyH.nil)))
      · have CL := I.clone_any (.slice A n c) b cs x (HR.out x B_x.out) (by have := HN.out; have := H16.out; omega)
        try go_simp
        go_at_call 29
        refine CL.mono ?_
        rintro e xc ⟨A2, n2, c2, rc, rfl, r1, r2, b_xc⟩
        have hn2 : n2 = n := by
          rcases r1.form with ⟨hv, h0⟩ | ⟨_, _, hv, _⟩
          · injection hv with _ h1 _; have := HN.out; rw [h1, ← this, h0]; rfl
          · injection hv with _ h1 _; rw [h1, HN.out]
        rw [hn2] at r1 r2 ⊢
        clear hn2 n2 CL
        have C_xc : Hid (I.RowV xc (.slice A2 n c2) rc cs ∧ (Value.slice A2 n c2 = .slice none 0 0 ∨ (wr.heap.size ≤ rc ∧ rc < xc.heap.size))) := ⟨r1, r2.imp (fun h => h) fun h => ⟨Nat.le_trans B_x.out.size h.1, h.2⟩⟩
        have B_xc : Hid (Below wr.heap.size wr xc) := B_x.out.trans (b_xc.mono B_x.out.size)
        clear b_xc r1 r2
        try go_wp2_with fail
        refine hK.out _ _ trivial (fun _ => ?_)
        clear hK K
        try simp only [Act.put, List.setIfInBounds_toArray, List.set_cons_zero, List.set_cons_succ]
        refine wpAnyH_ready (rs := [4, 5]) (by kernel_rfl) (by simp) ?_
        refine AllReadyH.cons rfl (fun K hK => ?_) (AllReadyH.cons rfl (fun K hK => ?_) (AllReadyH.nil))
        · obtain ⟨xcm, h_xcm⟩ : ∃ W, xc.alloc (.cells (madeCells #[.slice none 0 0] n) 79) = W := ⟨_, rfl⟩
          obtain ⟨bw, h_bw⟩ : ∃ bw, xc.heap.size = bw := ⟨_, rfl⟩
          have b_xcm : Below xc.heap.size xc xcm := by rw [← h_xcm]; exact (Below.refl _ _).alloc (Nat.le_refl _) _
          have B_xcm : Hid (Below wr.heap.size wr xcm) := B_xc.out.trans (b_xcm.mono B_xc.out.size)
          have M_xcm : Hid (xcm.heap[bw]? = some (.cells (madeCells #[.slice none 0 0] n) 79 (0, 0)) ∧ wr.heap.size ≤ bw) := by unfold Hid; rw [← h_xcm, ← h_bw]; exact ⟨heap_alloc_new _ _, B_xc.out.size⟩
          have C_xcm : Hid (I.RowV xcm (.slice A2 n c2) rc cs ∧ (Value.slice A2 n c2 = .slice none 0 0 ∨ (wr.heap.size ≤ rc ∧ rc < xcm.heap.size))) := ⟨C_xc.out.1.keep (C_xc.out.2.imp (fun h => h) fun h => b_xcm.block rc h.2), C_xc.out.2.imp (fun h => h) fun h => ⟨h.1, Nat.lt_of_lt_of_le h.2 b_xcm.size⟩⟩
          have hmk := run_make_row' (P := Try.prog) 63 79 (.slice none 0 0) 24 Try.underlying63 wl_info rfl .i64 .i64 n (by have := H16.out; omega) (by have := H16.out; omega) xc
          rw [h_xcm] at hmk
          try rw [h_bw] at hmk
          try go_simp
          refine hK.out _ _ trivial (fun _ => ?_)
          clear h_xcm h_bw hmk b_xcm
          clear hK K
          try simp only [Act.put, List.setIfInBounds_toArray, List.set_cons_zero, List.set_cons_succ]
          refine wpAnyH_ready (rs := [5]) (by kernel_rfl) (by simp) ?_
          refine AllReadyH.cons rfl (fun K hK => ?_) (AllReadyH.nil)
          · obtain ⟨xcmp, h_xcmp⟩ : ∃ W, xcm.alloc (.map #[] 0) = W := ⟨_, rfl⟩
            obtain ⟨bm, h_bm⟩ : ∃ bm, xcm.heap.size = bm := ⟨_, rfl⟩
            have b_xcmp : Below xcm.heap.size xcm xcmp := by rw [← h_xcmp]; exact (Below.refl _ _).alloc (Nat.le_refl _) _
            have B_xcmp : Hid (Below wr.heap.size wr xcmp) := B_xcm.out.trans (b_xcmp.mono B_xcm.out.size)
            have P_xcmp : Hid (MapV xcmp bm 0 (fun _ => none) ∧ wr.heap.size ≤ bm) := by unfold Hid; rw [← h_xcmp, ← h_bm]; exact ⟨MapV.made _, B_xcm.out.size⟩
            have C_xcmp : Hid (I.RowV xcmp (.slice A2 n c2) rc cs ∧ (Value.slice A2 n c2 = .slice none 0 0 ∨ (wr.heap.size ≤ rc ∧ rc < xcmp.heap.size))) := ⟨C_xcm.out.1.keep (C_xcm.out.2.imp (fun h => h) fun h => b_xcmp.block rc h.2), C_xcm.out.2.imp (fun h => h) fun h => ⟨h.1, Nat.lt_of_lt_of_le h.2 b_xcmp.size⟩⟩
            have M_xcmp : Hid (xcmp.heap[bw]? = some (.cells (madeCells #[.slice none 0 0] n) 79 (0, 0)) ∧ wr.heap.size ≤ bw) := ⟨(b_xcmp.block bw (Array.getElem?_eq_some_iff.1 M_xcm.out.1).1).trans M_xcm.out.1, M_xcm.out.2⟩
            have hmm := run_makeMap (P := Try.prog) 64 xcm
            rw [h_xcmp] at hmm
            try rw [h_bm] at hmm
            try go_simp
            refine hK.out _ _ trivial (fun _ => ?_)
            clear h_xcmp h_bm hmm b_xcmp
            clear hK K
            try simp only [Act.put, List.setIfInBounds_toArray, List.set_cons_zero, List.set_cons_succ]
            refine takeD (i := 6) (d := some 25) (v := ?_) _ rfl rfl (by kernel_rfl) (by kernel_rfl) (by kernel_rfl) (fun _ _ _ h => h) (by rfl) ?_ trivial ?_
            rotate_left
            · (intro w hSw; (try dsimp only at hSw); go_simp) <;> with_reducible rfl
            try simp only [Act.put, List.setIfInBounds_toArray, List.set_cons_zero, List.set_cons_succ]
            have Q := Lib.hid (new_LV (n := n) HN.out B_xcmp.out C_xcmp.out.1 C_xcmp.out.2 M_xcmp.out.1 M_xcmp.out.2 P_xcmp.out.1 P_xcmp.out.2)
            obtain ⟨z, h_z⟩ : ∃ W, xcmp.alloc (.cells #[.slice A2 n c2, .slice (some ⟨bw, 0, none⟩) n n, .map (some bm)] 66) = W := ⟨_, rfl⟩
            have B_z : Hid (Below wr.heap.size wr z) := by unfold Hid; rw [← h_z]; exact B_xcmp.out.alloc B_xcmp.out.size _
            rw [h_z] at Q
            have G_z : Hid (wr.heap.size ≤ xcmp.heap.size) := B_xcmp.out.size
            refine wpAnyH_ready (rs := [7]) (by kernel_rfl) (by simp) ?_
            refine AllReadyH.cons rfl (fun K hK => ?_) AllReadyH.nil
            try go_simp
            refine hK.out _ _ trivial (fun _ => ?_)
            try rw [h_z]
            clear h_z
            clear hK K
            try simp only [Act.put, List.setIfInBounds_toArray, List.set_cons_zero, List.set_cons_succ]
            refine takeD (i := 8) (d := some 2) (v := ?_) _ rfl rfl (by kernel_rfl) (by kernel_rfl) (by kernel_rfl) (fun _ _ _ h => h) (by rfl) ?_ trivial ?_
            rotate_left
            · (intro w hSw; (try dsimp only at hSw); go_simp) <;> with_reducible rfl
            try simp only [Act.put, List.setIfInBounds_toArray, List.set_cons_zero, List.set_cons_succ]
            refine takeD (i := 9) (d := some 3) (v := ?_) _ rfl rfl (by kernel_rfl) (by kernel_rfl) (by kernel_rfl) (fun _ _ _ h => h) (by rfl) ?_ trivial ?_
            rotate_left
            · (intro w hSw; (try dsimp only at hSw); go_simp) <;> with_reducible rfl
            try simp only [Act.put, List.setIfInBounds_toArray, List.set_cons_zero, List.set_cons_succ]
            refine wpAnyH_done (by kernel_rfl) ?_ _
            go_wp2_with fail
            go_ret2
            exact ⟨_, rc, bw, bm, rfl, Q.out, B_z.out⟩
        · obtain ⟨xcp, h_xcp⟩ : ∃ W, xc.alloc (.map #[] 0) = W := ⟨_, rfl⟩
          obtain ⟨bm, h_bm⟩ : ∃ bm, xc.heap.size = bm := ⟨_, rfl⟩
          have b_xcp : Below xc.heap.size xc xcp := by rw [← h_xcp]; exact (Below.refl _ _).alloc (Nat.le_refl _) _
          have B_xcp : Hid (Below wr.heap.size wr xcp) := B_xc.out.trans (b_xcp.mono B_xc.out.size)
          have P_xcp : Hid (MapV xcp bm 0 (fun _ => none) ∧ wr.heap.size ≤ bm) := by unfold Hid; rw [← h_xcp, ← h_bm]; exact ⟨MapV.made _, B_xc.out.size⟩
          have C_xcp : Hid (I.RowV xcp (.slice A2 n c2) rc cs ∧ (Value.slice A2 n c2 = .slice none 0 0 ∨ (wr.heap.size ≤ rc ∧ rc < xcp.heap.size))) := ⟨C_xc.out.1.keep (C_xc.out.2.imp (fun h => h) fun h => b_xcp.block rc h.2), C_xc.out.2.imp (fun h => h) fun h => ⟨h.1, Nat.lt_of_lt_of_le h.2 b_xcp.size⟩⟩
          have hmm := run_makeMap (P := Try.prog) 64 xc
          rw [h_xcp] at hmm
          try rw [h_bm] at hmm
          try go_simp
          refine hK.out _ _ trivial (fun _ => ?_)
          clear h_xcp h_bm hmm b_xcp
          clear hK K
          try simp only [Act.put, List.setIfInBounds_toArray, List.set_cons_zero, List.set_cons_succ]
          refine wpAnyH_ready (rs := [4]) (by kernel_rfl) (by simp) ?_
          refine AllReadyH.cons rfl (fun K hK => ?_) (AllReadyH.nil)
          · obtain ⟨xcpm, h_xcpm⟩ : ∃ W, xcp.alloc (.cells (madeCells #[.slice none 0 0] n) 79) = W := ⟨_, rfl⟩
            obtain ⟨bw, h_bw⟩ : ∃ bw, xcp.heap.size = bw := ⟨_, rfl⟩
            have b_xcpm : Below xcp.heap.size xcp xcpm := by rw [← h_xcpm]; exact (Below.refl _ _).alloc (Nat.le_refl _) _
            have B_xcpm : Hid (Below wr.heap.size wr xcpm) := B_xcp.out.trans (b_xcpm.mono B_xcp.out.size)
            have M_xcpm : Hid (xcpm.heap[bw]? = some (.cells (madeCells #[.slice none 0 0] n) 79 (0, 0)) ∧ wr.heap.size ≤ bw) := by unfold Hid; rw [← h_xcpm, ← h_bw]; exact ⟨heap_alloc_new _ _, B_xcp.out.size⟩
            have C_xcpm : Hid (I.RowV xcpm (.slice A2 n c2) rc cs ∧ (Value.slice A2 n c2 = .slice none 0 0 ∨ (wr.heap.size ≤ rc ∧ rc < xcpm.heap.size))) := ⟨C_xcp.out.1.keep (C_xcp.out.2.imp (fun h => h) fun h => b_xcpm.block rc h.2), C_xcp.out.2.imp (fun h => h) fun h => ⟨h.1, Nat.lt_of_lt_of_le h.2 b_xcpm.size⟩⟩
            have P_xcpm : Hid (MapV xcpm bm 0 (fun _ => none) ∧ wr.heap.size ≤ bm) := ⟨P_xcp.out.1.keep (b_xcpm.block bm P_xcp.out.1.lt), P_xcp.out.2⟩
            have hmk := run_make_row' (P := Try.prog) 63 79 (.slice none 0 0) 24 Try.underlying63 wl_info rfl .i64 .i64 n (by have := H16.out; omega) (by have := H16.out; omega) xcp
            rw [h_xcpm] at hmk
            try rw [h_bw] at hmk
            try go_simp
            refine hK.out _ _ trivial (fun _ => ?_)
            clear h_xcpm h_bw hmk b_xcpm
            clear hK K
            try simp only [Act.put, List.setIfInBounds_toArray, List.set_cons_zero, List.set_cons_succ]
            refine takeD (i := 6) (d := some 25) (v := ?_) _ rfl rfl (by kernel_rfl) (by kernel_rfl) (by kernel_rfl) (fun _ _ _ h => h) (by rfl) ?_ trivial ?_
            rotate_left
            · (intro w hSw; (try dsimp only at hSw); go_simp) <;> with_reducible rfl
            try simp only [Act.put, List.setIfInBounds_toArray, List.set_cons_zero, List.set_cons_succ]
            have Q := Lib.hid (new_LV (n := n) HN.out B_xcpm.out C_xcpm.out.1 C_xcpm.out.2 M_xcpm.out.1 M_xcpm.out.2 P_xcpm.out.1 P_xcpm.out.2)
            obtain ⟨z, h_z⟩ : ∃ W, xcpm.alloc (.cells #[.slice A2 n c2, .slice (some ⟨bw, 0, none⟩) n n, .map (some bm)] 66) = W := ⟨_, rfl⟩
            have B_z : Hid (Below wr.heap.size wr z) := by unfold Hid; rw [← h_z]; exact B_xcpm.out.alloc B_xcpm.out.size _
            rw [h_z] at Q
            have G_z : Hid (wr.heap.size ≤ xcpm.heap.size) := B_xcpm.out.size
            refine wpAnyH_ready (rs := [7]) (by kernel_rfl) (by simp) ?_
            refine AllReadyH.cons rfl (fun K hK => ?_) AllReadyH.nil
            try go_simp
            refine hK.out _ _ trivial (fun _ => ?_)
            try rw [h_z]
            clear h_z
            clear hK K
            try simp only [Act.put, List.setIfInBounds_toArray, List.set_cons_zero, List.set_cons_succ]
            refine takeD (i := 8) (d := some 2) (v := ?_) _ rfl rfl (by kernel_rfl) (by kernel_rfl) (by kernel_rfl) (fun _ _ _ h => h) (by rfl) ?_ trivial ?_
            rotate_left
            · (intro w hSw; (try dsimp only at hSw); go_simp) <;> with_reducible rfl
            try simp only [Act.put, List.setIfInBounds_toArray, List.set_cons_zero, List.set_cons_succ]
            refine takeD (i := 9) (d := some 3) (v := ?_) _ rfl rfl (by kernel_rfl) (by kernel_rfl) (by kernel_rfl) (fun _ _ _ h => h) (by rfl) ?_ trivial ?_
            rotate_left
            · (intro w hSw; (try dsimp only at hSw); go_simp) <;> with_reducible rfl
            try simp only [Act.put, List.setIfInBounds_toArray, List.set_cons_zero, List.set_cons_succ]
            refine wpAnyH_done (by kernel_rfl) ?_ _
            go_wp2_with fail
            go_ret2
            exact ⟨_, rc, bw, bm, rfl, Q.out, B_z.out⟩
      · obtain ⟨xm, h_xm⟩ : ∃ W, x.alloc (.cells (madeCells #[.slice none 0 0] n) 79) = W := ⟨_, rfl⟩
        obtain ⟨bw, h_bw⟩ : ∃ bw, x.heap.size = bw := ⟨_, rfl⟩
        have b_xm : Below x.heap.size x xm := by rw [← h_xm]; exact (Below.refl _ _).alloc (Nat.le_refl _) _
        have B_xm : Hid (Below wr.heap.size wr xm) := B_x.out.trans (b_xm.mono B_x.out.size)
        have M_xm : Hid (xm.heap[bw]? = some (.cells (madeCells #[.slice none 0 0] n) 79 (0, 0)) ∧ wr.heap.size ≤ bw) := by unfold Hid; rw [← h_xm, ← h_bw]; exact ⟨heap_alloc_new _ _, B_x.out.size⟩
        have hmk := run_make_row' (P := Try.prog) 63 79 (.slice none 0 0) 24 Try.underlying63 wl_info rfl .i64 .i64 n (by have := H16.out; omega) (by have := H16.out; omega) x
        rw [h_xm] at hmk
        try rw [h_bw] at hmk
        try go_simp
        refine hK.out _ _ trivial (fun _ => ?_)
        clear h_xm h_bw hmk b_xm
        clear hK K
        try simp only [Act.put, List.setIfInBounds_toArray, List.set_cons_zero, List.set_cons_succ]
        refine wpAnyH_ready (rs := [1, 5]) (by kernel_rfl) (by simp) ?_
        refine AllReadyH.cons rfl (fun K hK => ?_) (AllReadyH.cons rfl (fun K hK => ?_) (AllReadyH.nil))
        · have CL := I.clone_any (.slice A n c) b cs xm (HR.out xm B_xm.out) (by have := HN.out; have := H16.out; omega)
          try go_simp
          go_at_call 29
          refine CL.mono ?_
          rintro e xmc ⟨A2, n2, c2, rc, rfl, r1, r2, b_xmc⟩
          have hn2 : n2 = n := by
            rcases r1.form with ⟨hv, h0⟩ | ⟨_, _, hv, _⟩
            · injection hv with _ h1 _; have := HN.out; rw [h1, ← this, h0]; rfl
            · injection hv with _ h1 _; rw [h1, HN.out]
          rw [hn2] at r1 r2 ⊢
          clear hn2 n2 CL
          have C_xmc : Hid (I.RowV xmc (.slice A2 n c2) rc cs ∧ (Value.slice A2 n c2 = .slice none 0 0 ∨ (wr.heap.size ≤ rc ∧ rc < xmc.heap.size))) := ⟨r1, r2.imp (fun h => h) fun h => ⟨Nat.le_trans B_xm.out.size h.1, h.2⟩⟩
          have B_xmc : Hid (Below wr.heap.size wr xmc) := B_xm.out.trans (b_xmc.mono B_xm.out.size)
          have M_xmc : Hid (xmc.heap[bw]? = some (.cells (madeCells #[.slice none 0 0] n) 79 (0, 0)) ∧ wr.heap.size ≤ bw) := ⟨(b_xmc.block bw (Array.getElem?_eq_some_iff.1 M_xm.out.1).1).trans M_xm.out.1, M_xm.out.2⟩
          clear b_xmc r1 r2
          try go_wp2_with fail
          refine hK.out _ _ trivial (fun _ => ?_)
          clear hK K
          try simp only [Act.put, List.setIfInBounds_toArray, List.set_cons_zero, List.set_cons_succ]
          refine wpAnyH_ready (rs := [5]) (by kernel_rfl) (by simp) ?_
          refine AllReadyH.cons rfl (fun K hK => ?_) (AllReadyH.nil)
          · obtain ⟨xmcp, h_xmcp⟩ : ∃ W, xmc.alloc (.map #[] 0) = W := ⟨_, rfl⟩
            obtain ⟨bm, h_bm⟩ : ∃ bm, xmc.heap.size = bm := ⟨_, rfl⟩
            have b_xmcp : Below xmc.heap.size xmc xmcp := by rw [← h_xmcp]; exact (Below.refl _ _).alloc (Nat.le_refl _) _
            have B_xmcp : Hid (Below wr.heap.size wr xmcp) := B_xmc.out.trans (b_xmcp.mono B_xmc.out.size)
            have P_xmcp : Hid (MapV xmcp bm 0 (fun _ => none) ∧ wr.heap.size ≤ bm) := by unfold Hid; rw [← h_xmcp, ← h_bm]; exact ⟨MapV.made _, B_xmc.out.size⟩
            have C_xmcp : Hid (I.RowV xmcp (.slice A2 n c2) rc cs ∧ (Value.slice A2 n c2 = .slice none 0 0 ∨ (wr.heap.size ≤ rc ∧ rc < xmcp.heap.size))) := ⟨C_xmc.out.1.keep (C_xmc.out.2.imp (fun h => h) fun h => b_xmcp.block rc h.2), C_xmc.out.2.imp (fun h => h) fun h => ⟨h.1, Nat.lt_of_lt_of_le h.2 b_xmcp.size⟩⟩
            have M_xmcp : Hid (xmcp.heap[bw]? = some (.cells (madeCells #[.slice none 0 0] n) 79 (0, 0)) ∧ wr.heap.size ≤ bw) := ⟨(b_xmcp.block bw (Array.getElem?_eq_some_iff.1 M_xmc.out.1).1).trans M_xmc.out.1, M_xmc.out.2⟩
            have hmm := run_makeMap (P := Try.prog) 64 xmc
            rw [h_xmcp] at hmm
            try rw [h_bm] at hmm
            try go_simp
            refine hK.out _ _ trivial (fun _ => ?_)
            clear h_xmcp h_bm hmm b_xmcp
            clear hK K
            try simp only [Act.put, List.setIfInBounds_toArray, List.set_cons_zero, List.set_cons_succ]
            refine takeD (i := 6) (d := some 25) (v := ?_) _ rfl rfl (by kernel_rfl) (by kernel_rfl) (by kernel_rfl) (fun _ _ _ h => h) (by rfl) ?_ trivial ?_
            rotate_left
            · (intro w hSw; (try dsimp only at hSw); go_simp) <;> with_reducible rfl
            try simp only [Act.put, List.setIfInBounds_toArray, List.set_cons_zero, List.set_cons_succ]
            have Q := Lib.hid (new_LV (n := n) HN.out B_xmcp.out C_xmcp.out.1 C_xmcp.out.2 M_xmcp.out.1 M_xmcp.out.2 P_xmcp.out.1 P_xmcp.out.2)
            obtain ⟨z, h_z⟩ : ∃ W, xmcp.alloc (.cells #[.slice A2 n c2, .slice (some ⟨bw, 0, none⟩) n n, .map (some bm)] 66) = W := ⟨_, rfl⟩
            have B_z : Hid (Below wr.heap.size wr z) := by unfold Hid; rw [← h_z]; exact B_xmcp.out.alloc B_xmcp.out.size _
            rw [h_z] at Q
            have G_z : Hid (wr.heap.size ≤ xmcp.heap.size) := B_xmcp.out.size
            refine wpAnyH_ready (rs := [7]) (by kernel_rfl) (by simp) ?_
            refine AllReadyH.cons rfl (fun K hK => ?_) AllReadyH.nil
            try go_simp
            refine hK.out _ _ trivial (fun _ => ?_)
            try rw [h_z]
            clear h_z
            clear hK K
            try simp only [Act.put, List.setIfInBounds_toArray, List.set_cons_zero, List.set_cons_succ]
            refine takeD (i := 8) (d := some 2) (v := ?_) _ rfl rfl (by kernel_rfl) (by kernel_rfl) (by kernel_rfl) (fun _ _ _ h => h) (by rfl) ?_ trivial ?_
            rotate_left
            · (intro w hSw; (try dsimp only at hSw); go_simp) <;> with_reducible rfl
            try simp only [Act.put, List.setIfInBounds_toArray, List.set_cons_zero, List.set_cons_succ]
            refine takeD (i := 9) (d := some 3) (v := ?_) _ rfl rfl (by kernel_rfl) (by kernel_rfl) (by kernel_rfl) (fun _ _ _ h => h) (by rfl) ?_ trivial ?_
            rotate_left
            · (intro w hSw; (try dsimp only at hSw); go_simp) <;> with_reducible rfl
            try simp only [Act.put, List.setIfInBounds_toArray, List.set_cons_zero, List.set_cons_succ]
            refine wpAnyH_done (by kernel_rfl) ?_ _
            go_wp2_with fail
            go_ret2
            exact ⟨_, rc, bw, bm, rfl, Q.out, B_z.out⟩
        · obtain ⟨xmp, h_xmp⟩ : ∃ W, xm.alloc (.map #[] 0) = W := ⟨_, rfl⟩
          obtain ⟨bm, h_bm⟩ : ∃ bm, xm.heap.size = bm := ⟨_, rfl⟩
          have b_xmp : Below xm.heap.size xm xmp := by rw [← h_xmp]; exact (Below.refl _ _).alloc (Nat.le_refl _) _
          have B_xmp : Hid (Below wr.heap.size wr xmp) := B_xm.out.trans (b_xmp.mono B_xm.out.size)
          have P_xmp : Hid (MapV xmp bm 0 (fun _ => none) ∧ wr.heap.size ≤ bm) := by unfold Hid; rw [← h_xmp, ← h_bm]; exact ⟨MapV.made _, B_xm.out.size⟩
          have M_xmp : Hid (xmp.heap[bw]? = some (.cells (madeCells #[.slice none 0 0] n) 79 (0, 0)) ∧ wr.heap.size ≤ bw) := ⟨(b_xmp.block bw (Array.getElem?_eq_some_iff.1 M_xm.out.1).1).trans M_xm.out.1, M_xm.out.2⟩
          have hmm := run_makeMap (P := Try.prog) 64 xm
          rw [h_xmp] at hmm
          try rw [h_bm] at hmm
          try go_simp
          refine hK.out _ _ trivial (fun _ => ?_)
          clear h_xmp h_bm hmm b_xmp
          clear hK K
          try simp only [Act.put, List.setIfInBounds_toArray, List.set_cons_zero, List.set_cons_succ]
          refine wpAnyH_ready (rs := [1]) (by kernel_rfl) (by simp) ?_
          refine AllReadyH.cons rfl (fun K hK => ?_) (AllReadyH.nil)
          · have CL := I.clone_any (.slice A n c) b cs xmp (HR.out xmp B_xmp.out) (by have := HN.out; have := H16.out; omega)
            try go_simp
            go_at_call 29
            refine CL.mono ?_
            rintro e xmpc ⟨A2, n2, c2, rc, rfl, r1, r2, b_xmpc⟩
            have hn2 : n2 = n := by
              rcases r1.form with ⟨hv, h0⟩ | ⟨_, _, hv, _⟩
              · injection hv with _ h1 _; have := HN.out; rw [h1, ← this, h0]; rfl
              · injection hv with _ h1 _; rw [h1, HN.out]
            rw [hn2] at r1 r2 ⊢
            clear hn2 n2 CL
            have C_xmpc : Hid (I.RowV xmpc (.slice A2 n c2) rc cs ∧ (Value.slice A2 n c2 = .slice none 0 0 ∨ (wr.heap.size ≤ rc ∧ rc < xmpc.heap.size))) := ⟨r1, r2.imp (fun h => h) fun h => ⟨Nat.le_trans B_xmp.out.size h.1, h.2⟩⟩
            have B_xmpc : Hid (Below wr.heap.size wr xmpc) := B_xmp.out.trans (b_xmpc.mono B_xmp.out.size)
            have M_xmpc : Hid (xmpc.heap[bw]? = some (.cells (madeCells #[.slice none 0 0] n) 79 (0, 0)) ∧ wr.heap.size ≤ bw) := ⟨(b_xmpc.block bw (Array.getElem?_eq_some_iff.1 M_xmp.out.1).1).trans M_xmp.out.1, M_xmp.out.2⟩
            have P_xmpc : Hid (MapV xmpc bm 0 (fun _ => none) ∧ wr.heap.size ≤ bm) := ⟨P_xmp.out.1.keep (b_xmpc.block bm P_xmp.out.1.lt), P_xmp.out.2⟩
            clear b_xmpc r1 r2
            try go_wp2_with fail
            refine hK.out _ _ trivial (fun _ => ?_)
            clear hK K
            try simp only [Act.put, List.setIfInBounds_toArray, List.set_cons_zero, List.set_cons_succ]
            refine takeD (i := 6) (d := some 25) (v := ?_) _ rfl rfl (by kernel_rfl) (by kernel_rfl) (by kernel_rfl) (fun _ _ _ h => h) (by rfl) ?_ trivial ?_
            rotate_left
            · (intro w hSw; (try dsimp only at hSw); go_simp) <;> with_reducible rfl
            try simp only [Act.put, List.setIfInBounds_toArray, List.set_cons_zero, List.set_cons_succ]
            have Q := Lib.hid (new_LV (n := n) HN.out B_xmpc.out C_xmpc.out.1 C_xmpc.out.2 M_xmpc.out.1 M_xmpc.out.2 P_xmpc.out.1 P_xmpc.out.2)
            obtain ⟨z, h_z⟩ : ∃ W, xmpc.alloc (.cells #[.slice A2 n c2, .slice (some ⟨bw, 0, none⟩) n n, .map (some bm)] 66) = W := ⟨_, rfl⟩
            have B_z : Hid (Below wr.heap.size wr z) := by unfold Hid; rw [← h_z]; exact B_xmpc.out.alloc B_xmpc.out.size _
            rw [h_z] at Q
            have G_z : Hid (wr.heap.size ≤ xmpc.heap.size) := B_xmpc.out.size
            refine wpAnyH_ready (rs := [7]) (by kernel_rfl) (by simp) ?_
            refine AllReadyH.cons rfl (fun K hK => ?_) AllReadyH.nil
            try go_simp
            refine hK.out _ _ trivial (fun _ => ?_)
            try rw [h_z]
            clear h_z
            clear hK K
            try simp only [Act.put, List.setIfInBounds_toArray, List.set_cons_zero, List.set_cons_succ]
            refine takeD (i := 8) (d := some 2) (v := ?_) _ rfl rfl (by kernel_rfl) (by kernel_rfl) (by kernel_rfl) (fun _ _ _ h => h) (by rfl) ?_ trivial ?_
            rotate_left
            · (intro w hSw; (try dsimp only at hSw); go_simp) <;> with_reducible rfl
            try simp only [Act.put, List.setIfInBounds_toArray, List.set_cons_zero, List.set_cons_succ]
            refine takeD (i := 9) (d := some 3) (v := ?_) _ rfl rfl (by kernel_rfl) (by kernel_rfl) (by kernel_rfl) (fun _ _ _ h => h) (by rfl) ?_ trivial ?_
            rotate_left
            · (intro w hSw; (try dsimp only at hSw); go_simp) <;> with_reducible rfl
            try simp only [Act.put, List.setIfInBounds_toArray, List.set_cons_zero, List.set_cons_succ]
            refine wpAnyH_done (by kernel_rfl) ?_ _
            go_wp2_with fail
            go_ret2
            exact ⟨_, rc, bw, bm, rfl, Q.out, B_z.out⟩
      · obtain ⟨xp, h_xp⟩ : ∃ W, x.alloc (.map #[] 0) = W := ⟨_, rfl⟩
        obtain ⟨bm, h_bm⟩ : ∃ bm, x.heap.size = bm := ⟨_, rfl⟩
        have b_xp : Below x.heap.size x xp := by rw [← h_xp]; exact (Below.refl _ _).alloc (Nat.le_refl _) _
        have B_xp : Hid (Below wr.heap.size wr xp) := B_x.out.trans (b_xp.mono B_x.out.size)
        have P_xp : Hid (MapV xp bm 0 (fun _ => none) ∧ wr.heap.size ≤ bm) := by unfold Hid; rw [← h_xp, ← h_bm]; exact ⟨MapV.made _, B_x.out.size⟩
        have hmm := run_makeMap (P := Try.prog) 64 x
        rw [h_xp] at hmm
        try rw [h_bm] at hmm
        try go_simp
        refine hK.out _ _ trivial (fun _ => ?_)
        clear h_xp h_bm hmm b_xp
        clear hK K
        try simp only [Act.put, List.setIfInBounds_toArray, List.set_cons_zero, List.set_cons_succ]
        refine wpAnyH_ready (rs := [1, 4]) (by kernel_rfl) (by simp) ?_
        refine AllReadyH.cons rfl (fun K hK => ?_) (AllReadyH.cons rfl (fun K hK => ?_) (AllReadyH.nil))
        · have CL := I.clone_any (.slice A n c) b cs xp (HR.out xp B_xp.out) (by have := HN.out; have := H16.out; omega)
          try go_simp
          go_at_call 29
          refine CL.mono ?_
          rintro e xpc ⟨A2, n2, c2, rc, rfl, r1, r2, b_xpc⟩
          have hn2 : n2 = n := by
            rcases r1.form with ⟨hv, h0⟩ | ⟨_, _, hv, _⟩
            · injection hv with _ h1 _; have := HN.out; rw [h1, ← this, h0]; rfl
            · injection hv with _ h1 _; rw [h1, HN.out]
          rw [hn2] at r1 r2 ⊢
          clear hn2 n2 CL
          have C_xpc : Hid (I.RowV xpc (.slice A2 n c2) rc cs ∧ (Value.slice A2 n c2 = .slice none 0 0 ∨ (wr.heap.size ≤ rc ∧ rc < xpc.heap.size))) := ⟨r1, r2.imp (fun h => h) fun h => ⟨Nat.le_trans B_xp.out.size h.1, h.2⟩⟩
          have B_xpc : Hid (Below wr.heap.size wr xpc) := B_xp.out.trans (b_xpc.mono B_xp.out.size)
          have P_xpc : Hid (MapV xpc bm 0 (fun _ => none) ∧ wr.heap.size ≤ bm) := ⟨P_xp.out.1.keep (b_xpc.block bm P_xp.out.1.lt), P_xp.out.2⟩
          clear b_xpc r1 r2
          try go_wp2_with fail
          refine hK.out _ _ trivial (fun _ => ?_)
          clear hK K
          try simp only [Act.put, List.setIfInBounds_toArray, List.set_cons_zero, List.set_cons_succ]
          refine wpAnyH_ready (rs := [4]) (by kernel_rfl) (by simp) ?_
          refine AllReadyH.cons rfl (fun K hK => ?_) (AllReadyH.nil)
          · obtain ⟨xpcm, h_xpcm⟩ : ∃ W, xpc.alloc (.cells (madeCells #[.slice none 0 0] n) 79) = W := ⟨_, rfl⟩
            obtain ⟨bw, h_bw⟩ : ∃ bw, xpc.heap.size = bw := ⟨_, rfl⟩
            have b_xpcm : Below xpc.heap.size xpc xpcm := by rw [← h_xpcm]; exact (Below.refl _ _).alloc (Nat.le_refl _) _
            have B_xpcm : Hid (Below wr.heap.size wr xpcm) := B_xpc.out.trans (b_xpcm.mono B_xpc.out.size)
            have M_xpcm : Hid (xpcm.heap[bw]? = some (.cells (madeCells #[.slice none 0 0] n) 79 (0, 0)) ∧ wr.heap.size ≤ bw) := by unfold Hid; rw [← h_xpcm, ← h_bw]; exact ⟨heap_alloc_new _ _, B_xpc.out.size⟩
            have C_xpcm : Hid (I.RowV xpcm (.slice A2 n c2) rc cs ∧ (Value.slice A2 n c2 = .slice none 0 0 ∨ (wr.heap.size ≤ rc ∧ rc < xpcm.heap.size))) := ⟨C_xpc.out.1.keep (C_xpc.out.2.imp (fun h => h) fun h => b_xpcm.block rc h.2), C_xpc.out.2.imp (fun h => h) fun h => ⟨h.1, Nat.lt_of_lt_of_le h.2 b_xpcm.size⟩⟩
            have P_xpcm : Hid (MapV xpcm bm 0 (fun _ => none) ∧ wr.heap.size ≤ bm) := ⟨P_xpc.out.1.keep (b_xpcm.block bm P_xpc.out.1.lt), P_xpc.out.2⟩
            have hmk := run_make_row' (P := Try.prog) 63 79 (.slice none 0 0) 24 Try.underlying63 wl_info rfl .i64 .i64 n (by have := H16.out; omega) (by have := H16.out; omega) xpc
            rw [h_xpcm] at hmk
            try rw [h_bw] at hmk
            try go_simp
            refine hK.out _ _ trivial (fun _ => ?_)
            clear h_xpcm h_bw hmk b_xpcm
            clear hK K
            try simp only [Act.put, List.setIfInBounds_toArray, List.set_cons_zero, List.set_cons_succ]
            refine takeD (i := 6) (d := some 25) (v := ?_) _ rfl rfl (by kernel_rfl) (by kernel_rfl) (by kernel_rfl) (fun _ _ _ h => h) (by rfl) ?_ trivial ?_
            rotate_left
            · (intro w hSw; (try dsimp only at hSw); go_simp) <;> with_reducible rfl
            try simp only [Act.put, List.setIfInBounds_toArray, List.set_cons_zero, List.set_cons_succ]
            have Q := Lib.hid (new_LV (n := n) HN.out B_xpcm.out C_xpcm.out.1 C_xpcm.out.2 M_xpcm.out.1 M_xpcm.out.2 P_xpcm.out.1 P_xpcm.out.2)
            obtain ⟨z, h_z⟩ : ∃ W, xpcm.alloc (.cells #[.slice A2 n c2, .slice (some ⟨bw, 0, none⟩) n n, .map (some bm)] 66) = W := ⟨_, rfl⟩
            have B_z : Hid (Below wr.heap.size wr z) := by unfold Hid; rw [← h_z]; exact B_xpcm.out.alloc B_xpcm.out.size _
            rw [h_z] at Q
            have G_z : Hid (wr.heap.size ≤ xpcm.heap.size) := B_xpcm.out.size
            refine wpAnyH_ready (rs := [7]) (by kernel_rfl) (by simp) ?_
            refine AllReadyH.cons rfl (fun K hK => ?_) AllReadyH.nil
            try go_simp
            refine hK.out _ _ trivial (fun _ => ?_)
            try rw [h_z]
            clear h_z
            clear hK K
            try simp only [Act.put, List.setIfInBounds_toArray, List.set_cons_zero, List.set_cons_succ]
            refine takeD (i := 8) (d := some 2) (v := ?_) _ rfl rfl (by kernel_rfl) (by kernel_rfl) (by kernel_rfl) (fun _ _ _ h => h) (by rfl) ?_ trivial ?_
            rotate_left
            · (intro w hSw; (try dsimp only at hSw); go_simp) <;> with_reducible rfl
            try simp only [Act.put, List.setIfInBounds_toArray, List.set_cons_zero, List.set_cons_succ]
            refine takeD (i := 9) (d := some 3) (v := ?_) _ rfl rfl (by kernel_rfl) (by kernel_rfl) (by kernel_rfl) (fun _ _ _ h => h) (by rfl) ?_ trivial ?_
            rotate_left
            · (intro w hSw; (try dsimp only at hSw); go_simp) <;> with_reducible rfl
            try simp only [Act.put, List.setIfInBounds_toArray, List.set_cons_zero, List.set_cons_succ]
            refine wpAnyH_done (by kernel_rfl) ?_ _
            go_wp2_with fail
            go_ret2
            exact ⟨_, rc, bw, bm, rfl, Q.out, B_z.out⟩
        · obtain ⟨xpm, h_xpm⟩ : ∃ W, xp.alloc (.cells (madeCells #[.slice none 0 0] n) 79) = W := ⟨_, rfl⟩
          obtain ⟨bw, h_bw⟩ : ∃ bw, xp.heap.size = bw := ⟨_, rfl⟩
          have b_xpm : Below xp.heap.size xp xpm := by rw [← h_xpm]; exact (Below.refl _ _).alloc (Nat.le_refl _) _
          have B_xpm : Hid (Below wr.heap.size wr xpm) := B_xp.out.trans (b_xpm.mono B_xp.out.size)
          have M_xpm : Hid (xpm.heap[bw]? = some (.cells (madeCells #[.slice none 0 0] n) 79 (0, 0)) ∧ wr.heap.size ≤ bw) := by unfold Hid; rw [← h_xpm, ← h_bw]; exact ⟨heap_alloc_new _ _, B_xp.out.size⟩
          have P_xpm : Hid (MapV xpm bm 0 (fun _ => none) ∧ wr.heap.size ≤ bm) := ⟨P_xp.out.1.keep (b_xpm.block bm P_xp.out.1.lt), P_xp.out.2⟩
          have hmk := run_make_row' (P := Try.prog) 63 79 (.slice none 0 0) 24 Try.underlying63 wl_info rfl .i64 .i64 n (by have := H16.out; omega) (by have := H16.out; omega) xp
          rw [h_xpm] at hmk
          try rw [h_bw] at hmk
          try go_simp
          refine hK.out _ _ trivial (fun _ => ?_)
          clear h_xpm h_bw hmk b_xpm
          clear hK K
          try simp only [Act.put, List.setIfInBounds_toArray, List.set_cons_zero, List.set_cons_succ]
          refine wpAnyH_ready (rs := [1]) (by kernel_rfl) (by simp) ?_
          refine AllReadyH.cons rfl (fun K hK => ?_) (AllReadyH.nil)
          · have CL := I.clone_any (.slice A n c) b cs xpm (HR.out xpm B_xpm.out) (by have := HN.out; have := H16.out; omega)
            try go_simp
            go_at_call 29
            refine CL.mono ?_
            rintro e xpmc ⟨A2, n2, c2, rc, rfl, r1, r2, b_xpmc⟩
            have hn2 : n2 = n := by
              rcases r1.form with ⟨hv, h0⟩ | ⟨_, _, hv, _⟩
              · injection hv with _ h1 _; have := HN.out; rw [h1, ← this, h0]; rfl
              · injection hv with _ h1 _; rw [h1, HN.out]
            rw [hn2] at r1 r2 ⊢
            clear hn2 n2 CL
            have C_xpmc : Hid (I.RowV xpmc (.slice A2 n c2) rc cs ∧ (Value.slice A2 n c2 = .slice none 0 0 ∨ (wr.heap.size ≤ rc ∧ rc < xpmc.heap.size))) := ⟨r1, r2.imp (fun h => h) fun h => ⟨Nat.le_trans B_xpm.out.size h.1, h.2⟩⟩
            have B_xpmc : Hid (Below wr.heap.size wr xpmc) := B_xpm.out.trans (b_xpmc.mono B_xpm.out.size)
            have M_xpmc : Hid (xpmc.heap[bw]? = some (.cells (madeCells #[.slice none 0 0] n) 79 (0, 0)) ∧ wr.heap.size ≤ bw) := ⟨(b_xpmc.block bw (Array.getElem?_eq_some_iff.1 M_xpm.out.1).1).trans M_xpm.out.1, M_xpm.out.2⟩
            have P_xpmc : Hid (MapV xpmc bm 0 (fun _ => none) ∧ wr.heap.size ≤ bm) := ⟨P_xpm.out.1.keep (b_xpmc.block bm P_xpm.out.1.lt), P_xpm.out.2⟩
            clear b_xpmc r1 r2
            try go_wp2_with fail
            refine hK.out _ _ trivial (fun _ => ?_)
            clear hK K
            try simp only [Act.put, List.setIfInBounds_toArray, List.set_cons_zero, List.set_cons_succ]
            refine takeD (i := 6) (d := some 25) (v := ?_) _ rfl rfl (by kernel_rfl) (by kernel_rfl) (by kernel_rfl) (fun _ _ _ h => h) (by rfl) ?_ trivial ?_
            rotate_left
            · (intro w hSw; (try dsimp only at hSw); go_simp) <;> with_reducible rfl
            try simp only [Act.put, List.setIfInBounds_toArray, List.set_cons_zero, List.set_cons_succ]
            have Q := Lib.hid (new_LV (n := n) HN.out B_xpmc.out C_xpmc.out.1 C_xpmc.out.2 M_xpmc.out.1 M_xpmc.out.2 P_xpmc.out.1 P_xpmc.out.2)
            obtain ⟨z, h_z⟩ : ∃ W, xpmc.alloc (.cells #[.slice A2 n c2, .slice (some ⟨bw, 0, none⟩) n n, .map (some bm)] 66) = W := ⟨_, rfl⟩
            have B_z : Hid (Below wr.heap.size wr z) := by unfold Hid; rw [← h_z]; exact B_xpmc.out.alloc B_xpmc.out.size _
            rw [h_z] at Q
            have G_z : Hid (wr.heap.size ≤ xpmc.heap.size) := B_xpmc.out.size
            refine wpAnyH_ready (rs := [7]) (by kernel_rfl) (by simp) ?_
            refine AllReadyH.cons rfl (fun K hK => ?_) AllReadyH.nil
            try go_simp
            refine hK.out _ _ trivial (fun _ => ?_)
            try rw [h_z]
            clear h_z
            clear hK K
            try simp only [Act.put, List.setIfInBounds_toArray, List.set_cons_zero, List.set_cons_succ]
            refine takeD (i := 8) (d := some 2) (v := ?_) _ rfl rfl (by kernel_rfl) (by kernel_rfl) (by kernel_rfl) (fun _ _ _ h => h) (by rfl) ?_ trivial ?_
            rotate_left
            · (intro w hSw; (try dsimp only at hSw); go_simp) <;> with_reducible rfl
            try simp only [Act.put, List.setIfInBounds_toArray, List.set_cons_zero, List.set_cons_succ]
            refine takeD (i := 9) (d := some 3) (v := ?_) _ rfl rfl (by kernel_rfl) (by kernel_rfl) (by kernel_rfl) (fun _ _ _ h => h) (by rfl) ?_ trivial ?_
            rotate_left
            · (intro w hSw; (try dsimp only at hSw); go_simp) <;> with_reducible rfl
            try simp only [Act.put, List.setIfInBounds_toArray, List.set_cons_zero, List.set_cons_succ]
            refine wpAnyH_done (by kernel_rfl) ?_ _
            go_wp2_with fail
            go_ret2
            exact ⟨_, rc, bw, bm, rfl, Q.out, B_z.out⟩
end Go.Proofs.Ytbnnpfhgpbaedaa.K
