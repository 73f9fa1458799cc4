/-
  The contract of Set. Each statement bears its own conditions.
-/
import Derived.Test.YtnobfmdjnldfpaaMeth
namespace Go.Proofs.Ytnobfmdjnldfpaa
open Go.RowKit
set_option linter.unusedVariables false
set_option linter.unusedSimpArgs false
/-- But for a list's row all is as it was; the pointer's block is. -/
structure Kp (g rb : Nat) (w w' : World) : Prop where
  os : w'.os = w.os
  tape : w'.tape = w.tape
  output : w'.output = w.output
  size : w.heap.size ≤ w'.heap.size
  block : ∀ k, k < w.heap.size → (k = g ∨ k ≠ rb) → w'.heap[k]? = w.heap[k]?
theorem Kp.ch {g rb : Nat} {w w' : World} (h : Kp g rb w w') : Ch g rb w w' := ⟨h.os, h.tape, h.output, h.size, fun k hk _ h2 => h.block k hk (.inr h2)⟩
theorem ins_tf (v : Value) (g rb vb i : Nat) (x : Int × Int) (L : List (Int × Int)) (W : World) (hr : RowV W v rb L) (hne : (v = .slice none 0 0 ∧ rb = g) ∨ rb ≠ g) (hg : g < W.heap.size) (hvs : vb < W.heap.size) (hvb : vb ≠ rb) (hi : i ≤ L.length) (hL : L.length ≤ 1000) (hv : W.heap[vb]? = some (.cells #[.int .i64 x.1, .int .i64 x.2] 60 (0, 0))) :
    Calls Try.prog 29 #[v, .int .i64 (i : Int), .slice (some ⟨vb, 0, none⟩) 1 1] W fun e w' => ∃ A n c rb', e = .returned (.slice A n c) ∧ RowV w' (.slice A n c) rb' (L.take i ++ x :: L.drop i) ∧ rb' ≠ g ∧ rb' < w'.heap.size ∧ (rb' = rb ∨ W.heap.size ≤ rb') ∧ Kp g rb W w' := by
  have fin : ∀ {w' : World} {v' : Value} {rb' : Nat}, RowV w' v' rb' (L.take i ++ x :: L.drop i) → (∃ A n c, v' = .slice A n c) ∧ rb' < w'.heap.size := fun {w' v' rb'} h => by
    obtain ⟨A, c, h1, _⟩ := h.slice
    refine ⟨⟨A, _, c, h1⟩, ?_⟩
    rcases h.lt with h2 | h2
    · rw [h2] at h1
      injection h1 with _ h3 _
      simp at h3
    · exact h2
  rcases hne with ⟨hn, rfl⟩ | hne
  · have hr0 : RowV W v W.heap.size L := ⟨hr.own, fun b hb => by rw [hn] at hb; cases hb⟩
    refine (insert_any v W.heap.size vb i x L W hr0 hi hL (by omega) hv).mono ?_
    rintro e w' ⟨v', rb', rfl, h1, h2, h3⟩
    obtain ⟨⟨A, n, c, rfl⟩, h5⟩ := fin h1
    exact ⟨A, n, c, rb', rfl, h1, by omega, h5, .inr (by omega), ⟨h3.os, h3.tape, h3.output, h3.size, fun k hk _ => h3.block k hk (by omega)⟩⟩
  · refine (insert_any v rb vb i x L W hr hi hL hvb hv).mono ?_
    rintro e w' ⟨v', rb', rfl, h1, h2, h3⟩
    obtain ⟨⟨A, n, c, rfl⟩, h5⟩ := fin h1
    exact ⟨A, n, c, rb', rfl, h1, by omega, h5, h2, ⟨h3.os, h3.tape, h3.output, h3.size, fun k hk hor => h3.block k hk (by omega)⟩⟩
/-- Between the operations of Set's region. -/
structure PF (w1 : World) (g : Nat) (v : Value) (V : World) : Prop where
  bel : Below w1.heap.size w1 V
  cell : V.cell? ⟨g, 0, none⟩ = some v
  fz : ∀ o, V.frozen? ⟨g, o, none⟩ = false
theorem PF.more {w1 V V' : World} {g : Nat} {v : Value} (h : PF w1 g v V) (hg : g < w1.heap.size) (b : Below V.heap.size V V') : PF w1 g v V' :=
  ⟨h.bel.trans (b.mono h.bel.size), cell_later b h.cell, fun o => (World.frozen?_of_block (a := ⟨g, o, none⟩) (b.block g (Nat.lt_of_lt_of_le hg h.bel.size))).trans (h.fz o)⟩
structure PV (w1 : World) (vb : Nat) (x : Int × Int) (V : World) : Prop where
  blk : V.heap[vb]? = some (.cells #[.int .i64 x.1, .int .i64 x.2] 60 (0, 0))
  lt : vb < V.heap.size
  ge : w1.heap.size ≤ vb
theorem PV.more {w1 V V' : World} {vb : Nat} {x : Int × Int} (h : PV w1 vb x V) (b : Below V.heap.size V V') : PV w1 vb x V' :=
  ⟨(b.block vb h.lt).trans h.blk, Nat.lt_of_lt_of_le h.lt b.size, h.ge⟩
theorem PV.new {w1 V : World} {g : Nat} {v : Value} (h : PF w1 g v V) (x : Int × Int) : PV w1 V.heap.size x (V.alloc (.cells #[.int .i64 x.1, .int .i64 x.2] 60)) :=
  ⟨heap_alloc_new V _, by simp, h.bel.size⟩
/-- An id's tick, set. -/
def setL (L : List (Int × Int)) (id at_ : Int) : List (Int × Int) := (del L id).take (cnt (del L id) at_) ++ (id, at_) :: (del L id).drop (cnt (del L id) at_)
set_option maxRecDepth 100000 in
set_option maxHeartbeats 2000000 in
theorem set_any (g rb : Nat) (id at_ : Int) (L : List (Int × Int)) (w : World) (h : TF w g rb L) (hs : Srt (del L id)) (hL : L.length ≤ 1000) :
    Calls Try.prog 13 #[.pointer (some ⟨g, 0, none⟩), .int .i64 id, .int .i64 at_] w fun e w' => ∃ rb', e = .returned (.tuple #[]) ∧ TF w' g rb' (setL L id at_) ∧ (rb' = rb ∨ w.heap.size ≤ rb') ∧ Ch g rb w w' := by
  have DR := Lib.hid (drop_any g rb id L w h hL)
  have HL2 : Hid ((del L id).length ≤ 1000) := Nat.le_trans (del_len _ _) hL
  have HS := Lib.hid hs
  obtain ⟨D, hD⟩ : ∃ D, del L id = D := ⟨_, rfl⟩
  unfold setL
  rw [hD] at DR HL2 HS ⊢
  clear h hs hL hD
  go_enter Try.func13, Try.ntmps13
  go_wp2_with fail
  refine DR.out.mono ?_
  rintro e w1 ⟨rfl, hT1, hC1⟩
  obtain ⟨v, hc, hr, hne⟩ := hT1.ex
  obtain ⟨A, c, rfl, hnc⟩ := hr.slice
  obtain ⟨n, hn⟩ : ∃ n, Hid (D.length = n) := ⟨_, rfl⟩
  rw [hn.out] at hc hr hne
  have HR1 := Lib.hid hr
  have HNE := Lib.hid hne
  have HG1 := Lib.hid hT1.lt
  have HRL := Lib.hid hT1.rlt
  have HC1 := Lib.hid hC1
  have hf1 := hT1.fz
  have UN := Lib.hid fun (W : World) (hb : Below w1.heap.size w1 W) => until_any g rb at_ D W (hT1.below hb) HS.out HL2.out
  clear DR hT1 hr hne hC1 hnc
  go_wp2_with fail
  have HF : Hid (PF w1 g (.slice A n c) w1.drew) := ⟨(Below.refl _ _).drew, hc, hf1⟩
  refine wp_region_held_drew (S := (fun _ => True)) (by kernel_rfl) trivial (fun _ => ?_)
  generalize w1.drew = V0 at HF ⊢
  clear hc hf1
  refine takeD (i := 0) (d := some 9) (v := ?_) _ rfl rfl (by kernel_rfl) (by kernel_rfl) (by kernel_rfl) (fun _ _ _ h => h) (by rfl) ?_ trivial ?_
  rotate_left
  · (intro w hSw; (try dsimp only at hSw); go_simp) <;> with_reducible rfl
  try simp only [Act.put, List.setIfInBounds_toArray, List.set_cons_zero, List.set_cons_succ]
  refine takeD (i := 1) (d := some 10) (v := ?_) _ rfl rfl (by kernel_rfl) (by kernel_rfl) (by kernel_rfl) (fun _ _ _ h => h) (by rfl) ?_ trivial ?_
  rotate_left
  · (intro w hSw; (try dsimp only at hSw); go_simp) <;> with_reducible rfl
  try simp only [Act.put, List.setIfInBounds_toArray, List.set_cons_zero, List.set_cons_succ]
  refine takeD (i := 5) (d := some 14) (v := ?_) _ rfl rfl (by kernel_rfl) (by kernel_rfl) (by kernel_rfl) (fun _ _ _ h => h) (by rfl) ?_ trivial ?_
  rotate_left
  · (intro w hSw; (try dsimp only at hSw); go_simp) <;> with_reducible rfl
  try simp only [Act.put, List.setIfInBounds_toArray, List.set_cons_zero, List.set_cons_succ]
  refine takeD (i := 6) (d := some 15) (v := ?_) _ rfl rfl (by kernel_rfl) (by kernel_rfl) (by kernel_rfl) (fun _ _ _ h => h) (by rfl) ?_ trivial ?_
  rotate_left
  · (intro w hSw; (try dsimp only at hSw); go_simp) <;> with_reducible rfl
  try simp only [Act.put, List.setIfInBounds_toArray, List.set_cons_zero, List.set_cons_succ]
  refine takeD (i := 8) (d := some 17) (v := ?_) _ rfl rfl (by kernel_rfl) (by kernel_rfl) (by kernel_rfl) (fun _ _ _ h => h) (by rfl) ?_ trivial ?_
  rotate_left
  · (intro w hSw; (try dsimp only at hSw); go_simp) <;> with_reducible rfl
  try simp only [Act.put, List.setIfInBounds_toArray, List.set_cons_zero, List.set_cons_succ]
  refine takeD (i := 9) (d := some 18) (v := ?_) _ rfl rfl (by kernel_rfl) (by kernel_rfl) (by kernel_rfl) (fun _ _ _ h => h) (by rfl) ?_ trivial ?_
  rotate_left
  · (intro w hSw; (try dsimp only at hSw); go_simp) <;> with_reducible rfl
  try simp only [Act.put, List.setIfInBounds_toArray, List.set_cons_zero, List.set_cons_succ]
  refine takeD (i := 10) (d := some 19) (v := ?_) _ rfl rfl (by kernel_rfl) (by kernel_rfl) (by kernel_rfl) (fun _ _ _ h => h) (by rfl) ?_ trivial ?_
  rotate_left
  · (intro w hSw; (try dsimp only at hSw); go_simp) <;> with_reducible rfl
  try simp only [Act.put, List.setIfInBounds_toArray, List.set_cons_zero, List.set_cons_succ]
  refine takeD (i := 2) (d := some 11) (v := ?_) _ rfl rfl (by kernel_rfl) (by kernel_rfl) (by kernel_rfl) (fun _ _ _ h => h) (by rfl) ?_ trivial ?_
  rotate_left
  · (intro w hSw; (try dsimp only at hSw); go_simp) <;> with_reducible rfl
  try simp only [Act.put, List.setIfInBounds_toArray, List.set_cons_zero, List.set_cons_succ]
  refine takeD (i := 3) (d := some 12) (v := ?_) _ rfl rfl (by kernel_rfl) (by kernel_rfl) (by kernel_rfl) (fun _ _ _ h => h) (by rfl) ?_ trivial ?_
  rotate_left
  · (intro w hSw; (try dsimp only at hSw); go_simp) <;> with_reducible rfl
  try simp only [Act.put, List.setIfInBounds_toArray, List.set_cons_zero, List.set_cons_succ]
  refine wpAnyH_ready (rs := [4, 7, 11]) (by kernel_rfl) (by simp) ?_
  refine AllReadyH.cons rfl (fun K hK => ?_) (AllReadyH.cons rfl (fun K hK => ?_) (AllReadyH.cons rfl (fun K hK => ?_) AllReadyH.nil))
  · have cc := HF.out.cell
    go_simp
    clear cc
    refine hK.out _ _ trivial (fun _ => ?_)
    clear hK K
    try simp only [Act.put, List.setIfInBounds_toArray, List.set_cons_zero, List.set_cons_succ]
    refine wpAnyH_ready (rs := [7, 11]) (by kernel_rfl) (by simp) ?_
    refine AllReadyH.cons rfl (fun K hK => ?_) (AllReadyH.cons rfl (fun K hK => ?_) AllReadyH.nil)
    · go_simp
      go_at_call 30
      refine (UN.out _ HF.out.bel).mono ?_
      rintro e V2 ⟨rfl, ba⟩
      try go_wp2_with fail
      refine hK.out _ _ trivial (fun _ => ?_)
      clear hK K
      try simp only [Act.put, List.setIfInBounds_toArray, List.set_cons_zero, List.set_cons_succ]
      have HF := Lib.hid (HF.out.more HG1.out ba)
      clear ba
      refine wpAnyH_ready (rs := [11]) (by kernel_rfl) (by simp) ?_
      refine AllReadyH.cons rfl (fun K hK => ?_) AllReadyH.nil
      · go_simp
        refine hK.out _ _ trivial (fun _ => ?_)
        clear hK K
        try simp only [Act.put, List.setIfInBounds_toArray, List.set_cons_zero, List.set_cons_succ]
        have HV := Lib.hid (PV.new HF.out (id, at_))
        have HF := Lib.hid (HF.out.more HG1.out ((Below.refl _ _).alloc (Nat.le_refl _) (.cells #[.int .i64 id, .int .i64 at_] 60)))
        obtain ⟨vb3, hvb⟩ : ∃ vb, V2.heap.size = vb := ⟨_, rfl⟩
        rw [hvb] at HV
        simp only [hvb]
        clear hvb
        generalize V2.alloc (.cells #[.int .i64 id, .int .i64 at_] 60) = V3 at HF HV ⊢
        have IN := Lib.hid (ins_tf (.slice A n c) g rb vb3 (cnt D at_) (id, at_) D V3 (HR1.out.keep (.inr (HF.out.bel.block rb HRL.out))) HNE.out (Nat.lt_of_lt_of_le HG1.out HF.out.bel.size) HV.out.lt (by have := HV.out.ge; have := HRL.out; omega) (cnt_le _ _) HL2.out HV.out.blk)
        refine wpAnyH_ready (rs := [12]) (by kernel_rfl) (by simp) ?_
        refine AllReadyH.cons rfl (fun K hK => ?_) AllReadyH.nil
        go_simp
        go_at_call 29
        refine IN.out.mono ?_
        rintro e wc ⟨A3, n3, c3, rb', rfl, hr3, hne3, hlt3, hor3, hk3⟩
        try go_wp2_with fail
        refine hK.out _ _ trivial (fun _ => ?_)
        clear hK K
        try simp only [Act.put, List.setIfInBounds_toArray, List.set_cons_zero, List.set_cons_succ]
        refine takeD (i := 13) (d := some 22) (v := ?_) _ rfl rfl (by kernel_rfl) (by kernel_rfl) (by kernel_rfl) (fun _ _ _ h => h) (by rfl) ?_ trivial ?_
        rotate_left
        · (intro w hSw; (try dsimp only at hSw); go_simp) <;> with_reducible rfl
        try simp only [Act.put, List.setIfInBounds_toArray, List.set_cons_zero, List.set_cons_succ]
        refine takeD (i := 14) (d := some 23) (v := ?_) _ rfl rfl (by kernel_rfl) (by kernel_rfl) (by kernel_rfl) (fun _ _ _ h => h) (by rfl) ?_ trivial ?_
        rotate_left
        · (intro w hSw; (try dsimp only at hSw); go_simp) <;> with_reducible rfl
        try simp only [Act.put, List.setIfInBounds_toArray, List.set_cons_zero, List.set_cons_succ]
        have hgb := hk3.block g (Nat.lt_of_lt_of_le HG1.out HF.out.bel.size) (.inl rfl)
        have k0 : wc.cell? ⟨g, 0, none⟩ = some (.slice A n c) := (World.cell?_of_block (a := ⟨g, 0, none⟩) hgb).trans HF.out.cell
        have kf : ∀ o, wc.frozen? ⟨g, o, none⟩ = false := fun o => (World.frozen?_of_block (a := ⟨g, o, none⟩) hgb).trans (HF.out.fz o)
        have hst : Hid (TF (wc.setCell ⟨g, 0, none⟩ (.slice A3 n3 c3)) g rb' (D.take (cnt D at_) ++ (id, at_) :: D.drop (cnt D at_))) := TF.store (L0 := D) (Nat.lt_of_lt_of_le HG1.out (Nat.le_trans HF.out.bel.size hk3.size)) k0 kf hr3 hne3 hlt3
        have hch : Hid (Ch g rb w (wc.setCell ⟨g, 0, none⟩ (.slice A3 n3 c3))) := ((HC1.out.trans (Ch.of_below HF.out.bel) (.inl rfl)).trans hk3.ch (.inl rfl)).set 0 _
        have hor : Hid (rb' = rb ∨ w.heap.size ≤ rb') := by
          rcases hor3 with h | h
          · exact .inl h
          · exact .inr (Nat.le_trans HC1.out.size (Nat.le_trans HF.out.bel.size h))
        clear hr3 hk3 hor3 hgb hne3 hlt3 IN
        refine wpAnyH_ready (rs := [15]) (by kernel_rfl) (by simp) ?_
        refine AllReadyH.cons rfl (fun K hK => ?_) AllReadyH.nil
        go_simp
        refine hK.out _ _ trivial (fun _ => ?_)
        clear hK K
        try simp only [Act.put, List.setIfInBounds_toArray, List.set_cons_zero, List.set_cons_succ]
        refine wpAnyH_done (by kernel_rfl) ?_ _
        clear k0 kf
        go_wp2_with fail
        go_end0
        exact ⟨rb', rfl, hst.out, hor.out, hch.out⟩
    · go_simp
      refine hK.out _ _ trivial (fun _ => ?_)
      clear hK K
      try simp only [Act.put, List.setIfInBounds_toArray, List.set_cons_zero, List.set_cons_succ]
      have HV := Lib.hid (PV.new HF.out (id, at_))
      have HF := Lib.hid (HF.out.more HG1.out ((Below.refl _ _).alloc (Nat.le_refl _) (.cells #[.int .i64 id, .int .i64 at_] 60)))
      obtain ⟨vb4, hvb⟩ : ∃ vb, V0.heap.size = vb := ⟨_, rfl⟩
      rw [hvb] at HV
      simp only [hvb]
      clear hvb
      generalize V0.alloc (.cells #[.int .i64 id, .int .i64 at_] 60) = V4 at HF HV ⊢
      refine wpAnyH_ready (rs := [7]) (by kernel_rfl) (by simp) ?_
      refine AllReadyH.cons rfl (fun K hK => ?_) AllReadyH.nil
      · go_simp
        go_at_call 30
        refine (UN.out _ HF.out.bel).mono ?_
        rintro e V5 ⟨rfl, ba⟩
        try go_wp2_with fail
        refine hK.out _ _ trivial (fun _ => ?_)
        clear hK K
        try simp only [Act.put, List.setIfInBounds_toArray, List.set_cons_zero, List.set_cons_succ]
        have HF := Lib.hid (HF.out.more HG1.out ba)
        have HV := Lib.hid (HV.out.more ba)
        clear ba
        have IN := Lib.hid (ins_tf (.slice A n c) g rb vb4 (cnt D at_) (id, at_) D V5 (HR1.out.keep (.inr (HF.out.bel.block rb HRL.out))) HNE.out (Nat.lt_of_lt_of_le HG1.out HF.out.bel.size) HV.out.lt (by have := HV.out.ge; have := HRL.out; omega) (cnt_le _ _) HL2.out HV.out.blk)
        refine wpAnyH_ready (rs := [12]) (by kernel_rfl) (by simp) ?_
        refine AllReadyH.cons rfl (fun K hK => ?_) AllReadyH.nil
        go_simp
        go_at_call 29
        refine IN.out.mono ?_
        rintro e wc ⟨A3, n3, c3, rb', rfl, hr3, hne3, hlt3, hor3, hk3⟩
        try go_wp2_with fail
        refine hK.out _ _ trivial (fun _ => ?_)
        clear hK K
        try simp only [Act.put, List.setIfInBounds_toArray, List.set_cons_zero, List.set_cons_succ]
        refine takeD (i := 13) (d := some 22) (v := ?_) _ rfl rfl (by kernel_rfl) (by kernel_rfl) (by kernel_rfl) (fun _ _ _ h => h) (by rfl) ?_ trivial ?_
        rotate_left
        · (intro w hSw; (try dsimp only at hSw); go_simp) <;> with_reducible rfl
        try simp only [Act.put, List.setIfInBounds_toArray, List.set_cons_zero, List.set_cons_succ]
        refine takeD (i := 14) (d := some 23) (v := ?_) _ rfl rfl (by kernel_rfl) (by kernel_rfl) (by kernel_rfl) (fun _ _ _ h => h) (by rfl) ?_ trivial ?_
        rotate_left
        · (intro w hSw; (try dsimp only at hSw); go_simp) <;> with_reducible rfl
        try simp only [Act.put, List.setIfInBounds_toArray, List.set_cons_zero, List.set_cons_succ]
        have hgb := hk3.block g (Nat.lt_of_lt_of_le HG1.out HF.out.bel.size) (.inl rfl)
        have k0 : wc.cell? ⟨g, 0, none⟩ = some (.slice A n c) := (World.cell?_of_block (a := ⟨g, 0, none⟩) hgb).trans HF.out.cell
        have kf : ∀ o, wc.frozen? ⟨g, o, none⟩ = false := fun o => (World.frozen?_of_block (a := ⟨g, o, none⟩) hgb).trans (HF.out.fz o)
        have hst : Hid (TF (wc.setCell ⟨g, 0, none⟩ (.slice A3 n3 c3)) g rb' (D.take (cnt D at_) ++ (id, at_) :: D.drop (cnt D at_))) := TF.store (L0 := D) (Nat.lt_of_lt_of_le HG1.out (Nat.le_trans HF.out.bel.size hk3.size)) k0 kf hr3 hne3 hlt3
        have hch : Hid (Ch g rb w (wc.setCell ⟨g, 0, none⟩ (.slice A3 n3 c3))) := ((HC1.out.trans (Ch.of_below HF.out.bel) (.inl rfl)).trans hk3.ch (.inl rfl)).set 0 _
        have hor : Hid (rb' = rb ∨ w.heap.size ≤ rb') := by
          rcases hor3 with h | h
          · exact .inl h
          · exact .inr (Nat.le_trans HC1.out.size (Nat.le_trans HF.out.bel.size h))
        clear hr3 hk3 hor3 hgb hne3 hlt3 IN
        refine wpAnyH_ready (rs := [15]) (by kernel_rfl) (by simp) ?_
        refine AllReadyH.cons rfl (fun K hK => ?_) AllReadyH.nil
        go_simp
        refine hK.out _ _ trivial (fun _ => ?_)
        clear hK K
        try simp only [Act.put, List.setIfInBounds_toArray, List.set_cons_zero, List.set_cons_succ]
        refine wpAnyH_done (by kernel_rfl) ?_ _
        clear k0 kf
        go_wp2_with fail
        go_end0
        exact ⟨rb', rfl, hst.out, hor.out, hch.out⟩
  · go_simp
    go_at_call 30
    refine (UN.out _ HF.out.bel).mono ?_
    rintro e V6 ⟨rfl, ba⟩
    try go_wp2_with fail
    refine hK.out _ _ trivial (fun _ => ?_)
    clear hK K
    try simp only [Act.put, List.setIfInBounds_toArray, List.set_cons_zero, List.set_cons_succ]
    have HF := Lib.hid (HF.out.more HG1.out ba)
    clear ba
    refine wpAnyH_ready (rs := [4, 11]) (by kernel_rfl) (by simp) ?_
    refine AllReadyH.cons rfl (fun K hK => ?_) (AllReadyH.cons rfl (fun K hK => ?_) AllReadyH.nil)
    · have cc := HF.out.cell
      go_simp
      clear cc
      refine hK.out _ _ trivial (fun _ => ?_)
      clear hK K
      try simp only [Act.put, List.setIfInBounds_toArray, List.set_cons_zero, List.set_cons_succ]
      refine wpAnyH_ready (rs := [11]) (by kernel_rfl) (by simp) ?_
      refine AllReadyH.cons rfl (fun K hK => ?_) AllReadyH.nil
      · go_simp
        refine hK.out _ _ trivial (fun _ => ?_)
        clear hK K
        try simp only [Act.put, List.setIfInBounds_toArray, List.set_cons_zero, List.set_cons_succ]
        have HV := Lib.hid (PV.new HF.out (id, at_))
        have HF := Lib.hid (HF.out.more HG1.out ((Below.refl _ _).alloc (Nat.le_refl _) (.cells #[.int .i64 id, .int .i64 at_] 60)))
        obtain ⟨vb8, hvb⟩ : ∃ vb, V6.heap.size = vb := ⟨_, rfl⟩
        rw [hvb] at HV
        simp only [hvb]
        clear hvb
        generalize V6.alloc (.cells #[.int .i64 id, .int .i64 at_] 60) = V8 at HF HV ⊢
        have IN := Lib.hid (ins_tf (.slice A n c) g rb vb8 (cnt D at_) (id, at_) D V8 (HR1.out.keep (.inr (HF.out.bel.block rb HRL.out))) HNE.out (Nat.lt_of_lt_of_le HG1.out HF.out.bel.size) HV.out.lt (by have := HV.out.ge; have := HRL.out; omega) (cnt_le _ _) HL2.out HV.out.blk)
        refine wpAnyH_ready (rs := [12]) (by kernel_rfl) (by simp) ?_
        refine AllReadyH.cons rfl (fun K hK => ?_) AllReadyH.nil
        go_simp
        go_at_call 29
        refine IN.out.mono ?_
        rintro e wc ⟨A3, n3, c3, rb', rfl, hr3, hne3, hlt3, hor3, hk3⟩
        try go_wp2_with fail
        refine hK.out _ _ trivial (fun _ => ?_)
        clear hK K
        try simp only [Act.put, List.setIfInBounds_toArray, List.set_cons_zero, List.set_cons_succ]
        refine takeD (i := 13) (d := some 22) (v := ?_) _ rfl rfl (by kernel_rfl) (by kernel_rfl) (by kernel_rfl) (fun _ _ _ h => h) (by rfl) ?_ trivial ?_
        rotate_left
        · (intro w hSw; (try dsimp only at hSw); go_simp) <;> with_reducible rfl
        try simp only [Act.put, List.setIfInBounds_toArray, List.set_cons_zero, List.set_cons_succ]
        refine takeD (i := 14) (d := some 23) (v := ?_) _ rfl rfl (by kernel_rfl) (by kernel_rfl) (by kernel_rfl) (fun _ _ _ h => h) (by rfl) ?_ trivial ?_
        rotate_left
        · (intro w hSw; (try dsimp only at hSw); go_simp) <;> with_reducible rfl
        try simp only [Act.put, List.setIfInBounds_toArray, List.set_cons_zero, List.set_cons_succ]
        have hgb := hk3.block g (Nat.lt_of_lt_of_le HG1.out HF.out.bel.size) (.inl rfl)
        have k0 : wc.cell? ⟨g, 0, none⟩ = some (.slice A n c) := (World.cell?_of_block (a := ⟨g, 0, none⟩) hgb).trans HF.out.cell
        have kf : ∀ o, wc.frozen? ⟨g, o, none⟩ = false := fun o => (World.frozen?_of_block (a := ⟨g, o, none⟩) hgb).trans (HF.out.fz o)
        have hst : Hid (TF (wc.setCell ⟨g, 0, none⟩ (.slice A3 n3 c3)) g rb' (D.take (cnt D at_) ++ (id, at_) :: D.drop (cnt D at_))) := TF.store (L0 := D) (Nat.lt_of_lt_of_le HG1.out (Nat.le_trans HF.out.bel.size hk3.size)) k0 kf hr3 hne3 hlt3
        have hch : Hid (Ch g rb w (wc.setCell ⟨g, 0, none⟩ (.slice A3 n3 c3))) := ((HC1.out.trans (Ch.of_below HF.out.bel) (.inl rfl)).trans hk3.ch (.inl rfl)).set 0 _
        have hor : Hid (rb' = rb ∨ w.heap.size ≤ rb') := by
          rcases hor3 with h | h
          · exact .inl h
          · exact .inr (Nat.le_trans HC1.out.size (Nat.le_trans HF.out.bel.size h))
        clear hr3 hk3 hor3 hgb hne3 hlt3 IN
        refine wpAnyH_ready (rs := [15]) (by kernel_rfl) (by simp) ?_
        refine AllReadyH.cons rfl (fun K hK => ?_) AllReadyH.nil
        go_simp
        refine hK.out _ _ trivial (fun _ => ?_)
        clear hK K
        try simp only [Act.put, List.setIfInBounds_toArray, List.set_cons_zero, List.set_cons_succ]
        refine wpAnyH_done (by kernel_rfl) ?_ _
        clear k0 kf
        go_wp2_with fail
        go_end0
        exact ⟨rb', rfl, hst.out, hor.out, hch.out⟩
    · go_simp
      refine hK.out _ _ trivial (fun _ => ?_)
      clear hK K
      try simp only [Act.put, List.setIfInBounds_toArray, List.set_cons_zero, List.set_cons_succ]
      have HV := Lib.hid (PV.new HF.out (id, at_))
      have HF := Lib.hid (HF.out.more HG1.out ((Below.refl _ _).alloc (Nat.le_refl _) (.cells #[.int .i64 id, .int .i64 at_] 60)))
      obtain ⟨vb9, hvb⟩ : ∃ vb, V6.heap.size = vb := ⟨_, rfl⟩
      rw [hvb] at HV
      simp only [hvb]
      clear hvb
      generalize V6.alloc (.cells #[.int .i64 id, .int .i64 at_] 60) = V9 at HF HV ⊢
      refine wpAnyH_ready (rs := [4]) (by kernel_rfl) (by simp) ?_
      refine AllReadyH.cons rfl (fun K hK => ?_) AllReadyH.nil
      · have cc := HF.out.cell
        go_simp
        clear cc
        refine hK.out _ _ trivial (fun _ => ?_)
        clear hK K
        try simp only [Act.put, List.setIfInBounds_toArray, List.set_cons_zero, List.set_cons_succ]
        have IN := Lib.hid (ins_tf (.slice A n c) g rb vb9 (cnt D at_) (id, at_) D V9 (HR1.out.keep (.inr (HF.out.bel.block rb HRL.out))) HNE.out (Nat.lt_of_lt_of_le HG1.out HF.out.bel.size) HV.out.lt (by have := HV.out.ge; have := HRL.out; omega) (cnt_le _ _) HL2.out HV.out.blk)
        refine wpAnyH_ready (rs := [12]) (by kernel_rfl) (by simp) ?_
        refine AllReadyH.cons rfl (fun K hK => ?_) AllReadyH.nil
        go_simp
        go_at_call 29
        refine IN.out.mono ?_
        rintro e wc ⟨A3, n3, c3, rb', rfl, hr3, hne3, hlt3, hor3, hk3⟩
        try go_wp2_with fail
        refine hK.out _ _ trivial (fun _ => ?_)
        clear hK K
        try simp only [Act.put, List.setIfInBounds_toArray, List.set_cons_zero, List.set_cons_succ]
        refine takeD (i := 13) (d := some 22) (v := ?_) _ rfl rfl (by kernel_rfl) (by kernel_rfl) (by kernel_rfl) (fun _ _ _ h => h) (by rfl) ?_ trivial ?_
        rotate_left
        · (intro w hSw; (try dsimp only at hSw); go_simp) <;> with_reducible rfl
        try simp only [Act.put, List.setIfInBounds_toArray, List.set_cons_zero, List.set_cons_succ]
        refine takeD (i := 14) (d := some 23) (v := ?_) _ rfl rfl (by kernel_rfl) (by kernel_rfl) (by kernel_rfl) (fun _ _ _ h => h) (by rfl) ?_ trivial ?_
        rotate_left
        · (intro w hSw; (try dsimp only at hSw); go_simp) <;> with_reducible rfl
        try simp only [Act.put, List.setIfInBounds_toArray, List.set_cons_zero, List.set_cons_succ]
        have hgb := hk3.block g (Nat.lt_of_lt_of_le HG1.out HF.out.bel.size) (.inl rfl)
        have k0 : wc.cell? ⟨g, 0, none⟩ = some (.slice A n c) := (World.cell?_of_block (a := ⟨g, 0, none⟩) hgb).trans HF.out.cell
        have kf : ∀ o, wc.frozen? ⟨g, o, none⟩ = false := fun o => (World.frozen?_of_block (a := ⟨g, o, none⟩) hgb).trans (HF.out.fz o)
        have hst : Hid (TF (wc.setCell ⟨g, 0, none⟩ (.slice A3 n3 c3)) g rb' (D.take (cnt D at_) ++ (id, at_) :: D.drop (cnt D at_))) := TF.store (L0 := D) (Nat.lt_of_lt_of_le HG1.out (Nat.le_trans HF.out.bel.size hk3.size)) k0 kf hr3 hne3 hlt3
        have hch : Hid (Ch g rb w (wc.setCell ⟨g, 0, none⟩ (.slice A3 n3 c3))) := ((HC1.out.trans (Ch.of_below HF.out.bel) (.inl rfl)).trans hk3.ch (.inl rfl)).set 0 _
        have hor : Hid (rb' = rb ∨ w.heap.size ≤ rb') := by
          rcases hor3 with h | h
          · exact .inl h
          · exact .inr (Nat.le_trans HC1.out.size (Nat.le_trans HF.out.bel.size h))
        clear hr3 hk3 hor3 hgb hne3 hlt3 IN
        refine wpAnyH_ready (rs := [15]) (by kernel_rfl) (by simp) ?_
        refine AllReadyH.cons rfl (fun K hK => ?_) AllReadyH.nil
        go_simp
        refine hK.out _ _ trivial (fun _ => ?_)
        clear hK K
        try simp only [Act.put, List.setIfInBounds_toArray, List.set_cons_zero, List.set_cons_succ]
        refine wpAnyH_done (by kernel_rfl) ?_ _
        clear k0 kf
        go_wp2_with fail
        go_end0
        exact ⟨rb', rfl, hst.out, hor.out, hch.out⟩
  · go_simp
    refine hK.out _ _ trivial (fun _ => ?_)
    clear hK K
    try simp only [Act.put, List.setIfInBounds_toArray, List.set_cons_zero, List.set_cons_succ]
    have HV := Lib.hid (PV.new HF.out (id, at_))
    have HF := Lib.hid (HF.out.more HG1.out ((Below.refl _ _).alloc (Nat.le_refl _) (.cells #[.int .i64 id, .int .i64 at_] 60)))
    obtain ⟨vb11, hvb⟩ : ∃ vb, V0.heap.size = vb := ⟨_, rfl⟩
    rw [hvb] at HV
    simp only [hvb]
    clear hvb
    generalize V0.alloc (.cells #[.int .i64 id, .int .i64 at_] 60) = V11 at HF HV ⊢
    refine wpAnyH_ready (rs := [4, 7]) (by kernel_rfl) (by simp) ?_
    refine AllReadyH.cons rfl (fun K hK => ?_) (AllReadyH.cons rfl (fun K hK => ?_) AllReadyH.nil)
    · have cc := HF.out.cell
      go_simp
      clear cc
      refine hK.out _ _ trivial (fun _ => ?_)
      clear hK K
      try simp only [Act.put, List.setIfInBounds_toArray, List.set_cons_zero, List.set_cons_succ]
      refine wpAnyH_ready (rs := [7]) (by kernel_rfl) (by simp) ?_
      refine AllReadyH.cons rfl (fun K hK => ?_) AllReadyH.nil
      · go_simp
        go_at_call 30
        refine (UN.out _ HF.out.bel).mono ?_
        rintro e V13 ⟨rfl, ba⟩
        try go_wp2_with fail
        refine hK.out _ _ trivial (fun _ => ?_)
        clear hK K
        try simp only [Act.put, List.setIfInBounds_toArray, List.set_cons_zero, List.set_cons_succ]
        have HF := Lib.hid (HF.out.more HG1.out ba)
        have HV := Lib.hid (HV.out.more ba)
        clear ba
        have IN := Lib.hid (ins_tf (.slice A n c) g rb vb11 (cnt D at_) (id, at_) D V13 (HR1.out.keep (.inr (HF.out.bel.block rb HRL.out))) HNE.out (Nat.lt_of_lt_of_le HG1.out HF.out.bel.size) HV.out.lt (by have := HV.out.ge; have := HRL.out; omega) (cnt_le _ _) HL2.out HV.out.blk)
        refine wpAnyH_ready (rs := [12]) (by kernel_rfl) (by simp) ?_
        refine AllReadyH.cons rfl (fun K hK => ?_) AllReadyH.nil
        go_simp
        go_at_call 29
        refine IN.out.mono ?_
        rintro e wc ⟨A3, n3, c3, rb', rfl, hr3, hne3, hlt3, hor3, hk3⟩
        try go_wp2_with fail
        refine hK.out _ _ trivial (fun _ => ?_)
        clear hK K
        try simp only [Act.put, List.setIfInBounds_toArray, List.set_cons_zero, List.set_cons_succ]
        refine takeD (i := 13) (d := some 22) (v := ?_) _ rfl rfl (by kernel_rfl) (by kernel_rfl) (by kernel_rfl) (fun _ _ _ h => h) (by rfl) ?_ trivial ?_
        rotate_left
        · (intro w hSw; (try dsimp only at hSw); go_simp) <;> with_reducible rfl
        try simp only [Act.put, List.setIfInBounds_toArray, List.set_cons_zero, List.set_cons_succ]
        refine takeD (i := 14) (d := some 23) (v := ?_) _ rfl rfl (by kernel_rfl) (by kernel_rfl) (by kernel_rfl) (fun _ _ _ h => h) (by rfl) ?_ trivial ?_
        rotate_left
        · (intro w hSw; (try dsimp only at hSw); go_simp) <;> with_reducible rfl
        try simp only [Act.put, List.setIfInBounds_toArray, List.set_cons_zero, List.set_cons_succ]
        have hgb := hk3.block g (Nat.lt_of_lt_of_le HG1.out HF.out.bel.size) (.inl rfl)
        have k0 : wc.cell? ⟨g, 0, none⟩ = some (.slice A n c) := (World.cell?_of_block (a := ⟨g, 0, none⟩) hgb).trans HF.out.cell
        have kf : ∀ o, wc.frozen? ⟨g, o, none⟩ = false := fun o => (World.frozen?_of_block (a := ⟨g, o, none⟩) hgb).trans (HF.out.fz o)
        have hst : Hid (TF (wc.setCell ⟨g, 0, none⟩ (.slice A3 n3 c3)) g rb' (D.take (cnt D at_) ++ (id, at_) :: D.drop (cnt D at_))) := TF.store (L0 := D) (Nat.lt_of_lt_of_le HG1.out (Nat.le_trans HF.out.bel.size hk3.size)) k0 kf hr3 hne3 hlt3
        have hch : Hid (Ch g rb w (wc.setCell ⟨g, 0, none⟩ (.slice A3 n3 c3))) := ((HC1.out.trans (Ch.of_below HF.out.bel) (.inl rfl)).trans hk3.ch (.inl rfl)).set 0 _
        have hor : Hid (rb' = rb ∨ w.heap.size ≤ rb') := by
          rcases hor3 with h | h
          · exact .inl h
          · exact .inr (Nat.le_trans HC1.out.size (Nat.le_trans HF.out.bel.size h))
        clear hr3 hk3 hor3 hgb hne3 hlt3 IN
        refine wpAnyH_ready (rs := [15]) (by kernel_rfl) (by simp) ?_
        refine AllReadyH.cons rfl (fun K hK => ?_) AllReadyH.nil
        go_simp
        refine hK.out _ _ trivial (fun _ => ?_)
        clear hK K
        try simp only [Act.put, List.setIfInBounds_toArray, List.set_cons_zero, List.set_cons_succ]
        refine wpAnyH_done (by kernel_rfl) ?_ _
        clear k0 kf
        go_wp2_with fail
        go_end0
        exact ⟨rb', rfl, hst.out, hor.out, hch.out⟩
    · go_simp
      go_at_call 30
      refine (UN.out _ HF.out.bel).mono ?_
      rintro e V14 ⟨rfl, ba⟩
      try go_wp2_with fail
      refine hK.out _ _ trivial (fun _ => ?_)
      clear hK K
      try simp only [Act.put, List.setIfInBounds_toArray, List.set_cons_zero, List.set_cons_succ]
      have HF := Lib.hid (HF.out.more HG1.out ba)
      have HV := Lib.hid (HV.out.more ba)
      clear ba
      refine wpAnyH_ready (rs := [4]) (by kernel_rfl) (by simp) ?_
      refine AllReadyH.cons rfl (fun K hK => ?_) AllReadyH.nil
      · have cc := HF.out.cell
        go_simp
        clear cc
        refine hK.out _ _ trivial (fun _ => ?_)
        clear hK K
        try simp only [Act.put, List.setIfInBounds_toArray, List.set_cons_zero, List.set_cons_succ]
        have IN := Lib.hid (ins_tf (.slice A n c) g rb vb11 (cnt D at_) (id, at_) D V14 (HR1.out.keep (.inr (HF.out.bel.block rb HRL.out))) HNE.out (Nat.lt_of_lt_of_le HG1.out HF.out.bel.size) HV.out.lt (by have := HV.out.ge; have := HRL.out; omega) (cnt_le _ _) HL2.out HV.out.blk)
        refine wpAnyH_ready (rs := [12]) (by kernel_rfl) (by simp) ?_
        refine AllReadyH.cons rfl (fun K hK => ?_) AllReadyH.nil
        go_simp
        go_at_call 29
        refine IN.out.mono ?_
        rintro e wc ⟨A3, n3, c3, rb', rfl, hr3, hne3, hlt3, hor3, hk3⟩
        try go_wp2_with fail
        refine hK.out _ _ trivial (fun _ => ?_)
        clear hK K
        try simp only [Act.put, List.setIfInBounds_toArray, List.set_cons_zero, List.set_cons_succ]
        refine takeD (i := 13) (d := some 22) (v := ?_) _ rfl rfl (by kernel_rfl) (by kernel_rfl) (by kernel_rfl) (fun _ _ _ h => h) (by rfl) ?_ trivial ?_
        rotate_left
        · (intro w hSw; (try dsimp only at hSw); go_simp) <;> with_reducible rfl
        try simp only [Act.put, List.setIfInBounds_toArray, List.set_cons_zero, List.set_cons_succ]
        refine takeD (i := 14) (d := some 23) (v := ?_) _ rfl rfl (by kernel_rfl) (by kernel_rfl) (by kernel_rfl) (fun _ _ _ h => h) (by rfl) ?_ trivial ?_
        rotate_left
        · (intro w hSw; (try dsimp only at hSw); go_simp) <;> with_reducible rfl
        try simp only [Act.put, List.setIfInBounds_toArray, List.set_cons_zero, List.set_cons_succ]
        have hgb := hk3.block g (Nat.lt_of_lt_of_le HG1.out HF.out.bel.size) (.inl rfl)
        have k0 : wc.cell? ⟨g, 0, none⟩ = some (.slice A n c) := (World.cell?_of_block (a := ⟨g, 0, none⟩) hgb).trans HF.out.cell
        have kf : ∀ o, wc.frozen? ⟨g, o, none⟩ = false := fun o => (World.frozen?_of_block (a := ⟨g, o, none⟩) hgb).trans (HF.out.fz o)
        have hst : Hid (TF (wc.setCell ⟨g, 0, none⟩ (.slice A3 n3 c3)) g rb' (D.take (cnt D at_) ++ (id, at_) :: D.drop (cnt D at_))) := TF.store (L0 := D) (Nat.lt_of_lt_of_le HG1.out (Nat.le_trans HF.out.bel.size hk3.size)) k0 kf hr3 hne3 hlt3
        have hch : Hid (Ch g rb w (wc.setCell ⟨g, 0, none⟩ (.slice A3 n3 c3))) := ((HC1.out.trans (Ch.of_below HF.out.bel) (.inl rfl)).trans hk3.ch (.inl rfl)).set 0 _
        have hor : Hid (rb' = rb ∨ w.heap.size ≤ rb') := by
          rcases hor3 with h | h
          · exact .inl h
          · exact .inr (Nat.le_trans HC1.out.size (Nat.le_trans HF.out.bel.size h))
        clear hr3 hk3 hor3 hgb hne3 hlt3 IN
        refine wpAnyH_ready (rs := [15]) (by kernel_rfl) (by simp) ?_
        refine AllReadyH.cons rfl (fun K hK => ?_) AllReadyH.nil
        go_simp
        refine hK.out _ _ trivial (fun _ => ?_)
        clear hK K
        try simp only [Act.put, List.setIfInBounds_toArray, List.set_cons_zero, List.set_cons_succ]
        refine wpAnyH_done (by kernel_rfl) ?_ _
        clear k0 kf
        go_wp2_with fail
        go_end0
        exact ⟨rb', rfl, hst.out, hor.out, hch.out⟩
end Go.Proofs.Ytnobfmdjnldfpaa
