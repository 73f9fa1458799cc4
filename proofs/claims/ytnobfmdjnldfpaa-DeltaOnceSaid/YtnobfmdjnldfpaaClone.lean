/-
  The contracts of Same and Clone, and of the reference's Same. Each statement bears its own conditions.
-/
import Derived.Test.YtnobfmdjnldfpaaSame
namespace Go.Proofs.Ytnobfmdjnldfpaa
open Go.RowKit
set_option linter.unusedVariables false
set_option linter.unusedSimpArgs false
theorem tsame_any (g rb g' rb' : Nat) (L M : List (Int × Int)) (w : World) (h : TF w g rb L) (h' : TF w g' rb' M) (hL : L.length ≤ 1000) (hM : M.length ≤ 1000) :
    Calls Try.prog 12 #[.pointer (some ⟨g, 0, none⟩), .pointer (some ⟨g', 0, none⟩)] w fun e w' => e = .returned (.bool (decide (L = M))) ∧ Below w.heap.size w w' := by
  obtain ⟨v, hc, hr, _⟩ := h.ex
  obtain ⟨v', hc', hr', _⟩ := h'.ex
  have EQ := Lib.hid fun (W : World) (hb : Below w.heap.size w W) => equal_any v v' rb rb' L M W (hr.keep (.inr (hb.block rb h.rlt))) (hr'.keep (.inr (hb.block rb' h'.rlt))) hL hM
  obtain ⟨A, c, rfl, _⟩ := hr.slice
  obtain ⟨A', c', rfl, _⟩ := hr'.slice
  obtain ⟨n, hn⟩ : ∃ n, L.length = n := ⟨_, rfl⟩
  obtain ⟨m, hm⟩ : ∃ m, M.length = m := ⟨_, rfl⟩
  obtain ⟨eq, heq⟩ : ∃ eq, decide (L = M) = eq := ⟨_, rfl⟩
  rw [hn] at EQ hc
  rw [hm] at EQ hc'
  rw [heq] at EQ ⊢
  clear h h' hr hr' hL hM hn hm heq
  go_enter Try.func12, Try.ntmps12
  go_wp2_with fail
  refine wp_region_held_drew (S := (fun w' => Below w.heap.size w w' ∧ w'.cell? ⟨g, 0, none⟩ = some (.slice A n c) ∧ w'.cell? ⟨g', 0, none⟩ = some (.slice A' m c'))) (by kernel_rfl) ?_ (fun hHeld => ?_)
  · exact ⟨(Below.refl _ _).drew, hc, hc'⟩
  refine takeD (i := 0) (d := some 5) (v := ?_) _ rfl rfl (by kernel_rfl) (by kernel_rfl) (by kernel_rfl) (fun _ _ _ h => h) (by rfl) ?_ (by assumption) ?_
  rotate_left
  · (intro w hSw; (try dsimp only at hSw); go_simp) <;> with_reducible rfl
  try simp only [Act.put, List.setIfInBounds_toArray, List.set_cons_zero, List.set_cons_succ]
  refine takeD (i := 1) (d := some 6) (v := ?_) _ rfl rfl (by kernel_rfl) (by kernel_rfl) (by kernel_rfl) (fun _ _ _ h => h) (by rfl) ?_ (by assumption) ?_
  rotate_left
  · (intro w hSw; (try dsimp only at hSw); go_simp) <;> with_reducible rfl
  try simp only [Act.put, List.setIfInBounds_toArray, List.set_cons_zero, List.set_cons_succ]
  refine takeD (i := 2) (d := some 7) (v := ?_) _ rfl rfl (by kernel_rfl) (by kernel_rfl) (by kernel_rfl) (fun _ _ _ h => h) (by rfl) ?_ (by assumption) ?_
  rotate_left
  · (intro w hSw; (try dsimp only at hSw); go_simp) <;> with_reducible rfl
  try simp only [Act.put, List.setIfInBounds_toArray, List.set_cons_zero, List.set_cons_succ]
  refine takeD (i := 3) (d := some 8) (v := ?_) _ rfl rfl (by kernel_rfl) (by kernel_rfl) (by kernel_rfl) (fun _ _ _ h => h) (by rfl) ?_ (by assumption) ?_
  rotate_left
  · (intro w hSw; (try dsimp only at hSw); go_simp) <;> with_reducible rfl
  try simp only [Act.put, List.setIfInBounds_toArray, List.set_cons_zero, List.set_cons_succ]
  refine takeD (i := 4) (d := some 9) (v := ?_) _ rfl rfl (by kernel_rfl) (by kernel_rfl) (by kernel_rfl) (fun _ _ _ h => h) (by rfl) ?_ (by assumption) ?_
  rotate_left
  · (intro w hSw; (try dsimp only at hSw); go_simp) <;> with_reducible rfl
  try simp only [Act.put, List.setIfInBounds_toArray, List.set_cons_zero, List.set_cons_succ]
  refine takeD (i := 5) (d := some 10) (v := ?_) _ rfl rfl (by kernel_rfl) (by kernel_rfl) (by kernel_rfl) (fun _ _ _ h => h) (by rfl) ?_ (by assumption) ?_
  rotate_left
  · (intro w hSw; (try dsimp only at hSw); go_simp) <;> with_reducible rfl
  try simp only [Act.put, List.setIfInBounds_toArray, List.set_cons_zero, List.set_cons_succ]
  refine takeD (i := 6) (d := some 11) (v := ?_) _ rfl rfl (by kernel_rfl) (by kernel_rfl) (by kernel_rfl) (fun _ _ _ h => h) (by rfl) ?_ (by assumption) ?_
  rotate_left
  · (intro w hSw; (try dsimp only at hSw); go_simp) <;> with_reducible rfl
  try simp only [Act.put, List.setIfInBounds_toArray, List.set_cons_zero, List.set_cons_succ]
  refine takeD (i := 7) (d := some 12) (v := ?_) _ rfl rfl (by kernel_rfl) (by kernel_rfl) (by kernel_rfl) (fun _ _ _ h => h) (by rfl) ?_ (by assumption) ?_
  rotate_left
  · (intro w hSw; (try dsimp only at hSw); go_simp) <;> with_reducible rfl
  try simp only [Act.put, List.setIfInBounds_toArray, List.set_cons_zero, List.set_cons_succ]
  refine wpAnyH_ready (rs := [8]) (by kernel_rfl) (by simp) ?_
  refine AllReadyH.cons rfl (fun K hK => ?_) AllReadyH.nil
  (go_simp; go_at_call 28; refine (EQ.out _ hHeld.1).mono ?_; rintro e wt ⟨rfl, hbt⟩; try go_wp2_with fail)
  refine hK.out _ _ ?_ (fun hHeld => ?_)
  · exact ⟨hHeld.1.trans (hbt.mono hHeld.1.size), cell_later hbt hHeld.2.1, cell_later hbt hHeld.2.2⟩
  clear hK K
  try simp only [Act.put, List.setIfInBounds_toArray, List.set_cons_zero, List.set_cons_succ]
  refine takeD (i := 9) (d := some 4) (v := ?_) _ rfl rfl (by kernel_rfl) (by kernel_rfl) (by kernel_rfl) (fun _ _ _ h => h) (by rfl) ?_ (by assumption) ?_
  rotate_left
  · (intro w hSw; (try dsimp only at hSw); go_simp) <;> with_reducible rfl
  try simp only [Act.put, List.setIfInBounds_toArray, List.set_cons_zero, List.set_cons_succ]
  refine wpAnyH_done (by kernel_rfl) ?_ _
  have BF := hHeld.1
  clear hHeld
  go_wp2_with fail
  go_ret
  exact ⟨rfl, BF⟩
theorem row_new (w : World) : (w.alloc (.cells #[] 60)).ownsRow 0 60 2 (.slice (some ⟨w.heap.size, 0, none⟩) 0 0) 0 (C []) :=
  ⟨rfl, .inr ⟨w.heap.size, 0, #[], rfl, Nat.zero_le _, heap_alloc_new w _, Nat.le_refl _, by unfold maxLen; omega, rfl, rfl⟩⟩
theorem clone_any (v : Value) (rb : Nat) (L : List (Int × Int)) (w : World) (hr : RowV w v rb L) (hL : L.length ≤ 1000) :
    Calls Try.prog 27 #[v] w fun e w' => ∃ A n c rb', e = .returned (.slice A n c) ∧ RowV w' (.slice A n c) rb' L ∧ (Value.slice A n c = .slice none 0 0 ∨ (w.heap.size ≤ rb' ∧ rb' < w'.heap.size)) ∧ Below w.heap.size w w' := by
  rcases hr.form with ⟨rfl, h0⟩ | ⟨cap, cur, rfl, hg, h1, h2, h3, h4⟩
  · have he : ∀ w : World, (binOp .eql 55 (.slice none 0 0) (.slice none 0 0)).run Try.prog w = .ok (.bool true) w := fun _ => rfl
    go_enter Try.func27, Try.ntmps27
    go_wp2_with fail
    go_ret
    exact ⟨none, 0, 0, rb, rfl, hr, .inl rfl, Below.refl _ _⟩
  · obtain ⟨i0, hi, hz0, hz1, hz2⟩ := info_of timer_info
    obtain ⟨n, hn⟩ : ∃ n, L.length = n := ⟨_, rfl⟩
    have hb : rb < w.heap.size := by
      rcases hr.lt with h | h
      · cases h
      · exact h
    have RD : Hid (Reads w w.heap.size 2 (some ⟨rb, 0, none⟩) n (C L)) := by
      refine ⟨by rw [C_len, hn], fun _ => ⟨_, rfl, hb, fun j u hu => ?_⟩⟩
      rw [Addr.add_lit, Nat.zero_add, (row_cell hg j).1, ← Array.getElem?_toList]
      have h5 : j < n * 2 := by
        have := (List.getElem?_eq_some_iff.1 hu).1
        rw [C_len, hn] at this; exact this
      rw [← h4, hn, List.getElem?_take_of_lt h5] at hu
      exact hu
    have HN := Lib.hid hn
    have HL : Hid (n ≤ 1000) := by unfold Hid; omega
    rw [hn]
    clear hr hg h1 h2 h3 h4 hL hn hb
    have he : ∀ w : World, (binOp .eql 55 (.slice (some ⟨rb, 0, none⟩) n cap) (.slice none 0 0)).run Try.prog w = .ok (.bool false) w := fun _ => rfl
    go_enter Try.func27, Try.ntmps27
    go_wp2_with (at_builtin; refine wpList_append_any _ rfl (.tmp 5) (.tmp 6) _ rfl 0 60 i0 _ 2 16 Try.underlying55 hi hz0 hz1 hz2 rfl (by omega) (.slice (some ⟨w.heap.size, 0, none⟩) 0 0) 0 (C []) rfl (row_new w) w.heap.size (some ⟨rb, 0, none⟩) n cap (C L) rfl (RD.out.alloc (Nat.le_refl _) _) (C_one _) ?c2 ?c3 ?c4 ?_)
    case c2 => have := HL.out; unfold maxLen; omega
    case c3 => have := HL.out; omega
    case c4 => exact Nat.zero_le _
    intro v2 w2 ho hgr hbl
    have ho' : w2.ownsRow 0 60 2 v2 L.length (C L) := by rw [HN.out]; simpa [C] using ho
    have hs2 : w.heap.size < w2.heap.size := by have := hgr.size; simp at this; omega
    have hbel : Hid (Below w.heap.size w w2) := ((Below.refl _ _).alloc (Nat.le_refl _) _).grown hgr (by simp) (fun q hq => by have h' : some w.heap.size = some q := hq; injection h' with h'; omega)
    obtain ⟨A2, c2, hv2⟩ := slice_form ho'
    rw [HN.out] at hv2
    subst hv2
    have hres : Hid (∃ rb', RowV w2 (.slice A2 n c2) rb' L ∧ (Value.slice A2 n c2 = .slice none 0 0 ∨ (w.heap.size ≤ rb' ∧ rb' < w2.heap.size))) := by
      unfold Hid
      rcases hbl with h | h
      · refine ⟨w.heap.size, ⟨ho', fun b e => by rw [h] at e; injection e with e; exact e.symm⟩, .inr ⟨Nat.le_refl _, hs2⟩⟩
      · have R : RowV w2 (.slice A2 n c2) (w.heap.size + 1) L := ⟨ho', fun b e => by
          rw [h] at e
          simpa using e.symm⟩
        refine ⟨w.heap.size + 1, R, ?_⟩
        rcases R.lt with h5 | h5
        · exact .inl h5
        · exact .inr ⟨by omega, h5⟩
    clear ho ho' hgr hbl hs2
    go_wp2_with fail
    go_ret
    obtain ⟨rb', r1, r2⟩ := hres.out
    exact ⟨A2, n, c2, rb', rfl, r1, r2, hbel.out⟩
theorem tclone_any (g rb : Nat) (L : List (Int × Int)) (w : World) (h : TF w g rb L) (hL : L.length ≤ 1000) :
    Calls Try.prog 11 #[.pointer (some ⟨g, 0, none⟩)] w fun e w' => ∃ g' rb', e = .returned (.pointer (some ⟨g', 0, none⟩)) ∧ TF w' g' rb' L ∧ w.heap.size ≤ g' ∧ w.heap.size ≤ rb' ∧ Below w.heap.size w w' := by
  obtain ⟨v, hc, hr, _⟩ := h.ex
  have CL := Lib.hid (clone_any v rb L w hr hL)
  obtain ⟨A, c, rfl, _⟩ := hr.slice
  obtain ⟨n, hn⟩ : ∃ n, L.length = n := ⟨_, rfl⟩
  rw [hn] at CL hc
  clear h hr hL hn
  go_enter Try.func11, Try.ntmps11
  go_wp2_with fail
  refine CL.out.mono ?_
  rintro e w1 ⟨A1, n1, c1, rb1, rfl, hr1, hor, hb⟩
  have HR := Lib.hid hr1
  have HO := Lib.hid hor
  have HB := Lib.hid hb
  clear hr1 hor hb CL
  go_wp2_with fail
  go_ret
  have BA : Below w1.heap.size w1 (w1.alloc (.cells #[.slice A1 n1 c1] 57)) := (Below.refl _ _).alloc (Nat.le_refl _) _
  have hbel := HB.out.trans (BA.mono HB.out.size)
  have hc1 : (w1.alloc (.cells #[.slice A1 n1 c1] 57)).cell? ⟨w1.heap.size, 0, none⟩ = some (.slice A1 n1 c1) := by rw [World.cell?_alloc_new]; rfl
  rcases HO.out with h | ⟨h1, h2⟩
  · exact ⟨w1.heap.size, w1.heap.size, rfl, ⟨by simp, fun o => by simp, by simp, _, hc1, ⟨(HR.out.keep (.inl h)).own, fun b e => by rw [h] at e; cases e⟩, .inl ⟨h, rfl⟩⟩, HB.out.size, HB.out.size, hbel⟩
  · exact ⟨w1.heap.size, rb1, rfl, ⟨by simp, fun o => by simp, by simp; omega, _, hc1, HR.out.keep (.inr (BA.block rb1 h2)), .inr (by omega)⟩, HB.out.size, h1, hbel⟩
/-- Numbers as cells. -/
def I (l : List Int) : List Value := l.map (Value.int .i64)
theorem I_one (l : List Int) : ∀ u ∈ I l, u.oneCell' = true := by
  intro u hu
  obtain ⟨x, _, rfl⟩ := List.mem_map.1 hu
  rfl
theorem place_i {w : World} {B n : Nat} {A : Option Addr} {l : List Int} (h : Reads w B 1 A n (I l)) (hn : 0 < n) : ∃ b off, A = some ⟨b, off, none⟩ ∧ b < B ∧ l.length = n ∧ ∀ i, i < n → w.cell? ⟨b, off + i, none⟩ = some (.int .i64 (l.getD i 0)) := by
  obtain ⟨⟨b, off, spot⟩, hA, hb, hc⟩ := h.2 hn
  have hl : l.length = n := by have := h.1; simpa [I] using this
  have e0 := hc 0 (.int .i64 (l.getD 0 0)) (by simp [I, List.getD_eq_getElem?_getD, List.getElem?_eq_getElem (show 0 < l.length by omega)])
  have hs : spot = none := by simpa [Addr.add] using World.cell?_spot e0
  subst hs
  refine ⟨b, off, hA, hb, hl, fun i hi => ?_⟩
  have := hc i (.int .i64 (l.getD i 0)) (by simp [I, List.getD_eq_getElem?_getD, List.getElem?_eq_getElem (show i < l.length by omega)])
  rwa [Addr.add_lit] at this
structure IRel (n : Nat) (w : World) (iv : Value) (wr : World) : Prop where
  ex : ∃ j : Nat, j ≤ n ∧ iv = .int .i64 (j : Int) ∧ Below w.heap.size w wr
/-- The same lists are the same. -/
theorem isame_true (A A' : Option Addr) (n c c' : Nat) (l : List Int) (w : World) (B B' : Nat) (ha : Reads w B 1 A n (I l)) (hb : Reads w B' 1 A' n (I l)) (hn : n ≤ 1000) (hB : B ≤ w.heap.size) (hB' : B' ≤ w.heap.size) :
    Calls Try.prog 19 #[.slice A n c, .slice A' n c'] w fun e w' => e = .returned (.bool true) ∧ Below w.heap.size w w' := by
  have HA := Lib.hid ha
  have HB := Lib.hid hb
  have HN := Lib.hid hn
  clear ha hb hn hB hB'
  go_enter Try.func19, Try.ntmps19
  go_wp2_with fail
  go_loopw [5] (fun i wr => IRel n w i wr) (fun i _ => 1001 - (intOf i).toNat)
  case atStart => exact ⟨⟨0, Nat.zero_le _, rfl, Below.refl _ _⟩⟩
  case round =>
    obtain ⟨⟨j, hj, rfl, hbe⟩⟩ := hrel
    have HBE := Lib.hid hbe
    clear hbe
    by_cases hlt : j < n
    · obtain ⟨b, off, rfl, hbl, _, hc⟩ := place_i HA.out (by omega)
      obtain ⟨b', off', rfl, hbl', _, hc'⟩ := place_i HB.out (by omega)
      have d0 := hc j hlt
      have d1 := hc' j hlt
      obtain ⟨x, hx⟩ : ∃ x, l.getD j 0 = x := ⟨_, rfl⟩
      rw [hx] at d0 d1
      have e0 := cell_later HBE.out d0
      have e1 := cell_later HBE.out d1
      have hjI : (j : Int) < (n : Int) := by omega
      have hj2 : (j : Int) < 1000 := by have := HN.out; omega
      have HX : Hid (j < n) := hlt
      clear hc hc' hx d0 d1 hbl hbl' hj hlt
      go_wp2_with fail
      refine wp_region_held_drew (S := (fun w' => Below wr.heap.size wr w' ∧ w'.cell? ⟨b, off + j, none⟩ = some (.int .i64 x) ∧ w'.cell? ⟨b', off' + j, none⟩ = some (.int .i64 x))) (by kernel_rfl) ?_ (fun hHeld => ?_)
      · exact ⟨(Below.refl _ _).drew, e0, e1⟩
      refine takeD (i := 0) (d := some 17) (v := ?_) _ rfl rfl (by kernel_rfl) (by kernel_rfl) (by kernel_rfl) (fun _ _ _ h => h) (by rfl) ?_ (by assumption) ?_
      rotate_left
      · (intro w hSw; (try dsimp only at hSw); go_simp) <;> with_reducible rfl
      try simp only [Act.put, List.setIfInBounds_toArray, List.set_cons_zero, List.set_cons_succ]
      refine takeD (i := 1) (d := some 18) (v := ?_) _ rfl rfl (by kernel_rfl) (by kernel_rfl) (by kernel_rfl) (fun _ _ _ h => h) (by rfl) ?_ (by assumption) ?_
      rotate_left
      · (intro w hSw; (try dsimp only at hSw); go_simp) <;> with_reducible rfl
      try simp only [Act.put, List.setIfInBounds_toArray, List.set_cons_zero, List.set_cons_succ]
      refine takeD (i := 2) (d := some 19) (v := ?_) _ rfl rfl (by kernel_rfl) (by kernel_rfl) (by kernel_rfl) (fun _ _ _ h => h) (by rfl) ?_ (by assumption) ?_
      rotate_left
      · (intro w hSw; (try dsimp only at hSw); go_simp) <;> with_reducible rfl
      try simp only [Act.put, List.setIfInBounds_toArray, List.set_cons_zero, List.set_cons_succ]
      refine takeD (i := 3) (d := some 20) (v := ?_) _ rfl rfl (by kernel_rfl) (by kernel_rfl) (by kernel_rfl) (fun _ _ _ h => h) (by rfl) ?_ (by assumption) ?_
      rotate_left
      · (intro w hSw; (try dsimp only at hSw); go_simp) <;> with_reducible rfl
      try simp only [Act.put, List.setIfInBounds_toArray, List.set_cons_zero, List.set_cons_succ]
      refine takeD (i := 4) (d := some 21) (v := ?_) _ rfl rfl (by kernel_rfl) (by kernel_rfl) (by kernel_rfl) (fun _ _ _ h => h) (by rfl) ?_ (by assumption) ?_
      rotate_left
      · (intro w hSw; (try dsimp only at hSw); go_simp) <;> with_reducible rfl
      try simp only [Act.put, List.setIfInBounds_toArray, List.set_cons_zero, List.set_cons_succ]
      refine takeD (i := 5) (d := some 22) (v := ?_) _ rfl rfl (by kernel_rfl) (by kernel_rfl) (by kernel_rfl) (fun _ _ _ h => h) (by rfl) ?_ (by assumption) ?_
      rotate_left
      · (intro w hSw; (try dsimp only at hSw); go_simp) <;> with_reducible rfl
      try simp only [Act.put, List.setIfInBounds_toArray, List.set_cons_zero, List.set_cons_succ]
      refine takeD (i := 6) (d := some 23) (v := ?_) _ rfl rfl (by kernel_rfl) (by kernel_rfl) (by kernel_rfl) (fun _ _ _ h => h) (by rfl) ?_ (by assumption) ?_
      rotate_left
      · (intro w hSw; (try dsimp only at hSw); go_simp) <;> with_reducible rfl
      try simp only [Act.put, List.setIfInBounds_toArray, List.set_cons_zero, List.set_cons_succ]
      refine takeD (i := 7) (d := some 24) (v := ?_) _ rfl rfl (by kernel_rfl) (by kernel_rfl) (by kernel_rfl) (fun _ _ _ h => h) (by rfl) ?_ (by assumption) ?_
      rotate_left
      · (intro w hSw; (try dsimp only at hSw); go_simp) <;> with_reducible rfl
      try simp only [Act.put, List.setIfInBounds_toArray, List.set_cons_zero, List.set_cons_succ]
      refine takeD (i := 8) (d := some 25) (v := ?_) _ rfl rfl (by kernel_rfl) (by kernel_rfl) (by kernel_rfl) (fun _ _ _ h => h) (by rfl) ?_ (by assumption) ?_
      rotate_left
      · (intro w hSw; (try dsimp only at hSw); go_simp) <;> with_reducible rfl
      try simp only [Act.put, List.setIfInBounds_toArray, List.set_cons_zero, List.set_cons_succ]
      refine wpAnyH_done (by kernel_rfl) ?_ _
      have HB2 := Lib.hid (HBE.out.trans (hHeld.1.mono HBE.out.size))
      clear hHeld
      go_wp2_with fail
      go_roundw
      case rel => first | exact ⟨⟨j + 1, HX.out, by go_num, HB2.out⟩⟩ | ((repeat apply Exists.intro); exact ⟨⟨⟨j + 1, HX.out, by go_num, HB2.out⟩⟩, rfl⟩)
      case measure => simp [intOf]; omega
    · have hjI : ¬ (j : Int) < (n : Int) := by omega
      clear hj
      go_wp2_with fail
      go_ret
      exact ⟨rfl, HBE.out⟩
end Go.Proofs.Ytnobfmdjnldfpaa
