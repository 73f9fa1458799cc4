/-
  A reader in memory, and the contracts of NewReader, Err, Left and End. Each statement bears its own conditions.
-/
import Derived.Test.YthcegmijphbhgaaDoorROpen
namespace Go.Proofs.YthcegmijphbhgaaDoor
open Go.RowKit
set_option linter.unusedSimpArgs false
set_option linter.unusedVariables false
theorem own_capB {w : World} {B n c : Nat} {A : Option Addr} {xs : List Value} (h : w.ownsRow B 5 1 (.slice A n c) n xs) : n ≤ c := by
  obtain ⟨_, ⟨hv, _⟩ | ⟨g, cap, cur, hv, _, _, hle, _⟩⟩ := h
  · injection hv with _ h1 h2; omega
  · injection hv with _ h1 h2; omega
/-- A reader: what it reads lies in blocks before its own. -/
structure RdF (w : World) (r : Nat) (at_ : Nat) (er : Int) (l : List Int) : Prop where
  ex : ∃ (A : Option Addr) (c : Nat), r < w.heap.size ∧ at_ ≤ l.length ∧ l.length ≤ 1048576 ∧ l.length ≤ c ∧ Bytes l ∧ Reads w r 1 A l.length (U l) ∧
    w.cell? ⟨r, 0, none⟩ = some (.slice A l.length c) ∧ w.cell? ⟨r, 1, none⟩ = some (.int .i64 (at_ : Int)) ∧ w.cell? ⟨r, 2, none⟩ = some (.int .i64 er) ∧ ∀ o, w.frozen? ⟨r, o, none⟩ = false
theorem RdF.below {w w' : World} {r at_ : Nat} {er : Int} {l : List Int} (h : RdF w r at_ er l) (hb : Below w.heap.size w w') : RdF w' r at_ er l := by
  obtain ⟨A, c, h1, h2, h3, h4, h5, h6, h7, h8, h9, h10⟩ := h.ex
  have hg := hb.block r h1
  exact ⟨A, c, Nat.lt_of_lt_of_le h1 hb.size, h2, h3, h4, h5, h6.keep fun p hp => hb.cell (by omega), (World.cell?_of_block (a := ⟨r, 0, none⟩) hg).trans h7, (World.cell?_of_block (a := ⟨r, 1, none⟩) hg).trans h8, (World.cell?_of_block (a := ⟨r, 2, none⟩) hg).trans h9, fun o => (World.frozen?_of_block (a := ⟨r, o, none⟩) hg).trans (h10 o)⟩
theorem newReader_any (A : Option Addr) (n c : Nat) (l : List Int) (w : World) (h : Reads w w.heap.size 1 A n (U l)) (hy : Bytes l) (hn : n ≤ 1048576) (hl : l.length = n) :
    Calls Tryd.prog 18 #[.slice A n c] w fun e w' => ∃ r, e = .returned (.pointer (some ⟨r, 0, none⟩)) ∧ RdF w' r 0 0 l ∧ w.heap.size ≤ r ∧ Below w.heap.size w w' := by
  have FR := Lib.hid (fresh_any A n c 0 l w h (by omega))
  have HY := Lib.hid hy
  have HN := Lib.hid hn
  have HL := Lib.hid hl
  clear h hy hn hl
  go_enter Tryd.func18, Tryd.ntmps18
  go_wp2_with fail
  refine FR.out.mono ?_
  rintro e w1 ⟨A1, c1, rfl, ho, hb⟩
  have HO := Lib.hid ho
  have HB := Lib.hid hb
  clear ho hb FR
  go_wp2_with fail
  go_ret
  refine ⟨w1.heap.size, rfl, ⟨A1, c1, by simp, Nat.zero_le _, by have := HL.out; have := HN.out; omega, ?_, HY.out, ?_, ?_, ?_, ?_, fun o => by simp⟩, HB.out.size, HB.out.alloc HB.out.size _⟩
  · rw [HL.out]
    exact own_capB HO.out
  · rw [HL.out]; exact (Reads.of_own HO.out).alloc (Nat.le_refl _) _
  · rw [World.cell?_alloc_new, HL.out]; rfl
  · rw [World.cell?_alloc_new]; rfl
  · rw [World.cell?_alloc_new]; rfl
theorem err_any (w : World) (r at_ : Nat) (er : Int) (l : List Int) (h : RdF w r at_ er l) :
    Calls Tryd.prog 27 #[.pointer (some ⟨r, 0, none⟩)] w fun e w' => e = .returned (.int .i64 er) ∧ Below w.heap.size w w' := by
  obtain ⟨A, c, h1, h2, h3, h4, h5, h6, h7, h8, h9, h10⟩ := h.ex
  clear h h1 h2 h3 h4 h5 h6
  go_enter Tryd.func27, Tryd.ntmps27
  go_wp2_with fail
  go_ret
  exact ⟨rfl, Below.refl _ _⟩
theorem left_any (w : World) (r at_ : Nat) (er : Int) (l : List Int) (h : RdF w r at_ er l) :
    Calls Tryd.prog 28 #[.pointer (some ⟨r, 0, none⟩)] w fun e w' => e = .returned (.int .i64 ((l.length : Int) - (at_ : Int))) ∧ Below w.heap.size w w' := by
  obtain ⟨A, c, h1, h2, h3, h4, h5, h6, h7, h8, h9, h10⟩ := h.ex
  obtain ⟨n, hn⟩ : ∃ n, l.length = n := ⟨_, rfl⟩
  rw [hn] at h2 h3 h7 ⊢
  clear h h1 h4 h5 h6 hn
  have hw : IntKind.i64.wrap ((n : Int) - (at_ : Int)) = (n : Int) - (at_ : Int) := by rw [IntKind.wrap_i64]; omega
  go_enter Tryd.func28, Tryd.ntmps28
  go_wp2_with fail
  refine wp_region_held_drew (S := (fun w' => Below w.heap.size w w' ∧ w'.cell? ⟨r, 0, none⟩ = some (.slice A n c) ∧ w'.cell? ⟨r, 1, none⟩ = some (.int .i64 (at_ : Int)))) (by kernel_rfl) ?_ (fun hHeld => ?_)
  · exact ⟨(Below.refl _ _).drew, h7, h8⟩
  refine takeD (i := 0) (d := some 5) (v := ?_) _ rfl rfl (by kernel_rfl) (by kernel_rfl) (by kernel_rfl) (fun _ _ _ h => h) (by rfl) ?_ (by assumption) ?_
  rotate_left
  · (intro w hSw; (try dsimp only at hSw); go_simp) <;> with_reducible rfl
  try simp only [Act.put, List.setIfInBounds_toArray, List.set_cons_zero, List.set_cons_succ]
  refine takeD (i := 1) (d := some 6) (v := ?_) _ rfl rfl (by kernel_rfl) (by kernel_rfl) (by kernel_rfl) (fun _ _ _ h => h) (by rfl) ?_ (by assumption) ?_
  rotate_left
  · (intro w hSw; (try dsimp only at hSw); go_simp) <;> with_reducible rfl
  try simp only [Act.put, List.setIfInBounds_toArray, List.set_cons_zero, List.set_cons_succ]
  refine takeD (i := 2) (d := some 7) (v := ?_) _ rfl rfl (by kernel_rfl) (by kernel_rfl) (by kernel_rfl) (fun _ _ _ h => h) (by rfl) ?_ (by assumption) ?_
  rotate_left
  · (intro w hSw; (try dsimp only at hSw); go_simp) <;> with_reducible rfl
  try simp only [Act.put, List.setIfInBounds_toArray, List.set_cons_zero, List.set_cons_succ]
  refine takeD (i := 3) (d := some 8) (v := ?_) _ rfl rfl (by kernel_rfl) (by kernel_rfl) (by kernel_rfl) (fun _ _ _ h => h) (by rfl) ?_ (by assumption) ?_
  rotate_left
  · (intro w hSw; (try dsimp only at hSw); go_simp) <;> with_reducible rfl
  try simp only [Act.put, List.setIfInBounds_toArray, List.set_cons_zero, List.set_cons_succ]
  refine takeD (i := 4) (d := some 9) (v := ?_) _ rfl rfl (by kernel_rfl) (by kernel_rfl) (by kernel_rfl) (fun _ _ _ h => h) (by rfl) ?_ (by assumption) ?_
  rotate_left
  · (intro w hSw; (try dsimp only at hSw); go_simp) <;> with_reducible rfl
  try simp only [Act.put, List.setIfInBounds_toArray, List.set_cons_zero, List.set_cons_succ]
  refine takeD (i := 5) (d := some 10) (v := ?_) _ rfl rfl (by kernel_rfl) (by kernel_rfl) (by kernel_rfl) (fun _ _ _ h => h) (by rfl) ?_ (by assumption) ?_
  rotate_left
  · (intro w hSw; (try dsimp only at hSw); go_simp) <;> with_reducible rfl
  try simp only [Act.put, List.setIfInBounds_toArray, List.set_cons_zero, List.set_cons_succ]
  refine takeD (i := 6) (d := some 11) (v := ?_) _ rfl rfl (by kernel_rfl) (by kernel_rfl) (by kernel_rfl) (fun _ _ _ h => h) (by rfl) ?_ (by assumption) ?_
  rotate_left
  · (intro w hSw; (try dsimp only at hSw); go_simp) <;> with_reducible rfl
  try simp only [Act.put, List.setIfInBounds_toArray, List.set_cons_zero, List.set_cons_succ]
  refine takeD (i := 7) (d := some 12) (v := ?_) _ rfl rfl (by kernel_rfl) (by kernel_rfl) (by kernel_rfl) (fun _ _ _ h => h) (by rfl) ?_ (by assumption) ?_
  rotate_left
  · (intro w hSw; (try dsimp only at hSw); go_simp) <;> with_reducible rfl
  try simp only [Act.put, List.setIfInBounds_toArray, List.set_cons_zero, List.set_cons_succ]
  refine takeD (i := 8) (d := some 13) (v := ?_) _ rfl rfl (by kernel_rfl) (by kernel_rfl) (by kernel_rfl) (fun _ _ _ h => h) (by rfl) ?_ (by assumption) ?_
  rotate_left
  · (intro w hSw; (try dsimp only at hSw); go_simp) <;> with_reducible rfl
  try simp only [Act.put, List.setIfInBounds_toArray, List.set_cons_zero, List.set_cons_succ]
  refine takeD (i := 9) (d := some 14) (v := ?_) _ rfl rfl (by kernel_rfl) (by kernel_rfl) (by kernel_rfl) (fun _ _ _ h => h) (by rfl) ?_ (by assumption) ?_
  rotate_left
  · (intro w hSw; (try dsimp only at hSw); go_simp) <;> with_reducible rfl
  try simp only [Act.put, List.setIfInBounds_toArray, List.set_cons_zero, List.set_cons_succ]
  refine takeD (i := 10) (d := some 2) (v := ?_) _ rfl rfl (by kernel_rfl) (by kernel_rfl) (by kernel_rfl) (fun _ _ _ h => h) (by rfl) ?_ (by assumption) ?_
  rotate_left
  · (intro w hSw; (try dsimp only at hSw); go_simp) <;> with_reducible rfl
  try simp only [Act.put, List.setIfInBounds_toArray, List.set_cons_zero, List.set_cons_succ]
  refine wpAnyH_done (by kernel_rfl) ?_ _
  have BF := hHeld.1
  go_wp2_with fail
  go_ret
  exact ⟨rfl, BF⟩
def endE (n at_ : Nat) (er : Int) : Int := if er = 0 then (if at_ < n then 3 else 0) else er
theorem end_any (w : World) (r at_ : Nat) (er : Int) (l : List Int) (h : RdF w r at_ er l) :
    Calls Tryd.prog 29 #[.pointer (some ⟨r, 0, none⟩)] w fun e w' => e = .returned (.int .i64 (endE l.length at_ er)) ∧ Below w.heap.size w w' := by
  have HH := Lib.hid h
  have E1 := Lib.hid (err_any w r at_ er l h)
  clear h
  by_cases he : er = 0
  · subst he
    go_enter Tryd.func29, Tryd.ntmps29
    go_wp2_with fail
    refine E1.out.mono ?_
    rintro e w1 ⟨rfl, b1⟩
    have L1 := Lib.hid (left_any w1 r at_ 0 l (HH.out.below b1))
    go_wp2_with fail
    refine L1.out.mono ?_
    rintro e w2 ⟨rfl, b2⟩
    have B2 := Lib.hid (b1.trans (b2.mono b1.size))
    clear b1 b2 E1 L1
    by_cases hl : at_ < l.length
    · have hh : 0 < (l.length : Int) - (at_ : Int) := by omega
      go_wp2_with fail
      go_ret
      exact ⟨by simp [endE, hl], B2.out⟩
    · have hh : ¬ 0 < (l.length : Int) - (at_ : Int) := by omega
      go_wp2_with fail
      go_ret
      exact ⟨by simp [endE, hl], B2.out⟩
  · go_enter Tryd.func29, Tryd.ntmps29
    go_wp2_with fail
    refine E1.out.mono ?_
    rintro e w1 ⟨rfl, b1⟩
    go_wp2_with fail
    go_ret
    exact ⟨by simp [endE, he], b1⟩

theorem read_byte_err (w : World) (r at_ : Nat) (er : Int) (l : List Int) (f : Value) (h : RdF w r at_ er l) (he : er ≠ 0) :
    Calls Tryd.prog 38 #[.pointer (some ⟨r, 0, none⟩), f] w fun e w' => e = .returned (.int .u8 0) ∧ RdF w' r at_ er l ∧ Below w.heap.size w w' := by
  have HH := Lib.hid h
  obtain ⟨A, c, h1, h2, h3, h4, h5, h6, h7, h8, h9, h10⟩ := h.ex
  clear h h2 h3 h4 h5 h6
  go_enter Tryd.func38, Tryd.ntmps38
  go_wp2_with fail
  go_ret
  exact ⟨rfl, HH.out, Below.refl _ _⟩
/-- Every block is as it was, but one. -/
structure Past (x : Nat) (w w' : World) : Prop where
  os : w'.os = w.os
  tape : w'.tape = w.tape
  output : w'.output = w.output
  size : w.heap.size ≤ w'.heap.size
  block : ∀ k, k < w.heap.size → k ≠ x → w'.heap[k]? = w.heap[k]?
theorem Past.of_below {w w' : World} {x : Nat} (h : Below w.heap.size w w') : Past x w w' := ⟨h.os, h.tape, h.output, h.size, fun k hk _ => h.block k hk⟩
theorem Past.set {w w' : World} {x : Nat} (h : Past x w w') (j : Nat) (u : Value) : Past x w (w'.setCell ⟨x, j, none⟩ u) :=
  ⟨h.os, h.tape, h.output, by simpa [World.setCell] using h.size, fun k hk hx => (Below.heap_setCell _ _ _ _ hx).trans (h.block k hk hx)⟩
theorem RdF.setErr {w : World} {r at_ : Nat} {er : Int} {l : List Int} (h : RdF w r at_ er l) (er' : Int) : RdF (w.setCell ⟨r, 2, none⟩ (.int .i64 er')) r at_ er' l := by
  obtain ⟨A, c, h1, h2, h3, h4, h5, h6, h7, h8, h9, h10⟩ := h.ex
  have s2 : (w.cell? ⟨r, 2, none⟩).isSome = true := by rw [h9]; rfl
  exact ⟨A, c, by simpa [World.setCell] using h1, h2, h3, h4, h5, h6.setCell (Nat.le_refl _) _, (World.cell?_setCell_other _ _ _ _ (by simp)).trans h7, (World.cell?_setCell_other _ _ _ _ (by simp)).trans h8, World.cell?_setCell_same' _ _ _ s2, fun o => by rw [World.frozen?_setCell]; exact h10 o⟩
theorem RdF.setAt {w : World} {r at_ : Nat} {er : Int} {l : List Int} (h : RdF w r at_ er l) (at' : Nat) (ha : at' ≤ l.length) : RdF (w.setCell ⟨r, 1, none⟩ (.int .i64 (at' : Int))) r at' er l := by
  obtain ⟨A, c, h1, h2, h3, h4, h5, h6, h7, h8, h9, h10⟩ := h.ex
  have s1 : (w.cell? ⟨r, 1, none⟩).isSome = true := by rw [h8]; rfl
  exact ⟨A, c, by simpa [World.setCell] using h1, ha, h3, h4, h5, h6.setCell (Nat.le_refl _) _, (World.cell?_setCell_other _ _ _ _ (by simp)).trans h7, World.cell?_setCell_same' _ _ _ s1, (World.cell?_setCell_other _ _ _ _ (by simp)).trans h9, fun o => by rw [World.frozen?_setCell]; exact h10 o⟩
def byteV (L : List Int) : Int := L.headD 0
def byteK (L : List Int) : Nat := if L = [] then 0 else 1
def byteR (L : List Int) : Int := if L = [] then 4 else 0
theorem take_byte (A : Option Addr) (n c : Nat) (L : List Int) (w : World) (h : Reads w w.heap.size 1 A n (U L)) (hl : L.length = n) (hy : Bytes L) :
    Calls Tryd.prog 39 #[.slice A n c] w fun e w' => e = .returned (.tuple #[.int .u8 (byteV L), .int .i64 (byteK L : Int), .int .i64 (byteR L)]) ∧ Below w.heap.size w w' := by
  cases L with
  | nil =>
    subst hl
    clear h
    go_enter Tryd.func39, Tryd.ntmps39
    go_wp2_with fail
    go_ret3
    exact ⟨rfl, Below.refl _ _⟩
  | cons x L =>
    obtain ⟨ad, u, rfl, _, hu, hc⟩ := h.at_ (k := 0) (by simp at hl; omega)
    have hu : u = .int .u8 x := by simpa [U] using hu.symm
    subst hu
    have hn : 1 ≤ n := by simp at hl; omega
    have hc : w.cell? ad = some (.int .u8 x) := by rw [show ad = ad.add 0 by unfold Addr.add; split <;> simp_all]; exact hc
    clear h hl
    have hn1 : ¬ (n : Int) < 1 := by omega
    have hn2 : (0 : Int) < (n : Int) := by omega
    go_enter Tryd.func39, Tryd.ntmps39
    go_wp2_with fail
    go_ret3
    exact ⟨by simp [byteV, byteK, byteR], Below.refl _ _⟩
theorem read_byte_ok (w : World) (r at_ : Nat) (l : List Int) (h : RdF w r at_ 0 l) :
    Calls Tryd.prog 38 #[.pointer (some ⟨r, 0, none⟩), .func (.func 39) #[] #[]] w fun e w' => e = .returned (.int .u8 (byteV (l.drop at_))) ∧ RdF w' r (at_ + byteK (l.drop at_)) (byteR (l.drop at_)) l ∧ Past r w w' := by
  have HH := Lib.hid h
  obtain ⟨v, hv⟩ : ∃ v, byteV (l.drop at_) = v := ⟨_, rfl⟩
  obtain ⟨k, hk⟩ : ∃ k, byteK (l.drop at_) = k := ⟨_, rfl⟩
  obtain ⟨er, her⟩ : ∃ er, byteR (l.drop at_) = er := ⟨_, rfl⟩
  have hak : Hid (at_ + k ≤ l.length) := by
    obtain ⟨_, _, _, h2, _⟩ := h.ex
    unfold Hid
    rw [← hk]; unfold byteK
    split
    · omega
    · next hne =>
      have : 0 < (l.drop at_).length := List.length_pos_iff.2 hne
      rw [List.length_drop] at this; omega
  have hz : Hid (er ≠ 0 → v = 0 ∧ k = 0) := by
    unfold Hid
    rw [← her, ← hv, ← hk]; unfold byteR byteV byteK
    intro hh
    by_cases hne : l.drop at_ = [] <;> simp [hne] at hh ⊢
  obtain ⟨A, c, h1, h2, h3, h4, h5, h6, h7, h8, h9, h10⟩ := h.ex
  obtain ⟨n, hn⟩ : ∃ n, l.length = n := ⟨_, rfl⟩
  rw [hn] at h2 h3 h7 h4 h6
  have TK := Lib.hid fun (W : World) (hb : Below w.heap.size w W) => take_byte _ _ (c - at_) (l.drop at_) W ((by have := (h6.more (Nat.le_of_lt h1)).cut (k := at_) (cap := c) h2 (by omega); simp only [Nat.mul_one, U, ← List.map_drop] at this; exact (this.below hb).more hb.size) : Reads W W.heap.size 1 (if c = at_ then A else A.map (fun x => x.add at_)) (n - at_) (U (l.drop at_))) (by rw [List.length_drop, hn]) (bytes_drop h5 at_)
  rw [hv, hk, her] at TK ⊢
  have HN := Lib.hid hn
  have h9' : Hid ((at_ : Int) + (k : Int) ≤ 1048576) := by have := hak.out; rw [hn] at this; unfold Hid; omega
  have HHC := h10
  clear h h5 h6 hn hv hk her
  go_enter Tryd.func38, Tryd.ntmps38
  go_wp2_with fail
  refine wp_region_held_drew (S := (fun w' => Below w.heap.size w w' ∧ w'.cell? ⟨r, 0, none⟩ = some (.slice A n c) ∧ w'.cell? ⟨r, 1, none⟩ = some (.int .i64 (at_ : Int)) ∧ w'.cell? ⟨r, 2, none⟩ = some (.int .i64 0))) (by kernel_rfl) ?_ (fun hHeld => ?_)
  · exact ⟨(Below.refl _ _).drew, h7, h8, h9⟩
  refine takeD (i := 0) (d := some 20) (v := ?_) _ rfl rfl (by kernel_rfl) (by kernel_rfl) (by kernel_rfl) (fun _ _ _ h => h) (by rfl) ?_ (by assumption) ?_
  rotate_left
  · (intro w hSw; (try dsimp only at hSw); go_simp) <;> with_reducible rfl
  try simp only [Act.put, List.setIfInBounds_toArray, List.set_cons_zero, List.set_cons_succ]
  refine takeD (i := 1) (d := some 21) (v := ?_) _ rfl rfl (by kernel_rfl) (by kernel_rfl) (by kernel_rfl) (fun _ _ _ h => h) (by rfl) ?_ (by assumption) ?_
  rotate_left
  · (intro w hSw; (try dsimp only at hSw); go_simp) <;> with_reducible rfl
  try simp only [Act.put, List.setIfInBounds_toArray, List.set_cons_zero, List.set_cons_succ]
  refine takeD (i := 2) (d := some 22) (v := ?_) _ rfl rfl (by kernel_rfl) (by kernel_rfl) (by kernel_rfl) (fun _ _ _ h => h) (by rfl) ?_ (by assumption) ?_
  rotate_left
  · (intro w hSw; (try dsimp only at hSw); go_simp) <;> with_reducible rfl
  try simp only [Act.put, List.setIfInBounds_toArray, List.set_cons_zero, List.set_cons_succ]
  refine takeD (i := 3) (d := some 23) (v := ?_) _ rfl rfl (by kernel_rfl) (by kernel_rfl) (by kernel_rfl) (fun _ _ _ h => h) (by rfl) ?_ (by assumption) ?_
  rotate_left
  · (intro w hSw; (try dsimp only at hSw); go_simp) <;> with_reducible rfl
  try simp only [Act.put, List.setIfInBounds_toArray, List.set_cons_zero, List.set_cons_succ]
  refine takeD (i := 4) (d := some 24) (v := ?_) _ rfl rfl (by kernel_rfl) (by kernel_rfl) (by kernel_rfl) (fun _ _ _ h => h) (by rfl) ?_ (by assumption) ?_
  rotate_left
  · (intro w hSw; (try dsimp only at hSw); go_simp) <;> with_reducible rfl
  try simp only [Act.put, List.setIfInBounds_toArray, List.set_cons_zero, List.set_cons_succ]
  refine takeD (i := 5) (d := some 25) (v := ?_) _ rfl rfl (by kernel_rfl) (by kernel_rfl) (by kernel_rfl) (fun _ _ _ h => h) (by rfl) ?_ (by assumption) ?_
  rotate_left
  · (intro w hSw; (try dsimp only at hSw); go_simp) <;> with_reducible rfl
  try simp only [Act.put, List.setIfInBounds_toArray, List.set_cons_zero, List.set_cons_succ]
  refine takeD (i := 6) (d := some 26) (v := ?_) _ rfl rfl (by kernel_rfl) (by kernel_rfl) (by kernel_rfl) (fun _ _ _ h => h) (by rfl) ?_ (by assumption) ?_
  rotate_left
  · (intro w hSw; (try dsimp only at hSw); go_simp) <;> with_reducible rfl
  try simp only [Act.put, List.setIfInBounds_toArray, List.set_cons_zero, List.set_cons_succ]
  refine takeD (i := 7) (d := some 27) (v := ?_) _ rfl rfl (by kernel_rfl) (by kernel_rfl) (by kernel_rfl) (fun _ _ _ h => h) (by rfl) ?_ (by assumption) ?_
  rotate_left
  · (intro w hSw; (try dsimp only at hSw); go_simp) <;> with_reducible rfl
  try simp only [Act.put, List.setIfInBounds_toArray, List.set_cons_zero, List.set_cons_succ]
  refine takeD (i := 8) (d := some 28) (v := ?_) _ rfl rfl (by kernel_rfl) (by kernel_rfl) (by kernel_rfl) (fun _ _ _ h => h) (by rfl) ?_ (by assumption) ?_
  rotate_left
  · (intro w hSw; (try dsimp only at hSw); go_simp) <;> with_reducible rfl
  try simp only [Act.put, List.setIfInBounds_toArray, List.set_cons_zero, List.set_cons_succ]
  refine takeD (i := 9) (d := some 29) (v := ?_) _ rfl rfl (by kernel_rfl) (by kernel_rfl) (by kernel_rfl) (fun _ _ _ h => h) (by rfl) ?_ (by assumption) ?_
  rotate_left
  · (intro w hSw; (try dsimp only at hSw); go_simp) <;> with_reducible rfl
  try simp only [Act.put, List.setIfInBounds_toArray, List.set_cons_zero, List.set_cons_succ]
  generalize (if c = at_ then A else A.map (fun x => x.add at_)) = A1 at TK ⊢
  refine wpAnyH_ready (rs := [10]) (by kernel_rfl) (by simp) ?_
  refine AllReadyH.cons rfl (fun K hK => ?_) AllReadyH.nil
  (go_simp; go_at_call 39; refine (TK.out _ hHeld.1).mono ?_; rintro e wt ⟨rfl, hbt⟩; try go_wp2_with fail)
  refine hK.out _ _ ?_ (fun hHeld => ?_)
  · exact ⟨hHeld.1.trans (hbt.mono hHeld.1.size), cell_later hbt hHeld.2.1, cell_later hbt hHeld.2.2.1, cell_later hbt hHeld.2.2.2⟩
  clear hK K
  try simp only [Act.put, List.setIfInBounds_toArray, List.set_cons_zero, List.set_cons_succ]
  refine takeD (i := 11) (d := some 19) (v := ?_) _ rfl rfl (by kernel_rfl) (by kernel_rfl) (by kernel_rfl) (fun _ _ _ h => h) (by rfl) ?_ (by assumption) ?_
  rotate_left
  · (intro w hSw; (try dsimp only at hSw); go_simp) <;> with_reducible rfl
  try simp only [Act.put, List.setIfInBounds_toArray, List.set_cons_zero, List.set_cons_succ]
  refine takeD (i := 12) (d := some 31) (v := ?_) _ rfl rfl (by kernel_rfl) (by kernel_rfl) (by kernel_rfl) (fun _ _ _ h => h) (by rfl) ?_ (by assumption) ?_
  rotate_left
  · (intro w hSw; (try dsimp only at hSw); go_simp) <;> with_reducible rfl
  try simp only [Act.put, List.setIfInBounds_toArray, List.set_cons_zero, List.set_cons_succ]
  refine takeD (i := 13) (d := some 32) (v := ?_) _ rfl rfl (by kernel_rfl) (by kernel_rfl) (by kernel_rfl) (fun _ _ _ h => h) (by rfl) ?_ (by assumption) ?_
  rotate_left
  · (intro w hSw; (try dsimp only at hSw); go_simp) <;> with_reducible rfl
  try simp only [Act.put, List.setIfInBounds_toArray, List.set_cons_zero, List.set_cons_succ]
  refine takeD (i := 14) (d := some 33) (v := ?_) _ rfl rfl (by kernel_rfl) (by kernel_rfl) (by kernel_rfl) (fun _ _ _ h => h) (by rfl) ?_ (by assumption) ?_
  rotate_left
  · (intro w hSw; (try dsimp only at hSw); go_simp) <;> with_reducible rfl
  try simp only [Act.put, List.setIfInBounds_toArray, List.set_cons_zero, List.set_cons_succ]
  refine takeD (i := 15) (d := some 6) (v := ?_) _ rfl rfl (by kernel_rfl) (by kernel_rfl) (by kernel_rfl) (fun _ _ _ h => h) (by rfl) ?_ (by assumption) ?_
  rotate_left
  · (intro w hSw; (try dsimp only at hSw); go_simp) <;> with_reducible rfl
  try simp only [Act.put, List.setIfInBounds_toArray, List.set_cons_zero, List.set_cons_succ]
  refine takeD (i := 16) (d := some 7) (v := ?_) _ rfl rfl (by kernel_rfl) (by kernel_rfl) (by kernel_rfl) (fun _ _ _ h => h) (by rfl) ?_ (by assumption) ?_
  rotate_left
  · (intro w hSw; (try dsimp only at hSw); go_simp) <;> with_reducible rfl
  try simp only [Act.put, List.setIfInBounds_toArray, List.set_cons_zero, List.set_cons_succ]
  refine takeD (i := 17) (d := some 8) (v := ?_) _ rfl rfl (by kernel_rfl) (by kernel_rfl) (by kernel_rfl) (fun _ _ _ h => h) (by rfl) ?_ (by assumption) ?_
  rotate_left
  · (intro w hSw; (try dsimp only at hSw); go_simp) <;> with_reducible rfl
  try simp only [Act.put, List.setIfInBounds_toArray, List.set_cons_zero, List.set_cons_succ]
  refine wpAnyH_done (by kernel_rfl) ?_ _
  have BF := hHeld.1
  have g7 := hHeld.2.1
  have g8 := hHeld.2.2.1
  have g9 := hHeld.2.2.2
  have RB := Lib.hid (HH.out.below BF)
  have gf : ∀ o, wt.frozen? ⟨r, o, none⟩ = false := fun o => by obtain ⟨_, _, _, _, _, _, _, _, _, _, _, hz⟩ := RB.out.ex; exact hz o
  by_cases he : er = 0
  · subst he
    have hwr : IntKind.i64.wrap ((at_ : Int) + (k : Int)) = (at_ : Int) + (k : Int) := by have := h9'.out; rw [IntKind.wrap_i64]; omega
    clear hHeld
    go_wp2_with fail
    go_ret
    refine ⟨rfl, ?_, ?_⟩
    · have := RB.out.setAt (at_ + k) hak.out; simpa using this
    · exact (Past.of_below BF).set _ _
  · obtain ⟨rfl, rfl⟩ := hz.out he
    clear hHeld
    go_wp2_with fail
    go_ret
    exact ⟨rfl, RB.out.setErr er, (Past.of_below BF).set _ _⟩
theorem byte_any (w : World) (r at_ : Nat) (er : Int) (l : List Int) (h : RdF w r at_ er l) :
    Calls Tryd.prog 19 #[.pointer (some ⟨r, 0, none⟩)] w fun e w' => e = .returned (.int .u8 (if er = 0 then byteV (l.drop at_) else 0)) ∧ RdF w' r (if er = 0 then at_ + byteK (l.drop at_) else at_) (if er = 0 then byteR (l.drop at_) else er) l ∧ Past r w w' := by
  have RB : Hid (Calls Tryd.prog 38 #[.pointer (some ⟨r, 0, none⟩), .func (.func 39) #[] #[]] w fun e w' => e = .returned (.int .u8 (if er = 0 then byteV (l.drop at_) else 0)) ∧ RdF w' r (if er = 0 then at_ + byteK (l.drop at_) else at_) (if er = 0 then byteR (l.drop at_) else er) l ∧ Past r w w') := by
    unfold Hid
    by_cases he : er = 0
    · subst he
      simpa using read_byte_ok w r at_ l h
    · simp only [if_neg he]
      exact (read_byte_err w r at_ er l _ h he).mono fun e w' hh => ⟨hh.1, hh.2.1, Past.of_below hh.2.2⟩
  obtain ⟨v, hv⟩ : ∃ v, (if er = 0 then byteV (l.drop at_) else 0) = v := ⟨_, rfl⟩
  obtain ⟨at', ha⟩ : ∃ at', (if er = 0 then at_ + byteK (l.drop at_) else at_) = at' := ⟨_, rfl⟩
  obtain ⟨er', her⟩ : ∃ er', (if er = 0 then byteR (l.drop at_) else er) = er' := ⟨_, rfl⟩
  rw [hv, ha, her] at RB ⊢
  clear h hv ha her
  go_enter Tryd.func19, Tryd.ntmps19
  go_wp2_with fail
  refine RB.out.mono ?_
  rintro e w1 ⟨rfl, h1, h2⟩
  clear RB
  go_wp2_with fail
  go_ret
  exact ⟨rfl, h1, h2⟩
def wordW (L : List Int) : Int := if L.length < 4 then 0 else wordV L
def wordK (L : List Int) : Nat := if L.length < 4 then 0 else 4
def wordR (L : List Int) : Int := if L.length < 4 then 4 else 0
theorem take_word (A : Option Addr) (n c : Nat) (L : List Int) (w : World) (h : Reads w w.heap.size 1 A n (U L)) (hl : L.length = n) (hy : Bytes L) :
    Calls Tryd.prog 42 #[.slice A n c] w fun e w' => e = .returned (.tuple #[.int .u32 (wordW L), .int .i64 (wordK L : Int), .int .i64 (wordR L)]) ∧ Below w.heap.size w w' := by
  by_cases h4 : n < 4
  · have hn : (n : Int) < 4 := by omega
    have e1 : wordW L = 0 := by simp [wordW, hl, h4]
    have e2 : wordK L = 0 := by simp [wordK, hl, h4]
    have e3 : wordR L = 4 := by simp [wordR, hl, h4]
    rw [e1, e2, e3]
    clear h hl hy e1 e2 e3
    go_enter Tryd.func42, Tryd.ntmps42
    go_wp2_with fail
    go_ret3
    exact ⟨rfl, Below.refl _ _⟩
  · have hn : ¬ (n : Int) < 4 := by omega
    have e1 : wordW L = wordV L := by simp [wordW, hl, h4]
    have e2 : wordK L = 4 := by simp [wordK, hl, h4]
    have e3 : wordR L = 0 := by simp [wordR, hl, h4]
    rw [e1, e2, e3]
    have TW := Lib.hid (toWord_any A n c L w _ h (by omega) hy)
    obtain ⟨v, hv⟩ : ∃ v, wordV L = v := ⟨_, rfl⟩
    rw [hv] at TW ⊢
    clear h hl hy e1 e2 e3 hv
    go_enter Tryd.func42, Tryd.ntmps42
    go_wp2_with fail
    refine TW.out.mono ?_
    rintro e w1 ⟨rfl, b1⟩
    clear TW
    go_wp2_with fail
    go_ret3
    exact ⟨rfl, b1⟩
theorem read_word_err (w : World) (r at_ : Nat) (er : Int) (l : List Int) (f : Value) (h : RdF w r at_ er l) (he : er ≠ 0) :
    Calls Tryd.prog 41 #[.pointer (some ⟨r, 0, none⟩), f] w fun e w' => e = .returned (.int .u32 0) ∧ RdF w' r at_ er l ∧ Below w.heap.size w w' := by
  have HH := Lib.hid h
  obtain ⟨A, c, h1, h2, h3, h4, h5, h6, h7, h8, h9, h10⟩ := h.ex
  clear h h2 h3 h4 h5 h6
  go_enter Tryd.func41, Tryd.ntmps41
  go_wp2_with fail
  go_ret
  exact ⟨rfl, HH.out, Below.refl _ _⟩
theorem read_word_ok (w : World) (r at_ : Nat) (l : List Int) (h : RdF w r at_ 0 l) :
    Calls Tryd.prog 41 #[.pointer (some ⟨r, 0, none⟩), .func (.func 42) #[] #[]] w fun e w' => e = .returned (.int .u32 (wordW (l.drop at_))) ∧ RdF w' r (at_ + wordK (l.drop at_)) (wordR (l.drop at_)) l ∧ Past r w w' := by
  have HH := Lib.hid h
  obtain ⟨v, hv⟩ : ∃ v, wordW (l.drop at_) = v := ⟨_, rfl⟩
  obtain ⟨k, hk⟩ : ∃ k, wordK (l.drop at_) = k := ⟨_, rfl⟩
  obtain ⟨er, her⟩ : ∃ er, wordR (l.drop at_) = er := ⟨_, rfl⟩
  have hak : Hid (at_ + k ≤ l.length) := by
    obtain ⟨_, _, _, h2, _⟩ := h.ex
    unfold Hid
    rw [← hk]; unfold wordK
    split
    · omega
    · next hne =>
      rw [List.length_drop] at hne; omega
  have hz : Hid (er ≠ 0 → v = 0 ∧ k = 0) := by
    unfold Hid
    rw [← her, ← hv, ← hk]; unfold wordR wordW wordK
    intro hh
    by_cases hne : (l.drop at_).length < 4
    · simp only [if_pos hne]; exact ⟨trivial, trivial⟩
    · simp only [if_neg hne] at hh; exact absurd rfl hh
  obtain ⟨A, c, h1, h2, h3, h4, h5, h6, h7, h8, h9, h10⟩ := h.ex
  obtain ⟨n, hn⟩ : ∃ n, l.length = n := ⟨_, rfl⟩
  rw [hn] at h2 h3 h7 h4 h6
  have TK := Lib.hid fun (W : World) (hb : Below w.heap.size w W) => take_word _ _ (c - at_) (l.drop at_) W ((by have := (h6.more (Nat.le_of_lt h1)).cut (k := at_) (cap := c) h2 (by omega); simp only [Nat.mul_one, U, ← List.map_drop] at this; exact (this.below hb).more hb.size) : Reads W W.heap.size 1 (if c = at_ then A else A.map (fun x => x.add at_)) (n - at_) (U (l.drop at_))) (by rw [List.length_drop, hn]) (bytes_drop h5 at_)
  rw [hv, hk, her] at TK ⊢
  have HN := Lib.hid hn
  have h9' : Hid ((at_ : Int) + (k : Int) ≤ 1048576) := by have := hak.out; rw [hn] at this; unfold Hid; omega
  have HHC := h10
  clear h h5 h6 hn hv hk her
  go_enter Tryd.func41, Tryd.ntmps41
  go_wp2_with fail
  refine wp_region_held_drew (S := (fun w' => Below w.heap.size w w' ∧ w'.cell? ⟨r, 0, none⟩ = some (.slice A n c) ∧ w'.cell? ⟨r, 1, none⟩ = some (.int .i64 (at_ : Int)) ∧ w'.cell? ⟨r, 2, none⟩ = some (.int .i64 0))) (by kernel_rfl) ?_ (fun hHeld => ?_)
  · exact ⟨(Below.refl _ _).drew, h7, h8, h9⟩
  refine takeD (i := 0) (d := some 20) (v := ?_) _ rfl rfl (by kernel_rfl) (by kernel_rfl) (by kernel_rfl) (fun _ _ _ h => h) (by rfl) ?_ (by assumption) ?_
  rotate_left
  · (intro w hSw; (try dsimp only at hSw); go_simp) <;> with_reducible rfl
  try simp only [Act.put, List.setIfInBounds_toArray, List.set_cons_zero, List.set_cons_succ]
  refine takeD (i := 1) (d := some 21) (v := ?_) _ rfl rfl (by kernel_rfl) (by kernel_rfl) (by kernel_rfl) (fun _ _ _ h => h) (by rfl) ?_ (by assumption) ?_
  rotate_left
  · (intro w hSw; (try dsimp only at hSw); go_simp) <;> with_reducible rfl
  try simp only [Act.put, List.setIfInBounds_toArray, List.set_cons_zero, List.set_cons_succ]
  refine takeD (i := 2) (d := some 22) (v := ?_) _ rfl rfl (by kernel_rfl) (by kernel_rfl) (by kernel_rfl) (fun _ _ _ h => h) (by rfl) ?_ (by assumption) ?_
  rotate_left
  · (intro w hSw; (try dsimp only at hSw); go_simp) <;> with_reducible rfl
  try simp only [Act.put, List.setIfInBounds_toArray, List.set_cons_zero, List.set_cons_succ]
  refine takeD (i := 3) (d := some 23) (v := ?_) _ rfl rfl (by kernel_rfl) (by kernel_rfl) (by kernel_rfl) (fun _ _ _ h => h) (by rfl) ?_ (by assumption) ?_
  rotate_left
  · (intro w hSw; (try dsimp only at hSw); go_simp) <;> with_reducible rfl
  try simp only [Act.put, List.setIfInBounds_toArray, List.set_cons_zero, List.set_cons_succ]
  refine takeD (i := 4) (d := some 24) (v := ?_) _ rfl rfl (by kernel_rfl) (by kernel_rfl) (by kernel_rfl) (fun _ _ _ h => h) (by rfl) ?_ (by assumption) ?_
  rotate_left
  · (intro w hSw; (try dsimp only at hSw); go_simp) <;> with_reducible rfl
  try simp only [Act.put, List.setIfInBounds_toArray, List.set_cons_zero, List.set_cons_succ]
  refine takeD (i := 5) (d := some 25) (v := ?_) _ rfl rfl (by kernel_rfl) (by kernel_rfl) (by kernel_rfl) (fun _ _ _ h => h) (by rfl) ?_ (by assumption) ?_
  rotate_left
  · (intro w hSw; (try dsimp only at hSw); go_simp) <;> with_reducible rfl
  try simp only [Act.put, List.setIfInBounds_toArray, List.set_cons_zero, List.set_cons_succ]
  refine takeD (i := 6) (d := some 26) (v := ?_) _ rfl rfl (by kernel_rfl) (by kernel_rfl) (by kernel_rfl) (fun _ _ _ h => h) (by rfl) ?_ (by assumption) ?_
  rotate_left
  · (intro w hSw; (try dsimp only at hSw); go_simp) <;> with_reducible rfl
  try simp only [Act.put, List.setIfInBounds_toArray, List.set_cons_zero, List.set_cons_succ]
  refine takeD (i := 7) (d := some 27) (v := ?_) _ rfl rfl (by kernel_rfl) (by kernel_rfl) (by kernel_rfl) (fun _ _ _ h => h) (by rfl) ?_ (by assumption) ?_
  rotate_left
  · (intro w hSw; (try dsimp only at hSw); go_simp) <;> with_reducible rfl
  try simp only [Act.put, List.setIfInBounds_toArray, List.set_cons_zero, List.set_cons_succ]
  refine takeD (i := 8) (d := some 28) (v := ?_) _ rfl rfl (by kernel_rfl) (by kernel_rfl) (by kernel_rfl) (fun _ _ _ h => h) (by rfl) ?_ (by assumption) ?_
  rotate_left
  · (intro w hSw; (try dsimp only at hSw); go_simp) <;> with_reducible rfl
  try simp only [Act.put, List.setIfInBounds_toArray, List.set_cons_zero, List.set_cons_succ]
  refine takeD (i := 9) (d := some 29) (v := ?_) _ rfl rfl (by kernel_rfl) (by kernel_rfl) (by kernel_rfl) (fun _ _ _ h => h) (by rfl) ?_ (by assumption) ?_
  rotate_left
  · (intro w hSw; (try dsimp only at hSw); go_simp) <;> with_reducible rfl
  try simp only [Act.put, List.setIfInBounds_toArray, List.set_cons_zero, List.set_cons_succ]
  generalize (if c = at_ then A else A.map (fun x => x.add at_)) = A1 at TK ⊢
  refine wpAnyH_ready (rs := [10]) (by kernel_rfl) (by simp) ?_
  refine AllReadyH.cons rfl (fun K hK => ?_) AllReadyH.nil
  (go_simp; go_at_call 42; refine (TK.out _ hHeld.1).mono ?_; rintro e wt ⟨rfl, hbt⟩; try go_wp2_with fail)
  refine hK.out _ _ ?_ (fun hHeld => ?_)
  · exact ⟨hHeld.1.trans (hbt.mono hHeld.1.size), cell_later hbt hHeld.2.1, cell_later hbt hHeld.2.2.1, cell_later hbt hHeld.2.2.2⟩
  clear hK K
  try simp only [Act.put, List.setIfInBounds_toArray, List.set_cons_zero, List.set_cons_succ]
  refine takeD (i := 11) (d := some 19) (v := ?_) _ rfl rfl (by kernel_rfl) (by kernel_rfl) (by kernel_rfl) (fun _ _ _ h => h) (by rfl) ?_ (by assumption) ?_
  rotate_left
  · (intro w hSw; (try dsimp only at hSw); go_simp) <;> with_reducible rfl
  try simp only [Act.put, List.setIfInBounds_toArray, List.set_cons_zero, List.set_cons_succ]
  refine takeD (i := 12) (d := some 31) (v := ?_) _ rfl rfl (by kernel_rfl) (by kernel_rfl) (by kernel_rfl) (fun _ _ _ h => h) (by rfl) ?_ (by assumption) ?_
  rotate_left
  · (intro w hSw; (try dsimp only at hSw); go_simp) <;> with_reducible rfl
  try simp only [Act.put, List.setIfInBounds_toArray, List.set_cons_zero, List.set_cons_succ]
  refine takeD (i := 13) (d := some 32) (v := ?_) _ rfl rfl (by kernel_rfl) (by kernel_rfl) (by kernel_rfl) (fun _ _ _ h => h) (by rfl) ?_ (by assumption) ?_
  rotate_left
  · (intro w hSw; (try dsimp only at hSw); go_simp) <;> with_reducible rfl
  try simp only [Act.put, List.setIfInBounds_toArray, List.set_cons_zero, List.set_cons_succ]
  refine takeD (i := 14) (d := some 33) (v := ?_) _ rfl rfl (by kernel_rfl) (by kernel_rfl) (by kernel_rfl) (fun _ _ _ h => h) (by rfl) ?_ (by assumption) ?_
  rotate_left
  · (intro w hSw; (try dsimp only at hSw); go_simp) <;> with_reducible rfl
  try simp only [Act.put, List.setIfInBounds_toArray, List.set_cons_zero, List.set_cons_succ]
  refine takeD (i := 15) (d := some 6) (v := ?_) _ rfl rfl (by kernel_rfl) (by kernel_rfl) (by kernel_rfl) (fun _ _ _ h => h) (by rfl) ?_ (by assumption) ?_
  rotate_left
  · (intro w hSw; (try dsimp only at hSw); go_simp) <;> with_reducible rfl
  try simp only [Act.put, List.setIfInBounds_toArray, List.set_cons_zero, List.set_cons_succ]
  refine takeD (i := 16) (d := some 7) (v := ?_) _ rfl rfl (by kernel_rfl) (by kernel_rfl) (by kernel_rfl) (fun _ _ _ h => h) (by rfl) ?_ (by assumption) ?_
  rotate_left
  · (intro w hSw; (try dsimp only at hSw); go_simp) <;> with_reducible rfl
  try simp only [Act.put, List.setIfInBounds_toArray, List.set_cons_zero, List.set_cons_succ]
  refine takeD (i := 17) (d := some 8) (v := ?_) _ rfl rfl (by kernel_rfl) (by kernel_rfl) (by kernel_rfl) (fun _ _ _ h => h) (by rfl) ?_ (by assumption) ?_
  rotate_left
  · (intro w hSw; (try dsimp only at hSw); go_simp) <;> with_reducible rfl
  try simp only [Act.put, List.setIfInBounds_toArray, List.set_cons_zero, List.set_cons_succ]
  refine wpAnyH_done (by kernel_rfl) ?_ _
  have BF := hHeld.1
  have g7 := hHeld.2.1
  have g8 := hHeld.2.2.1
  have g9 := hHeld.2.2.2
  have RB := Lib.hid (HH.out.below BF)
  have gf : ∀ o, wt.frozen? ⟨r, o, none⟩ = false := fun o => by obtain ⟨_, _, _, _, _, _, _, _, _, _, _, hz⟩ := RB.out.ex; exact hz o
  by_cases he : er = 0
  · subst he
    have hwr : IntKind.i64.wrap ((at_ : Int) + (k : Int)) = (at_ : Int) + (k : Int) := by have := h9'.out; rw [IntKind.wrap_i64]; omega
    clear hHeld
    go_wp2_with fail
    go_ret
    refine ⟨rfl, ?_, ?_⟩
    · have := RB.out.setAt (at_ + k) hak.out; simpa using this
    · exact (Past.of_below BF).set _ _
  · obtain ⟨rfl, rfl⟩ := hz.out he
    clear hHeld
    go_wp2_with fail
    go_ret
    exact ⟨rfl, RB.out.setErr er, (Past.of_below BF).set _ _⟩
theorem word_any (w : World) (r at_ : Nat) (er : Int) (l : List Int) (h : RdF w r at_ er l) :
    Calls Tryd.prog 21 #[.pointer (some ⟨r, 0, none⟩)] w fun e w' => e = .returned (.int .u32 (if er = 0 then wordW (l.drop at_) else 0)) ∧ RdF w' r (if er = 0 then at_ + wordK (l.drop at_) else at_) (if er = 0 then wordR (l.drop at_) else er) l ∧ Past r w w' := by
  have RB : Hid (Calls Tryd.prog 41 #[.pointer (some ⟨r, 0, none⟩), .func (.func 42) #[] #[]] w fun e w' => e = .returned (.int .u32 (if er = 0 then wordW (l.drop at_) else 0)) ∧ RdF w' r (if er = 0 then at_ + wordK (l.drop at_) else at_) (if er = 0 then wordR (l.drop at_) else er) l ∧ Past r w w') := by
    unfold Hid
    by_cases he : er = 0
    · subst he
      simpa using read_word_ok w r at_ l h
    · simp only [if_neg he]
      exact (read_word_err w r at_ er l _ h he).mono fun e w' hh => ⟨hh.1, hh.2.1, Past.of_below hh.2.2⟩
  obtain ⟨v, hv⟩ : ∃ v, (if er = 0 then wordW (l.drop at_) else 0) = v := ⟨_, rfl⟩
  obtain ⟨at', ha⟩ : ∃ at', (if er = 0 then at_ + wordK (l.drop at_) else at_) = at' := ⟨_, rfl⟩
  obtain ⟨er', her⟩ : ∃ er', (if er = 0 then wordR (l.drop at_) else er) = er' := ⟨_, rfl⟩
  rw [hv, ha, her] at RB ⊢
  clear h hv ha her
  go_enter Tryd.func21, Tryd.ntmps21
  go_wp2_with fail
  refine RB.out.mono ?_
  rintro e w1 ⟨rfl, h1, h2⟩
  clear RB
  go_wp2_with fail
  go_ret
  exact ⟨rfl, h1, h2⟩
end Go.Proofs.YthcegmijphbhgaaDoor
