/-
  A line of a list is changed: insert and remove. Each statement bears its own conditions.
-/
import Derived.Test.YtbkjcjkbicaibaaFind
namespace Go.Proofs.Ytbkjcjkbicaibaa
open Go.RowKit
set_option linter.unusedVariables false
set_option linter.unusedSimpArgs false
theorem RowV.below {w w' : World} {v : Value} {rb : Nat} {L : List Int} (h : RowV w v rb L) (hb : Below w.heap.size w w') : RowV w' v rb L := by
  rcases h.lt with h1 | h1
  · exact h.keep (.inl h1)
  · exact h.keep (.inr (hb.block rb h1))
structure Ch (g rb : Nat) (w w' : World) : Prop where
  os : w'.os = w.os
  tape : w'.tape = w.tape
  output : w'.output = w.output
  size : w.heap.size ≤ w'.heap.size
  block : ∀ k, k < w.heap.size → k ≠ g → k ≠ rb → w'.heap[k]? = w.heap[k]?
theorem Ch.refl (g rb : Nat) (w : World) : Ch g rb w w := ⟨rfl, rfl, rfl, Nat.le_refl _, fun _ _ _ _ => rfl⟩
theorem Ch.of_below {g rb : Nat} {w w' : World} (h : Below w.heap.size w w') : Ch g rb w w' := ⟨h.os, h.tape, h.output, h.size, fun k hk _ _ => h.block k hk⟩
theorem Ch.trans {g rb rb' : Nat} {a b c : World} (h : Ch g rb a b) (k : Ch g rb' b c) (hr : rb' = rb ∨ a.heap.size ≤ rb') : Ch g rb a c :=
  ⟨k.os.trans h.os, k.tape.trans h.tape, k.output.trans h.output, Nat.le_trans h.size k.size, fun i hi hg hrb => (k.block i (Nat.lt_of_lt_of_le hi h.size) hg (by rcases hr with hr | hr <;> omega)).trans (h.block i hi hg hrb)⟩
theorem Ch.set {g rb : Nat} {a w : World} (h : Ch g rb a w) (j : Nat) (u : Value) : Ch g rb a (w.setCell ⟨g, j, none⟩ u) :=
  ⟨h.os, h.tape, h.output, by simpa [World.setCell] using h.size, fun i hi hg hrb => (Below.heap_setCell _ _ _ _ hg).trans (h.block i hi hg hrb)⟩
theorem Ch.below {g rb B : Nat} {w w' : World} (h : Ch g rb w w') (hg : B ≤ g) (hr : B ≤ rb) (hB : B ≤ w.heap.size) : Below B w w' := ⟨h.os, h.tape, h.output, h.size, fun k hk => h.block k (by omega) (by omega) (by omega)⟩
/-- But for a list's row all is as it was; the pointer's block is. -/
structure Kp (g rb : Nat) (w w' : World) : Prop where
  os : w'.os = w.os
  tape : w'.tape = w.tape
  output : w'.output = w.output
  size : w.heap.size ≤ w'.heap.size
  block : ∀ k, k < w.heap.size → (k = g ∨ k ≠ rb) → w'.heap[k]? = w.heap[k]?
theorem Kp.ch {g rb : Nat} {w w' : World} (h : Kp g rb w w') : Ch g rb w w' := ⟨h.os, h.tape, h.output, h.size, fun k hk _ h2 => h.block k hk (.inr h2)⟩
theorem ins_tf (v : Value) (g rb vb i : Nat) (x : Int) (L : List Int) (W : World) (hr : RowV W v rb L) (hne : (v = .slice none 0 0 ∧ rb = g) ∨ rb ≠ g) (hg : g < W.heap.size) (hvs : vb < W.heap.size) (hvb : vb ≠ rb) (hi : i ≤ L.length) (hL : L.length ≤ 1000) (hv : W.heap[vb]? = some (.cells #[.int .i64 x] 3 (0, 0))) :
    Calls Try.prog 38 #[v, .int .i64 (i : Int), .slice (some ⟨vb, 0, none⟩) 1 1] W fun e w' => ∃ A n c rb', e = .returned (.slice A n c) ∧ RowV w' (.slice A n c) rb' (L.take i ++ x :: L.drop i) ∧ rb' ≠ g ∧ rb' < w'.heap.size ∧ (rb' = rb ∨ W.heap.size ≤ rb') ∧ Kp g rb W w' := by
  have fin : ∀ {w' : World} {v' : Value} {rb' : Nat}, RowV w' v' rb' (L.take i ++ x :: L.drop i) → (∃ A n c, v' = .slice A n c) ∧ rb' < w'.heap.size := fun {w' v' rb'} h => by
    obtain ⟨A, c, h1, _⟩ := h.slice
    refine ⟨⟨A, _, c, h1⟩, ?_⟩
    rcases h.lt with h2 | h2
    · rw [h2] at h1
      injection h1 with _ h3 _
      simp at h3
    · exact h2
  rcases hne with ⟨hn, rfl⟩ | hne
  · have hr0 : RowV W v W.heap.size L := ⟨hr.own, fun b hb => by rw [hn] at hb; cases hb⟩
    refine (insert_any v W.heap.size vb i x L W hr0 hi hL (by omega) hv).mono ?_
    rintro e w' ⟨v', rb', rfl, h1, h2, h3⟩
    obtain ⟨⟨A, n, c, rfl⟩, h5⟩ := fin h1
    exact ⟨A, n, c, rb', rfl, h1, by omega, h5, .inr (by omega), ⟨h3.os, h3.tape, h3.output, h3.size, fun k hk _ => h3.block k hk (by omega)⟩⟩
  · refine (insert_any v rb vb i x L W hr hi hL hvb hv).mono ?_
    rintro e w' ⟨v', rb', rfl, h1, h2, h3⟩
    obtain ⟨⟨A, n, c, rfl⟩, h5⟩ := fin h1
    exact ⟨A, n, c, rb', rfl, h1, by omega, h5, h2, ⟨h3.os, h3.tape, h3.output, h3.size, fun k hk hor => h3.block k hk (by omega)⟩⟩
def upd {α : Type} (f : Nat → α) (p : Nat) (x : α) : Nat → α := fun q => if q = p then x else f q
theorem upd_same {α : Type} (f : Nat → α) (p : Nat) (x : α) : upd f p x p = x := by simp [upd]
theorem upd_other {α : Type} (f : Nat → α) {p q : Nat} (x : α) (h : q ≠ p) : upd f p x q = f q := by simp [upd, h]
/-- A list whose word is F, whatever the lines. -/
structure LX (w : World) (g : Nat) (rb : Nat → Nat) (Ls : Nat → List Int) (F : Nat) : Prop where
  lt : g < w.heap.size
  fz : ∀ o, w.frozen? ⟨g, o, none⟩ = false
  flt : F < 2 ^ 64
  wc : w.cell? ⟨g, 0, none⟩ = some (.int .u64 (F : Int))
  ln : ∀ p, p < 64 → ∃ v, w.cell? ⟨g, 1 + p, none⟩ = some v ∧ RowV w v (rb p) (Ls p) ∧ ((v = .slice none 0 0 ∧ rb p = g) ∨ (rb p ≠ g ∧ rb p < w.heap.size))
  ap : ∀ p q, p < 64 → q < 64 → p ≠ q → rb p ≠ g → rb p ≠ rb q
/-- The word tells which lines are filled. -/
def Wd (F : Nat) (Ls : Nat → List Int) : Prop := ∀ p, p < 64 → F.testBit p = !(Ls p).isEmpty
section
variable {w w' w1 : World} {g : Nat} {rb : Nat → Nat} {Ls : Nat → List Int} {F : Nat}
theorem LF.lx (h : LF w g rb Ls) : ∃ F, LX w g rb Ls F ∧ Wd F Ls := by
  obtain ⟨F, a, b, c⟩ := h.wd
  exact ⟨F, ⟨h.lt, h.fz, a, c, h.ln, h.ap⟩, b⟩
theorem LX.lf (h : LX w g rb Ls F) (hw : Wd F Ls) : LF w g rb Ls := ⟨h.lt, h.fz, ⟨F, h.flt, hw, h.wc⟩, h.ln, h.ap⟩
theorem LX.rlt (h : LX w g rb Ls F) {p : Nat} (hp : p < 64) : rb p < w.heap.size := by
  obtain ⟨v, _, _, h1⟩ := h.ln p hp
  have := h.lt
  rcases h1 with h1 | h1
  · omega
  · exact h1.2
theorem LX.keep (h : LX w g rb Ls F) (hs : w.heap.size ≤ w'.heap.size) (h1 : w'.heap[g]? = w.heap[g]?) (h2 : ∀ p, p < 64 → w'.heap[rb p]? = w.heap[rb p]?) : LX w' g rb Ls F := by
  refine ⟨Nat.lt_of_lt_of_le h.lt hs, fun o => (World.frozen?_of_block (a := ⟨g, o, none⟩) h1).trans (h.fz o), h.flt, (World.cell?_of_block (a := ⟨g, 0, none⟩) h1).trans h.wc, fun p hp => ?_, h.ap⟩
  obtain ⟨v, a, b, c⟩ := h.ln p hp
  exact ⟨v, (World.cell?_of_block (a := ⟨g, 1 + p, none⟩) h1).trans a, b.keep (.inr (h2 p hp)), c.imp id (fun c => ⟨c.1, by omega⟩)⟩
theorem LX.below (h : LX w g rb Ls F) (hb : Below w.heap.size w w') : LX w' g rb Ls F := h.keep hb.size (hb.block g h.lt) (fun p hp => hb.block _ (h.rlt hp))
/-- A line is stored. -/
theorem LX.line {pr : Nat} (h : LX w g rb Ls F) (hp : pr < 64) (hk : Kp g (rb pr) w w1) {A : Option Addr} {n c r : Nat} {L : List Int} (hr : RowV w1 (.slice A n c) r L) (hne : r ≠ g) (hlt : r < w1.heap.size) (hor : r = rb pr ∨ w.heap.size ≤ r) :
    LX (w1.setCell ⟨g, 1 + pr, none⟩ (.slice A n c)) g (upd rb pr r) (upd Ls pr L) F := by
  have hgb := hk.block g h.lt (.inl rfl)
  have hcell : ∀ o, w1.cell? ⟨g, o, none⟩ = w.cell? ⟨g, o, none⟩ := fun o => World.cell?_of_block (a := ⟨g, o, none⟩) hgb
  obtain ⟨v0, hv0, _, _⟩ := h.ln pr hp
  refine ⟨by have := h.lt; have := hk.size; simp [World.setCell]; omega, fun o => by rw [World.frozen?_setCell]; exact (World.frozen?_of_block (a := ⟨g, o, none⟩) hgb).trans (h.fz o), h.flt, ?_, fun p hpp => ?_, fun p q hpp hqq hpq hg => ?_⟩
  · rw [World.cell?_setCell_other _ _ _ _ (by intro e; injection e with _ e; omega), hcell]; exact h.wc
  · by_cases hpe : p = pr
    · subst hpe
      rw [upd_same, upd_same]
      refine ⟨_, World.cell?_setCell_same' _ _ _ (by rw [hcell, hv0]; rfl), hr.keep (.inr (Below.heap_setCell _ _ _ _ hne)), .inr ⟨hne, by simpa [World.setCell] using hlt⟩⟩
    · rw [upd_other _ _ hpe, upd_other _ _ hpe]
      obtain ⟨v, a, b, c⟩ := h.ln p hpp
      refine ⟨v, ?_, ?_, c.imp id (fun c => ⟨c.1, by have := hk.size; have := c.2; simp [World.setCell]; omega⟩)⟩
      · rw [World.cell?_setCell_other _ _ _ _ (by intro e; injection e with _ e; omega), hcell]; exact a
      · rcases c with ⟨c, _⟩ | ⟨c1, c2⟩
        · exact b.keep (.inl c)
        · refine b.keep (.inr ?_)
          rw [Below.heap_setCell _ _ _ _ c1]
          exact hk.block _ c2 (.inr (h.ap p pr hpp hp hpe c1))
  · by_cases hpe : p = pr
    · subst hpe
      rw [upd_same] at hg ⊢
      rw [upd_other _ _ (Ne.symm hpq)]
      have hql := h.rlt hqq
      rcases hor with ho | ho
      · rw [ho] at hg ⊢
        exact h.ap p q hpp hqq hpq hg
      · omega
    · rw [upd_other _ _ hpe] at hg ⊢
      by_cases hqe : q = pr
      · subst hqe
        rw [upd_same]
        have hpl := h.rlt hpp
        rcases hor with ho | ho
        · rw [ho]; exact h.ap p q hpp hqq hpe hg
        · omega
      · rw [upd_other _ _ hqe]; exact h.ap p q hpp hqq hpq hg
/-- The word is stored. -/
theorem LX.word (h : LX w g rb Ls F) {F' : Nat} (hF : F' < 2 ^ 64) : LX (w.setCell ⟨g, 0, none⟩ (.int .u64 (F' : Int))) g rb Ls F' := by
  refine ⟨by simpa [World.setCell] using h.lt, fun o => by rw [World.frozen?_setCell]; exact h.fz o, hF, World.cell?_setCell_same' _ _ _ (by rw [h.wc]; rfl), fun p hp => ?_, h.ap⟩
  obtain ⟨v, a, b, c⟩ := h.ln p hp
  refine ⟨v, ?_, ?_, c.imp id (fun c => ⟨c.1, by simpa [World.setCell] using c.2⟩)⟩
  · rw [World.cell?_setCell_other _ _ _ _ (by intro e; injection e with _ e; omega)]; exact a
  · rcases c with ⟨c, _⟩ | ⟨c1, c2⟩
    · exact b.keep (.inl c)
    · exact b.keep (.inr (Below.heap_setCell _ _ _ _ c1))
theorem Wd.put (h : Wd F Ls) {pr : Nat} {L : List Int} (hL : L ≠ []) : Wd (put1 F pr) (upd Ls pr L) := by
  intro p hp
  rw [put1_bit, h p hp]
  by_cases hpe : p = pr
  · subst hpe; rw [upd_same]; cases L with
    | nil => exact absurd rfl hL
    | cons => simp
  · rw [upd_other _ _ hpe]; simp [hpe]
theorem Wd.cut (h : Wd F Ls) (hF : F < 2 ^ 64) {pr : Nat} (hp : pr < 64) : Wd (clr F pr) (upd Ls pr []) := by
  intro p hpp
  rw [clr_bit hF hp, h p hpp]
  by_cases hpe : p = pr
  · subst hpe; rw [upd_same]; simp
  · rw [upd_other _ _ hpe]; simp [hpe]
theorem Wd.stay (h : Wd F Ls) {pr : Nat} {L : List Int} (h1 : L ≠ []) (h2 : Ls pr ≠ []) : Wd F (upd Ls pr L) := by
  intro p hp
  rw [h p hp]
  by_cases hpe : p = pr
  · subst hpe; rw [upd_same]
    cases h3 : Ls p with
    | nil => exact absurd h3 h2
    | cons => cases L with
      | nil => exact absurd rfl h1
      | cons => rfl
  · rw [upd_other _ _ hpe]
end
/-- Between the operations of a region. -/
structure PF (w1 : World) (g o : Nat) (v : Value) (V : World) : Prop where
  bel : Below w1.heap.size w1 V
  cell : V.cell? ⟨g, o, none⟩ = some v
  fz : ∀ o, V.frozen? ⟨g, o, none⟩ = false
theorem PF.more {w1 V V' : World} {g o : Nat} {v : Value} (h : PF w1 g o v V) (hg : g < w1.heap.size) (b : Below V.heap.size V V') : PF w1 g o v V' :=
  ⟨h.bel.trans (b.mono h.bel.size), cell_later b h.cell, fun o => (World.frozen?_of_block (a := ⟨g, o, none⟩) (b.block g (Nat.lt_of_lt_of_le hg h.bel.size))).trans (h.fz o)⟩
structure PV (w1 : World) (vb : Nat) (x : Int) (V : World) : Prop where
  blk : V.heap[vb]? = some (.cells #[.int .i64 x] 3 (0, 0))
  lt : vb < V.heap.size
  ge : w1.heap.size ≤ vb
theorem PV.more {w1 V V' : World} {vb : Nat} {x : Int} (h : PV w1 vb x V) (b : Below V.heap.size V V') : PV w1 vb x V' :=
  ⟨(b.block vb h.lt).trans h.blk, Nat.lt_of_lt_of_le h.lt b.size, h.ge⟩
theorem PV.new {w1 V : World} {g o : Nat} {v : Value} (h : PF w1 g o v V) (x : Int) : PV w1 V.heap.size x (V.alloc (.cells #[.int .i64 x] 3)) :=
  ⟨heap_alloc_new V _, by simp, h.bel.size⟩
set_option maxRecDepth 100000 in
set_option maxHeartbeats 4000000 in
theorem ins_any (g : Nat) (rb : Nat → Nat) (Ls : Nat → List Int) (id : Int) (pr place : Nat) (w : World) (h : LF w g rb Ls) (hp : pr < 64) (hpl : place ≤ (Ls pr).length) (hL : (Ls pr).length ≤ 999) :
    Calls Try.prog 31 #[.pointer (some ⟨g, 0, none⟩), .int .i64 id, .int .i64 (pr : Int), .int .i64 (place : Int)] w fun e w' => ∃ r, e = .returned (.tuple #[]) ∧ LF w' g (upd rb pr r) (upd Ls pr ((Ls pr).take place ++ id :: (Ls pr).drop place)) ∧ (r = rb pr ∨ w.heap.size ≤ r) ∧ Ch g (rb pr) w w' := by
  obtain ⟨F, hx, hw⟩ := h.lx
  obtain ⟨v, hc, hr, hne⟩ := hx.ln pr hp
  obtain ⟨A, c, rfl, hnc⟩ := hr.slice
  obtain ⟨n, hn⟩ : ∃ n, Hid ((Ls pr).length = n) := ⟨_, rfl⟩
  rw [hn.out] at hc hr hne
  have HX := Lib.hid hx
  have HWD := Lib.hid hw
  have HFL := Lib.hid hx.flt
  have HR1 := Lib.hid hr
  have HNE := Lib.hid hne
  have HRL := Lib.hid (hx.rlt hp)
  have HPR := Lib.hid hp
  have HPL := Lib.hid hpl
  have HL := Lib.hid hL
  have hpI : (pr : Int) < 64 := by omega
  have hf1 := hx.fz
  clear h hx hw hr hne hp hpl hL hnc
  go_enter Try.func31, Try.ntmps31
  go_wp2_with fail
  have HF : Hid (PF w g (1 + pr) (.slice A n c) w.drew) := ⟨(Below.refl _ _).drew, hc, hf1⟩
  refine wp_region_held_drew (S := (fun _ => True)) (by kernel_rfl) trivial (fun _ => ?_)
  generalize w.drew = V0 at HF ⊢
  clear hc hf1
  refine takeD (i := 0) (d := some 8) (v := ?_) _ rfl rfl (by kernel_rfl) (by kernel_rfl) (by kernel_rfl) (fun _ _ _ h => h) (by rfl) ?_ trivial ?_
  rotate_left
  · (intro w hSw; (try dsimp only at hSw); go_simp) <;> with_reducible rfl
  try simp only [Act.put, List.setIfInBounds_toArray, List.set_cons_zero, List.set_cons_succ]
  refine takeD (i := 1) (d := some 9) (v := ?_) _ rfl rfl (by kernel_rfl) (by kernel_rfl) (by kernel_rfl) (fun _ _ _ h => h) (by rfl) ?_ trivial ?_
  rotate_left
  · (intro w hSw; (try dsimp only at hSw); go_simp) <;> with_reducible rfl
  try simp only [Act.put, List.setIfInBounds_toArray, List.set_cons_zero, List.set_cons_succ]
  refine takeD (i := 2) (d := some 10) (v := ?_) _ rfl rfl (by kernel_rfl) (by kernel_rfl) (by kernel_rfl) (fun _ _ _ h => h) (by rfl) ?_ trivial ?_
  rotate_left
  · (intro w hSw; (try dsimp only at hSw); go_simp) <;> with_reducible rfl
  try simp only [Act.put, List.setIfInBounds_toArray, List.set_cons_zero, List.set_cons_succ]
  refine takeD (i := 3) (d := some 11) (v := ?_) _ rfl rfl (by kernel_rfl) (by kernel_rfl) (by kernel_rfl) (fun _ _ _ h => h) (by rfl) ?_ trivial ?_
  rotate_left
  · (intro w hSw; (try dsimp only at hSw); go_simp) <;> with_reducible rfl
  try simp only [Act.put, List.setIfInBounds_toArray, List.set_cons_zero, List.set_cons_succ]
  refine takeD (i := 4) (d := some 12) (v := ?_) _ rfl rfl (by kernel_rfl) (by kernel_rfl) (by kernel_rfl) (fun _ _ _ h => h) (by rfl) ?_ trivial ?_
  rotate_left
  · (intro w hSw; (try dsimp only at hSw); go_simp) <;> with_reducible rfl
  try simp only [Act.put, List.setIfInBounds_toArray, List.set_cons_zero, List.set_cons_succ]
  refine takeD (i := 5) (d := some 13) (v := ?_) _ rfl rfl (by kernel_rfl) (by kernel_rfl) (by kernel_rfl) (fun _ _ _ h => h) (by rfl) ?_ trivial ?_
  rotate_left
  · (intro w hSw; (try dsimp only at hSw); go_simp) <;> with_reducible rfl
  try simp only [Act.put, List.setIfInBounds_toArray, List.set_cons_zero, List.set_cons_succ]
  refine takeD (i := 6) (d := some 14) (v := ?_) _ rfl rfl (by kernel_rfl) (by kernel_rfl) (by kernel_rfl) (fun _ _ _ h => h) (by rfl) ?_ trivial ?_
  rotate_left
  · (intro w hSw; (try dsimp only at hSw); go_simp) <;> with_reducible rfl
  try simp only [Act.put, List.setIfInBounds_toArray, List.set_cons_zero, List.set_cons_succ]
  refine takeD (i := 8) (d := some 16) (v := ?_) _ rfl rfl (by kernel_rfl) (by kernel_rfl) (by kernel_rfl) (fun _ _ _ h => h) (by rfl) ?_ trivial ?_
  rotate_left
  · (intro w hSw; (try dsimp only at hSw); go_simp) <;> with_reducible rfl
  try simp only [Act.put, List.setIfInBounds_toArray, List.set_cons_zero, List.set_cons_succ]
  refine takeD (i := 9) (d := some 17) (v := ?_) _ rfl rfl (by kernel_rfl) (by kernel_rfl) (by kernel_rfl) (fun _ _ _ h => h) (by rfl) ?_ trivial ?_
  rotate_left
  · (intro w hSw; (try dsimp only at hSw); go_simp) <;> with_reducible rfl
  try simp only [Act.put, List.setIfInBounds_toArray, List.set_cons_zero, List.set_cons_succ]
  refine takeD (i := 12) (d := some 20) (v := ?_) _ rfl rfl (by kernel_rfl) (by kernel_rfl) (by kernel_rfl) (fun _ _ _ h => h) (by rfl) ?_ trivial ?_
  rotate_left
  · (intro w hSw; (try dsimp only at hSw); go_simp) <;> with_reducible rfl
  try simp only [Act.put, List.setIfInBounds_toArray, List.set_cons_zero, List.set_cons_succ]
  refine takeD (i := 13) (d := some 21) (v := ?_) _ rfl rfl (by kernel_rfl) (by kernel_rfl) (by kernel_rfl) (fun _ _ _ h => h) (by rfl) ?_ trivial ?_
  rotate_left
  · (intro w hSw; (try dsimp only at hSw); go_simp) <;> with_reducible rfl
  try simp only [Act.put, List.setIfInBounds_toArray, List.set_cons_zero, List.set_cons_succ]
  refine wpAnyH_ready (rs := [7, 10]) (by kernel_rfl) (by simp) ?_
  refine AllReadyH.cons rfl (fun K hK => ?_) (AllReadyH.cons rfl (fun K hK => ?_) AllReadyH.nil)
  · have cc := HF.out.cell
    go_simp
    clear cc
    refine hK.out _ _ trivial (fun _ => ?_)
    clear hK K
    try simp only [Act.put, List.setIfInBounds_toArray, List.set_cons_zero, List.set_cons_succ]
    refine wpAnyH_ready (rs := [10]) (by kernel_rfl) (by simp) ?_
    refine AllReadyH.cons rfl (fun K hK => ?_) AllReadyH.nil
    · go_simp
      refine hK.out _ _ trivial (fun _ => ?_)
      clear hK K
      try simp only [Act.put, List.setIfInBounds_toArray, List.set_cons_zero, List.set_cons_succ]
      have HV := Lib.hid (PV.new HF.out id)
      have HF := Lib.hid (HF.out.more HX.out.lt ((Below.refl _ _).alloc (Nat.le_refl _) (.cells #[.int .i64 id] 3)))
      obtain ⟨vb2, hvb⟩ : ∃ vb, V0.heap.size = vb := ⟨_, rfl⟩
      rw [hvb] at HV
      simp only [hvb]
      clear hvb
      generalize V0.alloc (.cells #[.int .i64 id] 3) = V2 at HF HV ⊢
      have IN := Lib.hid (ins_tf (.slice A n c) g (rb pr) vb2 place id (Ls pr) V2 (HR1.out.below HF.out.bel) (HNE.out.imp (fun h => h) And.left) (Nat.lt_of_lt_of_le HX.out.lt HF.out.bel.size) HV.out.lt (by have := HV.out.ge; have := HRL.out; omega) HPL.out (by have := HL.out; omega) HV.out.blk)
      refine wpAnyH_ready (rs := [11]) (by kernel_rfl) (by simp) ?_
      refine AllReadyH.cons rfl (fun K hK => ?_) AllReadyH.nil
      go_simp
      go_at_call 38
      refine IN.out.mono ?_
      rintro e wc ⟨A3, n3, c3, r3, rfl, hr3, hne3, hlt3, hor3, hk3⟩
      try go_wp2_with fail
      refine hK.out _ _ trivial (fun _ => ?_)
      clear hK K
      try simp only [Act.put, List.setIfInBounds_toArray, List.set_cons_zero, List.set_cons_succ]
      refine takeD (i := 14) (d := some 22) (v := ?_) _ rfl rfl (by kernel_rfl) (by kernel_rfl) (by kernel_rfl) (fun _ _ _ h => h) (by rfl) ?_ trivial ?_
      rotate_left
      · (intro w hSw; (try dsimp only at hSw); go_simp) <;> with_reducible rfl
      try simp only [Act.put, List.setIfInBounds_toArray, List.set_cons_zero, List.set_cons_succ]
      have hXV := HX.out.below HF.out.bel
      have hgb := hk3.block g hXV.lt (.inl rfl)
      have k0 : wc.cell? ⟨g, 1 + pr, none⟩ = some (.slice A n c) := (World.cell?_of_block (a := ⟨g, 1 + pr, none⟩) hgb).trans HF.out.cell
      have kf : ∀ o, wc.frozen? ⟨g, o, none⟩ = false := fun o => (World.frozen?_of_block (a := ⟨g, o, none⟩) hgb).trans (HF.out.fz o)
      have hst : Hid (LX (wc.setCell ⟨g, 1 + pr, none⟩ (.slice A3 n3 c3)) g (upd rb pr r3) (upd Ls pr ((Ls pr).take place ++ id :: (Ls pr).drop place)) F) := hXV.line HPR.out hk3 hr3 hne3 hlt3 hor3
      have hor : Hid (r3 = rb pr ∨ w.heap.size ≤ r3) := by
        rcases hor3 with h | h
        · exact .inl h
        · exact .inr (Nat.le_trans HF.out.bel.size h)
      have hch : Hid (Ch g (rb pr) w (wc.setCell ⟨g, 1 + pr, none⟩ (.slice A3 n3 c3))) := ((Ch.of_below HF.out.bel).trans hk3.ch (.inl rfl)).set _ _
      clear hr3 hk3 hor3 hgb hne3 hlt3 IN hXV
      refine wpAnyH_ready (rs := [15]) (by kernel_rfl) (by simp) ?_
      refine AllReadyH.cons rfl (fun K hK => ?_) AllReadyH.nil
      go_simp
      refine hK.out _ _ trivial (fun _ => ?_)
      clear hK K
      try simp only [Act.put, List.setIfInBounds_toArray, List.set_cons_zero, List.set_cons_succ]
      refine wpAnyH_done (by kernel_rfl) ?_ _
      clear k0 kf
      generalize wc.setCell ⟨g, 1 + pr, none⟩ (.slice A3 n3 c3) = wd at hst hch ⊢
      have hwc := hst.out.wc
      have hfz := hst.out.fz
      go_wp2_with fail
      refine wp_region_held_drew (S := (fun _ => True)) (by kernel_rfl) trivial (fun _ => ?_)
      have hst := Lib.hid (hst.out.below (Below.refl _ _).drew)
      have hch := Lib.hid (hch.out.trans (Ch.of_below (Below.refl _ _).drew) (.inl rfl))
      clear hwc hfz
      generalize wd.drew = we at hst hch ⊢
      refine takeD (i := 0) (d := some 23) (v := ?_) _ rfl rfl (by kernel_rfl) (by kernel_rfl) (by kernel_rfl) (fun _ _ _ h => h) (by rfl) ?_ trivial ?_
      rotate_left
      · (intro w hSw; (try dsimp only at hSw); go_simp) <;> with_reducible rfl
      try simp only [Act.put, List.setIfInBounds_toArray, List.set_cons_zero, List.set_cons_succ]
      refine takeD (i := 1) (d := some 24) (v := ?_) _ rfl rfl (by kernel_rfl) (by kernel_rfl) (by kernel_rfl) (fun _ _ _ h => h) (by rfl) ?_ trivial ?_
      rotate_left
      · (intro w hSw; (try dsimp only at hSw); go_simp) <;> with_reducible rfl
      try simp only [Act.put, List.setIfInBounds_toArray, List.set_cons_zero, List.set_cons_succ]
      refine takeD (i := 2) (d := some 25) (v := ?_) _ rfl rfl (by kernel_rfl) (by kernel_rfl) (by kernel_rfl) (fun _ _ _ h => h) (by rfl) ?_ trivial ?_
      rotate_left
      · (intro w hSw; (try dsimp only at hSw); go_simp) <;> with_reducible rfl
      try simp only [Act.put, List.setIfInBounds_toArray, List.set_cons_zero, List.set_cons_succ]
      refine takeD (i := 4) (d := some 27) (v := ?_) _ rfl rfl (by kernel_rfl) (by kernel_rfl) (by kernel_rfl) (fun _ _ _ h => h) (by rfl) ?_ trivial ?_
      rotate_left
      · (intro w hSw; (try dsimp only at hSw); go_simp) <;> with_reducible rfl
      try simp only [Act.put, List.setIfInBounds_toArray, List.set_cons_zero, List.set_cons_succ]
      refine takeD (i := 5) (d := some 28) (v := ?_) _ rfl rfl (by kernel_rfl) (by kernel_rfl) (by kernel_rfl) (fun _ _ _ h => h) (by rfl) ?_ trivial ?_
      rotate_left
      · (intro w hSw; (try dsimp only at hSw); go_simp) <;> with_reducible rfl
      try simp only [Act.put, List.setIfInBounds_toArray, List.set_cons_zero, List.set_cons_succ]
      refine wpAnyH_ready (rs := [3]) (by kernel_rfl) (by simp) ?_
      refine AllReadyH.cons rfl (fun K hK => ?_) AllReadyH.nil
      have hwc := hst.out.wc
      go_simp
      refine hK.out _ _ trivial (fun _ => ?_)
      clear hK K
      try simp only [Act.put, List.setIfInBounds_toArray, List.set_cons_zero, List.set_cons_succ]
      refine takeD (i := 6) (d := some 29) (v := ?_) _ rfl rfl (by kernel_rfl) (by kernel_rfl) (by kernel_rfl) (fun _ _ _ h => h) (by rfl) ?_ trivial ?_
      rotate_left
      · (intro w hSw; (try dsimp only at hSw); go_simp) <;> with_reducible rfl
      try simp only [Act.put, List.setIfInBounds_toArray, List.set_cons_zero, List.set_cons_succ]
      refine takeD (i := 7) (d := some 30) (v := ?_) _ rfl rfl (by kernel_rfl) (by kernel_rfl) (by kernel_rfl) (fun _ _ _ h => h) (by rfl) ?_ trivial ?_
      rotate_left
      · (intro w hSw; (try dsimp only at hSw); go_simp) <;> with_reducible rfl
      try simp only [Act.put, List.setIfInBounds_toArray, List.set_cons_zero, List.set_cons_succ]
      refine takeD (i := 8) (d := some 31) (v := ?_) _ rfl rfl (by kernel_rfl) (by kernel_rfl) (by kernel_rfl) (fun _ _ _ h => h) (by rfl) ?_ trivial ?_
      rotate_left
      · (intro w hSw; (try dsimp only at hSw); go_simp) <;> with_reducible rfl
      try simp only [Act.put, List.setIfInBounds_toArray, List.set_cons_zero, List.set_cons_succ]
      refine wpAnyH_ready (rs := [9]) (by kernel_rfl) (by simp) ?_
      refine AllReadyH.cons rfl (fun K hK => ?_) AllReadyH.nil
      have hfz := hst.out.fz
      go_simp
      refine hK.out _ _ trivial (fun _ => ?_)
      clear hK K
      try simp only [Act.put, List.setIfInBounds_toArray, List.set_cons_zero, List.set_cons_succ]
      refine wpAnyH_done (by kernel_rfl) ?_ _
      have HW := Lib.hid (put_eq HFL.out HPR.out)
      clear hwc hfz
      go_wp2_with fail
      go_end0
      rw [HW.out]
      exact ⟨r3, rfl, (hst.out.word (put1_lt HFL.out HPR.out)).lf (HWD.out.put (by simp)), hor.out, hch.out.set _ _⟩
  · go_simp
    refine hK.out _ _ trivial (fun _ => ?_)
    clear hK K
    try simp only [Act.put, List.setIfInBounds_toArray, List.set_cons_zero, List.set_cons_succ]
    have HV := Lib.hid (PV.new HF.out id)
    have HF := Lib.hid (HF.out.more HX.out.lt ((Below.refl _ _).alloc (Nat.le_refl _) (.cells #[.int .i64 id] 3)))
    obtain ⟨vb3, hvb⟩ : ∃ vb, V0.heap.size = vb := ⟨_, rfl⟩
    rw [hvb] at HV
    simp only [hvb]
    clear hvb
    generalize V0.alloc (.cells #[.int .i64 id] 3) = V3 at HF HV ⊢
    refine wpAnyH_ready (rs := [7]) (by kernel_rfl) (by simp) ?_
    refine AllReadyH.cons rfl (fun K hK => ?_) AllReadyH.nil
    · have cc := HF.out.cell
      go_simp
      clear cc
      refine hK.out _ _ trivial (fun _ => ?_)
      clear hK K
      try simp only [Act.put, List.setIfInBounds_toArray, List.set_cons_zero, List.set_cons_succ]
      have IN := Lib.hid (ins_tf (.slice A n c) g (rb pr) vb3 place id (Ls pr) V3 (HR1.out.below HF.out.bel) (HNE.out.imp (fun h => h) And.left) (Nat.lt_of_lt_of_le HX.out.lt HF.out.bel.size) HV.out.lt (by have := HV.out.ge; have := HRL.out; omega) HPL.out (by have := HL.out; omega) HV.out.blk)
      refine wpAnyH_ready (rs := [11]) (by kernel_rfl) (by simp) ?_
      refine AllReadyH.cons rfl (fun K hK => ?_) AllReadyH.nil
      go_simp
      go_at_call 38
      refine IN.out.mono ?_
      rintro e wc ⟨A3, n3, c3, r3, rfl, hr3, hne3, hlt3, hor3, hk3⟩
      try go_wp2_with fail
      refine hK.out _ _ trivial (fun _ => ?_)
      clear hK K
      try simp only [Act.put, List.setIfInBounds_toArray, List.set_cons_zero, List.set_cons_succ]
      refine takeD (i := 14) (d := some 22) (v := ?_) _ rfl rfl (by kernel_rfl) (by kernel_rfl) (by kernel_rfl) (fun _ _ _ h => h) (by rfl) ?_ trivial ?_
      rotate_left
      · (intro w hSw; (try dsimp only at hSw); go_simp) <;> with_reducible rfl
      try simp only [Act.put, List.setIfInBounds_toArray, List.set_cons_zero, List.set_cons_succ]
      have hXV := HX.out.below HF.out.bel
      have hgb := hk3.block g hXV.lt (.inl rfl)
      have k0 : wc.cell? ⟨g, 1 + pr, none⟩ = some (.slice A n c) := (World.cell?_of_block (a := ⟨g, 1 + pr, none⟩) hgb).trans HF.out.cell
      have kf : ∀ o, wc.frozen? ⟨g, o, none⟩ = false := fun o => (World.frozen?_of_block (a := ⟨g, o, none⟩) hgb).trans (HF.out.fz o)
      have hst : Hid (LX (wc.setCell ⟨g, 1 + pr, none⟩ (.slice A3 n3 c3)) g (upd rb pr r3) (upd Ls pr ((Ls pr).take place ++ id :: (Ls pr).drop place)) F) := hXV.line HPR.out hk3 hr3 hne3 hlt3 hor3
      have hor : Hid (r3 = rb pr ∨ w.heap.size ≤ r3) := by
        rcases hor3 with h | h
        · exact .inl h
        · exact .inr (Nat.le_trans HF.out.bel.size h)
      have hch : Hid (Ch g (rb pr) w (wc.setCell ⟨g, 1 + pr, none⟩ (.slice A3 n3 c3))) := ((Ch.of_below HF.out.bel).trans hk3.ch (.inl rfl)).set _ _
      clear hr3 hk3 hor3 hgb hne3 hlt3 IN hXV
      refine wpAnyH_ready (rs := [15]) (by kernel_rfl) (by simp) ?_
      refine AllReadyH.cons rfl (fun K hK => ?_) AllReadyH.nil
      go_simp
      refine hK.out _ _ trivial (fun _ => ?_)
      clear hK K
      try simp only [Act.put, List.setIfInBounds_toArray, List.set_cons_zero, List.set_cons_succ]
      refine wpAnyH_done (by kernel_rfl) ?_ _
      clear k0 kf
      generalize wc.setCell ⟨g, 1 + pr, none⟩ (.slice A3 n3 c3) = wd at hst hch ⊢
      have hwc := hst.out.wc
      have hfz := hst.out.fz
      go_wp2_with fail
      refine wp_region_held_drew (S := (fun _ => True)) (by kernel_rfl) trivial (fun _ => ?_)
      have hst := Lib.hid (hst.out.below (Below.refl _ _).drew)
      have hch := Lib.hid (hch.out.trans (Ch.of_below (Below.refl _ _).drew) (.inl rfl))
      clear hwc hfz
      generalize wd.drew = we at hst hch ⊢
      refine takeD (i := 0) (d := some 23) (v := ?_) _ rfl rfl (by kernel_rfl) (by kernel_rfl) (by kernel_rfl) (fun _ _ _ h => h) (by rfl) ?_ trivial ?_
      rotate_left
      · (intro w hSw; (try dsimp only at hSw); go_simp) <;> with_reducible rfl
      try simp only [Act.put, List.setIfInBounds_toArray, List.set_cons_zero, List.set_cons_succ]
      refine takeD (i := 1) (d := some 24) (v := ?_) _ rfl rfl (by kernel_rfl) (by kernel_rfl) (by kernel_rfl) (fun _ _ _ h => h) (by rfl) ?_ trivial ?_
      rotate_left
      · (intro w hSw; (try dsimp only at hSw); go_simp) <;> with_reducible rfl
      try simp only [Act.put, List.setIfInBounds_toArray, List.set_cons_zero, List.set_cons_succ]
      refine takeD (i := 2) (d := some 25) (v := ?_) _ rfl rfl (by kernel_rfl) (by kernel_rfl) (by kernel_rfl) (fun _ _ _ h => h) (by rfl) ?_ trivial ?_
      rotate_left
      · (intro w hSw; (try dsimp only at hSw); go_simp) <;> with_reducible rfl
      try simp only [Act.put, List.setIfInBounds_toArray, List.set_cons_zero, List.set_cons_succ]
      refine takeD (i := 4) (d := some 27) (v := ?_) _ rfl rfl (by kernel_rfl) (by kernel_rfl) (by kernel_rfl) (fun _ _ _ h => h) (by rfl) ?_ trivial ?_
      rotate_left
      · (intro w hSw; (try dsimp only at hSw); go_simp) <;> with_reducible rfl
      try simp only [Act.put, List.setIfInBounds_toArray, List.set_cons_zero, List.set_cons_succ]
      refine takeD (i := 5) (d := some 28) (v := ?_) _ rfl rfl (by kernel_rfl) (by kernel_rfl) (by kernel_rfl) (fun _ _ _ h => h) (by rfl) ?_ trivial ?_
      rotate_left
      · (intro w hSw; (try dsimp only at hSw); go_simp) <;> with_reducible rfl
      try simp only [Act.put, List.setIfInBounds_toArray, List.set_cons_zero, List.set_cons_succ]
      refine wpAnyH_ready (rs := [3]) (by kernel_rfl) (by simp) ?_
      refine AllReadyH.cons rfl (fun K hK => ?_) AllReadyH.nil
      have hwc := hst.out.wc
      go_simp
      refine hK.out _ _ trivial (fun _ => ?_)
      clear hK K
      try simp only [Act.put, List.setIfInBounds_toArray, List.set_cons_zero, List.set_cons_succ]
      refine takeD (i := 6) (d := some 29) (v := ?_) _ rfl rfl (by kernel_rfl) (by kernel_rfl) (by kernel_rfl) (fun _ _ _ h => h) (by rfl) ?_ trivial ?_
      rotate_left
      · (intro w hSw; (try dsimp only at hSw); go_simp) <;> with_reducible rfl
      try simp only [Act.put, List.setIfInBounds_toArray, List.set_cons_zero, List.set_cons_succ]
      refine takeD (i := 7) (d := some 30) (v := ?_) _ rfl rfl (by kernel_rfl) (by kernel_rfl) (by kernel_rfl) (fun _ _ _ h => h) (by rfl) ?_ trivial ?_
      rotate_left
      · (intro w hSw; (try dsimp only at hSw); go_simp) <;> with_reducible rfl
      try simp only [Act.put, List.setIfInBounds_toArray, List.set_cons_zero, List.set_cons_succ]
      refine takeD (i := 8) (d := some 31) (v := ?_) _ rfl rfl (by kernel_rfl) (by kernel_rfl) (by kernel_rfl) (fun _ _ _ h => h) (by rfl) ?_ trivial ?_
      rotate_left
      · (intro w hSw; (try dsimp only at hSw); go_simp) <;> with_reducible rfl
      try simp only [Act.put, List.setIfInBounds_toArray, List.set_cons_zero, List.set_cons_succ]
      refine wpAnyH_ready (rs := [9]) (by kernel_rfl) (by simp) ?_
      refine AllReadyH.cons rfl (fun K hK => ?_) AllReadyH.nil
      have hfz := hst.out.fz
      go_simp
      refine hK.out _ _ trivial (fun _ => ?_)
      clear hK K
      try simp only [Act.put, List.setIfInBounds_toArray, List.set_cons_zero, List.set_cons_succ]
      refine wpAnyH_done (by kernel_rfl) ?_ _
      have HW := Lib.hid (put_eq HFL.out HPR.out)
      clear hwc hfz
      go_wp2_with fail
      go_end0
      rw [HW.out]
      exact ⟨r3, rfl, (hst.out.word (put1_lt HFL.out HPR.out)).lf (HWD.out.put (by simp)), hor.out, hch.out.set _ _⟩
theorem upd_self {α : Type} (f : Nat → α) (p : Nat) : upd f p (f p) = f := by
  funext q; unfold upd; split
  · rename_i h; rw [h]
  · rfl
theorem del_tf (v : Value) (g rb i : Nat) (L : List Int) (W : World) (hr : RowV W v rb L) (hne : rb ≠ g) (hi : i < L.length) (hL : L.length ≤ 1000) :
    Calls Try.prog 39 #[v, .int .i64 (i : Int), .int .i64 ((i : Int) + 1)] W fun e w' => ∃ A n c, e = .returned (.slice A n c) ∧ RowV w' (.slice A n c) rb (L.take i ++ L.drop (i + 1)) ∧ rb < w'.heap.size ∧ Kp g rb W w' := by
  have := delete_any v rb i (i + 1) L W hr (by omega) (by omega) hL
  rw [Int.natCast_add] at this
  refine this.mono ?_
  rintro e w' ⟨v', rfl, h1, h2⟩
  obtain ⟨A, c, rfl, _⟩ := h1.slice
  refine ⟨A, _, c, rfl, h1, ?_, ⟨h2.os, h2.tape, h2.output, h2.size, fun k hk hor => h2.block k hk (by omega)⟩⟩
  rcases hr.lt with h3 | h3
  · rcases hr.form with ⟨_, h4⟩ | ⟨_, _, h4, _⟩
    · rw [h4] at hi; simp at hi
    · rw [h3] at h4; cases h4
  · exact Nat.lt_of_lt_of_le h3 h2.size
set_option maxRecDepth 100000 in
set_option maxHeartbeats 4000000 in
theorem rem_any (g : Nat) (rb : Nat → Nat) (Ls : Nat → List Int) (pr place : Nat) (w : World) (h : LF w g rb Ls) (hp : pr < 64) (hpl : place < (Ls pr).length) (hL : (Ls pr).length ≤ 1000) :
    Calls Try.prog 32 #[.pointer (some ⟨g, 0, none⟩), .int .i64 (pr : Int), .int .i64 (place : Int)] w fun e w' => e = .returned (.tuple #[]) ∧ LF w' g rb (upd Ls pr ((Ls pr).take place ++ (Ls pr).drop (place + 1))) ∧ Ch g (rb pr) w w' := by
  obtain ⟨F, hx, hw⟩ := h.lx
  obtain ⟨v, hc, hr, hne⟩ := hx.ln pr hp
  obtain ⟨A, c, rfl, hnc⟩ := hr.slice
  obtain ⟨n, hn⟩ : ∃ n, Hid ((Ls pr).length = n) := ⟨_, rfl⟩
  rw [hn.out] at hc hr hne
  have HNG : Hid (rb pr ≠ g) := by
    rcases hne with ⟨h1, _⟩ | h1
    · injection h1 with _ h2 _
      have := hn.out; omega
    · exact h1.1
  have HNN : Hid (Ls pr ≠ []) := fun e => by rw [e] at hpl; simp at hpl
  have HX := Lib.hid hx
  have HWD := Lib.hid hw
  have HFL := Lib.hid hx.flt
  have HR1 := Lib.hid hr
  have HRL := Lib.hid (hx.rlt hp)
  have HPR := Lib.hid hp
  have HPL := Lib.hid hpl
  have HL := Lib.hid hL
  have hpI : (pr : Int) < 64 := by omega
  have hpw : IntKind.i64.wrap ((place : Int) + 1) = (place : Int) + 1 := by rw [IntKind.wrap_i64]; omega
  have hf1 := hx.fz
  clear h hx hw hr hne hp hpl hL hnc
  go_enter Try.func32, Try.ntmps32
  go_wp2_with fail
  have HF : Hid (PF w g (1 + pr) (.slice A n c) w.drew) := ⟨(Below.refl _ _).drew, hc, hf1⟩
  refine wp_region_held_drew (S := (fun _ => True)) (by kernel_rfl) trivial (fun _ => ?_)
  generalize w.drew = V0 at HF ⊢
  clear hc hf1
  refine takeD (i := 0) (d := some 6) (v := ?_) _ rfl rfl (by kernel_rfl) (by kernel_rfl) (by kernel_rfl) (fun _ _ _ h => h) (by rfl) ?_ trivial ?_
  rotate_left
  · (intro w hSw; (try dsimp only at hSw); go_simp) <;> with_reducible rfl
  try simp only [Act.put, List.setIfInBounds_toArray, List.set_cons_zero, List.set_cons_succ]
  refine takeD (i := 1) (d := some 7) (v := ?_) _ rfl rfl (by kernel_rfl) (by kernel_rfl) (by kernel_rfl) (fun _ _ _ h => h) (by rfl) ?_ trivial ?_
  rotate_left
  · (intro w hSw; (try dsimp only at hSw); go_simp) <;> with_reducible rfl
  try simp only [Act.put, List.setIfInBounds_toArray, List.set_cons_zero, List.set_cons_succ]
  refine takeD (i := 2) (d := some 8) (v := ?_) _ rfl rfl (by kernel_rfl) (by kernel_rfl) (by kernel_rfl) (fun _ _ _ h => h) (by rfl) ?_ trivial ?_
  rotate_left
  · (intro w hSw; (try dsimp only at hSw); go_simp) <;> with_reducible rfl
  try simp only [Act.put, List.setIfInBounds_toArray, List.set_cons_zero, List.set_cons_succ]
  refine takeD (i := 3) (d := some 9) (v := ?_) _ rfl rfl (by kernel_rfl) (by kernel_rfl) (by kernel_rfl) (fun _ _ _ h => h) (by rfl) ?_ trivial ?_
  rotate_left
  · (intro w hSw; (try dsimp only at hSw); go_simp) <;> with_reducible rfl
  try simp only [Act.put, List.setIfInBounds_toArray, List.set_cons_zero, List.set_cons_succ]
  refine takeD (i := 4) (d := some 10) (v := ?_) _ rfl rfl (by kernel_rfl) (by kernel_rfl) (by kernel_rfl) (fun _ _ _ h => h) (by rfl) ?_ trivial ?_
  rotate_left
  · (intro w hSw; (try dsimp only at hSw); go_simp) <;> with_reducible rfl
  try simp only [Act.put, List.setIfInBounds_toArray, List.set_cons_zero, List.set_cons_succ]
  refine takeD (i := 5) (d := some 11) (v := ?_) _ rfl rfl (by kernel_rfl) (by kernel_rfl) (by kernel_rfl) (fun _ _ _ h => h) (by rfl) ?_ trivial ?_
  rotate_left
  · (intro w hSw; (try dsimp only at hSw); go_simp) <;> with_reducible rfl
  try simp only [Act.put, List.setIfInBounds_toArray, List.set_cons_zero, List.set_cons_succ]
  refine takeD (i := 6) (d := some 12) (v := ?_) _ rfl rfl (by kernel_rfl) (by kernel_rfl) (by kernel_rfl) (fun _ _ _ h => h) (by rfl) ?_ trivial ?_
  rotate_left
  · (intro w hSw; (try dsimp only at hSw); go_simp) <;> with_reducible rfl
  try simp only [Act.put, List.setIfInBounds_toArray, List.set_cons_zero, List.set_cons_succ]
  refine takeD (i := 8) (d := some 14) (v := ?_) _ rfl rfl (by kernel_rfl) (by kernel_rfl) (by kernel_rfl) (fun _ _ _ h => h) (by rfl) ?_ trivial ?_
  rotate_left
  · (intro w hSw; (try dsimp only at hSw); go_simp) <;> with_reducible rfl
  try simp only [Act.put, List.setIfInBounds_toArray, List.set_cons_zero, List.set_cons_succ]
  refine takeD (i := 9) (d := some 15) (v := ?_) _ rfl rfl (by kernel_rfl) (by kernel_rfl) (by kernel_rfl) (fun _ _ _ h => h) (by rfl) ?_ trivial ?_
  rotate_left
  · (intro w hSw; (try dsimp only at hSw); go_simp) <;> with_reducible rfl
  try simp only [Act.put, List.setIfInBounds_toArray, List.set_cons_zero, List.set_cons_succ]
  refine takeD (i := 10) (d := some 16) (v := ?_) _ rfl rfl (by kernel_rfl) (by kernel_rfl) (by kernel_rfl) (fun _ _ _ h => h) (by rfl) ?_ trivial ?_
  rotate_left
  · (intro w hSw; (try dsimp only at hSw); go_simp) <;> with_reducible rfl
  try simp only [Act.put, List.setIfInBounds_toArray, List.set_cons_zero, List.set_cons_succ]
  refine takeD (i := 12) (d := some 18) (v := ?_) _ rfl rfl (by kernel_rfl) (by kernel_rfl) (by kernel_rfl) (fun _ _ _ h => h) (by rfl) ?_ trivial ?_
  rotate_left
  · (intro w hSw; (try dsimp only at hSw); go_simp) <;> with_reducible rfl
  try simp only [Act.put, List.setIfInBounds_toArray, List.set_cons_zero, List.set_cons_succ]
  refine takeD (i := 13) (d := some 19) (v := ?_) _ rfl rfl (by kernel_rfl) (by kernel_rfl) (by kernel_rfl) (fun _ _ _ h => h) (by rfl) ?_ trivial ?_
  rotate_left
  · (intro w hSw; (try dsimp only at hSw); go_simp) <;> with_reducible rfl
  try simp only [Act.put, List.setIfInBounds_toArray, List.set_cons_zero, List.set_cons_succ]
  refine wpAnyH_ready (rs := [7]) (by kernel_rfl) (by simp) ?_
  refine AllReadyH.cons rfl (fun K hK => ?_) AllReadyH.nil
  have cc := HF.out.cell
  go_simp
  clear cc
  refine hK.out _ _ trivial (fun _ => ?_)
  clear hK K
  try simp only [Act.put, List.setIfInBounds_toArray, List.set_cons_zero, List.set_cons_succ]
  have IN := Lib.hid (del_tf (.slice A n c) g (rb pr) place (Ls pr) V0 (HR1.out.below HF.out.bel) HNG.out HPL.out HL.out)
  refine wpAnyH_ready (rs := [11]) (by kernel_rfl) (by simp) ?_
  refine AllReadyH.cons rfl (fun K hK => ?_) AllReadyH.nil
  go_simp
  go_at_call 39
  refine IN.out.mono ?_
  rintro e wc ⟨A3, n3, c3, rfl, hr3, hlt3, hk3⟩
  try go_wp2_with fail
  refine hK.out _ _ trivial (fun _ => ?_)
  clear hK K
  try simp only [Act.put, List.setIfInBounds_toArray, List.set_cons_zero, List.set_cons_succ]
  refine takeD (i := 14) (d := some 20) (v := ?_) _ rfl rfl (by kernel_rfl) (by kernel_rfl) (by kernel_rfl) (fun _ _ _ h => h) (by rfl) ?_ trivial ?_
  rotate_left
  · (intro w hSw; (try dsimp only at hSw); go_simp) <;> with_reducible rfl
  try simp only [Act.put, List.setIfInBounds_toArray, List.set_cons_zero, List.set_cons_succ]
  have hXV := HX.out.below HF.out.bel
  have hgb := hk3.block g hXV.lt (.inl rfl)
  have k0 : wc.cell? ⟨g, 1 + pr, none⟩ = some (.slice A n c) := (World.cell?_of_block (a := ⟨g, 1 + pr, none⟩) hgb).trans HF.out.cell
  have kf : ∀ o, wc.frozen? ⟨g, o, none⟩ = false := fun o => (World.frozen?_of_block (a := ⟨g, o, none⟩) hgb).trans (HF.out.fz o)
  have hst : Hid (LX (wc.setCell ⟨g, 1 + pr, none⟩ (.slice A3 n3 c3)) g (upd rb pr (rb pr)) (upd Ls pr ((Ls pr).take place ++ (Ls pr).drop (place + 1))) F) := hXV.line HPR.out hk3 hr3 HNG.out hlt3 (.inl rfl)
  have hch : Hid (Ch g (rb pr) w (wc.setCell ⟨g, 1 + pr, none⟩ (.slice A3 n3 c3))) := ((Ch.of_below HF.out.bel).trans hk3.ch (.inl rfl)).set _ _
  have hcl : Hid ((wc.setCell ⟨g, 1 + pr, none⟩ (.slice A3 n3 c3)).cell? ⟨g, 1 + pr, none⟩ = some (.slice A3 n3 c3)) := World.cell?_setCell_same' _ _ _ (by rw [k0]; rfl)
  have hn3 : Hid (n3 = ((Ls pr).take place ++ (Ls pr).drop (place + 1)).length) := by
    obtain ⟨_, _, h5, _⟩ := hr3.slice
    injection h5
  rw [upd_self] at hst
  clear hr3 hk3 hgb hlt3 IN hXV
  refine wpAnyH_ready (rs := [15]) (by kernel_rfl) (by simp) ?_
  refine AllReadyH.cons rfl (fun K hK => ?_) AllReadyH.nil
  go_simp
  refine hK.out _ _ trivial (fun _ => ?_)
  clear hK K
  try simp only [Act.put, List.setIfInBounds_toArray, List.set_cons_zero, List.set_cons_succ]
  refine wpAnyH_done (by kernel_rfl) ?_ _
  clear k0 kf
  generalize wc.setCell ⟨g, 1 + pr, none⟩ (.slice A3 n3 c3) = wd at hst hch hcl ⊢
  have hcc := hcl.out
  obtain ⟨L', hL'⟩ : ∃ L', (Ls pr).take place ++ (Ls pr).drop (place + 1) = L' := ⟨_, rfl⟩
  rw [hL'] at hst hn3
  have HL' := Lib.hid hL'
  clear hL' hcl
  have hfz := hst.out.fz
  by_cases h0 : n3 = 0
  · have hnil : Hid (L' = []) := List.eq_nil_of_length_eq_zero (hn3.out.symm.trans h0)
    subst h0
    have hwc := hst.out.wc
    go_wp2_with fail
    refine wp_region_held_drew (S := (fun _ => True)) (by kernel_rfl) trivial (fun _ => ?_)
    have hst := Lib.hid (hst.out.below (Below.refl _ _).drew)
    have hch := Lib.hid (hch.out.trans (Ch.of_below (Below.refl _ _).drew) (.inl rfl))
    clear hwc hfz hcc
    generalize wd.drew = we at hst hch ⊢
    refine takeD (i := 0) (d := some 29) (v := ?_) _ rfl rfl (by kernel_rfl) (by kernel_rfl) (by kernel_rfl) (fun _ _ _ h => h) (by rfl) ?_ trivial ?_
    rotate_left
    · (intro w hSw; (try dsimp only at hSw); go_simp) <;> with_reducible rfl
    try simp only [Act.put, List.setIfInBounds_toArray, List.set_cons_zero, List.set_cons_succ]
    refine takeD (i := 1) (d := some 30) (v := ?_) _ rfl rfl (by kernel_rfl) (by kernel_rfl) (by kernel_rfl) (fun _ _ _ h => h) (by rfl) ?_ trivial ?_
    rotate_left
    · (intro w hSw; (try dsimp only at hSw); go_simp) <;> with_reducible rfl
    try simp only [Act.put, List.setIfInBounds_toArray, List.set_cons_zero, List.set_cons_succ]
    refine takeD (i := 2) (d := some 31) (v := ?_) _ rfl rfl (by kernel_rfl) (by kernel_rfl) (by kernel_rfl) (fun _ _ _ h => h) (by rfl) ?_ trivial ?_
    rotate_left
    · (intro w hSw; (try dsimp only at hSw); go_simp) <;> with_reducible rfl
    try simp only [Act.put, List.setIfInBounds_toArray, List.set_cons_zero, List.set_cons_succ]
    refine takeD (i := 4) (d := some 33) (v := ?_) _ rfl rfl (by kernel_rfl) (by kernel_rfl) (by kernel_rfl) (fun _ _ _ h => h) (by rfl) ?_ trivial ?_
    rotate_left
    · (intro w hSw; (try dsimp only at hSw); go_simp) <;> with_reducible rfl
    try simp only [Act.put, List.setIfInBounds_toArray, List.set_cons_zero, List.set_cons_succ]
    refine takeD (i := 5) (d := some 34) (v := ?_) _ rfl rfl (by kernel_rfl) (by kernel_rfl) (by kernel_rfl) (fun _ _ _ h => h) (by rfl) ?_ trivial ?_
    rotate_left
    · (intro w hSw; (try dsimp only at hSw); go_simp) <;> with_reducible rfl
    try simp only [Act.put, List.setIfInBounds_toArray, List.set_cons_zero, List.set_cons_succ]
    refine wpAnyH_ready (rs := [3]) (by kernel_rfl) (by simp) ?_
    refine AllReadyH.cons rfl (fun K hK => ?_) AllReadyH.nil
    have hwc := hst.out.wc
    go_simp
    refine hK.out _ _ trivial (fun _ => ?_)
    clear hK K
    try simp only [Act.put, List.setIfInBounds_toArray, List.set_cons_zero, List.set_cons_succ]
    refine takeD (i := 6) (d := some 35) (v := ?_) _ rfl rfl (by kernel_rfl) (by kernel_rfl) (by kernel_rfl) (fun _ _ _ h => h) (by rfl) ?_ trivial ?_
    rotate_left
    · (intro w hSw; (try dsimp only at hSw); go_simp) <;> with_reducible rfl
    try simp only [Act.put, List.setIfInBounds_toArray, List.set_cons_zero, List.set_cons_succ]
    refine takeD (i := 7) (d := some 36) (v := ?_) _ rfl rfl (by kernel_rfl) (by kernel_rfl) (by kernel_rfl) (fun _ _ _ h => h) (by rfl) ?_ trivial ?_
    rotate_left
    · (intro w hSw; (try dsimp only at hSw); go_simp) <;> with_reducible rfl
    try simp only [Act.put, List.setIfInBounds_toArray, List.set_cons_zero, List.set_cons_succ]
    refine takeD (i := 8) (d := some 37) (v := ?_) _ rfl rfl (by kernel_rfl) (by kernel_rfl) (by kernel_rfl) (fun _ _ _ h => h) (by rfl) ?_ trivial ?_
    rotate_left
    · (intro w hSw; (try dsimp only at hSw); go_simp) <;> with_reducible rfl
    try simp only [Act.put, List.setIfInBounds_toArray, List.set_cons_zero, List.set_cons_succ]
    refine wpAnyH_ready (rs := [9]) (by kernel_rfl) (by simp) ?_
    refine AllReadyH.cons rfl (fun K hK => ?_) AllReadyH.nil
    have hfz := hst.out.fz
    go_simp
    refine hK.out _ _ trivial (fun _ => ?_)
    clear hK K
    try simp only [Act.put, List.setIfInBounds_toArray, List.set_cons_zero, List.set_cons_succ]
    refine wpAnyH_done (by kernel_rfl) ?_ _
    have HW := Lib.hid (clr_eq HFL.out HPR.out)
    clear hwc hfz
    go_wp2_with fail
    go_end0
    rw [HW.out]
    refine ⟨rfl, ?_, hch.out.set _ _⟩
    rw [HL'.out, hnil.out]
    have := hst.out
    rw [hnil.out] at this
    exact (this.word (clr_lt pr HFL.out)).lf (HWD.out.cut HFL.out HPR.out)
  · have hnil : Hid (L' ≠ []) := fun e => h0 (by rw [hn3.out, e]; rfl)
    have h0B : ((n3 : Int) == 0) = false := by rw [beq_eq_false_iff_ne]; omega
    have h0I : ¬ (n3 : Int) = 0 := by omega
    go_wp2_with fail
    go_end0
    refine ⟨rfl, ?_, hch.out⟩
    rw [HL'.out]
    exact hst.out.lf (HWD.out.stay hnil.out HNN.out)
end Go.Proofs.Ytbkjcjkbicaibaa
