/-
  A ring in memory, and the contracts of New, slot, Len, Peek, Put and Take. Each statement bears its own conditions.
-/
import Derived.Test.YtpejmkdmjlfgpaaBase
namespace Go.Proofs.Ytpejmkdmjlfgpaa
open Go.RowKit
set_option linter.unusedSimpArgs false
set_option linter.unusedVariables false
/-- No block but g has turned of those that were there. -/
structure Past (g : Nat) (w w' : World) : Prop where
  os : w'.os = w.os
  tape : w'.tape = w.tape
  output : w'.output = w.output
  size : w.heap.size ≤ w'.heap.size
  block : ∀ k, k < w.heap.size → k ≠ g → w'.heap[k]? = w.heap[k]?
theorem Past.refl (g : Nat) (w : World) : Past g w w := ⟨rfl, rfl, rfl, Nat.le_refl _, fun _ _ _ => rfl⟩
theorem Past.trans {g : Nat} {a b c : World} (h : Past g a b) (k : Past g b c) : Past g a c :=
  ⟨k.os.trans h.os, k.tape.trans h.tape, k.output.trans h.output, Nat.le_trans h.size k.size, fun i hi hg => (k.block i (Nat.lt_of_lt_of_le hi h.size) hg).trans (h.block i hi hg)⟩
theorem Past.of_below {g : Nat} {w w' : World} (h : Below w.heap.size w w') : Past g w w' := ⟨h.os, h.tape, h.output, h.size, fun k hk _ => h.block k hk⟩
theorem Past.below {g B : Nat} {w w' : World} (h : Past g w w') (hB : B ≤ g) (hB' : B ≤ w.heap.size) : Below B w w' := ⟨h.os, h.tape, h.output, h.size, fun k hk => h.block k (by omega) (by omega)⟩
theorem Past.setCell {g : Nat} {a w : World} (h : Past g a w) (j : Nat) (u : Value) : Past g a (w.setCell ⟨g, j, none⟩ u) :=
  h.trans ⟨rfl, rfl, rfl, by simp [World.setCell], fun k hk hg => Below.heap_setCell _ _ _ _ hg⟩
theorem Past.drew {g : Nat} {a w : World} (h : Past g a w) : Past g a w.drew := ⟨h.os, h.tape, h.output, h.size, h.block⟩
theorem Past.reads {g B n : Nat} {w w' : World} {A : Option Addr} {xs : List Value} (h : Past g w w') (hr : Reads w B 1 A n xs) (hB : B ≤ w.heap.size) (hg : ∀ ad, A = some ad → ad.block ≠ g) : Reads w' B 1 A n xs := by
  refine ⟨hr.1, fun hn => ?_⟩
  obtain ⟨ad, e, hb, hc⟩ := hr.2 hn
  exact ⟨ad, e, hb, fun j u hu => (World.cell?_of_block (h.block _ (by rw [block_of_add]; omega) (by rw [block_of_add]; exact hg ad e))).trans (hc j u hu)⟩

/-- A message in memory, in blocks of Q. -/
structure Slot (w : World) (Q : Nat → Prop) (v : Value) (l : List Int) : Prop where
  ex : ∃ A c, v = .slice A l.length c ∧ (A = none → c = 0) ∧ Reads w w.heap.size 1 A l.length (U l) ∧ (∀ ad, A = some ad → 0 < l.length → Q ad.block ∧ ∀ i, w.frozen? ⟨ad.block, i, none⟩ = false)
theorem Slot.keep {w w' : World} {Q : Nat → Prop} {v : Value} {l : List Int} (h : Slot w Q v l) (hs : w.heap.size ≤ w'.heap.size) (hb : ∀ k, k < w.heap.size → Q k → w'.heap[k]? = w.heap[k]?) : Slot w' Q v l := by
  obtain ⟨A, c, rfl, hA, hr, hq⟩ := h.ex
  refine ⟨A, c, rfl, hA, ⟨hr.1, fun hn => ?_⟩, fun ad e hn => ?_⟩
  · obtain ⟨ad, e, hlt, hc⟩ := hr.2 hn
    exact ⟨ad, e, by omega, fun j u hu => (World.cell?_of_block (hb _ (by rw [block_of_add]; exact hlt) (by rw [block_of_add]; exact (hq ad e hn).1))).trans (hc j u hu)⟩
  · obtain ⟨ad', e', hlt, _⟩ := hr.2 hn
    rw [e'] at e
    injection e with e
    subst e
    exact ⟨(hq _ e' hn).1, fun i => (World.frozen?_of_block (a := ⟨ad'.block, i, none⟩) (hb _ hlt (hq _ e' hn).1)).trans ((hq _ e' hn).2 i)⟩
theorem Slot.more {w : World} {Q Q' : Nat → Prop} {v : Value} {l : List Int} (h : Slot w Q v l) (hq : ∀ b, Q b → Q' b) : Slot w Q' v l := by
  obtain ⟨A, c, rfl, hA, hr, hq'⟩ := h.ex
  exact ⟨A, c, rfl, hA, hr, fun ad e hn => ⟨hq _ (hq' ad e hn).1, (hq' ad e hn).2⟩⟩
theorem slot_drew {w : World} {Q : Nat → Prop} {v : Value} {l : List Int} (h : Slot w Q v l) : Slot w.drew Q v l := h.keep (Nat.le_refl _) fun _ _ _ => rfl
/-- A ring in memory. -/
structure RingF (w : World) (Q : Nat → Prop) (g n m f : Nat) (L : List (List Int)) : Prop where
  lt : g < w.heap.size
  nog : ¬ Q g
  room : 1 ≤ n ∧ n ≤ 32
  words : 1 ≤ m ∧ m ≤ 32
  first : f < n
  fit : L.length ≤ n
  size : ∀ i, i < L.length → (L.getD i []).length ≤ 32
  cell0 : w.cell? ⟨g, 0, none⟩ = some (.int .i64 (n : Int))
  cell1 : w.cell? ⟨g, 1, none⟩ = some (.int .i64 (m : Int))
  cell2 : w.cell? ⟨g, 2, none⟩ = some (.int .i64 (f : Int))
  cell3 : w.cell? ⟨g, 3, none⟩ = some (.int .i64 (L.length : Int))
  free : ∀ i, w.frozen? ⟨g, i, none⟩ = false
  slots : ∀ i, i < 32 → (w.cell? ⟨g, 4 + i, none⟩).isSome = true
  msg : ∀ i, i < L.length → ∃ v, w.cell? ⟨g, 4 + (f + i) % n, none⟩ = some v ∧ Slot w Q v (L.getD i [])
theorem RingF.keep {w w' : World} {Q : Nat → Prop} {g n m f : Nat} {L : List (List Int)} (h : RingF w Q g n m f L) (hs : w.heap.size ≤ w'.heap.size) (hb : ∀ k, k < w.heap.size → k = g ∨ Q k → w'.heap[k]? = w.heap[k]?) : RingF w' Q g n m f L := by
  have hg := hb g h.lt (.inl rfl)
  have hc : ∀ i, w'.cell? ⟨g, i, none⟩ = w.cell? ⟨g, i, none⟩ := fun i => World.cell?_of_block hg
  exact ⟨by have := h.lt; omega, h.nog, h.room, h.words, h.first, h.fit, h.size, (hc _).trans h.cell0, (hc _).trans h.cell1, (hc _).trans h.cell2, (hc _).trans h.cell3,
    fun i => (World.frozen?_of_block hg).trans (h.free i), fun i hi => by rw [hc]; exact h.slots i hi, fun i hi => by
      obtain ⟨v, h1, h2⟩ := h.msg i hi
      exact ⟨v, (hc _).trans h1, h2.keep hs fun k hk hq => hb k hk (.inr hq)⟩⟩
theorem RingF.below {w w' : World} {Q : Nat → Prop} {g n m f : Nat} {L : List (List Int)} (h : RingF w Q g n m f L) (hb : Below w.heap.size w w') : RingF w' Q g n m f L := h.keep hb.size fun k hk _ => hb.block k hk
theorem RingF.more {w : World} {Q Q' : Nat → Prop} {g n m f : Nat} {L : List (List Int)} (h : RingF w Q g n m f L) (hq : ∀ b, Q b → Q' b) (hg : ¬ Q' g) : RingF w Q' g n m f L :=
  ⟨h.lt, hg, h.room, h.words, h.first, h.fit, h.size, h.cell0, h.cell1, h.cell2, h.cell3, h.free, h.slots, fun i hi => by
    obtain ⟨v, h1, h2⟩ := h.msg i hi
    exact ⟨v, h1, h2.more hq⟩⟩
theorem mod_at {f i n : Nat} (hf : f < n) (hi : i ≤ n) : (f + i) % n = if f + i < n then f + i else f + i - n := by
  split
  · rename_i h; exact Nat.mod_eq_of_lt h
  · rw [Nat.mod_eq_sub_mod (by omega), Nat.mod_eq_of_lt (by omega)]
theorem mod_ne {f i j n : Nat} (hf : f < n) (hij : i < j) (hj : j < n) : (f + i) % n ≠ (f + j) % n := by
  rw [mod_at hf (by omega), mod_at hf (by omega)]
  split <;> split <;> omega
theorem mod_step {f i n : Nat} (hf : f < n) (hi : i < n) : ((f + 1) % n + i) % n = (f + (i + 1)) % n := by
  rw [Nat.mod_add_mod]; congr 1; omega
theorem off_ne {b i j : Nat} (h : i ≠ j) : (⟨b, i, none⟩ : Addr) ≠ ⟨b, j, none⟩ := fun e => by injection e with _ h2 _; exact h h2
theorem set_other {w : World} {g i j : Nat} (u : Value) (h : j ≠ i) : (w.setCell ⟨g, j, none⟩ u).cell? ⟨g, i, none⟩ = w.cell? ⟨g, i, none⟩ := World.cell?_setCell_other w _ _ _ (off_ne h)
theorem set_some {w : World} {g i j : Nat} (u : Value) (h : (w.cell? ⟨g, i, none⟩).isSome = true) : ((w.setCell ⟨g, j, none⟩ u).cell? ⟨g, i, none⟩).isSome = true := by
  by_cases e : j = i
  · subst e; rw [World.cell?_setCell_same' w _ _ h]; rfl
  · rw [set_other u e]; exact h
theorem Slot.set {w : World} {Q : Nat → Prop} {v : Value} {l : List Int} {g : Nat} (h : Slot w Q v l) (hg : ¬ Q g) (j : Nat) (u : Value) : Slot (w.setCell ⟨g, j, none⟩ u) Q v l :=
  h.keep (by simp [World.setCell]) fun k _ hq => Below.heap_setCell _ _ _ _ (fun e => hg (by subst e; exact hq))
theorem slot_own {w : World} {B n c : Nat} {A : Option Addr} {l : List Int} (h : w.ownsRow B 52 1 (.slice A n c) n (U l)) : Slot w (fun b => B ≤ b ∧ b < w.heap.size) (.slice A n c) l := by
  have hl : l.length = n := by have := h.1; simpa using this
  subst hl
  refine ⟨A, c, rfl, fun hA => ?_, Reads.of_own h, fun ad hA hn => ?_⟩
  · subst hA
    rcases h.2 with ⟨hv, _⟩ | ⟨g, cap, cur, hv, _⟩
    · injection hv
    · injection hv with h1; cases h1
  · subst hA
    rcases h.2 with ⟨hv, _⟩ | ⟨g, cap, cur, hv, hb, hh, _⟩
    · injection hv with h1; cases h1
    · injection hv with h1
      injection h1 with h1
      subst h1
      exact ⟨⟨hb, by have := (h.lt g rfl).2; exact this⟩, fun i => frozen_of_row w g i cur _ hh⟩

/-- A message more. -/
theorem RingF.put {w : World} {Q : Nat → Prop} {g n m f : Nat} {L : List (List Int)} {v : Value} {l : List Int} (h : RingF w Q g n m f L) (B : Nat) (hv : Slot w (fun b => B ≤ b ∧ b < w.heap.size) v l) (hB : g < B) (hl : l.length ≤ 32) (hfull : L.length < n) (j : Nat) (hj : (f + L.length) % n = j) :
    RingF ((w.setCell ⟨g, 4 + j, none⟩ v).setCell ⟨g, 3, none⟩ (.int .i64 ((L.length : Int) + 1))) (fun b => Q b ∨ (B ≤ b ∧ b < w.heap.size)) g n m f (L ++ [l]) := by
  have hr := h.room
  have hjn : j < n := by rw [← hj]; exact Nat.mod_lt _ (by omega)
  have ng : ¬ (Q g ∨ (B ≤ g ∧ g < w.heap.size)) := by
    have := h.nog
    intro hh; rcases hh with h1 | h1
    · exact this h1
    · omega
  refine ⟨by have := h.lt; simpa using this, ng, h.room, h.words, h.first, by simp; omega, ?_, ?_, ?_, ?_, ?_, ?_, ?_, ?_⟩
  · intro i hi
    by_cases e : i < L.length
    · have := h.size i e
      simpa [List.getD_eq_getElem?_getD, List.getElem?_append_left e] using this
    · obtain rfl : i = L.length := by simp at hi; omega
      simpa [List.getD_eq_getElem?_getD] using hl
  · rw [set_other _ (by omega), set_other _ (by omega)]; exact h.cell0
  · rw [set_other _ (by omega), set_other _ (by omega)]; exact h.cell1
  · rw [set_other _ (by omega), set_other _ (by omega)]; exact h.cell2
  · rw [World.cell?_setCell_same' _ _ _ (by rw [set_other _ (by omega), h.cell3]; rfl)]
    simp
  · intro i; rw [World.frozen?_setCell, World.frozen?_setCell]; exact h.free i
  · intro i hi; exact set_some _ (set_some _ (h.slots i hi))
  · intro i hi
    by_cases e : i < L.length
    · obtain ⟨u, h1, h2⟩ := h.msg i e
      refine ⟨u, ?_, ?_⟩
      · rw [set_other _ (by omega), set_other _ (by have := mod_ne h.first e hfull; omega)]; exact h1
      · have := ((h2.more (Q' := fun b => Q b ∨ (B ≤ b ∧ b < w.heap.size)) fun b hb => .inl hb).set ng (4 + j) v).set ng 3 (.int .i64 ((L.length : Int) + 1))
        simpa [List.getD_eq_getElem?_getD, List.getElem?_append_left e] using this
    · obtain rfl : i = L.length := by simp at hi; omega
      refine ⟨v, ?_, ?_⟩
      · rw [set_other _ (by omega), hj, World.cell?_setCell_same' _ _ _ (h.slots j (by omega))]
      · have := ((hv.more (Q' := fun b => Q b ∨ (B ≤ b ∧ b < w.heap.size)) fun b hb => .inr hb).set ng (4 + j) v).set ng 3 (.int .i64 ((L.length : Int) + 1))
        simpa [List.getD_eq_getElem?_getD] using this
/-- The first message goes. -/
theorem RingF.take {w : World} {Q : Nat → Prop} {g n m f : Nat} {l : List Int} {L : List (List Int)} (h : RingF w Q g n m f (l :: L)) (f' : Nat) (hf' : (f + 1) % n = f') :
    RingF (((w.setCell ⟨g, 4 + f, none⟩ (.slice none 0 0)).setCell ⟨g, 2, none⟩ (.int .i64 (f' : Int))).setCell ⟨g, 3, none⟩ (.int .i64 (L.length : Int))) Q g n m f' L := by
  have hr := h.room
  have hfit := h.fit
  have hf := h.first
  simp only [List.length_cons] at hfit
  refine ⟨by have := h.lt; simpa using this, h.nog, h.room, h.words, by rw [← hf']; exact Nat.mod_lt _ (by omega), by omega, ?_, ?_, ?_, ?_, ?_, ?_, ?_, ?_⟩
  · intro i hi; have := h.size (i + 1) (by simp; omega); simpa using this
  · rw [set_other _ (by omega), set_other _ (by omega), set_other _ (by omega)]; exact h.cell0
  · rw [set_other _ (by omega), set_other _ (by omega), set_other _ (by omega)]; exact h.cell1
  · rw [set_other _ (by omega), World.cell?_setCell_same' _ _ _ (by rw [set_other _ (by omega), h.cell2]; rfl)]
  · rw [World.cell?_setCell_same' _ _ _ (by rw [set_other _ (by omega), set_other _ (by omega), h.cell3]; rfl)]
  · intro i; rw [World.frozen?_setCell, World.frozen?_setCell, World.frozen?_setCell]; exact h.free i
  · intro i hi; exact set_some _ (set_some _ (set_some _ (h.slots i hi)))
  · intro i hi
    obtain ⟨u, h1, h2⟩ := h.msg (i + 1) (by simp; omega)
    have hm : (f' + i) % n = (f + (i + 1)) % n := by rw [← hf', mod_step hf (by omega)]
    refine ⟨u, ?_, ?_⟩
    · rw [hm, set_other _ (by omega), set_other _ (by omega), set_other _ (by have := mod_ne (f := f) (i := 0) (j := i + 1) (n := n) hf (by omega) (by omega); rw [Nat.add_zero, Nat.mod_eq_of_lt hf] at this; omega)]; exact h1
    · have := ((h2.set h.nog (4 + f) (.slice none 0 0)).set h.nog 2 (.int .i64 (f' : Int))).set h.nog 3 (.int .i64 (L.length : Int))
      simpa using this
theorem new_ok (n m : Nat) (w : World) (h1 : 1 ≤ n ∧ n ≤ 32) (h2 : 1 ≤ m ∧ m ≤ 32) :
    Calls Try.prog 17 #[.int .i64 n, .int .i64 m] w fun e w' => e = .returned (.tuple #[.pointer (some ⟨w.heap.size, 0, none⟩), .int .i64 0]) ∧ RingF w' (fun _ => False) w.heap.size n m 0 [] ∧ Below w.heap.size w w' := by
  have a1 : 1 ≤ (n : Int) := by omega
  have a2 : (n : Int) ≤ 32 := by omega
  have a3 : 1 ≤ (m : Int) := by omega
  have a4 : (m : Int) ≤ 32 := by omega
  have H1 := Lib.hid h1
  have H2 := Lib.hid h2
  clear h1 h2
  go_enter Try.func17, Try.ntmps17
  go_wp2_with fail
  go_ret2
  refine ⟨rfl, ?_, (Below.refl _ _).alloc (Nat.le_refl _) _⟩
  have hc : ∀ (i : Nat) (C : Array Value) (v : Value), C[i]? = some v → (w.alloc (.cells C 66)).cell? ⟨w.heap.size, i, none⟩ = some v := fun i C v h => by rw [World.cell?_alloc_new]; exact h
  refine ⟨by simp, fun h => h, H1.out, H2.out, by have := H1.out; omega, by simp, fun i hi => by simp at hi, hc _ _ _ rfl, hc _ _ _ rfl, hc _ _ _ rfl, hc _ _ _ rfl, fun i => by simp, fun i hi => ?_, fun i hi => by simp at hi⟩
  rw [World.cell?_alloc_new]
  simp; omega
theorem new_bad (n m : Int) (w : World) (h : ¬ (1 ≤ n ∧ n ≤ 32 ∧ 1 ≤ m ∧ m ≤ 32)) :
    Calls Try.prog 17 #[.int .i64 n, .int .i64 m] w fun e w' => e = .returned (.tuple #[.pointer none, .int .i64 1]) ∧ Below w.heap.size w w' := by
  have hd : (decide (n < 1) || decide (32 < n) || decide (m < 1) || decide (32 < m)) = true := by simp; omega
  by_cases c1 : n < 1
  · go_enter Try.func17, Try.ntmps17
    go_wp2_with fail
    go_ret2
    exact ⟨rfl, Below.refl _ _⟩
  by_cases c2 : 32 < n
  · go_enter Try.func17, Try.ntmps17
    go_wp2_with fail
    go_ret2
    exact ⟨rfl, Below.refl _ _⟩
  by_cases c3 : m < 1
  · go_enter Try.func17, Try.ntmps17
    go_wp2_with fail
    go_ret2
    exact ⟨rfl, Below.refl _ _⟩
  have c4 : 32 < m := by omega
  go_enter Try.func17, Try.ntmps17
  go_wp2_with fail
  go_ret2
  exact ⟨rfl, Below.refl _ _⟩
theorem len_any (w : World) (Q : Nat → Prop) (g n m f : Nat) (L : List (List Int)) (h : RingF w Q g n m f L) :
    Calls Try.prog 14 #[.pointer (some ⟨g, 0, none⟩)] w fun e w' => e = .returned (.int .i64 (L.length : Int)) ∧ Below w.heap.size w w' := by
  have c := h.cell3
  clear h
  go_enter Try.func14, Try.ntmps14
  go_wp2_with fail
  go_ret
  exact ⟨rfl, Below.refl _ _⟩
theorem slot_any (w : World) (Q : Nat → Prop) (g n m f : Nat) (L : List (List Int)) (h : RingF w Q g n m f L) (i j : Nat) (hi : i ≤ 32) (hj : (f + i) % n = j) :
    Calls Try.prog 29 #[.pointer (some ⟨g, 0, none⟩), .int .i64 (i : Int)] w fun e w' => e = .returned (.pointer (some ⟨g, 4 + j, none⟩)) ∧ Below w.heap.size w w' := by
  have c0 := h.cell0
  have c2 := h.cell2
  have hr := h.room
  have hf := h.first
  have jn : j < n := by rw [← hj]; exact Nat.mod_lt _ (by omega)
  have hm' : ((f : Int) + (i : Int)) % (n : Int) = (j : Int) := by rw [← hj]; simp
  have hm : ((f : Int) + (i : Int)).tmod (n : Int) = (j : Int) := by rw [Int.tmod_eq_emod_of_nonneg (by omega)]; exact hm'
  have s1 : IntKind.i64.wrap ((f : Int) + (i : Int)) = (f : Int) + (i : Int) := IntWalk.i64_in _ (by omega)
  have s2 : wrap64 ((f : Int) + (i : Int)) = (f : Int) + (i : Int) := by unfold wrap64; omega
  have n0 : ¬ n = 0 := by omega
  have n1 : ¬ (n : Int) = 0 := by omega
  have j0 : (0 : Int) ≤ (j : Int) := by omega
  have j1 : (j : Int) < 32 := by omega
  have jw : IntKind.i64.wrap (j : Int) = (j : Int) := IntWalk.i64_in _ (by omega)
  have fi : (0 : Int) ≤ (f : Int) + (i : Int) := by omega
  clear h hj hr hf jn hi
  go_enter Try.func29, Try.ntmps29
  go_wp2_with fail
  refine wp_region_held_drew (S := (fun w' => Below w.heap.size w w' ∧ w'.cell? ⟨g, 0, none⟩ = some (.int .i64 (n : Int)) ∧ w'.cell? ⟨g, 2, none⟩ = some (.int .i64 (f : Int)))) (by kernel_rfl) ?_ (fun hHeld => ?_)
  · exact ⟨(Below.refl _ _).drew, c0, c2⟩
  refine takeD (i := 0) (d := some 5) (v := ?_) _ rfl rfl (by kernel_rfl) (by kernel_rfl) (by kernel_rfl) (fun _ _ _ h => h) (by rfl) ?_ (by assumption) ?_
  rotate_left
  · (intro w hSw; (try dsimp only at hSw); go_simp) <;> with_reducible rfl
  try simp only [Act.put, List.setIfInBounds_toArray, List.set_cons_zero, List.set_cons_succ]
  refine takeD (i := 1) (d := some 6) (v := ?_) _ rfl rfl (by kernel_rfl) (by kernel_rfl) (by kernel_rfl) (fun _ _ _ h => h) (by rfl) ?_ (by assumption) ?_
  rotate_left
  · (intro w hSw; (try dsimp only at hSw); go_simp) <;> with_reducible rfl
  try simp only [Act.put, List.setIfInBounds_toArray, List.set_cons_zero, List.set_cons_succ]
  refine takeD (i := 2) (d := some 7) (v := ?_) _ rfl rfl (by kernel_rfl) (by kernel_rfl) (by kernel_rfl) (fun _ _ _ h => h) (by rfl) ?_ (by assumption) ?_
  rotate_left
  · (intro w hSw; (try dsimp only at hSw); go_simp) <;> with_reducible rfl
  try simp only [Act.put, List.setIfInBounds_toArray, List.set_cons_zero, List.set_cons_succ]
  refine takeD (i := 3) (d := some 8) (v := ?_) _ rfl rfl (by kernel_rfl) (by kernel_rfl) (by kernel_rfl) (fun _ _ _ h => h) (by rfl) ?_ (by assumption) ?_
  rotate_left
  · (intro w hSw; (try dsimp only at hSw); go_simp) <;> with_reducible rfl
  try simp only [Act.put, List.setIfInBounds_toArray, List.set_cons_zero, List.set_cons_succ]
  refine takeD (i := 4) (d := some 9) (v := ?_) _ rfl rfl (by kernel_rfl) (by kernel_rfl) (by kernel_rfl) (fun _ _ _ h => h) (by rfl) ?_ (by assumption) ?_
  rotate_left
  · (intro w hSw; (try dsimp only at hSw); go_simp) <;> with_reducible rfl
  try simp only [Act.put, List.setIfInBounds_toArray, List.set_cons_zero, List.set_cons_succ]
  refine takeD (i := 5) (d := some 10) (v := ?_) _ rfl rfl (by kernel_rfl) (by kernel_rfl) (by kernel_rfl) (fun _ _ _ h => h) (by rfl) ?_ (by assumption) ?_
  rotate_left
  · (intro w hSw; (try dsimp only at hSw); go_simp) <;> with_reducible rfl
  try simp only [Act.put, List.setIfInBounds_toArray, List.set_cons_zero, List.set_cons_succ]
  refine takeD (i := 6) (d := some 11) (v := ?_) _ rfl rfl (by kernel_rfl) (by kernel_rfl) (by kernel_rfl) (fun _ _ _ h => h) (by rfl) ?_ (by assumption) ?_
  rotate_left
  · (intro w hSw; (try dsimp only at hSw); go_simp) <;> with_reducible rfl
  try simp only [Act.put, List.setIfInBounds_toArray, List.set_cons_zero, List.set_cons_succ]
  refine takeD (i := 7) (d := some 12) (v := ?_) _ rfl rfl (by kernel_rfl) (by kernel_rfl) (by kernel_rfl) (fun _ _ _ h => h) (by rfl) ?_ (by assumption) ?_
  rotate_left
  · (intro w hSw; (try dsimp only at hSw); go_simp) <;> with_reducible rfl
  try simp only [Act.put, List.setIfInBounds_toArray, List.set_cons_zero, List.set_cons_succ]
  refine takeD (i := 8) (d := some 13) (v := ?_) _ rfl rfl (by kernel_rfl) (by kernel_rfl) (by kernel_rfl) (fun _ _ _ h => h) (by rfl) ?_ (by assumption) ?_
  rotate_left
  · (intro w hSw; (try dsimp only at hSw); go_simp) <;> with_reducible rfl
  try simp only [Act.put, List.setIfInBounds_toArray, List.set_cons_zero, List.set_cons_succ]
  refine takeD (i := 9) (d := some 14) (v := ?_) _ rfl rfl (by kernel_rfl) (by kernel_rfl) (by kernel_rfl) (fun _ _ _ h => h) (by rfl) ?_ (by assumption) ?_
  rotate_left
  · (intro w hSw; (try dsimp only at hSw); go_simp) <;> with_reducible rfl
  try simp only [Act.put, List.setIfInBounds_toArray, List.set_cons_zero, List.set_cons_succ]
  refine takeD (i := 10) (d := some 15) (v := ?_) _ rfl rfl (by kernel_rfl) (by kernel_rfl) (by kernel_rfl) (fun _ _ _ h => h) (by rfl) ?_ (by assumption) ?_
  rotate_left
  · (intro w hSw; (try dsimp only at hSw); go_simp) <;> with_reducible rfl
  try simp only [Act.put, List.setIfInBounds_toArray, List.set_cons_zero, List.set_cons_succ]
  refine takeD (i := 11) (d := some 16) (v := ?_) _ rfl rfl (by kernel_rfl) (by kernel_rfl) (by kernel_rfl) (fun _ _ _ h => h) (by rfl) ?_ (by assumption) ?_
  rotate_left
  · (intro w hSw; (try dsimp only at hSw); go_simp) <;> with_reducible rfl
  try simp only [Act.put, List.setIfInBounds_toArray, List.set_cons_zero, List.set_cons_succ]
  refine takeD (i := 12) (d := some 17) (v := ?_) _ rfl rfl (by kernel_rfl) (by kernel_rfl) (by kernel_rfl) (fun _ _ _ h => h) (by rfl) ?_ (by assumption) ?_
  rotate_left
  · (intro w hSw; (try dsimp only at hSw); go_simp) <;> with_reducible rfl
  try simp only [Act.put, List.setIfInBounds_toArray, List.set_cons_zero, List.set_cons_succ]
  refine takeD (i := 13) (d := some 18) (v := ?_) _ rfl rfl (by kernel_rfl) (by kernel_rfl) (by kernel_rfl) (fun _ _ _ h => h) (by rfl) ?_ (by assumption) ?_
  rotate_left
  · (intro w hSw; (try dsimp only at hSw); go_simp) <;> with_reducible rfl
  try simp only [Act.put, List.setIfInBounds_toArray, List.set_cons_zero, List.set_cons_succ]
  refine takeD (i := 14) (d := some 19) (v := ?_) _ rfl rfl (by kernel_rfl) (by kernel_rfl) (by kernel_rfl) (fun _ _ _ h => h) (by rfl) ?_ (by assumption) ?_
  rotate_left
  · (intro w hSw; (try dsimp only at hSw); go_simp) <;> with_reducible rfl
  try simp only [Act.put, List.setIfInBounds_toArray, List.set_cons_zero, List.set_cons_succ]
  refine takeD (i := 15) (d := some 4) (v := ?_) _ rfl rfl (by kernel_rfl) (by kernel_rfl) (by kernel_rfl) (fun _ _ _ h => h) (by rfl) ?_ (by assumption) ?_
  rotate_left
  · (intro w hSw; (try dsimp only at hSw); go_simp) <;> with_reducible rfl
  try simp only [Act.put, List.setIfInBounds_toArray, List.set_cons_zero, List.set_cons_succ]
  refine wpAnyH_done (by kernel_rfl) ?_ _
  go_wp2_with fail
  go_ret
  exact ⟨rfl, (Below.refl _ _).drew⟩
theorem peek_none (w : World) (Q : Nat → Prop) (g n m f : Nat) (h : RingF w Q g n m f []) :
    Calls Try.prog 20 #[.pointer (some ⟨g, 0, none⟩)] w fun e w' => e = .returned (.tuple #[.slice none 0 0, .bool false]) ∧ Below w.heap.size w w' := by
  have HLEN := Lib.hid (len_any w Q g n m f [] h)
  clear h
  go_enter Try.func20, Try.ntmps20
  go_wp2_with fail
  refine HLEN.out.mono ?_
  rintro e w1 ⟨rfl, hb⟩
  go_wp2_with fail
  go_ret2
  exact ⟨rfl, hb⟩
theorem peek_some (w : World) (Q : Nat → Prop) (g n m f : Nat) (l : List Int) (L : List (List Int)) (h : RingF w Q g n m f (l :: L)) :
    Calls Try.prog 20 #[.pointer (some ⟨g, 0, none⟩)] w fun e w' => ∃ A c, e = .returned (.tuple #[.slice A l.length c, .bool true]) ∧ w'.ownsRow w.heap.size 52 1 (.slice A l.length c) l.length (U l) ∧ Below w.heap.size w w' := by
  have ne : ¬ ((L.length : Int) + 1 = 0) := by omega
  have hf := h.first
  have HLEN := Lib.hid (len_any w Q g n m f (l :: L) h)
  have SLOT := Lib.hid fun (W : World) (hb : Below w.heap.size w W) => slot_any W Q g n m f (l :: L) (h.below hb) 0 f (by omega) (by rw [Nat.add_zero, Nat.mod_eq_of_lt hf])
  have MSG := Lib.hid fun (W : World) (hb : Below w.heap.size w W) => (h.below hb).msg 0 (by simp)
  have SZ := Lib.hid (h.size 0 (by simp))
  have G := Lib.hid h.lt
  clear h
  go_enter Try.func20, Try.ntmps20
  go_wp2_with fail
  refine HLEN.out.mono ?_
  rintro e w1 ⟨rfl, hb1⟩
  go_wp2_with fail
  refine (SLOT.out w1 hb1).mono ?_
  rintro e w2 ⟨rfl, hb⟩
  have hb2 := hb1.trans (hb.mono hb1.size)
  obtain ⟨v, hc, hs⟩ := MSG.out w2 hb2
  rw [Nat.add_zero, Nat.mod_eq_of_lt hf] at hc
  obtain ⟨A, c, hv, hA, hr, _⟩ := hs.ex
  simp only [List.getD_cons_zero] at hv hr
  have SZ2 := SZ.out
  simp only [List.getD_cons_zero] at SZ2
  subst hv
  have HCL := Lib.hid (clone_any A l.length c l w2 hA hr (by omega))
  clear hb hs hr hA hf SZ2
  go_wp2_with fail
  refine HCL.out.mono ?_
  rintro e w3 ⟨A3, c3, rfl, ho3, hb3⟩
  go_wp2_with fail
  go_ret2
  exact ⟨A3, c3, rfl, own_base ho3 hb2.size, hb2.trans (hb3.mono hb2.size)⟩
theorem put_nil (A : Option Addr) (k c : Nat) (w : World) : Calls Try.prog 21 #[.pointer none, .slice A k c] w fun e w' => e = .returned (.int .i64 1) ∧ Below w.heap.size w w' := by
  go_enter Try.func21, Try.ntmps21
  go_wp2_with fail
  go_ret
  exact ⟨rfl, Below.refl _ _⟩
theorem put_range (w : World) (Q : Nat → Prop) (g n m f : Nat) (L : List (List Int)) (h : RingF w Q g n m f L) (A : Option Addr) (k c : Nat) (hk : m < k) :
    Calls Try.prog 21 #[.pointer (some ⟨g, 0, none⟩), .slice A k c] w fun e w' => e = .returned (.int .i64 2) ∧ Below w.heap.size w w' := by
  have c1 := h.cell1
  have hk' : (m : Int) < (k : Int) := by omega
  clear h
  go_enter Try.func21, Try.ntmps21
  go_wp2_with fail
  go_ret
  exact ⟨rfl, Below.refl _ _⟩
theorem put_full (w : World) (Q : Nat → Prop) (g n m f : Nat) (L : List (List Int)) (h : RingF w Q g n m f L) (A : Option Addr) (k c : Nat) (hk : k ≤ m) (hfull : L.length = n) :
    Calls Try.prog 21 #[.pointer (some ⟨g, 0, none⟩), .slice A k c] w fun e w' => e = .returned (.int .i64 8) ∧ Below w.heap.size w w' := by
  have c0 := h.cell0
  have c1 := h.cell1
  have c3 := h.cell3
  rw [hfull] at c3
  have hk' : ¬ (m : Int) < (k : Int) := by omega
  clear h
  go_enter Try.func21, Try.ntmps21
  go_wp2_with fail
  refine wp_region_held_drew (S := (fun w' => Below w.heap.size w w' ∧ w'.cell? ⟨g, 0, none⟩ = some (.int .i64 (n : Int)) ∧ w'.cell? ⟨g, 3, none⟩ = some (.int .i64 (n : Int)))) (by kernel_rfl) ?_ (fun hHeld => ?_)
  · exact ⟨(Below.refl _ _).drew, c0, c3⟩
  refine takeD (i := 0) (d := some 17) (v := ?_) _ rfl rfl (by kernel_rfl) (by kernel_rfl) (by kernel_rfl) (fun _ _ _ h => h) (by rfl) ?_ (by assumption) ?_
  rotate_left
  · (intro w hSw; (try dsimp only at hSw); go_simp) <;> with_reducible rfl
  try simp only [Act.put, List.setIfInBounds_toArray, List.set_cons_zero, List.set_cons_succ]
  refine takeD (i := 1) (d := some 18) (v := ?_) _ rfl rfl (by kernel_rfl) (by kernel_rfl) (by kernel_rfl) (fun _ _ _ h => h) (by rfl) ?_ (by assumption) ?_
  rotate_left
  · (intro w hSw; (try dsimp only at hSw); go_simp) <;> with_reducible rfl
  try simp only [Act.put, List.setIfInBounds_toArray, List.set_cons_zero, List.set_cons_succ]
  refine takeD (i := 2) (d := some 19) (v := ?_) _ rfl rfl (by kernel_rfl) (by kernel_rfl) (by kernel_rfl) (fun _ _ _ h => h) (by rfl) ?_ (by assumption) ?_
  rotate_left
  · (intro w hSw; (try dsimp only at hSw); go_simp) <;> with_reducible rfl
  try simp only [Act.put, List.setIfInBounds_toArray, List.set_cons_zero, List.set_cons_succ]
  refine takeD (i := 3) (d := some 20) (v := ?_) _ rfl rfl (by kernel_rfl) (by kernel_rfl) (by kernel_rfl) (fun _ _ _ h => h) (by rfl) ?_ (by assumption) ?_
  rotate_left
  · (intro w hSw; (try dsimp only at hSw); go_simp) <;> with_reducible rfl
  try simp only [Act.put, List.setIfInBounds_toArray, List.set_cons_zero, List.set_cons_succ]
  refine takeD (i := 4) (d := some 21) (v := ?_) _ rfl rfl (by kernel_rfl) (by kernel_rfl) (by kernel_rfl) (fun _ _ _ h => h) (by rfl) ?_ (by assumption) ?_
  rotate_left
  · (intro w hSw; (try dsimp only at hSw); go_simp) <;> with_reducible rfl
  try simp only [Act.put, List.setIfInBounds_toArray, List.set_cons_zero, List.set_cons_succ]
  refine takeD (i := 5) (d := some 22) (v := ?_) _ rfl rfl (by kernel_rfl) (by kernel_rfl) (by kernel_rfl) (fun _ _ _ h => h) (by rfl) ?_ (by assumption) ?_
  rotate_left
  · (intro w hSw; (try dsimp only at hSw); go_simp) <;> with_reducible rfl
  try simp only [Act.put, List.setIfInBounds_toArray, List.set_cons_zero, List.set_cons_succ]
  refine takeD (i := 6) (d := some 23) (v := ?_) _ rfl rfl (by kernel_rfl) (by kernel_rfl) (by kernel_rfl) (fun _ _ _ h => h) (by rfl) ?_ (by assumption) ?_
  rotate_left
  · (intro w hSw; (try dsimp only at hSw); go_simp) <;> with_reducible rfl
  try simp only [Act.put, List.setIfInBounds_toArray, List.set_cons_zero, List.set_cons_succ]
  refine takeD (i := 7) (d := some 24) (v := ?_) _ rfl rfl (by kernel_rfl) (by kernel_rfl) (by kernel_rfl) (fun _ _ _ h => h) (by rfl) ?_ (by assumption) ?_
  rotate_left
  · (intro w hSw; (try dsimp only at hSw); go_simp) <;> with_reducible rfl
  try simp only [Act.put, List.setIfInBounds_toArray, List.set_cons_zero, List.set_cons_succ]
  refine takeD (i := 8) (d := some 25) (v := ?_) _ rfl rfl (by kernel_rfl) (by kernel_rfl) (by kernel_rfl) (fun _ _ _ h => h) (by rfl) ?_ (by assumption) ?_
  rotate_left
  · (intro w hSw; (try dsimp only at hSw); go_simp) <;> with_reducible rfl
  try simp only [Act.put, List.setIfInBounds_toArray, List.set_cons_zero, List.set_cons_succ]
  refine takeD (i := 9) (d := some 16) (v := ?_) _ rfl rfl (by kernel_rfl) (by kernel_rfl) (by kernel_rfl) (fun _ _ _ h => h) (by rfl) ?_ (by assumption) ?_
  rotate_left
  · (intro w hSw; (try dsimp only at hSw); go_simp) <;> with_reducible rfl
  try simp only [Act.put, List.setIfInBounds_toArray, List.set_cons_zero, List.set_cons_succ]
  refine wpAnyH_done (by kernel_rfl) ?_ _
  go_wp2_with fail
  go_ret
  exact ⟨rfl, (Below.refl _ _).drew⟩
theorem put_ok (w : World) (Q : Nat → Prop) (g n m f : Nat) (L : List (List Int)) (h : RingF w Q g n m f L) (A : Option Addr) (k c : Nat) (l : List Int) (hA : A = none → c = 0) (hr : Reads w w.heap.size 1 A k (U l)) (hk : k ≤ m) (hfull : L.length < n) :
    Calls Try.prog 21 #[.pointer (some ⟨g, 0, none⟩), .slice A k c] w fun e w' => e = .returned (.int .i64 0) ∧ RingF w' (fun b => Q b ∨ (w.heap.size ≤ b ∧ b < w'.heap.size)) g n m f (L ++ [l]) ∧ Past g w w' := by
  have c0 := h.cell0
  have c1 := h.cell1
  have c3 := h.cell3
  have hk' : ¬ (m : Int) < (k : Int) := by omega
  have hfu' : ¬ (n : Int) ≤ (L.length : Int) := by omega
  have hroom := h.room
  have hwords := h.words
  obtain ⟨j, hj⟩ : ∃ j, (f + L.length) % n = j := ⟨_, rfl⟩
  have hjn : j < n := by rw [← hj]; exact Nat.mod_lt _ (by omega)
  have lb0 : (0 : Int) ≤ (L.length : Int) := by omega
  have lb1 : (L.length : Int) ≤ 32 := by omega
  have hlen : l.length = k := by have := hr.1; simpa using this
  have SLOT := Lib.hid fun (W : World) (hb : Below w.heap.size w W) => slot_any W Q g n m f L (h.below hb) L.length j (by omega) hj
  have CL := Lib.hid fun (W : World) (hb : Below w.heap.size w W) => clone_any A k c l W hA ((hr.below hb).more hb.size) (by omega)
  have RF := Lib.hid fun (W : World) (hb : Below w.heap.size w W) => h.below hb
  have G := Lib.hid h.lt
  have HL : Hid (l.length ≤ 32) := by unfold Hid; omega
  have HF := Lib.hid hfull
  have HJ := Lib.hid hj
  have HJN : Hid (j < 32) := by unfold Hid; omega
  obtain ⟨cnt, hcnt⟩ : ∃ cnt, Hid ((L.length : Int) = cnt) := ⟨_, rfl⟩
  rw [hcnt.out] at c3 hfu' lb0 lb1 SLOT
  clear h hr hA hfull hj hlen hjn hroom hwords hk
  go_enter Try.func21, Try.ntmps21
  go_wp2_with fail
  refine wp_region_held_drew (S := (fun w' => Below w.heap.size w w' ∧ w'.cell? ⟨g, 0, none⟩ = some (.int .i64 (n : Int)) ∧ w'.cell? ⟨g, 3, none⟩ = some (.int .i64 cnt))) (by kernel_rfl) ?_ (fun hHeld => ?_)
  · exact ⟨(Below.refl _ _).drew, c0, c3⟩
  refine takeD (i := 0) (d := some 17) (v := ?_) _ rfl rfl (by kernel_rfl) (by kernel_rfl) (by kernel_rfl) (fun _ _ _ h => h) (by rfl) ?_ (by assumption) ?_
  rotate_left
  · (intro w hSw; (try dsimp only at hSw); go_simp) <;> with_reducible rfl
  try simp only [Act.put, List.setIfInBounds_toArray, List.set_cons_zero, List.set_cons_succ]
  refine takeD (i := 1) (d := some 18) (v := ?_) _ rfl rfl (by kernel_rfl) (by kernel_rfl) (by kernel_rfl) (fun _ _ _ h => h) (by rfl) ?_ (by assumption) ?_
  rotate_left
  · (intro w hSw; (try dsimp only at hSw); go_simp) <;> with_reducible rfl
  try simp only [Act.put, List.setIfInBounds_toArray, List.set_cons_zero, List.set_cons_succ]
  refine takeD (i := 2) (d := some 19) (v := ?_) _ rfl rfl (by kernel_rfl) (by kernel_rfl) (by kernel_rfl) (fun _ _ _ h => h) (by rfl) ?_ (by assumption) ?_
  rotate_left
  · (intro w hSw; (try dsimp only at hSw); go_simp) <;> with_reducible rfl
  try simp only [Act.put, List.setIfInBounds_toArray, List.set_cons_zero, List.set_cons_succ]
  refine takeD (i := 3) (d := some 20) (v := ?_) _ rfl rfl (by kernel_rfl) (by kernel_rfl) (by kernel_rfl) (fun _ _ _ h => h) (by rfl) ?_ (by assumption) ?_
  rotate_left
  · (intro w hSw; (try dsimp only at hSw); go_simp) <;> with_reducible rfl
  try simp only [Act.put, List.setIfInBounds_toArray, List.set_cons_zero, List.set_cons_succ]
  refine takeD (i := 4) (d := some 21) (v := ?_) _ rfl rfl (by kernel_rfl) (by kernel_rfl) (by kernel_rfl) (fun _ _ _ h => h) (by rfl) ?_ (by assumption) ?_
  rotate_left
  · (intro w hSw; (try dsimp only at hSw); go_simp) <;> with_reducible rfl
  try simp only [Act.put, List.setIfInBounds_toArray, List.set_cons_zero, List.set_cons_succ]
  refine takeD (i := 5) (d := some 22) (v := ?_) _ rfl rfl (by kernel_rfl) (by kernel_rfl) (by kernel_rfl) (fun _ _ _ h => h) (by rfl) ?_ (by assumption) ?_
  rotate_left
  · (intro w hSw; (try dsimp only at hSw); go_simp) <;> with_reducible rfl
  try simp only [Act.put, List.setIfInBounds_toArray, List.set_cons_zero, List.set_cons_succ]
  refine takeD (i := 6) (d := some 23) (v := ?_) _ rfl rfl (by kernel_rfl) (by kernel_rfl) (by kernel_rfl) (fun _ _ _ h => h) (by rfl) ?_ (by assumption) ?_
  rotate_left
  · (intro w hSw; (try dsimp only at hSw); go_simp) <;> with_reducible rfl
  try simp only [Act.put, List.setIfInBounds_toArray, List.set_cons_zero, List.set_cons_succ]
  refine takeD (i := 7) (d := some 24) (v := ?_) _ rfl rfl (by kernel_rfl) (by kernel_rfl) (by kernel_rfl) (fun _ _ _ h => h) (by rfl) ?_ (by assumption) ?_
  rotate_left
  · (intro w hSw; (try dsimp only at hSw); go_simp) <;> with_reducible rfl
  try simp only [Act.put, List.setIfInBounds_toArray, List.set_cons_zero, List.set_cons_succ]
  refine takeD (i := 8) (d := some 25) (v := ?_) _ rfl rfl (by kernel_rfl) (by kernel_rfl) (by kernel_rfl) (fun _ _ _ h => h) (by rfl) ?_ (by assumption) ?_
  rotate_left
  · (intro w hSw; (try dsimp only at hSw); go_simp) <;> with_reducible rfl
  try simp only [Act.put, List.setIfInBounds_toArray, List.set_cons_zero, List.set_cons_succ]
  refine takeD (i := 9) (d := some 16) (v := ?_) _ rfl rfl (by kernel_rfl) (by kernel_rfl) (by kernel_rfl) (fun _ _ _ h => h) (by rfl) ?_ (by assumption) ?_
  rotate_left
  · (intro w hSw; (try dsimp only at hSw); go_simp) <;> with_reducible rfl
  try simp only [Act.put, List.setIfInBounds_toArray, List.set_cons_zero, List.set_cons_succ]
  refine wpAnyH_done (by kernel_rfl) ?_ _
  have hb0 : Below w.heap.size w w.drew := (Below.refl _ _).drew
  go_wp2_with fail
  refine (SLOT.out w.drew hb0).mono ?_
  rintro e w1 ⟨rfl, hb⟩
  have hb1 := hb0.trans (hb.mono hb0.size)
  clear hb hb0
  go_wp2_with fail
  refine (CL.out w1 hb1).mono ?_
  rintro e w2 ⟨A2, c2, rfl, ho2, hb⟩
  have hb2 := hb1.trans (hb.mono hb1.size)
  have R2 := RF.out w2 hb2
  have d3 := R2.cell3
  rw [hcnt.out] at d3
  have e3 := R2.free 3
  have e4 := R2.free (4 + j)
  obtain ⟨u0, ej⟩ := Option.isSome_iff_exists.mp (R2.slots j HJN.out)
  have s3 : ((w2.setCell ⟨g, 4 + j, none⟩ (.slice A2 k c2)).cell? ⟨g, 3, none⟩) = some (.int .i64 cnt) := (set_other _ (by omega)).trans d3
  have P2 := Lib.hid (Past.of_below (g := g) hb2)
  have FIN := Lib.hid (R2.put w1.heap.size (slot_own ho2) (by have := hb1.size; have := G.out; omega) HL.out HF.out j HJ.out)
  have HS := Lib.hid hb1.size
  rw [hcnt.out] at FIN
  clear hb hb1 hb2 ho2 R2 d3 CL RF SLOT c0 c1 c3
  go_wp2_with fail
  go_ret
  exact ⟨rfl, FIN.out.more (fun b hb => by rcases hb with h1 | h1; exact .inl h1; exact .inr ⟨Nat.le_trans HS.out h1.1, by simpa [World.setCell] using h1.2⟩) (by
    intro hh
    rcases hh with h1 | h1
    · exact FIN.out.nog (.inl h1)
    · have := G.out; omega), (P2.out.setCell _ _).setCell _ _⟩
theorem take_none (w : World) (Q : Nat → Prop) (g n m f : Nat) (h : RingF w Q g n m f []) :
    Calls Try.prog 19 #[.pointer (some ⟨g, 0, none⟩)] w fun e w' => e = .returned (.tuple #[.slice none 0 0, .bool false]) ∧ Below w.heap.size w w' := by
  have HP := Lib.hid (peek_none w Q g n m f h)
  clear h
  go_enter Try.func19, Try.ntmps19
  go_wp2_with fail
  refine HP.out.mono ?_
  rintro e w1 ⟨rfl, hb⟩
  go_wp2_with fail
  go_ret2
  exact ⟨rfl, hb⟩
theorem take_some (w : World) (Q : Nat → Prop) (g n m f f' : Nat) (l : List Int) (L : List (List Int)) (h : RingF w Q g n m f (l :: L)) (hf' : (f + 1) % n = f') :
    Calls Try.prog 19 #[.pointer (some ⟨g, 0, none⟩)] w fun e w' => ∃ A c, e = .returned (.tuple #[.slice A l.length c, .bool true]) ∧ Slot w' (fun b => w.heap.size ≤ b ∧ b < w'.heap.size) (.slice A l.length c) l ∧ RingF w' Q g n m f' L ∧ Past g w w' := by
  have hf := h.first
  have hr := h.room
  have hfit := h.fit
  simp only [List.length_cons] at hfit
  have HP := Lib.hid (peek_some w Q g n m f l L h)
  have SLOT := Lib.hid fun (W : World) (hb : Below w.heap.size w W) => slot_any W Q g n m f (l :: L) (h.below hb) 0 f (by omega) (by rw [Nat.add_zero, Nat.mod_eq_of_lt hf])
  have RF := Lib.hid fun (W : World) (hb : Below w.heap.size w W) => h.below hb
  have G := Lib.hid h.lt
  have hm' : ((f : Int) + 1) % (n : Int) = (f' : Int) := by rw [← hf']; simp
  have hm : ((f : Int) + 1).tmod (n : Int) = (f' : Int) := by rw [Int.tmod_eq_emod_of_nonneg (by omega)]; exact hm'
  have fn : f' < n := by rw [← hf']; exact Nat.mod_lt _ (by omega)
  have s1 : IntKind.i64.wrap ((f : Int) + 1) = (f : Int) + 1 := IntWalk.i64_in _ (by omega)
  have s1' : wrap64 ((f : Int) + 1) = (f : Int) + 1 := by unfold wrap64; omega
  have n0 : ¬ n = 0 := by omega
  have n1 : ¬ (n : Int) = 0 := by omega
  have j0 : (0 : Int) ≤ (f' : Int) := by omega
  have jw : IntKind.i64.wrap (f' : Int) = (f' : Int) := IntWalk.i64_in _ (by omega)
  have fi : (0 : Int) ≤ (f : Int) + 1 := by omega
  have lb1 : (L.length : Int) ≤ 32 := by omega
  have lb0 : (0 : Int) ≤ (L.length : Int) := by omega
  have F4 : Hid (f < 32) := by unfold Hid; omega
  have HFF := Lib.hid hf'
  obtain ⟨cnt, hcnt⟩ : ∃ cnt, Hid ((L.length : Int) = cnt) := ⟨_, rfl⟩
  rw [hcnt.out] at lb0 lb1
  have cw : wrap64 (cnt + 1 - 1) = cnt := by unfold wrap64; omega
  have cw' : cnt + 1 - 1 = cnt := by omega
  clear h hf' fn hfit hr hf
  go_enter Try.func19, Try.ntmps19
  go_wp2_with fail
  refine HP.out.mono ?_
  rintro e w1 ⟨A1, c1, rfl, ho1, hb1⟩
  go_wp2_with fail
  refine (SLOT.out w1 hb1).mono ?_
  rintro e w2 ⟨rfl, hb⟩
  have hb2 := hb1.trans (hb.mono hb1.size)
  have R2 := RF.out w2 hb2
  have d0 := R2.cell0
  have d2 := R2.cell2
  have d3 := R2.cell3
  have lc : (((l :: L).length : Nat) : Int) = cnt + 1 := by rw [← hcnt.out]; simp
  rw [lc] at d3
  clear lc
  have e2 := R2.free 2
  have e3 := R2.free 3
  have e4 := R2.free (4 + f)
  obtain ⟨u0, ej⟩ := Option.isSome_iff_exists.mp (R2.slots f F4.out)
  have s0 : ((w2.setCell ⟨g, 4 + f, none⟩ (.slice none 0 0)).cell? ⟨g, 0, none⟩) = some (.int .i64 (n : Int)) := (set_other _ (by omega)).trans d0
  have s2 : ((w2.setCell ⟨g, 4 + f, none⟩ (.slice none 0 0)).cell? ⟨g, 2, none⟩) = some (.int .i64 (f : Int)) := (set_other _ (by omega)).trans d2
  have s3 : ∀ u, (((w2.setCell ⟨g, 4 + f, none⟩ (.slice none 0 0)).setCell ⟨g, 2, none⟩ u).cell? ⟨g, 3, none⟩) = some (.int .i64 (cnt + 1)) := fun u => (set_other _ (by omega)).trans ((set_other _ (by omega)).trans d3)
  have P2 := Lib.hid (Past.of_below (g := g) hb2)
  have FIN := Lib.hid (R2.take f' HFF.out)
  have SL := slot_own (own_below ho1 hb)
  have SL := SL.more (Q' := fun b => w.heap.size ≤ b ∧ b < w2.heap.size) fun b hb => ⟨Nat.le_trans (Nat.le_refl _) hb.1, hb.2⟩
  have ng : ¬ (w.heap.size ≤ g ∧ g < w2.heap.size) := fun hh => by have := G.out; omega
  have SLF := Lib.hid (((SL.set ng (4 + f) (.slice none 0 0)).set ng 2 (.int .i64 (f' : Int))).set ng 3 (.int .i64 cnt))
  rw [hcnt.out] at FIN
  have B2 := hb2
  have GG := G.out
  have GB : g ≤ g := Nat.le_refl _
  have B3 : Below g w (w2.setCell ⟨g, 4 + f, none⟩ (.slice none 0 0)) := (B2.mono (Nat.le_of_lt GG)).setCell (p := ⟨g, 4 + f, none⟩) (Nat.le_refl _) _
  clear hb hb1 hb2 B2 ho1 R2 d2 d3 RF SLOT SL ng GG hm'
  go_wp2_with fail
  refine wp_region_held_drew (S := (fun w' => Below g w w' ∧ w'.cell? ⟨g, 0, none⟩ = some (.int .i64 (n : Int)))) (by kernel_rfl) ?_ (fun hHeld => ?_)
  · exact ⟨B3.drew, s0⟩
  refine takeD (i := 0) (d := some 16) (v := ?_) _ rfl rfl (by kernel_rfl) (by kernel_rfl) (by kernel_rfl) (fun _ _ _ h => h) (by rfl) ?_ (by assumption) ?_
  rotate_left
  · (intro w hSw; (try dsimp only at hSw); go_simp) <;> with_reducible rfl
  try simp only [Act.put, List.setIfInBounds_toArray, List.set_cons_zero, List.set_cons_succ]
  refine takeD (i := 1) (d := some 17) (v := ?_) _ rfl rfl (by kernel_rfl) (by kernel_rfl) (by kernel_rfl) (fun _ _ _ h => h) (by rfl) ?_ (by assumption) ?_
  rotate_left
  · (intro w hSw; (try dsimp only at hSw); go_simp) <;> with_reducible rfl
  try simp only [Act.put, List.setIfInBounds_toArray, List.set_cons_zero, List.set_cons_succ]
  refine takeD (i := 2) (d := some 18) (v := ?_) _ rfl rfl (by kernel_rfl) (by kernel_rfl) (by kernel_rfl) (fun _ _ _ h => h) (by rfl) ?_ (by assumption) ?_
  rotate_left
  · (intro w hSw; (try dsimp only at hSw); go_simp) <;> with_reducible rfl
  try simp only [Act.put, List.setIfInBounds_toArray, List.set_cons_zero, List.set_cons_succ]
  refine takeD (i := 3) (d := some 19) (v := ?_) _ rfl rfl (by kernel_rfl) (by kernel_rfl) (by kernel_rfl) (fun _ _ _ h => h) (by rfl) ?_ (by assumption) ?_
  rotate_left
  · (intro w hSw; (try dsimp only at hSw); go_simp) <;> with_reducible rfl
  try simp only [Act.put, List.setIfInBounds_toArray, List.set_cons_zero, List.set_cons_succ]
  refine takeD (i := 6) (d := some 22) (v := ?_) _ rfl rfl (by kernel_rfl) (by kernel_rfl) (by kernel_rfl) (fun _ _ _ h => h) (by rfl) ?_ (by assumption) ?_
  rotate_left
  · (intro w hSw; (try dsimp only at hSw); go_simp) <;> with_reducible rfl
  try simp only [Act.put, List.setIfInBounds_toArray, List.set_cons_zero, List.set_cons_succ]
  refine takeD (i := 7) (d := some 23) (v := ?_) _ rfl rfl (by kernel_rfl) (by kernel_rfl) (by kernel_rfl) (fun _ _ _ h => h) (by rfl) ?_ (by assumption) ?_
  rotate_left
  · (intro w hSw; (try dsimp only at hSw); go_simp) <;> with_reducible rfl
  try simp only [Act.put, List.setIfInBounds_toArray, List.set_cons_zero, List.set_cons_succ]
  refine takeD (i := 8) (d := some 24) (v := ?_) _ rfl rfl (by kernel_rfl) (by kernel_rfl) (by kernel_rfl) (fun _ _ _ h => h) (by rfl) ?_ (by assumption) ?_
  rotate_left
  · (intro w hSw; (try dsimp only at hSw); go_simp) <;> with_reducible rfl
  try simp only [Act.put, List.setIfInBounds_toArray, List.set_cons_zero, List.set_cons_succ]
  refine takeD (i := 9) (d := some 25) (v := ?_) _ rfl rfl (by kernel_rfl) (by kernel_rfl) (by kernel_rfl) (fun _ _ _ h => h) (by rfl) ?_ (by assumption) ?_
  rotate_left
  · (intro w hSw; (try dsimp only at hSw); go_simp) <;> with_reducible rfl
  try simp only [Act.put, List.setIfInBounds_toArray, List.set_cons_zero, List.set_cons_succ]
  refine wpAnyH_ready (rs := [4]) (by kernel_rfl) (by simp) ?_
  refine AllReadyH.cons rfl (fun K hK => ?_) AllReadyH.nil
  go_simp
  refine hK.out _ _ (by assumption) (fun hHeld => ?_)
  clear hK K
  try simp only [Act.put, List.setIfInBounds_toArray, List.set_cons_zero, List.set_cons_succ]
  refine takeD (i := 5) (d := some 21) (v := ?_) _ rfl rfl (by kernel_rfl) (by kernel_rfl) (by kernel_rfl) (fun _ _ _ h => h) (by rfl) ?_ (by assumption) ?_
  rotate_left
  · (intro w hSw; (try dsimp only at hSw); go_simp) <;> with_reducible rfl
  try simp only [Act.put, List.setIfInBounds_toArray, List.set_cons_zero, List.set_cons_succ]
  refine takeD (i := 10) (d := some 26) (v := ?_) _ rfl rfl (by kernel_rfl) (by kernel_rfl) (by kernel_rfl) (fun _ _ _ h => h) (by rfl) ?_ (by assumption) ?_
  rotate_left
  · (intro w hSw; (try dsimp only at hSw); go_simp) <;> with_reducible rfl
  try simp only [Act.put, List.setIfInBounds_toArray, List.set_cons_zero, List.set_cons_succ]
  refine takeD (i := 11) (d := some 27) (v := ?_) _ rfl rfl (by kernel_rfl) (by kernel_rfl) (by kernel_rfl) (fun _ _ _ h => h) (by rfl) ?_ (by assumption) ?_
  rotate_left
  · (intro w hSw; (try dsimp only at hSw); go_simp) <;> with_reducible rfl
  try simp only [Act.put, List.setIfInBounds_toArray, List.set_cons_zero, List.set_cons_succ]
  refine takeD (i := 12) (d := some 28) (v := ?_) _ rfl rfl (by kernel_rfl) (by kernel_rfl) (by kernel_rfl) (fun _ _ _ h => h) (by rfl) ?_ (by assumption) ?_
  rotate_left
  · (intro w hSw; (try dsimp only at hSw); go_simp) <;> with_reducible rfl
  try simp only [Act.put, List.setIfInBounds_toArray, List.set_cons_zero, List.set_cons_succ]
  refine wpAnyH_ready (rs := [13]) (by kernel_rfl) (by simp) ?_
  refine AllReadyH.cons rfl (fun K hK => ?_) AllReadyH.nil
  go_simp
  refine hK.out _ _ ?_ (fun hHeld => ?_)
  · exact ⟨(B3.setCell (p := ⟨g, 2, none⟩) (Nat.le_refl _) _).drew, (set_other _ (by omega)).trans s0⟩
  clear hK K
  try simp only [Act.put, List.setIfInBounds_toArray, List.set_cons_zero, List.set_cons_succ]
  refine wpAnyH_done (by kernel_rfl) ?_ _
  go_wp2_with fail
  go_ret2
  exact ⟨A1, c1, rfl, (slot_drew SLF.out).more (fun b hb => ⟨hb.1, by simpa [World.setCell, World.drew] using hb.2⟩), FIN.out.below (Below.refl _ _).drew, (((P2.out.setCell _ _).setCell _ _).setCell _ _).drew⟩
end Go.Proofs.Ytpejmkdmjlfgpaa
