/-
  The contract of the model's Take. Each statement bears its own conditions.
-/
import Derived.Test.YthcegmijphbhgaaDoorROpen
namespace Go.Proofs.YthcegmijphbhgaaDoor
open Go.RowKit
set_option linter.unusedSimpArgs false
set_option linter.unusedVariables false
theorem rfail_any (A : Option Addr) (n c : Nat) (at_ er e' : Int) (w : World) :
    Calls Tryd.prog 40 #[.agg #[.slice A n c, .int .i64 at_, .int .i64 er], .int .i64 e'] w fun e w' => e = .returned (.agg #[.slice A n c, .int .i64 at_, .int .i64 e']) ∧ Below w.heap.size w w' := by
  go_enter Tryd.func40, Tryd.ntmps40
  go_wp2_with fail
  exact bodyPost_ret (v := .agg #[.slice A n c, .int .i64 at_, .int .i64 e']) (by simp [results, Tryd.results40, go_sem]) rfl ⟨rfl, by repeat (first | exact Below.refl _ _ | apply Below.drew | refine Below.alloc ?_ (by simp; try omega) _ | refine Below.setCell ?_ (by simp; try omega) _)⟩
theorem rtake_err (A : Option Addr) (n c : Nat) (at_ er k : Int) (w : World) (he : er ≠ 0) :
    Calls Tryd.prog 20 #[.agg #[.slice A n c, .int .i64 at_, .int .i64 er], .int .i64 k] w fun e w' => e = .returned (.tuple #[.agg #[.slice A n c, .int .i64 at_, .int .i64 er], .slice none 0 0]) ∧ Below w.heap.size w w' := by
  go_enter Tryd.func20, Tryd.ntmps20
  go_wp2_with fail
  exact bodyPost_ret (v := .tuple #[.agg #[.slice A n c, .int .i64 at_, .int .i64 er], .slice none 0 0]) (by simp [results, Tryd.results20, go_sem]) rfl ⟨rfl, by repeat (first | exact Below.refl _ _ | apply Below.drew | refine Below.alloc ?_ (by simp; try omega) _ | refine Below.setCell ?_ (by simp; try omega) _)⟩
theorem rtake_short (A : Option Addr) (n c at_ k : Nat) (w : World) (hn : n ≤ 1048576) (ha : at_ ≤ n) (hk : n < at_ + k) :
    Calls Tryd.prog 20 #[.agg #[.slice A n c, .int .i64 (at_ : Int), .int .i64 0], .int .i64 (k : Int)] w fun e w' => e = .returned (.tuple #[.agg #[.slice A n c, .int .i64 (at_ : Int), .int .i64 4], .slice none 0 0]) ∧ Below w.heap.size w w' := by
  have hw : IntKind.i64.wrap ((n : Int) - (at_ : Int)) = (n : Int) - (at_ : Int) := by rw [IntKind.wrap_i64]; omega
  have hg : (n : Int) - (at_ : Int) < (k : Int) := by omega
  clear hn ha hk
  go_enter Tryd.func20, Tryd.ntmps20
  go_wp2_with fail
  refine (rfail_any A n c _ _ 4 _).mono ?_
  rintro e w1 ⟨rfl, b1⟩
  obtain ⟨W2, hW2⟩ : ∃ W2, ((w.alloc (.cells #[.slice A n c, .int .i64 (at_ : Int), .int .i64 0] 39)).alloc (.cells #[.slice none 0 0, .int .i64 0, .int .i64 0] 39)) = W2 := ⟨_, rfl⟩
  have BW : Below w.heap.size w W2 := by rw [← hW2]; exact ((Below.refl _ _).alloc (Nat.le_refl _) _).alloc (by simp) _
  have hs : W2.heap.size = w.heap.size + 2 := by rw [← hW2]; simp
  have d0 : W2.cell? ⟨w.heap.size + 1, 0, none⟩ = some (.slice none 0 0) := by rw [← hW2, show w.heap.size + 1 = (w.alloc (.cells #[.slice A n c, .int .i64 (at_ : Int), .int .i64 0] 39)).heap.size by simp, World.cell?_alloc_new]; rfl
  have d1 : W2.cell? ⟨w.heap.size + 1, 1, none⟩ = some (.int .i64 0) := by rw [← hW2, show w.heap.size + 1 = (w.alloc (.cells #[.slice A n c, .int .i64 (at_ : Int), .int .i64 0] 39)).heap.size by simp, World.cell?_alloc_new]; rfl
  have d2 : W2.cell? ⟨w.heap.size + 1, 2, none⟩ = some (.int .i64 0) := by rw [← hW2, show w.heap.size + 1 = (w.alloc (.cells #[.slice A n c, .int .i64 (at_ : Int), .int .i64 0] 39)).heap.size by simp, World.cell?_alloc_new]; rfl
  have df : ∀ o, W2.frozen? ⟨w.heap.size + 1, o, none⟩ = false := fun o => by rw [← hW2, show w.heap.size + 1 = (w.alloc (.cells #[.slice A n c, .int .i64 (at_ : Int), .int .i64 0] 39)).heap.size by simp]; simp
  rw [hW2] at b1
  have B1 := BW.trans (b1.mono BW.size)
  have z0 := cell_later b1 d0
  have z1 := cell_later b1 d1
  have z2 := cell_later b1 d2
  have zf : ∀ o, w1.frozen? ⟨w.heap.size + 1, o, none⟩ = false := fun o => (World.frozen?_of_block (a := ⟨w.heap.size + 1, o, none⟩) (b1.block _ (by show w.heap.size + 1 < W2.heap.size; rw [hs]; omega))).trans (df o)
  clear d0 d1 d2 df hs hW2 b1 BW
  go_wp2_with fail
  exact bodyPost_ret (v := .tuple #[.agg #[.slice A n c, .int .i64 (at_ : Int), .int .i64 4], .slice none 0 0]) (by simp [results, Tryd.results20, go_sem, z0, z1, z2]) rfl ⟨rfl, ((B1.setCell (by simp) _).setCell (by simp) _).setCell (by simp) _⟩
theorem Reads.pre {w : World} {B n k : Nat} {A : Option Addr} {xs : List Value} (h : Reads w B 1 A n xs) (hk : k ≤ n) : Reads w B 1 A k (xs.take k) := by
  refine ⟨by rw [List.length_take, h.1]; omega, fun h0 => ?_⟩
  obtain ⟨ad, e, hb, hc⟩ := h.2 (by omega)
  refine ⟨ad, e, hb, fun j u hu => hc j u ?_⟩
  rw [List.getElem?_take] at hu
  split at hu
  · exact hu
  · cases hu
theorem own_setAway {w : World} {B n : Nat} {v : Value} {xs : List Value} (h : w.ownsRow B 5 1 v n xs) (q o : Nat) (hq : q < B) (u : Value) : (w.setCell ⟨q, o, none⟩ u).ownsRow B 5 1 v n xs := by
  refine ⟨h.1, h.2.imp id ?_⟩
  rintro ⟨g, cap, cur, hv, hg, hh, h3⟩
  exact ⟨g, cap, cur, hv, hg, (Below.heap_setCell _ _ _ _ (by show g ≠ q; omega)).trans hh, h3⟩
theorem own_monoB {w : World} {B B' n : Nat} {v : Value} {xs : List Value} (h : w.ownsRow B 5 1 v n xs) (hB : B' ≤ B) : w.ownsRow B' 5 1 v n xs := by
  refine ⟨h.1, h.2.imp id ?_⟩
  rintro ⟨g, cap, cur, hv, hg, h3⟩
  exact ⟨g, cap, cur, hv, by omega, h3⟩
theorem rtake_good (A : Option Addr) (n c at_ k : Nat) (l : List Int) (w : World) (h : Reads w w.heap.size 1 A n (U l)) (hl : l.length = n) (hn : n ≤ 1048576) (hc : n ≤ c) (hk : at_ + k ≤ n) :
    Calls Tryd.prog 20 #[.agg #[.slice A n c, .int .i64 (at_ : Int), .int .i64 0], .int .i64 (k : Int)] w fun e w' => ∃ A' c', e = .returned (.tuple #[.agg #[.slice A n c, .int .i64 ((at_ + k : Nat) : Int), .int .i64 0], .slice A' k c']) ∧ w'.ownsRow w.heap.size 5 1 (.slice A' k c') k (U ((l.drop at_).take k)) ∧ Below w.heap.size w w' := by
  obtain ⟨i0, hi, hz0, hz1, hz2⟩ := info_parts byte_info
  have hw : IntKind.i64.wrap ((n : Int) - (at_ : Int)) = (n : Int) - (at_ : Int) := by rw [IntKind.wrap_i64]; omega
  have hw2 : IntKind.i64.wrap ((at_ : Int) + (k : Int)) = (at_ : Int) + (k : Int) := by rw [IntKind.wrap_i64]; omega
  have hg : ¬ (n : Int) - (at_ : Int) < (k : Int) := by omega
  have s1 : (at_ : Int) ≤ (at_ : Int) + (k : Int) := by omega
  have s2 : (at_ : Int) + (k : Int) ≤ (c : Int) := by omega
  have s0 : (0 : Int) ≤ (at_ : Int) := by omega
  have H := Lib.hid h
  have HL := Lib.hid hl
  have HN := Lib.hid hn
  have HC := Lib.hid hc
  have HK := Lib.hid hk
  clear h hl hn hc hk
  have RD : Hid (Reads w w.heap.size 1 (if c = at_ then A else A.map (fun x => x.add at_)) k (U ((l.drop at_).take k))) := by
    have h1 := H.out.cut (k := at_) (cap := c) (by have := HK.out; omega) HC.out
    have h2 := h1.pre (k := k) (by have := HK.out; omega)
    simp only [Nat.mul_one, U, ← List.map_drop, ← List.map_take] at h2
    exact h2
  obtain ⟨A1, hA1⟩ : ∃ A1, (if c = at_ then A else A.map (fun x => x.add at_)) = A1 := ⟨_, rfl⟩
  rw [hA1] at RD
  obtain ⟨xs, hxs⟩ : ∃ xs, (l.drop at_).take k = xs := ⟨_, rfl⟩
  rw [hxs] at RD ⊢
  have hk9 : Hid (k ≤ 1048576) := by have := HK.out; have := HN.out; unfold Hid; omega
  clear hxs
  go_enter Tryd.func20, Tryd.ntmps20
  have OW : Hid ((((w.alloc (.cells #[.slice A n c, .int .i64 (at_ : Int), .int .i64 0] 39)).alloc (.cells #[.slice none 0 0, .int .i64 0, .int .i64 0] 39)).alloc (.cells #[] 5)).ownsRow (w.heap.size + 2) 5 1 (.slice (some ⟨w.heap.size + 1 + 1, 0, none⟩) 0 0) 0 []) := by
    have h1 := own_new (w.heap.size + 2) ((w.alloc (.cells #[.slice A n c, .int .i64 (at_ : Int), .int .i64 0] 39)).alloc (.cells #[.slice none 0 0, .int .i64 0, .int .i64 0] 39)) [] (by simp) (by simp)
    rw [show ((w.alloc (.cells #[.slice A n c, .int .i64 (at_ : Int), .int .i64 0] 39)).alloc (.cells #[.slice none 0 0, .int .i64 0, .int .i64 0] 39)).heap.size = w.heap.size + 1 + 1 by simp] at h1
    exact h1
  have BA : Hid (Below w.heap.size w (((w.alloc (.cells #[.slice A n c, .int .i64 (at_ : Int), .int .i64 0] 39)).alloc (.cells #[.slice none 0 0, .int .i64 0, .int .i64 0] 39)).alloc (.cells #[] 5))) := (((Below.refl _ _).alloc (Nat.le_refl _) _).alloc (by simp) _).alloc (by simp; omega) _
  go_wp2_with (first | (at_builtin; refine wpList_append_any _ rfl (.tmp 21) (.tmp 30) _ rfl (w.heap.size + 2) 5 i0 _ 1 1 Tryd.underlying22 hi hz0 hz1 hz2 rfl (by omega) (.slice (some ⟨w.heap.size + 1 + 1, 0, none⟩) 0 0) 0 [] rfl OW.out w.heap.size A1 (at_ + k - at_) (c - at_) (U xs) rfl (by rw [show at_ + k - at_ = k by omega]; exact RD.out.below BA.out) (U_one _) ?c2 ?c3 ?c4 ?_))
  case c2 => have := hk9.out; unfold maxLen; omega
  case c3 => have := hk9.out; omega
  intro v2 w2 hown2 hg2 _
  obtain ⟨A2, c2, hv⟩ := slice_form hown2
  subst hv
  have b2 := ((Below.refl (w.heap.size + 2) ((w.alloc (.cells #[.slice A n c, .int .i64 (at_ : Int), .int .i64 0] 39)).alloc (.cells #[.slice none 0 0, .int .i64 0, .int .i64 0] 39))).alloc (by simp) (.cells #[] 5)).grown hg2 (by simp) (fun q hq => by have h' : some (w.heap.size + 1 + 1) = some q := hq; injection h' with h'; omega)
  have B2 : Below w.heap.size w w2 := (((Below.refl _ _).alloc (Nat.le_refl _) (.cells #[.slice A n c, .int .i64 (at_ : Int), .int .i64 0] 39)).alloc (by simp) (.cells #[.slice none 0 0, .int .i64 0, .int .i64 0] 39)).trans (b2.mono (by omega))
  have hs : w.heap.size + 2 ≤ w2.heap.size := by have := b2.size; simp at this; omega
  have k0 := b2.block w.heap.size (by omega)
  have k1 := b2.block (w.heap.size + 1) (by omega)
  have e1 : w.heap.size + 1 = (w.alloc (.cells #[.slice A n c, .int .i64 (at_ : Int), .int .i64 0] 39)).heap.size := by simp
  have r0 : w2.cell? ⟨w.heap.size, 0, none⟩ = some (.slice A n c) := (World.cell?_of_block (a := ⟨w.heap.size, 0, none⟩) k0).trans (by simp)
  have r1 : w2.cell? ⟨w.heap.size, 1, none⟩ = some (.int .i64 (at_ : Int)) := (World.cell?_of_block (a := ⟨w.heap.size, 1, none⟩) k0).trans (by simp)
  have r2 : w2.cell? ⟨w.heap.size, 2, none⟩ = some (.int .i64 0) := (World.cell?_of_block (a := ⟨w.heap.size, 2, none⟩) k0).trans (by simp)
  have rf : ∀ o, w2.frozen? ⟨w.heap.size, o, none⟩ = false := fun o => (World.frozen?_of_block (a := ⟨w.heap.size, o, none⟩) k0).trans (by simp)
  have z0 : w2.cell? ⟨w.heap.size + 1, 0, none⟩ = some (.slice none 0 0) := (World.cell?_of_block (a := ⟨w.heap.size + 1, 0, none⟩) k1).trans (by rw [e1, World.cell?_alloc_new]; rfl)
  have z1 : w2.cell? ⟨w.heap.size + 1, 1, none⟩ = some (.int .i64 0) := (World.cell?_of_block (a := ⟨w.heap.size + 1, 1, none⟩) k1).trans (by rw [e1, World.cell?_alloc_new]; rfl)
  have z2 : w2.cell? ⟨w.heap.size + 1, 2, none⟩ = some (.int .i64 0) := (World.cell?_of_block (a := ⟨w.heap.size + 1, 2, none⟩) k1).trans (by rw [e1, World.cell?_alloc_new]; rfl)
  have zf : ∀ o, w2.frozen? ⟨w.heap.size + 1, o, none⟩ = false := fun o => (World.frozen?_of_block (a := ⟨w.heap.size + 1, o, none⟩) k1).trans (by rw [e1]; simp)
  have O2 := Lib.hid hown2
  clear hA1 k0 k1 e1 b2 hg2 hown2 OW BA s0 s1 s2 hg hi hz0 hz1 hz2
  go_wp2_with fail
  have O3 := own_setAway O2.out w.heap.size 1 (by omega) (.int .i64 ((at_ : Int) + (k : Int)))
  have O4 := own_setAway O3 (w.heap.size + 1) 0 (by omega) (.slice A n c)
  have O5 := own_setAway O4 (w.heap.size + 1) 1 (by omega) (.int .i64 ((at_ : Int) + (k : Int)))
  have O6 := own_setAway O5 (w.heap.size + 1) 2 (by omega) (.int .i64 0)
  have OZ := own_monoB O6 (B' := w.heap.size) (by omega)
  refine bodyPost_ret (v := .tuple #[.agg #[.slice A n c, .int .i64 ((at_ + k : Nat) : Int), .int .i64 0], .slice A2 k c2]) (by simp [results, Tryd.results20, go_sem, z0, z1, z2, r0, r1, r2]) rfl ⟨A2, c2, rfl, OZ, ?_⟩
  exact (((B2.setCell (Nat.le_refl _) _).setCell (by simp) _).setCell (by simp) _).setCell (by simp) _
end Go.Proofs.YthcegmijphbhgaaDoor
