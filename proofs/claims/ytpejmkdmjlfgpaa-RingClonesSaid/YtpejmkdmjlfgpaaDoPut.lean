/-
  The contract of do at a Put. Each statement bears its own conditions.
-/
import Derived.Test.YtpejmkdmjlfgpaaSame
import Derived.Deep.DeepCutAuto
namespace Go.Proofs.Ytpejmkdmjlfgpaa
open Go.RowKit
set_option linter.unusedSimpArgs false
set_option linter.unusedVariables false
/-- What a Put answers, and leaves. -/
def putE (n m : Nat) (L : List (List Int)) (k : Nat) : Int := if m < k then 2 else if n ≤ L.length then 8 else 0
def putL (n m : Nat) (L : List (List Int)) (k : Nat) (l : List Int) : List (List Int) := if m < k then L else if n ≤ L.length then L else L ++ [l]
theorem put_any (w : World) (Q : Nat → Prop) (g n m f : Nat) (L : List (List Int)) (h : RingF w Q g n m f L) (A : Option Addr) (k c : Nat) (l : List Int) (hA : A = none → c = 0) (hr : Reads w w.heap.size 1 A k (U l)) :
    Calls Try.prog 21 #[.pointer (some ⟨g, 0, none⟩), .slice A k c] w fun e w' => e = .returned (.int .i64 (putE n m L k)) ∧ RingF w' (fun b => Q b ∨ (w.heap.size ≤ b ∧ b < w'.heap.size)) g n m f (putL n m L k l) ∧ Past g w w' := by
  have more : ∀ w', Below w.heap.size w w' → RingF w' (fun b => Q b ∨ (w.heap.size ≤ b ∧ b < w'.heap.size)) g n m f L := fun w' hb => (h.below hb).more (fun b hb => .inl hb) (fun hh => by
    rcases hh with h1 | h1
    · exact h.nog h1
    · have := h.lt; omega)
  unfold putE putL
  by_cases h1 : m < k
  · rw [if_pos h1, if_pos h1]
    exact (put_range w Q g n m f L h A k c h1).mono fun e w' hh => ⟨hh.1, more w' hh.2, Past.of_below hh.2⟩
  · rw [if_neg h1, if_neg h1]
    by_cases h2 : n ≤ L.length
    · rw [if_pos h2, if_pos h2]
      exact (put_full w Q g n m f L h A k c (by omega) (by have := h.fit; omega)).mono fun e w' hh => ⟨hh.1, more w' hh.2, Past.of_below hh.2⟩
    · rw [if_neg h2, if_neg h2]
      exact put_ok w Q g n m f L h A k c l hA hr (by omega) (by omega)
theorem rput_any (n m : Nat) (w : World) (Q : Nat → Prop) (A : Option Addr) (c : Nat) (L : List (List Int)) (h : RefR w Q A c L) (A1 : Option Addr) (k c1 : Nat) (l : List Int) (hr : Reads w w.heap.size 1 A1 k (U l)) (hm : m ≤ 32) (hn : n ≤ 32) :
    Calls Try.prog 25 #[.agg #[.int .i64 (n : Int), .int .i64 (m : Int), .slice A L.length c], .slice A1 k c1] w fun e w' => ∃ A' c', e = .returned (.tuple #[.agg #[.int .i64 (n : Int), .int .i64 (m : Int), .slice A' (putL n m L k l).length c'], .int .i64 (putE n m L k)]) ∧
      RefR w' (fun b => Q b ∨ (w.heap.size ≤ b ∧ b < w'.heap.size)) A' c' (putL n m L k l) ∧ Below w.heap.size w w' := by
  have more : ∀ w', Below w.heap.size w w' → RefR w' (fun b => Q b ∨ (w.heap.size ≤ b ∧ b < w'.heap.size)) A c L := fun w' hb => (h.below hb).more fun b _ hb => .inl hb
  unfold putE putL
  by_cases h1 : m < k
  · rw [if_pos h1, if_pos h1]
    exact (rput_range n m k A A1 c c1 L.length w (by omega)).mono fun e w' hh => ⟨A, c, hh.1, more w' hh.2, hh.2⟩
  · rw [if_neg h1, if_neg h1]
    by_cases h2 : n ≤ L.length
    · rw [if_pos h2, if_pos h2]
      exact (rput_full n m k A A1 c c1 L.length w (by omega) (by omega)).mono fun e w' hh => ⟨A, c, hh.1, more w' hh.2, hh.2⟩
    · rw [if_neg h2, if_neg h2]
      exact rput_ok n m w Q A c L h A1 k c1 l hr (by omega) hm hn (by omega)
/-- Three cells stored over a box. -/
theorem Box.set3 {w : World} {p : Nat} {v0 v1 v2 : Value} (h : Box w p v0 v1 v2) (u0 u1 u2 : Value) : Box (((w.setCell ⟨p, 0, none⟩ u0).setCell ⟨p, 1, none⟩ u1).setCell ⟨p, 2, none⟩ u2) p u0 u1 u2 := by
  have s0 : (w.cell? ⟨p, 0, none⟩).isSome = true := by rw [h.c0]; rfl
  have s1 : (w.cell? ⟨p, 1, none⟩).isSome = true := by rw [h.c1]; rfl
  have s2 : (w.cell? ⟨p, 2, none⟩).isSome = true := by rw [h.c2]; rfl
  refine ⟨by have := h.lt; simpa using this, ?_, ?_, ?_, fun o => by rw [World.frozen?_setCell, World.frozen?_setCell, World.frozen?_setCell]; exact h.fz o⟩
  · rw [set_other _ (by omega), set_other _ (by omega), World.cell?_setCell_same' _ _ _ s0]
  · rw [set_other _ (by omega), World.cell?_setCell_same' _ _ _ (set_some _ s1)]
  · rw [World.cell?_setCell_same' _ _ _ (set_some _ (set_some _ s2))]
theorem Box.set {w : World} {p q : Nat} {v0 v1 v2 : Value} (h : Box w p v0 v1 v2) (hq : p ≠ q) (j : Nat) (u : Value) : Box (w.setCell ⟨q, j, none⟩ u) p v0 v1 v2 :=
  h.keep (by simp [World.setCell]) (Below.heap_setCell _ _ _ _ hq)
/-- What a put leaves in the model, in a box of its own. -/
structure Put3 (W0 : World) (n m : Nat) (L : List (List Int)) (k : Nat) (l : List Int) (Q : Nat → Prop) (s8 s9 : Value) (wx : World) : Prop where
  ex : ∃ tb A' c', s8 = .pointer (some ⟨tb, 0, none⟩) ∧ s9 = .int .i64 (putE n m L k) ∧ Box wx tb (.int .i64 (n : Int)) (.int .i64 (m : Int)) (.slice A' (putL n m L k l).length c') ∧ W0.heap.size ≤ tb ∧
    RefR wx (fun b => Q b ∨ W0.heap.size ≤ b) A' c' (putL n m L k l) ∧ Below W0.heap.size W0 wx

theorem far3 {w : World} {tb q i : Nat} (h : tb ≠ q) (u0 u1 u2 : Value) : (((w.setCell ⟨tb, 0, none⟩ u0).setCell ⟨tb, 1, none⟩ u1).setCell ⟨tb, 2, none⟩ u2).cell? ⟨q, i, none⟩ = w.cell? ⟨q, i, none⟩ := by
  have ne : ∀ o, (⟨tb, o, none⟩ : Addr) ≠ ⟨q, i, none⟩ := fun o e => by injection e with e1 _ _; exact h e1
  rw [World.cell?_setCell_other _ _ _ _ (ne 2), World.cell?_setCell_other _ _ _ _ (ne 1), World.cell?_setCell_other _ _ _ _ (ne 0)]
theorem below3 {B : Nat} {a w : World} {tb : Nat} (h : Below B a w) (hB : B ≤ tb) (u0 u1 u2 : Value) : Below B a (((w.setCell ⟨tb, 0, none⟩ u0).setCell ⟨tb, 1, none⟩ u1).setCell ⟨tb, 2, none⟩ u2) :=
  ((h.setCell (p := ⟨tb, 0, none⟩) hB u0).setCell (p := ⟨tb, 1, none⟩) hB u1).setCell (p := ⟨tb, 2, none⟩) hB u2
theorem RefR.set3 {w : World} {Q : Nat → Prop} {A : Option Addr} {c : Nat} {L : List (List Int)} (h : RefR w Q A c L) {tb : Nat} (hp : ¬ Q tb) (u0 u1 u2 : Value) : RefR (((w.setCell ⟨tb, 0, none⟩ u0).setCell ⟨tb, 1, none⟩ u1).setCell ⟨tb, 2, none⟩ u2) Q A c L :=
  ((h.set (p := ⟨tb, 0, none⟩) hp u0).set (p := ⟨tb, 1, none⟩) hp u1).set (p := ⟨tb, 2, none⟩) hp u2
theorem past_cell {w w' : World} {x q i : Nat} {v : Value} (p : Past x w w') (hq : q ≠ x) (h : w.cell? ⟨q, i, none⟩ = some v) : w'.cell? ⟨q, i, none⟩ = some v :=
  (World.cell?_of_block (a := ⟨q, i, none⟩) (p.block q (World.block_lt_of_cell? _ _ h) hq)).trans h
theorem RingF.narrow {w : World} {Q : Nat → Prop} {g n m f : Nat} {L : List (List Int)} (h : RingF w Q g n m f L) : RingF w (fun b => Q b ∧ b < w.heap.size) g n m f L :=
  ⟨h.lt, fun hh => h.nog hh.1, h.room, h.words, h.first, h.fit, h.size, h.cell0, h.cell1, h.cell2, h.cell3, h.free, h.slots, fun i hi => by
    obtain ⟨v, h1, h2⟩ := h.msg i hi
    refine ⟨v, h1, ?_⟩
    obtain ⟨A1, c1, hv, hA1, hr1, hq1⟩ := h2.ex
    exact ⟨A1, c1, hv, hA1, hr1, fun ad e hn => by
      obtain ⟨ad', e', hlt, _⟩ := hr1.2 hn
      rw [e] at e'; injection e' with e'; subst e'
      exact ⟨⟨(hq1 ad e hn).1, hlt⟩, (hq1 ad e hn).2⟩⟩⟩
theorem past_set3 {g q : Nat} {w wp : World} (h : Past g w wp) (hq : w.heap.size ≤ q) (u0 u1 u2 : Value) : Past g w (((wp.setCell ⟨q, 0, none⟩ u0).setCell ⟨q, 1, none⟩ u1).setCell ⟨q, 2, none⟩ u2) :=
  ⟨h.os, h.tape, h.output, by simpa [World.setCell] using h.size, fun k hk hg => by
    rw [Below.heap_setCell _ _ _ _ (show k ≠ q by omega), Below.heap_setCell _ _ _ _ (show k ≠ q by omega), Below.heap_setCell _ _ _ _ (show k ≠ q by omega)]; exact h.block k hk hg⟩
theorem RingF.set3 {w : World} {Q : Nat → Prop} {g n m f q : Nat} {L : List (List Int)} (h : RingF w Q g n m f L) (hg : g ≠ q) (hQ : ¬ Q q) (u0 u1 u2 : Value) : RingF (((w.setCell ⟨q, 0, none⟩ u0).setCell ⟨q, 1, none⟩ u1).setCell ⟨q, 2, none⟩ u2) Q g n m f L :=
  h.keep (by simp [World.setCell]) fun k hk hq => by
    have hk' : k ≠ q := fun e => by subst e; rcases hq with h1 | h1; exact hg h1.symm; exact hQ h1
    rw [Below.heap_setCell _ _ _ _ hk', Below.heap_setCell _ _ _ _ hk', Below.heap_setCell _ _ _ _ hk']

set_option maxHeartbeats 4000000 in
theorem do_put (w : World) (Q : Nat → Prop) (g n m f : Nat) (L : List (List Int)) (hR : RingF w Q g n m f L) (Qr : Nat → Prop) (A : Option Addr) (c : Nat) (hM : RefR w Qr A c L) (hQr : ¬ Qr g) (kind : Int) (u : Nat) (hu : IntKind.u64.wrap kind = (u : Int)) (hd : (u : Int) % 4 = 0)
    (Ao : Option Addr) (lo co k : Nat) (ol : List Int) (hAo : Ao = none → co = 0) (hro : Reads w w.heap.size 1 Ao lo (U ol)) (hlo : lo ≤ co) (hco : co ≤ maxLen) (hk : min lo 40 = k) :
    Calls Try.prog 11 #[.pointer (some ⟨g, 0, none⟩), .agg #[.int .i64 (n : Int), .int .i64 (m : Int), .slice A L.length c], .agg #[.int .i64 kind, .slice Ao lo co]] w fun e w' => ∃ A' c' f' L', e = .returned (.tuple #[.agg #[.int .i64 (n : Int), .int .i64 (m : Int), .slice A' L'.length c'], .bool true]) ∧
      RingF w' (fun b => Q b ∨ (w.heap.size ≤ b ∧ b < w'.heap.size)) g n m f' L' ∧ RefR w' (fun b => Qr b ∨ (w.heap.size ≤ b ∧ b < w'.heap.size)) A' c' L' ∧ Past g w w' := by
  have hroom := hR.room
  have hwords := hR.words
  have HR := Lib.hid hR
  have HM := Lib.hid hM
  have HNQ := Lib.hid hQr
  have HO := Lib.hid (hro.front k (by omega))
  have HAO := Lib.hid hAo
  have FEW0 := Lib.hid fun (W : World) => few_any Ao lo co k W hk hlo hco
  obtain ⟨N, hN⟩ : ∃ N, L.length = N := ⟨_, rfl⟩
  have HN := Lib.hid hN
  rw [hN]
  obtain ⟨l, hl⟩ : ∃ l, ol.take k = l := ⟨_, rfl⟩
  rw [hl] at HO
  have K40 : Hid (k ≤ 40) := by unfold Hid; omega
  have HRM := Lib.hid (And.intro hroom.2 hwords.2)
  clear hR hM hQr hro hlo hco hk hAo hN hl hroom hwords
  go_enter Try.func11, Try.ntmps11
  go_upto_region 3 with fail
  have Y1 : Box (((w.alloc (.cells #[.int .i64 (n : Int), .int .i64 (m : Int), .slice A N c] 26)).alloc (.cells #[.int .i64 kind, .slice Ao lo co] 34)).alloc (.cells #[.int .i64 0, .int .i64 0, .slice none 0 0] 26)) w.heap.size (.int .i64 (n : Int)) (.int .i64 (m : Int)) (.slice A N c) :=
    ((box_new w _ _ _ 26).below ((Below.refl _ _).alloc (Nat.le_refl _) _)).below ((Below.refl _ _).alloc (Nat.le_refl _) _)
  have Y3 : Box (((w.alloc (.cells #[.int .i64 (n : Int), .int .i64 (m : Int), .slice A N c] 26)).alloc (.cells #[.int .i64 kind, .slice Ao lo co] 34)).alloc (.cells #[.int .i64 0, .int .i64 0, .slice none 0 0] 26)) (w.heap.size + 1 + 1) (.int .i64 0) (.int .i64 0) (.slice none 0 0) := by
    have := box_new ((w.alloc (.cells #[.int .i64 (n : Int), .int .i64 (m : Int), .slice A N c] 26)).alloc (.cells #[.int .i64 kind, .slice Ao lo co] 34)) (.int .i64 0) (.int .i64 0) (.slice none 0 0) 26
    rwa [show ((w.alloc (.cells #[.int .i64 (n : Int), .int .i64 (m : Int), .slice A N c] 26)).alloc (.cells #[.int .i64 kind, .slice Ao lo co] 34)).heap.size = w.heap.size + 1 + 1 by simp] at this
  have x3 : (((w.alloc (.cells #[.int .i64 (n : Int), .int .i64 (m : Int), .slice A N c] 26)).alloc (.cells #[.int .i64 kind, .slice Ao lo co] 34)).alloc (.cells #[.int .i64 0, .int .i64 0, .slice none 0 0] 26)).cell? ⟨w.heap.size + 1, 1, none⟩ = some (.slice Ao lo co) := by
    have e : ((w.alloc (.cells #[.int .i64 (n : Int), .int .i64 (m : Int), .slice A N c] 26)).alloc (.cells #[.int .i64 kind, .slice Ao lo co] 34)).cell? ⟨w.heap.size + 1, 1, none⟩ = some (.slice Ao lo co) := by
      have e1 := World.cell?_alloc_new (w := w.alloc (.cells #[.int .i64 (n : Int), .int .i64 (m : Int), .slice A N c] 26)) #[.int .i64 kind, .slice Ao lo co] 34 1
      rw [show (w.alloc (.cells #[.int .i64 (n : Int), .int .i64 (m : Int), .slice A N c] 26)).heap.size = w.heap.size + 1 by simp] at e1
      rw [e1]; rfl
    exact cell_al _ e
  have BW : Below w.heap.size w (((w.alloc (.cells #[.int .i64 (n : Int), .int .i64 (m : Int), .slice A N c] 26)).alloc (.cells #[.int .i64 kind, .slice Ao lo co] 34)).alloc (.cells #[.int .i64 0, .int .i64 0, .slice none 0 0] 26)) := (((Below.refl _ _).alloc (Nat.le_refl _) _).alloc (by simp) _).alloc (by simp; omega) _
  have SW : (((w.alloc (.cells #[.int .i64 (n : Int), .int .i64 (m : Int), .slice A N c] 26)).alloc (.cells #[.int .i64 kind, .slice Ao lo co] 34)).alloc (.cells #[.int .i64 0, .int .i64 0, .slice none 0 0] 26)).heap.size = w.heap.size + 3 := by simp
  generalize (((w.alloc (.cells #[.int .i64 (n : Int), .int .i64 (m : Int), .slice A N c] 26)).alloc (.cells #[.int .i64 kind, .slice Ao lo co] 34)).alloc (.cells #[.int .i64 0, .int .i64 0, .slice none 0 0] 26)) = W0 at *
  have x0 := Y1.c0
  have x1 := Y1.c1
  have x2 := Y1.c2
  have FEW := FEW0.out
  have HY1 := Lib.hid Y1
  have HY3 := Lib.hid Y3
  have HBW := Lib.hid BW
  have HSW := Lib.hid SW
  clear Y1 Y3 BW SW hu hd
  have HFEW := Lib.hid FEW
  have HRPUT := Lib.hid fun (W : World) (h : Below W0.heap.size W0 W) => rput_any n m W (fun b => Qr b ∧ b < w.heap.size) A c L ((HM.out.narrow.below HBW.out).below h) Ao k co l (((HO.out.below HBW.out).more HBW.out.size |>.below h).more h.size) HRM.out.2 HRM.out.1
  rw [HN.out] at HRPUT
  clear FEW FEW0
  go_cut [8, 9] (fun s8 s9 wx => Put3 W0 n m L k l (fun b => Qr b ∧ b < w.heap.size) s8 s9 wx)
  case first =>
    refine wp_region_held_drew (S := (fun w' => Below W0.heap.size W0 w' ∧ w'.cell? ⟨w.heap.size, 0, none⟩ = some (.int .i64 (n : Int)) ∧ w'.cell? ⟨w.heap.size, 1, none⟩ = some (.int .i64 (m : Int)) ∧ w'.cell? ⟨w.heap.size, 2, none⟩ = some (.slice A N c) ∧ w'.cell? ⟨w.heap.size + 1, 1, none⟩ = some (.slice Ao lo co))) (by kernel_rfl) ?_ (fun hHeld => ?_)
    · exact ⟨(Below.refl _ _).drew, x0, x1, x2, x3⟩
    refine takeD (i := 0) (d := some 28) (v := ?_) _ rfl rfl (by kernel_rfl) (by kernel_rfl) (by kernel_rfl) (fun _ _ _ h => h) (by rfl) ?_ (by assumption) ?_
    rotate_left
    · (intro w hSw; (try dsimp only at hSw); go_simp) <;> with_reducible rfl
    try simp only [Act.put, List.setIfInBounds_toArray, List.set_cons_zero, List.set_cons_succ]
    refine takeD (i := 1) (d := some 29) (v := ?_) _ rfl rfl (by kernel_rfl) (by kernel_rfl) (by kernel_rfl) (fun _ _ _ h => h) (by rfl) ?_ (by assumption) ?_
    rotate_left
    · (intro w hSw; (try dsimp only at hSw); go_simp) <;> with_reducible rfl
    try simp only [Act.put, List.setIfInBounds_toArray, List.set_cons_zero, List.set_cons_succ]
    refine takeD (i := 2) (d := some 30) (v := ?_) _ rfl rfl (by kernel_rfl) (by kernel_rfl) (by kernel_rfl) (fun _ _ _ h => h) (by rfl) ?_ (by assumption) ?_
    rotate_left
    · (intro w hSw; (try dsimp only at hSw); go_simp) <;> with_reducible rfl
    try simp only [Act.put, List.setIfInBounds_toArray, List.set_cons_zero, List.set_cons_succ]
    refine wpAnyH_ready (rs := [3, 8]) (by kernel_rfl) (by simp) ?_
    refine AllReadyH.cons rfl (fun K hK => ?_) (AllReadyH.cons rfl (fun K hK => ?_) AllReadyH.nil)
    · (go_simp; go_at_call 26; refine (HFEW.out _).mono ?_; rintro e wf ⟨rfl, hbf⟩; try go_wp2_with fail)
      refine hK.out _ _ ?_ (fun hHeld => ?_)
      · exact ⟨hHeld.1.trans (hbf.mono hHeld.1.size), cell_later hbf hHeld.2.1, cell_later hbf hHeld.2.2.1, cell_later hbf hHeld.2.2.2.1, cell_later hbf hHeld.2.2.2.2⟩
      clear hK K
      try simp only [Act.put, List.setIfInBounds_toArray, List.set_cons_zero, List.set_cons_succ]
      have HWF := hHeld
      refine wpAnyH_ready (rs := [4, 8]) (by kernel_rfl) (by simp) ?_
      refine AllReadyH.cons rfl (fun K hK => ?_) (AllReadyH.cons rfl (fun K hK => ?_) AllReadyH.nil)
      · (go_simp; go_at_call 25; refine (HRPUT.out _ hHeld.1).mono ?_; rintro e wp ⟨A', c', rfl, hrr, hbp⟩; try go_wp2_with fail)
        refine hK.out _ _ ?_ (fun hHeld => ?_)
        · exact ⟨hHeld.1.trans (hbp.mono hHeld.1.size), cell_later hbp hHeld.2.1, cell_later hbp hHeld.2.2.1, cell_later hbp hHeld.2.2.2.1, cell_later hbp hHeld.2.2.2.2⟩
        clear hK K
        try simp only [Act.put, List.setIfInBounds_toArray, List.set_cons_zero, List.set_cons_succ]
        have HWP := hHeld
        refine takeD (i := 5) (d := some 27) (v := ?_) _ rfl rfl (by kernel_rfl) (by kernel_rfl) (by kernel_rfl) (fun _ _ _ h => h) (by rfl) ?_ (by assumption) ?_
        rotate_left
        · (intro w hSw; (try dsimp only at hSw); go_simp) <;> with_reducible rfl
        try simp only [Act.put, List.setIfInBounds_toArray, List.set_cons_zero, List.set_cons_succ]
        refine takeD (i := 6) (d := some 33) (v := ?_) _ rfl rfl (by kernel_rfl) (by kernel_rfl) (by kernel_rfl) (fun _ _ _ h => h) (by rfl) ?_ (by assumption) ?_
        rotate_left
        · (intro w hSw; (try dsimp only at hSw); go_simp) <;> with_reducible rfl
        try simp only [Act.put, List.setIfInBounds_toArray, List.set_cons_zero, List.set_cons_succ]
        refine takeD (i := 7) (d := some 34) (v := ?_) _ rfl rfl (by kernel_rfl) (by kernel_rfl) (by kernel_rfl) (fun _ _ _ h => h) (by rfl) ?_ (by assumption) ?_
        rotate_left
        · (intro w hSw; (try dsimp only at hSw); go_simp) <;> with_reducible rfl
        try simp only [Act.put, List.setIfInBounds_toArray, List.set_cons_zero, List.set_cons_succ]
        refine wpAnyH_ready (rs := [8]) (by kernel_rfl) (by simp) ?_
        refine AllReadyH.cons rfl (fun K hK => ?_) AllReadyH.nil
        go_simp
        refine hK.out _ _ ?_ (fun hHeld => ?_)
        · exact ⟨hHeld.1.alloc hHeld.1.size _, cell_al _ hHeld.2.1, cell_al _ hHeld.2.2.1, cell_al _ hHeld.2.2.2.1, cell_al _ hHeld.2.2.2.2⟩
        clear hK K
        try simp only [Act.put, List.setIfInBounds_toArray, List.set_cons_zero, List.set_cons_succ]
        refine wpAnyH_ready (rs := [9]) (by kernel_rfl) (by simp) ?_
        refine AllReadyH.cons rfl (fun K hK => ?_) AllReadyH.nil
        go_simp
        refine hK.out _ _ ?_ (fun hHeld => ?_)
        · exact ⟨HWP.1.alloc HWP.1.size _, cell_al _ HWP.2.1, cell_al _ HWP.2.2.1, cell_al _ HWP.2.2.2.1, cell_al _ HWP.2.2.2.2⟩
        clear hK K
        try simp only [Act.put, List.setIfInBounds_toArray, List.set_cons_zero, List.set_cons_succ]
        refine takeD (i := 10) (d := some 9) (v := ?_) _ rfl rfl (by kernel_rfl) (by kernel_rfl) (by kernel_rfl) (fun _ _ _ h => h) (by rfl) ?_ (by assumption) ?_
        rotate_left
        · (intro w hSw; (try dsimp only at hSw); go_simp) <;> with_reducible rfl
        try simp only [Act.put, List.setIfInBounds_toArray, List.set_cons_zero, List.set_cons_succ]
        refine wpAnyH_done (by kernel_rfl) ?_ _
        go_wp2_with fail
        go_meet
        exact ⟨⟨_, A', c', rfl, rfl, box_new _ _ _ _ 26, HWP.1.size, (hrr.below ((Below.refl _ _).alloc (Nat.le_refl _) _)).more (fun b _ hq => by
            rcases hq with h1 | h1
            · exact .inl h1
            · exact .inr (Nat.le_trans HWF.1.size h1.1)), HWP.1.alloc HWP.1.size _⟩⟩
      · go_simp
        refine hK.out _ _ ?_ (fun hHeld => ?_)
        · exact ⟨hHeld.1.alloc hHeld.1.size _, cell_al _ hHeld.2.1, cell_al _ hHeld.2.2.1, cell_al _ hHeld.2.2.2.1, cell_al _ hHeld.2.2.2.2⟩
        clear hK K
        try simp only [Act.put, List.setIfInBounds_toArray, List.set_cons_zero, List.set_cons_succ]
        have HWA := hHeld
        refine wpAnyH_ready (rs := [4]) (by kernel_rfl) (by simp) ?_
        refine AllReadyH.cons rfl (fun K hK => ?_) AllReadyH.nil
        (go_simp; go_at_call 25; refine (HRPUT.out _ hHeld.1).mono ?_; rintro e wp ⟨A', c', rfl, hrr, hbp⟩; try go_wp2_with fail)
        refine hK.out _ _ ?_ (fun hHeld => ?_)
        · exact ⟨hHeld.1.trans (hbp.mono hHeld.1.size), cell_later hbp hHeld.2.1, cell_later hbp hHeld.2.2.1, cell_later hbp hHeld.2.2.2.1, cell_later hbp hHeld.2.2.2.2⟩
        clear hK K
        try simp only [Act.put, List.setIfInBounds_toArray, List.set_cons_zero, List.set_cons_succ]
        have HWP := hHeld
        refine takeD (i := 5) (d := some 27) (v := ?_) _ rfl rfl (by kernel_rfl) (by kernel_rfl) (by kernel_rfl) (fun _ _ _ h => h) (by rfl) ?_ (by assumption) ?_
        rotate_left
        · (intro w hSw; (try dsimp only at hSw); go_simp) <;> with_reducible rfl
        try simp only [Act.put, List.setIfInBounds_toArray, List.set_cons_zero, List.set_cons_succ]
        refine takeD (i := 6) (d := some 33) (v := ?_) _ rfl rfl (by kernel_rfl) (by kernel_rfl) (by kernel_rfl) (fun _ _ _ h => h) (by rfl) ?_ (by assumption) ?_
        rotate_left
        · (intro w hSw; (try dsimp only at hSw); go_simp) <;> with_reducible rfl
        try simp only [Act.put, List.setIfInBounds_toArray, List.set_cons_zero, List.set_cons_succ]
        refine takeD (i := 7) (d := some 34) (v := ?_) _ rfl rfl (by kernel_rfl) (by kernel_rfl) (by kernel_rfl) (fun _ _ _ h => h) (by rfl) ?_ (by assumption) ?_
        rotate_left
        · (intro w hSw; (try dsimp only at hSw); go_simp) <;> with_reducible rfl
        try simp only [Act.put, List.setIfInBounds_toArray, List.set_cons_zero, List.set_cons_succ]
        have ZB := (box_new wf (.int .i64 0) (.int .i64 0) (.slice none 0 0) 26).below hbp
        have z0 := ZB.c0
        have z1 := ZB.c1
        have z2 := ZB.c2
        have zf := ZB.fz
        have wne : w.heap.size + 3 ≤ wf.heap.size := by have := HWF.1.size; have := HSW.out; omega
        refine wpAnyH_ready (rs := [9]) (by kernel_rfl) (by simp) ?_
        refine AllReadyH.cons rfl (fun K hK => ?_) AllReadyH.nil
        go_simp
        refine hK.out _ _ ?_ (fun hHeld => ?_)
        · exact ⟨below3 HWP.1 HWF.1.size _ _ _, (far3 (by omega) _ _ _).trans HWP.2.1, (far3 (by omega) _ _ _).trans HWP.2.2.1, (far3 (by omega) _ _ _).trans HWP.2.2.2.1, (far3 (by omega) _ _ _).trans HWP.2.2.2.2⟩
        clear hK K
        try simp only [Act.put, List.setIfInBounds_toArray, List.set_cons_zero, List.set_cons_succ]
        refine takeD (i := 10) (d := some 9) (v := ?_) _ rfl rfl (by kernel_rfl) (by kernel_rfl) (by kernel_rfl) (fun _ _ _ h => h) (by rfl) ?_ (by assumption) ?_
        rotate_left
        · (intro w hSw; (try dsimp only at hSw); go_simp) <;> with_reducible rfl
        try simp only [Act.put, List.setIfInBounds_toArray, List.set_cons_zero, List.set_cons_succ]
        refine wpAnyH_done (by kernel_rfl) ?_ _
        go_wp2_with fail
        go_meet
        exact ⟨⟨_, A', c', rfl, rfl, ZB.set3 _ _ _, HWF.1.size, (hrr.set3 (tb := wf.heap.size) (fun hq => by
            rcases hq with h1 | h1
            · omega
            · have := h1.1; simp at this; omega) _ _ _).more (fun b _ hq => by
            rcases hq with h1 | h1
            · exact .inl h1
            · exact .inr (Nat.le_trans HWF.1.size (Nat.le_trans (by simp) h1.1))), below3 HWP.1 HWF.1.size _ _ _⟩⟩
    · go_simp
      refine hK.out _ _ ?_ (fun hHeld => ?_)
      · exact ⟨hHeld.1.alloc hHeld.1.size _, cell_al _ hHeld.2.1, cell_al _ hHeld.2.2.1, cell_al _ hHeld.2.2.2.1, cell_al _ hHeld.2.2.2.2⟩
      clear hK K
      try simp only [Act.put, List.setIfInBounds_toArray, List.set_cons_zero, List.set_cons_succ]
      have HWA := hHeld
      refine wpAnyH_ready (rs := [3]) (by kernel_rfl) (by simp) ?_
      refine AllReadyH.cons rfl (fun K hK => ?_) AllReadyH.nil
      (go_simp; go_at_call 26; refine (HFEW.out _).mono ?_; rintro e wf ⟨rfl, hbf⟩; try go_wp2_with fail)
      refine hK.out _ _ ?_ (fun hHeld => ?_)
      · exact ⟨hHeld.1.trans (hbf.mono hHeld.1.size), cell_later hbf hHeld.2.1, cell_later hbf hHeld.2.2.1, cell_later hbf hHeld.2.2.2.1, cell_later hbf hHeld.2.2.2.2⟩
      clear hK K
      try simp only [Act.put, List.setIfInBounds_toArray, List.set_cons_zero, List.set_cons_succ]
      have HWF := hHeld
      refine wpAnyH_ready (rs := [4]) (by kernel_rfl) (by simp) ?_
      refine AllReadyH.cons rfl (fun K hK => ?_) AllReadyH.nil
      (go_simp; go_at_call 25; refine (HRPUT.out _ hHeld.1).mono ?_; rintro e wp ⟨A', c', rfl, hrr, hbp⟩; try go_wp2_with fail)
      refine hK.out _ _ ?_ (fun hHeld => ?_)
      · exact ⟨hHeld.1.trans (hbp.mono hHeld.1.size), cell_later hbp hHeld.2.1, cell_later hbp hHeld.2.2.1, cell_later hbp hHeld.2.2.2.1, cell_later hbp hHeld.2.2.2.2⟩
      clear hK K
      try simp only [Act.put, List.setIfInBounds_toArray, List.set_cons_zero, List.set_cons_succ]
      have HWP := hHeld
      refine takeD (i := 5) (d := some 27) (v := ?_) _ rfl rfl (by kernel_rfl) (by kernel_rfl) (by kernel_rfl) (fun _ _ _ h => h) (by rfl) ?_ (by assumption) ?_
      rotate_left
      · (intro w hSw; (try dsimp only at hSw); go_simp) <;> with_reducible rfl
      try simp only [Act.put, List.setIfInBounds_toArray, List.set_cons_zero, List.set_cons_succ]
      refine takeD (i := 6) (d := some 33) (v := ?_) _ rfl rfl (by kernel_rfl) (by kernel_rfl) (by kernel_rfl) (fun _ _ _ h => h) (by rfl) ?_ (by assumption) ?_
      rotate_left
      · (intro w hSw; (try dsimp only at hSw); go_simp) <;> with_reducible rfl
      try simp only [Act.put, List.setIfInBounds_toArray, List.set_cons_zero, List.set_cons_succ]
      refine takeD (i := 7) (d := some 34) (v := ?_) _ rfl rfl (by kernel_rfl) (by kernel_rfl) (by kernel_rfl) (fun _ _ _ h => h) (by rfl) ?_ (by assumption) ?_
      rotate_left
      · (intro w hSw; (try dsimp only at hSw); go_simp) <;> with_reducible rfl
      try simp only [Act.put, List.setIfInBounds_toArray, List.set_cons_zero, List.set_cons_succ]
      have ZB := (((box_new W0 (.int .i64 0) (.int .i64 0) (.slice none 0 0) 26).below (Below.refl _ _).drew).below hbf).below hbp
      have z0 := ZB.c0
      have z1 := ZB.c1
      have z2 := ZB.c2
      have zf := ZB.fz
      have wne : w.heap.size + 3 ≤ W0.heap.size := by have := HSW.out; omega
      refine wpAnyH_ready (rs := [9]) (by kernel_rfl) (by simp) ?_
      refine AllReadyH.cons rfl (fun K hK => ?_) AllReadyH.nil
      go_simp
      refine hK.out _ _ ?_ (fun hHeld => ?_)
      · exact ⟨below3 HWP.1 (Nat.le_refl _) _ _ _, (far3 (by omega) _ _ _).trans HWP.2.1, (far3 (by omega) _ _ _).trans HWP.2.2.1, (far3 (by omega) _ _ _).trans HWP.2.2.2.1, (far3 (by omega) _ _ _).trans HWP.2.2.2.2⟩
      clear hK K
      try simp only [Act.put, List.setIfInBounds_toArray, List.set_cons_zero, List.set_cons_succ]
      refine takeD (i := 10) (d := some 9) (v := ?_) _ rfl rfl (by kernel_rfl) (by kernel_rfl) (by kernel_rfl) (fun _ _ _ h => h) (by rfl) ?_ (by assumption) ?_
      rotate_left
      · (intro w hSw; (try dsimp only at hSw); go_simp) <;> with_reducible rfl
      try simp only [Act.put, List.setIfInBounds_toArray, List.set_cons_zero, List.set_cons_succ]
      refine wpAnyH_done (by kernel_rfl) ?_ _
      go_wp2_with fail
      go_meet
      exact ⟨⟨_, A', c', rfl, rfl, ZB.set3 _ _ _, Nat.le_refl _, (hrr.set3 (tb := W0.heap.size) (fun hq => by
          rcases hq with h1 | h1
          · omega
          · have := h1.1; have := hbf.size; simp at this; omega) _ _ _).more (fun b _ hq => by
          rcases hq with h1 | h1
          · exact .inl h1
          · exact .inr (Nat.le_trans HWF.1.size h1.1)), below3 HWP.1 (Nat.le_refl _) _ _ _⟩⟩
  case rest =>
    rename World => wx
    obtain ⟨⟨tb, A', c', rfl, rfl, HX, htb, HRR, HBX⟩⟩ := hcut
    have hsw := HSW.out
    have x4 := (HY1.out.below HBX)
    have x3' := cell_later HBX x3
    have T0 := HX.c0
    have T1 := HX.c1
    have T2 := HX.c2
    have Z6 := HY3.out.below HBX
    have RX := (HR.out.narrow.below HBW.out).below HBX
    have HXO := (((HO.out.below HBW.out).more HBW.out.size).below HBX).more HBX.size
    have gl := HR.out.lt
    have tg : tb ≠ g := by omega
    have pg : w.heap.size + 1 ≠ g := by omega
    have p2g : w.heap.size + 1 + 1 ≠ g := by omega
    have t2 : tb ≠ w.heap.size + 1 + 1 := by omega
    have PUT := Lib.hid fun (W : World) (hb : Below wx.heap.size wx W) => put_any W _ g n m f L (RX.below hb) Ao k co l HAO.out ((HXO.below hb).more hb.size)
    have HRX := Lib.hid RX
    have HRRX := Lib.hid HRR
    have HZ6 := Lib.hid Z6
    have HHX := Lib.hid HX
    have HBXX := Lib.hid HBX
    obtain ⟨pe, hpe⟩ : ∃ pe, Hid (putE n m L k = pe) := ⟨_, rfl⟩
    rw [hpe.out] at PUT
    rw [hpe.out]
    have wxs : Hid (w.heap.size + 3 ≤ wx.heap.size) := by have := HBX.size; unfold Hid; omega
    clear RX HXO HRR HX Z6 HBX x0 x1 x2 x3 x4 HRPUT
    go_wp2_with fail
    refine wp_region_held_drew (S := (fun w' => wx.heap.size ≤ w'.heap.size ∧ w'.cell? ⟨tb, 0, none⟩ = some (.int .i64 (n : Int)) ∧ w'.cell? ⟨tb, 1, none⟩ = some (.int .i64 (m : Int)) ∧ w'.cell? ⟨tb, 2, none⟩ = some (.slice A' (putL n m L k l).length c') ∧ w'.cell? ⟨w.heap.size + 1, 1, none⟩ = some (.slice Ao lo co))) (by kernel_rfl) ?_ (fun hHeld => ?_)
    · exact ⟨Nat.le_refl _, T0, T1, T2, x3'⟩
    refine takeD (i := 0) (d := some 35) (v := ?_) _ rfl rfl (by kernel_rfl) (by kernel_rfl) (by kernel_rfl) (fun _ _ _ h => h) (by rfl) ?_ (by assumption) ?_
    rotate_left
    · (intro w hSw; (try dsimp only at hSw); go_simp) <;> with_reducible rfl
    try simp only [Act.put, List.setIfInBounds_toArray, List.set_cons_zero, List.set_cons_succ]
    refine takeD (i := 1) (d := some 36) (v := ?_) _ rfl rfl (by kernel_rfl) (by kernel_rfl) (by kernel_rfl) (fun _ _ _ h => h) (by rfl) ?_ (by assumption) ?_
    rotate_left
    · (intro w hSw; (try dsimp only at hSw); go_simp) <;> with_reducible rfl
    try simp only [Act.put, List.setIfInBounds_toArray, List.set_cons_zero, List.set_cons_succ]
    refine takeD (i := 2) (d := some 37) (v := ?_) _ rfl rfl (by kernel_rfl) (by kernel_rfl) (by kernel_rfl) (fun _ _ _ h => h) (by rfl) ?_ (by assumption) ?_
    rotate_left
    · (intro w hSw; (try dsimp only at hSw); go_simp) <;> with_reducible rfl
    try simp only [Act.put, List.setIfInBounds_toArray, List.set_cons_zero, List.set_cons_succ]
    refine takeD (i := 3) (d := some 38) (v := ?_) _ rfl rfl (by kernel_rfl) (by kernel_rfl) (by kernel_rfl) (fun _ _ _ h => h) (by rfl) ?_ (by assumption) ?_
    rotate_left
    · (intro w hSw; (try dsimp only at hSw); go_simp) <;> with_reducible rfl
    try simp only [Act.put, List.setIfInBounds_toArray, List.set_cons_zero, List.set_cons_succ]
    refine takeD (i := 6) (d := some 41) (v := ?_) _ rfl rfl (by kernel_rfl) (by kernel_rfl) (by kernel_rfl) (fun _ _ _ h => h) (by rfl) ?_ (by assumption) ?_
    rotate_left
    · (intro w hSw; (try dsimp only at hSw); go_simp) <;> with_reducible rfl
    try simp only [Act.put, List.setIfInBounds_toArray, List.set_cons_zero, List.set_cons_succ]
    refine wpAnyH_ready (rs := [4]) (by kernel_rfl) (by simp) ?_
    refine AllReadyH.cons rfl (fun K hK => ?_) AllReadyH.nil
    (go_simp; go_at_call 26; refine (HFEW.out _).mono ?_; rintro e wf ⟨rfl, hbf⟩; try go_wp2_with fail)
    refine hK.out _ _ ?_ (fun hHeld => ?_)
    · exact ⟨hbf.size, cell_later hbf hHeld.2.1, cell_later hbf hHeld.2.2.1, cell_later hbf hHeld.2.2.2.1, cell_later hbf hHeld.2.2.2.2⟩
    clear hK K
    try simp only [Act.put, List.setIfInBounds_toArray, List.set_cons_zero, List.set_cons_succ]
    have HWF := hHeld
    have hbf2 : Below wx.heap.size wx wf := (Below.refl wx.heap.size wx).drew.trans hbf
    refine wpAnyH_ready (rs := [5]) (by kernel_rfl) (by simp) ?_
    refine AllReadyH.cons rfl (fun K hK => ?_) AllReadyH.nil
    (go_simp; go_at_call 21; refine (PUT.out _ hbf2).mono ?_; rintro e wp ⟨rfl, hring, hpast⟩; try go_wp2_with fail)
    refine hK.out _ _ ?_ (fun hHeld => ?_)
    · exact ⟨Nat.le_trans HWF.1 hpast.size, (past_cell hpast tg HWF.2.1), (past_cell hpast tg HWF.2.2.1), (past_cell hpast tg HWF.2.2.2.1), (past_cell hpast pg HWF.2.2.2.2)⟩
    clear hK K
    try simp only [Act.put, List.setIfInBounds_toArray, List.set_cons_zero, List.set_cons_succ]
    have HWP := hHeld
    refine takeD (i := 7) (d := some 42) (v := ?_) _ rfl rfl (by kernel_rfl) (by kernel_rfl) (by kernel_rfl) (fun _ _ _ h => h) (by rfl) ?_ (by assumption) ?_
    rotate_left
    · (intro w hSw; (try dsimp only at hSw); go_simp) <;> with_reducible rfl
    try simp only [Act.put, List.setIfInBounds_toArray, List.set_cons_zero, List.set_cons_succ]
    have ZB := (HZ6.out.below hbf2).past hpast p2g
    have z0 := ZB.c0
    have z1 := ZB.c1
    have z2 := ZB.c2
    have zf := ZB.fz
    refine wpAnyH_ready (rs := [8]) (by kernel_rfl) (by simp) ?_
    refine AllReadyH.cons rfl (fun K hK => ?_) AllReadyH.nil
    go_simp
    refine hK.out _ _ ?_ (fun hHeld => ?_)
    · exact ⟨by simpa [World.setCell] using HWP.1, (far3 t2.symm _ _ _).trans HWP.2.1, (far3 t2.symm _ _ _).trans HWP.2.2.1, (far3 t2.symm _ _ _).trans HWP.2.2.2.1, (far3 (by omega) _ _ _).trans HWP.2.2.2.2⟩
    clear hK K
    try simp only [Act.put, List.setIfInBounds_toArray, List.set_cons_zero, List.set_cons_succ]
    refine takeD (i := 9) (d := some 7) (v := ?_) _ rfl rfl (by kernel_rfl) (by kernel_rfl) (by kernel_rfl) (fun _ _ _ h => h) (by rfl) ?_ (by assumption) ?_
    rotate_left
    · (intro w hSw; (try dsimp only at hSw); go_simp) <;> with_reducible rfl
    try simp only [Act.put, List.setIfInBounds_toArray, List.set_cons_zero, List.set_cons_succ]
    refine wpAnyH_done (by kernel_rfl) ?_ _
    have gw : ¬ ((Q (w.heap.size + 1 + 1) ∧ w.heap.size + 1 + 1 < w.heap.size) ∨ (wf.heap.size ≤ w.heap.size + 1 + 1 ∧ w.heap.size + 1 + 1 < wp.heap.size)) := by have := hbf2.size; have := wxs.out; omega
    have FR := hring.set3 (q := w.heap.size + 1 + 1) (by omega) gw (.int .i64 (n : Int)) (.int .i64 (m : Int)) (.slice A' (putL n m L k l).length c')
    have FM := (((HRRX.out.below hbf2).narrow.past hpast (fun hh => by
      rcases hh.1 with h1 | h1
      · exact HNQ.out h1.1
      · omega)).set3 (tb := w.heap.size + 1 + 1) (fun hh => by
      rcases hh.1 with h1 | h1
      · omega
      · omega) (.int .i64 (n : Int)) (.int .i64 (m : Int)) (.slice A' (putL n m L k l).length c'))
    have PP := past_set3 (q := w.heap.size + 1 + 1) (((Past.of_below (HBW.out.trans (HBXX.out.mono HBW.out.size))).trans (Past.of_below hbf2)).trans hpast) (by omega) (.int .i64 (n : Int)) (.int .i64 (m : Int)) (.slice A' (putL n m L k l).length c')
    have HFR := Lib.hid FR
    have HFM := Lib.hid FM
    have HPP := Lib.hid PP
    have Z7 := ZB.set3 (.int .i64 (n : Int)) (.int .i64 (m : Int)) (.slice A' (putL n m L k l).length c')
    have z70 := Z7.c0
    have z71 := Z7.c1
    have z72 := Z7.c2
    have fs := hbf2.size
    have ws := wxs.out
    clear FR FM PP hring hpast Z7 ZB z0 z1 z2
    go_wp2_with fail
    exact bodyPost_ret (v := .tuple #[.agg #[.int .i64 (n : Int), .int .i64 (m : Int), .slice A' (putL n m L k l).length c'], .bool true]) (by simp [results, Try.results11, go_sem, z70, z71, z72]) rfl ⟨A', c', f, putL n m L k l, rfl,
      HFR.out.more (fun b hb => by
        rcases hb with h1 | h1
        · exact .inl h1.1
        · exact .inr ⟨by omega, by simpa [World.setCell] using h1.2⟩) (fun hh => by
        rcases hh with h1 | h1
        · exact HR.out.nog h1
        · omega),
      HFM.out.more (fun b hb hq => by
        rcases hq.1 with h1 | h1
        · exact .inl h1.1
        · exact .inr ⟨by omega, hb⟩), HPP.out⟩
end Go.Proofs.Ytpejmkdmjlfgpaa
