/-
  Lists of numbers in memory; slices.Clone of them. Each statement bears its own conditions.
-/
import Derived.Test.YtbnnpfhgpbaedaaIvA0
namespace Go.Proofs.Ytbnnpfhgpbaedaa.I
open Go.RowKit
set_option linter.unusedVariables false
set_option linter.unusedSimpArgs false
theorem clone_any (v : Value) (rb : Nat) (L : List Int) (w : World) (hr : RowV w v rb L) (hL : L.length ≤ 1000) :
    Calls Try.prog 29 #[v] w fun e w' => ∃ A n c rb', e = .returned (.slice A n c) ∧ RowV w' (.slice A n c) rb' L ∧ (Value.slice A n c = .slice none 0 0 ∨ (w.heap.size ≤ rb' ∧ rb' < w'.heap.size)) ∧ Below w.heap.size w w' := by
  rcases hr.form with ⟨rfl, h0⟩ | ⟨cap, cur, rfl, hg, h1, h2, h3, h4⟩
  · have he : ∀ w : World, (binOp .eql 22 (.slice none 0 0) (.slice none 0 0)).run Try.prog w = .ok (.bool true) w := fun _ => rfl
    go_enter Try.func29, Try.ntmps29
    go_wp2_with fail
    go_ret
    exact ⟨none, 0, 0, rb, rfl, hr, .inl rfl, Below.refl _ _⟩
  · obtain ⟨i0, hi, hz0, hz1, hz2⟩ := info_of int_info
    obtain ⟨n, hn⟩ : ∃ n, L.length = n := ⟨_, rfl⟩
    have hb : rb < w.heap.size := by
      rcases hr.lt with h | h
      · cases h
      · exact h
    have RD : Hid (Reads w w.heap.size 1 (some ⟨rb, 0, none⟩) n (C L)) := by
      refine ⟨by simp [C_len, hn], fun _ => ⟨_, rfl, hb, fun j u hu => ?_⟩⟩
      rw [Addr.add_lit, Nat.zero_add, (row_cell hg j).1, ← Array.getElem?_toList]
      have h5 : j < n := by
        have := (List.getElem?_eq_some_iff.1 hu).1
        rw [C_len, hn] at this; exact this
      rw [← h4, hn, List.getElem?_take_of_lt h5] at hu
      exact hu
    have HN := Lib.hid hn
    have HL : Hid (n ≤ 1000) := by unfold Hid; omega
    rw [hn]
    clear hr hg h1 h2 h3 h4 hL hn hb
    have he : ∀ w : World, (binOp .eql 22 (.slice (some ⟨rb, 0, none⟩) n cap) (.slice none 0 0)).run Try.prog w = .ok (.bool false) w := fun _ => rfl
    go_enter Try.func29, Try.ntmps29
    go_wp2_with (at_builtin; refine wpList_append_any _ rfl (.tmp 5) (.tmp 6) _ rfl 0 3 i0 _ 1 8 Try.underlying22 hi hz0 hz1 hz2 rfl (by omega) (.slice (some ⟨w.heap.size, 0, none⟩) 0 0) 0 (C []) rfl (row_new w) w.heap.size (some ⟨rb, 0, none⟩) n cap (C L) rfl (RD.out.alloc (Nat.le_refl _) _) (C_one _) ?c2 ?c3 ?c4 ?_)
    case c2 => have := HL.out; unfold maxLen; omega
    case c3 => have := HL.out; omega
    case c4 => exact Nat.zero_le _
    intro v2 w2 ho hgr hbl
    have ho' : w2.ownsRow 0 3 1 v2 L.length (C L) := by rw [HN.out]; simpa [C] using ho
    have hs2 : w.heap.size < w2.heap.size := by have := hgr.size; simp at this; omega
    have hbel : Hid (Below w.heap.size w w2) := ((Below.refl _ _).alloc (Nat.le_refl _) _).grown hgr (by simp) (fun q hq => by have h' : some w.heap.size = some q := hq; injection h' with h'; omega)
    obtain ⟨A2, c2, hv2⟩ := slice_form ho'
    rw [HN.out] at hv2
    subst hv2
    have hres : Hid (∃ rb', RowV w2 (.slice A2 n c2) rb' L ∧ (Value.slice A2 n c2 = .slice none 0 0 ∨ (w.heap.size ≤ rb' ∧ rb' < w2.heap.size))) := by
      unfold Hid
      rcases hbl with h | h
      · refine ⟨w.heap.size, ⟨ho', fun b e => by rw [h] at e; injection e with e; exact e.symm⟩, .inr ⟨Nat.le_refl _, hs2⟩⟩
      · have R : RowV w2 (.slice A2 n c2) (w.heap.size + 1) L := ⟨ho', fun b e => by
          rw [h] at e
          simpa using e.symm⟩
        refine ⟨w.heap.size + 1, R, ?_⟩
        rcases R.lt with h5 | h5
        · exact .inl h5
        · exact .inr ⟨by omega, h5⟩
    clear ho ho' hgr hbl hs2
    go_wp2_with fail
    go_ret
    obtain ⟨rb', r1, r2⟩ := hres.out
    exact ⟨A2, n, c2, rb', rfl, r1, r2, hbel.out⟩
end Go.Proofs.Ytbnnpfhgpbaedaa.I
