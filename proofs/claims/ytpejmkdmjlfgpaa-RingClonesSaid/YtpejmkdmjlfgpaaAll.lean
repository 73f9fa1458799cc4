/-
  The contract of All. Each statement bears its own conditions.
-/
import Derived.Test.YtpejmkdmjlfgpaaTold
namespace Go.Proofs.Ytpejmkdmjlfgpaa
open Go.RowKit
set_option linter.unusedSimpArgs false
set_option linter.unusedVariables false
theorem row_info : (Try.prog.info? 32).map (fun i => (i.zero, i.size, i.bytes)) = some (some (.slice none 0 0), 1, 24) := by kernel_rfl
/-- The blocks of the elements of a row: none is the row's own. -/
def Apart (B T : Nat) (A : Option Addr) (b : Nat) : Prop := B ≤ b ∧ b < T ∧ ∀ ad, A = some ad → b ≠ ad.block
structure AllRel (w : World) (L : List (List Int)) (l i : Value) (wr : World) : Prop where
  ex : ∃ (k : Nat) (A : Option Addr) (c : Nat) (vs : List Value), k ≤ L.length ∧ i = .int .i64 (k : Int) ∧ l = .slice A k c ∧ wr.ownsRow w.heap.size 32 1 (.slice A k c) k vs ∧ Below w.heap.size w wr ∧
    Hid (∀ j, j < k → Slot wr (Apart w.heap.size wr.heap.size A) (vs.getD j undef) (L.getD j []))
theorem own_row0 (B : Nat) (w : World) : w.ownsRow B 32 1 (.slice none 0 0) 0 [] := ⟨by simp, .inl ⟨rfl, rfl⟩⟩
/-- One element more. -/
theorem all_next {w wr w1 w2 w4 : World} {L : List (List Int)} {k : Nat} {A A' A2 : Option Addr} {c c' c2 n2 : Nat} {vs : List Value} {v2 : Value} (hb1 : Below wr.heap.size wr w1) (hb2 : Below w1.heap.size w1 w2)
    (hB : w.heap.size ≤ wr.heap.size)
    (hown : wr.ownsRow w.heap.size 32 1 (.slice A k c) k vs)
    (hs : ∀ j, j < k → Slot wr (Apart w.heap.size wr.heap.size A) (vs.getD j undef) (L.getD j []))
    (ho2 : w2.ownsRow w1.heap.size 52 1 (.slice A2 (L.getD k []).length c2) (L.getD k []).length (U (L.getD k [])))
    (hg : (w2.alloc (.cells #[.slice A2 (L.getD k []).length c2] 32)).grownBy w4 (Value.slice A k c).ownBlock)
    (hrow : (Value.slice A' (k + 1) c').ownBlock = (Value.slice A k c).ownBlock ∨ (Value.slice A' (k + 1) c').ownBlock = some (w2.alloc (.cells #[.slice A2 (L.getD k []).length c2] 32)).heap.size) :
    ∀ j, j < k + 1 → Slot w4 (Apart w.heap.size w4.heap.size A') ((vs ++ [Value.slice A2 (L.getD k []).length c2]).getD j undef) (L.getD j []) := by
  have hvl : vs.length = k := by have := hown.1; simpa using this
  have s1 := hb1.size
  have s2 := hb2.size
  have s3 : (w2.alloc (.cells #[.slice A2 (L.getD k []).length c2] 32)).heap.size = w2.heap.size + 1 := by simp
  have s4 := hg.size
  have ha : ∀ ad, A = some ad → ad.block < wr.heap.size := fun ad e => by
    subst e
    exact (hown.lt ad.block rfl).2
  have hA' : ∀ b, b < w2.heap.size → (∀ ad, A = some ad → b ≠ ad.block) → ∀ ad, A' = some ad → b ≠ ad.block := by
    intro b hb hne ad e
    subst e
    rcases hrow with h | h
    · cases A with
      | none => cases h
      | some a0 =>
        have h' : some ad.block = some a0.block := h
        injection h' with h'
        rw [h']; exact hne a0 rfl
    · have h' : some ad.block = some _ := h
      injection h' with h'
      omega
  have keep : ∀ (b : Nat), b < w2.heap.size → (∀ ad, A = some ad → b ≠ ad.block) → w4.heap[b]? = w2.heap[b]? := fun b hb hne => by
    rw [hg.block b (by omega) (fun e => by
      cases A with
      | none => cases e
      | some a0 =>
        have h' : some b = some a0.block := e
        injection h' with h'
        exact hne a0 rfl h')]
    exact Below.heap_alloc _ _ _ hb
  intro j hj
  by_cases e : j < k
  · have h0 := hs j e
    have h1 := (h0.keep s1 fun b hb _ => hb1.block b hb).keep s2 fun b hb hq => hb2.block b (by unfold Apart at hq; omega)
    have h4 := h1.keep (w' := w4) (by omega) fun b hb hq => keep b hb hq.2.2
    have h5 := h4.more (Q' := Apart w.heap.size w4.heap.size A') fun b hq => ⟨hq.1, by have := hq.2.1; omega, hA' b (by have := hq.2.1; omega) hq.2.2⟩
    simpa [List.getD_eq_getElem?_getD, List.getElem?_append_left (show j < vs.length by omega)] using h5
  · obtain rfl : j = k := by omega
    have hne : ∀ b, w1.heap.size ≤ b → ∀ ad, A = some ad → b ≠ ad.block := fun b hb ad e => by have := ha ad e; omega
    have h4 := (slot_own ho2).keep (w' := w4) (by omega) fun b hb hq => keep b hb (hne b hq.1)
    have h5 := h4.more (Q' := Apart w.heap.size w4.heap.size A') fun b hq => ⟨by omega, by have := hq.2; omega, hA' b hq.2 (hne b hq.1)⟩
    have e2 : (vs ++ [Value.slice A2 (L.getD j []).length c2]).getD j undef = .slice A2 (L.getD j []).length c2 := by
      rw [List.getD_eq_getElem?_getD, ← hvl]; simp
    rw [e2]; exact h5

theorem all_next' {w wr w1 w2 w4 : World} {L : List (List Int)} {k : Nat} {lk : List Int} (hlk : L.getD k [] = lk) {A A' A2 : Option Addr} {c c' c2 : Nat} {vs : List Value} (hb1 : Below wr.heap.size wr w1) (hb2 : Below w1.heap.size w1 w2)
    (hB : w.heap.size ≤ wr.heap.size)
    (hown : wr.ownsRow w.heap.size 32 1 (.slice A k c) k vs)
    (hs : ∀ j, j < k → Slot wr (Apart w.heap.size wr.heap.size A) (vs.getD j undef) (L.getD j []))
    (ho2 : w2.ownsRow w1.heap.size 52 1 (.slice A2 lk.length c2) lk.length (U lk))
    (hg : (w2.alloc (.cells #[.slice A2 lk.length c2] 32)).grownBy w4 (Value.slice A k c).ownBlock)
    (hrow : (Value.slice A' (k + 1) c').ownBlock = (Value.slice A k c).ownBlock ∨ (Value.slice A' (k + 1) c').ownBlock = some (w2.alloc (.cells #[.slice A2 lk.length c2] 32)).heap.size) :
    ∀ j, j < k + 1 → Slot w4 (Apart w.heap.size w4.heap.size A') ((vs ++ [Value.slice A2 lk.length c2]).getD j undef) (L.getD j []) := by
  subst hlk
  exact all_next (n2 := 0) (v2 := undef) hb1 hb2 hB hown hs ho2 hg hrow
theorem all_any (w : World) (Q : Nat → Prop) (g n m f : Nat) (L : List (List Int)) (h : RingF w Q g n m f L) :
    Calls Try.prog 13 #[.pointer (some ⟨g, 0, none⟩)] w fun e w' => ∃ A c vs, e = .returned (.slice A L.length c) ∧ w'.ownsRow w.heap.size 32 1 (.slice A L.length c) L.length vs ∧
      (∀ j, j < L.length → Slot w' (Apart w.heap.size w'.heap.size A) (vs.getD j undef) (L.getD j [])) ∧ Below w.heap.size w w' := by
  obtain ⟨i0, hi, hz0, hz1, hz2⟩ := info_parts row_info
  have hfit := h.fit
  have hroom := h.room
  have HLEN := Lib.hid (len_any w Q g n m f L h)
  have RF := Lib.hid fun (W : World) (hb : Below w.heap.size w W) => h.below hb
  have lb : (L.length : Int) ≤ 32 := by omega
  have SZ := Lib.hid h.size
  clear h
  go_enter Try.func13, Try.ntmps13
  go_wp2_with fail
  refine HLEN.out.mono ?_
  rintro e w1 ⟨rfl, hb1⟩
  go_wp2_with fail
  go_loopw [3, 7] (fun l i wr => AllRel w L l i wr) (fun _ i _ => L.length - (intOf i).toNat)
  case atStart => exact ⟨⟨0, none, 0, [], by omega, rfl, rfl, own_row0 _ _, hb1, fun j hj => by omega⟩⟩
  case round =>
    clear hb1
    obtain ⟨⟨k, A, c, vs, hk, rfl, rfl, hown, hb, hs⟩⟩ := hrel
    by_cases hlt : k < L.length
    · have R := RF.out wr hb
      obtain ⟨j, hj⟩ : ∃ j, Hid ((f + k) % n = j) := ⟨_, rfl⟩
      have SL := Lib.hid (slot_any wr Q g n m f L R k j (by omega) hj.out)
      have HR := Lib.hid R
      have HB := Lib.hid hb
      have HO := Lib.hid hown
      clear R hb hown
      go_wp2_with fail
      refine SL.out.mono ?_
      rintro e w2 ⟨rfl, hb2⟩
      obtain ⟨v, hc, hsl⟩ := (HR.out.below hb2).msg k hlt
      obtain ⟨lk, hlk⟩ : ∃ lk, Hid (L.getD k [] = lk) := ⟨_, rfl⟩
      have SZ2 := SZ.out k hlt
      rw [hj.out] at hc
      rw [hlk.out] at hsl SZ2
      obtain ⟨A', c', hv, hA, hr, _⟩ := hsl.ex
      subst hv
      have HCL := Lib.hid (clone_any A' _ c' _ w2 hA hr (by omega))
      have HB2 := Lib.hid hb2
      clear hb2 hsl hr hA SZ2 SL
      go_wp2_with fail
      refine HCL.out.mono ?_
      rintro e w3 ⟨A3, c3, rfl, ho3, hb3⟩
      have HB3 := Lib.hid hb3
      have HO3 := Lib.hid ho3
      have hbW : Below w.heap.size w w3 := HB.out.trans ((HB2.out.mono HB.out.size).trans (hb3.mono (Nat.le_trans HB.out.size HB2.out.size)))
      have hown3 : w3.ownsRow w.heap.size 32 1 (.slice A k c) k vs := own_below (own_below HO.out HB2.out) hb3
      clear hb3 ho3 HCL
      go_wp2_with (at_builtin; refine wpList_append_any _ rfl (.tmp 10) (.tmp 17) _ rfl w.heap.size 32 i0 _ 1 24 Try.underlying24 hi hz0 hz1 hz2 rfl (by omega) (.slice A k c) k vs rfl (own_below hown3 ((Below.refl _ _).alloc (Nat.le_refl _) _)) _ (some ⟨w3.heap.size, 0, none⟩) 1 1 [.slice A3 lk.length c3] rfl (reads_new w3 [.slice A3 lk.length c3] 32) (by intro u hu; simp at hu; subst hu; rfl) ?c2 ?c3 ?c4 ?_)
      case c2 => unfold maxLen; omega
      case c3 => omega
      case c4 => have := hbW.size; simp; omega
      intro v4 w4 hown4 hg4 hrow4
      obtain ⟨A4, c4, hv⟩ := slice_form hown4
      subst hv
      have hbelow : Below w.heap.size w w4 := (hbW.alloc hbW.size _).grown hg4 (by have := hbW.size; simp; omega) (fun q hq => (HO.out.lt q hq).1)
      have hs4 := Lib.hid (all_next' hlk.out HB2.out HB3.out HB.out.size HO.out hs.out HO3.out hg4 (A' := A4) (c' := c4) (by rw [show (w3.alloc (Obj.cells #[Value.slice A3 lk.length c3] 32)).heap.size = w3.heap.size + 1 by simp]; exact hrow4))
      have HOW := Lib.hid hown4
      have HBL := Lib.hid hbelow
      clear hbW hown3 hg4 hrow4 hown4 hbelow hc
      go_wp2_with fail
      go_roundw
      case rel => first | exact ⟨⟨k + 1, A4, c4, _, by omega, by go_num, rfl, HOW.out, HBL.out, hs4.out⟩⟩ | ((repeat apply Exists.intro); exact ⟨⟨⟨k + 1, A4, c4, _, by omega, by go_num, rfl, HOW.out, HBL.out, hs4.out⟩⟩, rfl⟩)
      case measure => simp [intOf]; omega
    · obtain rfl : k = L.length := by omega
      have HO := Lib.hid hown
      have HB := Lib.hid hb
      clear hown hb
      go_wp2_with fail
      go_ret
      exact ⟨A, c, vs, rfl, HO.out, hs.out, HB.out⟩
end Go.Proofs.Ytpejmkdmjlfgpaa
