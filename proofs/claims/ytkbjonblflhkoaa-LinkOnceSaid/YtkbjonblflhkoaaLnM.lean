/-
  Senders as plain things, and how they read in memory. Each statement bears its own conditions.
-/
import Derived.Test.YtkbjonblflhkoaaMsg
namespace Go.Proofs.Ytkbjonblflhkoaa.Ln
open Go.RowKit Go.Proofs.Ytkbjonblflhkoaa.F Go.Proofs.Ytkbjonblflhkoaa.U Go.Proofs.Ytkbjonblflhkoaa.Q
set_option linter.unusedVariables false
set_option linter.unusedSimpArgs false
theorem ne_sq : (33 : TypeId) ≠ 87 := by decide
theorem ne_uq : (47 : TypeId) ≠ 87 := by decide
/-- All of a sender but its messages. -/
structure SS where
  gap : Int
  words : Int
  room : Int
  next : Int
  sent : Bool
  last : Int
/-- What holds of all senders. -/
structure SS.ok (s : SS) : Prop where
  g : 0 ≤ s.gap ∧ s.gap ≤ 1048576
  w : 1 ≤ s.words ∧ s.words ≤ 32
  r : 1 ≤ s.room ∧ s.room ≤ 32
  n : 0 ≤ s.next ∧ s.next < 256
  l : 0 ≤ s.last ∧ s.last ≤ 1099511627776
  z : s.sent = false → s.last = 0
/-- A sender lies in block g; the blocks that change are those of which p holds, none below lo; messages lie in blocks of which r holds. -/
structure SV (lo : Nat) (w : World) (p r : Nat → Prop) (g : Nat) (s : SS) (LL : List (List Int)) : Prop where
  low : ∀ b, p b → lo ≤ b ∧ b < w.heap.size
  ty : Ty w p
  pg : p g
  ex : ∃ vm S, w.heap[g]? = some (.cells #[.int .i64 s.gap, .int .i64 s.words, .int .i64 s.room, .int .i64 s.next, .bool s.sent, .int .i64 s.last, vm] 87 (0, 0)) ∧ Ow 33 w p vm LL.length (CS S) ∧ Ms w r S LL
  ok : s.ok
  bd : (LL.length : Int) ≤ s.room ∧ ∀ L ∈ LL, (L.length : Int) ≤ s.words
section
variable {lo : Nat} {w w' : World} {p r q : Nat → Prop} {g : Nat} {s : SS} {LL : List (List Int)}
theorem SV.lt (h : SV lo w p r g s LL) : g < w.heap.size := (h.low g h.pg).2
theorem SV.nil (h : SV lo w p r g s LL) : lo ≤ w.heap.size := by have := h.low g h.pg; omega
theorem SV.few (h : SV lo w p r g s LL) : LL.length ≤ 32 ∧ ∀ L ∈ LL, L.length ≤ 32 := by
  have h1 := h.bd
  have h2 := h.ok.w
  have h3 := h.ok.r
  exact ⟨by omega, fun L hL => by have := h1.2 L hL; omega⟩
theorem SV.keep (h : SV lo w p r g s LL) (hs : w.heap.size ≤ w'.heap.size) (hk : ∀ b, b < w.heap.size → p b → w'.heap[b]? = w.heap[b]?) (hm : ∀ S, Ms w r S LL → Ms w' r S LL) : SV lo w' p r g s LL := by
  obtain ⟨vm, S, a, b, c⟩ := h.ex
  exact ⟨fun b hb => ⟨(h.low b hb).1, Nat.lt_of_lt_of_le (h.low b hb).2 hs⟩, h.ty.keep hk fun b hb => (h.low b hb).2, h.pg, ⟨vm, S, (hk g h.lt h.pg).trans a, (b.keep hs hk).imp fun _ _ h => h.2, hm S c⟩, h.ok, h.bd⟩
theorem SV.below (h : SV lo w p r g s LL) (hb : Below w.heap.size w w') : SV lo w' p r g s LL := h.keep hb.size (fun b h1 _ => hb.block b h1) fun S m => m.below hb
theorem SV.fo (h : SV lo w p r g s LL) (hf : Fo q w w') (hd : ∀ b, p b → ¬ q b) (hr : ∀ b, r b → ¬ q b) : SV lo w' p r g s LL := h.keep hf.size (fun b h1 h2 => hf.block b h1 (hd b h2)) fun S m => m.fo hf hr
theorem SV.fot (h : SV lo w p r g s LL) (hf : Fo q w w') (hd : ∀ b, p b → ¬ q b) (ht : Ty w q) : SV lo w' p r g s LL := h.keep hf.size (fun b h1 h2 => hf.block b h1 (hd b h2)) fun S m => m.fot hf ht
theorem SV.less {lo' : Nat} (h : SV lo w p r g s LL) (hl : lo' ≤ lo) : SV lo' w p r g s LL := ⟨fun b hb => ⟨Nat.le_trans hl (h.low b hb).1, (h.low b hb).2⟩, h.ty, h.pg, h.ex, h.ok, h.bd⟩
theorem SV.nx (h : SV lo w p r g s LL) (x : Nx p q w w') : Below lo w w' := x.fo.below (fun b hb => (h.low b hb).1) h.nil
/-- The cells of a sender. -/
theorem SV.seven (h : SV lo w p r g s LL) : ∃ Am cm S, w.heap[g]? = some (.cells #[.int .i64 s.gap, .int .i64 s.words, .int .i64 s.room, .int .i64 s.next, .bool s.sent, .int .i64 s.last, .slice Am LL.length cm] 87 (0, 0)) ∧ Ow 33 w p (.slice Am LL.length cm) LL.length (CS S) ∧ Ms w r S LL := by
  obtain ⟨vm, S, a, b, c⟩ := h.ex
  obtain ⟨Am, cm, rfl⟩ := b.sl
  exact ⟨Am, cm, S, a, b, c⟩
end
/-- Behind a change: a list of messages is laid into the sender. -/
theorem SV.lay2 {lo : Nat} {w w5 wF : World} {p r P2 x : Nat → Prop} {g : Nat} {s s' s'' : SS} {LL LL2 : List (List Int)} {v2 v1 : Value} {m2 : Nat} {S2 : List Sl} (h : SV lo w p r g s LL)
    (hg : w5.heap[g]? = some (.cells #[.int .i64 s''.gap, .int .i64 s''.words, .int .i64 s''.room, .int .i64 s''.next, .bool s''.sent, .int .i64 s''.last, v1] 87 (0, 0))) (ho : Ow 33 w5 P2 v2 m2 (CS S2)) (hm : Ms w5 r S2 LL2) (hf : Fo p w w5) (hP : ∀ b, v2.ownBlock = some b → p b ∨ w.heap.size ≤ b)
    (hok : s'.ok) (hb : (LL2.length : Int) ≤ s'.room ∧ ∀ L ∈ LL2, (L.length : Int) ≤ s'.words) (hgF : wF.heap[g]? = some (.cells #[.int .i64 s'.gap, .int .i64 s'.words, .int .i64 s'.room, .int .i64 s'.next, .bool s'.sent, .int .i64 s'.last, v2] 87 (0, 0))) (hfF : Fo x w5 wF)
    (hx : ∀ b, x b → b = g ∨ w.heap.size ≤ b) (hxv : ∀ b, v2.ownBlock = some b → ¬ x b) (hxt : Ty w5 x) :
    ∃ q, SV lo wF q r g s' LL2 ∧ Nx p q w wF := by
  have hlt := h.lt
  have hnl := h.nil
  have hsz := hf.size
  have hszF := hfF.size
  have hmm : m2 = LL2.length := by have := ho.len; rw [hm.mr.len2] at this; exact this.symm
  subst hmm
  have ho1 : Ow 33 w5 (fun b => P2 b ∧ ¬ x b) v2 LL2.length (CS S2) := ⟨ho.own, fun b hb => ⟨⟨(ho.at_ b hb).1, hxv b hb⟩, (ho.at_ b hb).2⟩⟩
  have ho2 : Ow 33 wF (fun b => P2 b ∧ ¬ x b) v2 LL2.length (CS S2) := ho1.fo hfF fun b hb => hb.2
  refine ⟨fun b => b = g ∨ v2.ownBlock = some b, ⟨fun b hb => ?_, fun b hb _ => ?_, .inl rfl, ⟨v2, S2, hgF, ⟨ho2.own, fun b hb => ⟨.inr hb, (ho2.at_ b hb).2⟩⟩, hm.fot hfF hxt⟩, hok, hb⟩, hf.trans hfF fun i hi => by
    rcases hx i hi with h1 | h1
    · exact .inl (by rw [h1]; exact h.pg)
    · exact .inr h1, fun b hb => ?_⟩
  · rcases hb with hb | hb
    · subst hb; have := (h.low _ h.pg).1; omega
    · have h1 := (ho2.at_ b hb).2
      rcases hP b hb with h2 | h2
      · have := (h.low b h2).1; omega
      · omega
  · rcases hb with hb | hb
    · subst hb; exact ⟨_, _, _, hgF, fun e => ne_uq e.symm⟩
    · rcases ho2.form with ⟨h0, _⟩ | ⟨b1, cap, cur, hv, _, _, hg1, _⟩
      · rw [h0] at hb; cases hb
      · rw [hv] at hb
        injection hb with hb
        have hb : b1 = b := hb
        subst hb
        exact ⟨_, _, _, hg1, fun e => ne_us e.symm⟩
  · rcases hb with hb | hb
    · exact .inl (by rw [hb]; exact h.pg)
    · exact hP b hb
theorem SV.lay {lo : Nat} {w w5 wF : World} {p r P2 : Nat → Prop} {g : Nat} {s s' s'' : SS} {LL LL2 : List (List Int)} {v2 v1 : Value} {m2 : Nat} {S2 : List Sl} (h : SV lo w p r g s LL)
    (hg : w5.heap[g]? = some (.cells #[.int .i64 s''.gap, .int .i64 s''.words, .int .i64 s''.room, .int .i64 s''.next, .bool s''.sent, .int .i64 s''.last, v1] 87 (0, 0))) (ho : Ow 33 w5 P2 v2 m2 (CS S2)) (hm : Ms w5 r S2 LL2) (hf : Fo p w w5) (hP : ∀ b, v2.ownBlock = some b → p b ∨ w.heap.size ≤ b)
    (hok : s'.ok) (hb : (LL2.length : Int) ≤ s'.room ∧ ∀ L ∈ LL2, (L.length : Int) ≤ s'.words) (hgF : wF.heap[g]? = some (.cells #[.int .i64 s'.gap, .int .i64 s'.words, .int .i64 s'.room, .int .i64 s'.next, .bool s'.sent, .int .i64 s'.last, v2] 87 (0, 0))) (hfF : Fo (fun b => b = g) w5 wF) :
    ∃ q, SV lo wF q r g s' LL2 ∧ Nx p q w wF :=
  h.lay2 hg ho hm hf hP hok hb hgF hfF (fun b hb => .inl hb) (fun b hb => (((ho.not hg ne_sq).at_ b hb).1).2) (fun b hb _ => by subst hb; exact ⟨_, _, _, hg, fun e => ne_uq e.symm⟩)
def sizeB (n : Int) : Bool := decide (1 ≤ n) && decide (n ≤ 32)
theorem sizeB_iff (n : Int) : sizeB n = true ↔ 1 ≤ n ∧ n ≤ 32 := by unfold sizeB; simp
theorem size_any (n : Int) (w : World) : Calls Try.prog 32 #[.int .i64 n] w fun e w' => e = .returned (.bool (sizeB n)) ∧ w' = w := by
  by_cases h1 : 1 ≤ n
  · by_cases h2 : n ≤ 32
    · have e1 : decide (1 ≤ n) = true := by simpa using h1
      have e2 : decide (n ≤ 32) = true := by simpa using h2
      have hs : Hid (sizeB n = true) := (sizeB_iff n).2 ⟨h1, h2⟩
      clear h1 h2
      go_enter Try.func32, Try.ntmps32
      go_wp2_with fail
      go_ret
      exact ⟨by rw [hs.out]; rfl, rfl⟩
    · have e1 : decide (1 ≤ n) = true := by simpa using h1
      have e2 : decide (n ≤ 32) = false := by simpa using h2
      have hs : Hid (sizeB n = false) := by unfold Hid sizeB; rw [e1, e2]; rfl
      clear h1 h2
      go_enter Try.func32, Try.ntmps32
      go_wp2_with fail
      go_ret
      exact ⟨by rw [hs.out]; rfl, rfl⟩
  · have e1 : decide (1 ≤ n) = false := by simpa using h1
    have hs : Hid (sizeB n = false) := by unfold Hid sizeB; rw [e1]; rfl
    clear h1
    go_enter Try.func32, Try.ntmps32
    go_wp2_with fail
    go_ret
    exact ⟨by rw [hs.out]; rfl, rfl⟩
theorem new_any (r : Nat → Prop) (gap words room : Int) (w : World) (hg : 0 ≤ gap ∧ gap ≤ 1048576) (hw : 1 ≤ words ∧ words ≤ 32) (hr : 1 ≤ room ∧ room ≤ 32) : Calls Try.prog 13 #[.int .i64 gap, .int .i64 words, .int .i64 room] w fun e w' => e = .returned (.tuple #[.pointer (some ⟨w.heap.size, 0, none⟩), .int .i64 0]) ∧ SV w.heap.size w' (fun b => b = w.heap.size) r w.heap.size ⟨gap, words, room, 0, false, 0⟩ [] ∧ Below w.heap.size w w' := by
  have HO : Hid (SS.ok ⟨gap, words, room, 0, false, 0⟩) := ⟨hg, hw, hr, ⟨by simp, by simp⟩, ⟨by simp, by simp⟩, fun _ => rfl⟩
  have C1 := Lib.hid (size_any words w)
  have C2 := Lib.hid (size_any room w)
  rw [(sizeB_iff words).2 hw] at C1
  rw [(sizeB_iff room).2 hr] at C2
  have e1 : decide (gap < 0) = false := by have := hg.1; simpa using this
  have e2 : decide (1048576 < gap) = false := by have := hg.2; simpa using this
  clear hg hw hr
  go_enter Try.func13, Try.ntmps13
  go_wp2_with fail
  refine C1.out.mono ?_
  rintro e w1 ⟨rfl, hw1⟩
  rw [hw1]
  clear hw1
  go_wp2_with fail
  refine C2.out.mono ?_
  rintro e w1 ⟨rfl, hw1⟩
  rw [hw1]
  clear hw1
  go_wp2_with fail
  go_ret2
  exact ⟨rfl, ⟨fun b hb => by subst hb; simp, fun b hb _ => by subst hb; exact ⟨_, _, _, heap_alloc_new w _, fun e => ne_uq e.symm⟩, rfl, ⟨_, [], heap_alloc_new w _, Ow.nil _ _ _, Ms.nil _ _⟩, HO.out, by have := HO.out.r; simp at this ⊢; omega⟩, (Below.refl _ _).alloc (Nat.le_refl _) _⟩
theorem new_bad (gap words room : Int) (w : World) (h : ¬ ((0 ≤ gap ∧ gap ≤ 1048576) ∧ (1 ≤ words ∧ words ≤ 32) ∧ (1 ≤ room ∧ room ≤ 32))) : Calls Try.prog 13 #[.int .i64 gap, .int .i64 words, .int .i64 room] w fun e w' => e = .returned (.tuple #[.pointer none, .int .i64 1]) ∧ w' = w := by
  have C1 := Lib.hid (size_any words w)
  have C2 := Lib.hid (size_any room w)
  by_cases h0 : gap < 0
  · have g0 : decide (gap < 0) = true := by simpa using h0
    clear h h0
    go_enter Try.func13, Try.ntmps13
    go_wp2_with fail
    go_ret2
    exact ⟨rfl, rfl⟩
  have g0 : decide (gap < 0) = false := by simpa using h0
  by_cases h1 : 1048576 < gap
  · have g1 : decide (1048576 < gap) = true := by simpa using h1
    clear h h0 h1
    go_enter Try.func13, Try.ntmps13
    go_wp2_with fail
    go_ret2
    exact ⟨rfl, rfl⟩
  have g1 : decide (1048576 < gap) = false := by simpa using h1
  by_cases h2 : 1 ≤ words ∧ words ≤ 32
  · rw [(sizeB_iff words).2 h2] at C1
    have h3 : sizeB room = false := by
      cases hq : sizeB room with
      | false => rfl
      | true => exact absurd ⟨⟨by omega, by omega⟩, h2, (sizeB_iff room).1 hq⟩ h
    rw [h3] at C2
    clear h h0 h1 h2 h3
    go_enter Try.func13, Try.ntmps13
    go_wp2_with fail
    refine C1.out.mono ?_
    rintro e w1 ⟨rfl, hw1⟩
    rw [hw1]
    clear hw1
    go_wp2_with fail
    refine C2.out.mono ?_
    rintro e w1 ⟨rfl, hw1⟩
    rw [hw1]
    clear hw1
    go_wp2_with fail
    go_ret2
    exact ⟨rfl, rfl⟩
  · have h3 : sizeB words = false := by
      cases hq : sizeB words with
      | false => rfl
      | true => exact absurd ((sizeB_iff words).1 hq) h2
    rw [h3] at C1
    clear h h0 h1 h2 h3
    go_enter Try.func13, Try.ntmps13
    go_wp2_with fail
    refine C1.out.mono ?_
    rintro e w1 ⟨rfl, hw1⟩
    rw [hw1]
    clear hw1
    go_wp2_with fail
    go_ret2
    exact ⟨rfl, rfl⟩
theorem waiting_any (lo : Nat) (p r : Nat → Prop) (g : Nat) (s : SS) (LL : List (List Int)) (w : World) (h : SV lo w p r g s LL) : Calls Try.prog 16 #[.pointer (some ⟨g, 0, none⟩)] w fun e w' => e = .returned (.int .i64 (LL.length : Int)) ∧ w' = w := by
  obtain ⟨Am, cm, S, a, b, c⟩ := h.seven
  have d0 : w.cell? ⟨g, 0, none⟩ = some (.int .i64 s.gap) := by rw [(row_cell a 0).1]; rfl
  have d1 : w.cell? ⟨g, 1, none⟩ = some (.int .i64 s.words) := by rw [(row_cell a 1).1]; rfl
  have d2 : w.cell? ⟨g, 2, none⟩ = some (.int .i64 s.room) := by rw [(row_cell a 2).1]; rfl
  have d3 : w.cell? ⟨g, 3, none⟩ = some (.int .i64 s.next) := by rw [(row_cell a 3).1]; rfl
  have d4 : w.cell? ⟨g, 4, none⟩ = some (.bool s.sent) := by rw [(row_cell a 4).1]; rfl
  have d5 : w.cell? ⟨g, 5, none⟩ = some (.int .i64 s.last) := by rw [(row_cell a 5).1]; rfl
  have d6 : w.cell? ⟨g, 6, none⟩ = some (.slice Am LL.length cm) := by rw [(row_cell a 6).1]; rfl
  have hl : LL.length ≤ 32 := h.few.1
  clear a b c h d0 d1 d2 d3 d4 d5
  obtain ⟨nm, hnm⟩ : ∃ k, LL.length = k := ⟨_, rfl⟩
  rw [hnm] at d6 hl ⊢
  go_enter Try.func16, Try.ntmps16
  go_wp2_with fail
  go_ret
  exact ⟨rfl, rfl⟩
theorem waiting_nil (w : World) : Calls Try.prog 16 #[.pointer none] w fun e w' => e = .returned (.int .i64 0) ∧ w' = w := by
  go_enter Try.func16, Try.ntmps16
  go_wp2_with fail
  go_ret
  exact ⟨rfl, rfl⟩
end Go.Proofs.Ytkbjonblflhkoaa.Ln
