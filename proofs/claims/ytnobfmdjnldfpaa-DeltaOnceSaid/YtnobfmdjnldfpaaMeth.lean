/-
  The contracts of New, Len, At, Next, Drop. Each statement bears its own conditions.
-/
import Derived.Test.YtnobfmdjnldfpaaUntil
namespace Go.Proofs.Ytnobfmdjnldfpaa
open Go.RowKit
set_option linter.unusedVariables false
set_option linter.unusedSimpArgs false
/-- But for two blocks all is as it was. -/
structure Ch (g rb : Nat) (w w' : World) : Prop where
  os : w'.os = w.os
  tape : w'.tape = w.tape
  output : w'.output = w.output
  size : w.heap.size ≤ w'.heap.size
  block : ∀ k, k < w.heap.size → k ≠ g → k ≠ rb → w'.heap[k]? = w.heap[k]?
theorem Ch.refl (g rb : Nat) (w : World) : Ch g rb w w := ⟨rfl, rfl, rfl, Nat.le_refl _, fun _ _ _ _ => rfl⟩
theorem Ch.of_below {g rb : Nat} {w w' : World} (h : Below w.heap.size w w') : Ch g rb w w' := ⟨h.os, h.tape, h.output, h.size, fun k hk _ _ => h.block k hk⟩
theorem Ch.of_past {g rb : Nat} {w w' : World} (h : Past rb w w') : Ch g rb w w' := ⟨h.os, h.tape, h.output, h.size, fun k hk _ h2 => h.block k hk h2⟩
theorem Ch.trans {g rb rb' : Nat} {a b c : World} (h : Ch g rb a b) (k : Ch g rb' b c) (hr : rb' = rb ∨ a.heap.size ≤ rb') : Ch g rb a c :=
  ⟨k.os.trans h.os, k.tape.trans h.tape, k.output.trans h.output, Nat.le_trans h.size k.size, fun i hi hg hrb => (k.block i (Nat.lt_of_lt_of_le hi h.size) hg (by rcases hr with hr | hr <;> omega)).trans (h.block i hi hg hrb)⟩
theorem Ch.set {g rb : Nat} {a w : World} (h : Ch g rb a w) (j : Nat) (u : Value) : Ch g rb a (w.setCell ⟨g, j, none⟩ u) :=
  ⟨h.os, h.tape, h.output, by simpa [World.setCell] using h.size, fun i hi hg hrb => (Below.heap_setCell _ _ _ _ hg).trans (h.block i hi hg hrb)⟩
theorem Ch.below {g rb B : Nat} {w w' : World} (h : Ch g rb w w') (hg : B ≤ g) (hr : B ≤ rb) (hB : B ≤ w.heap.size) : Below B w w' := ⟨h.os, h.tape, h.output, h.size, fun k hk => h.block k (by omega) (by omega) (by omega)⟩
theorem TF.ch {w w' : World} {g rb g2 rb2 : Nat} {L : List (Int × Int)} (h : TF w g2 rb2 L) (c : Ch g rb w w') (h1 : g2 ≠ g) (h2 : g2 ≠ rb) (h3 : rb2 ≠ g) (h4 : rb2 ≠ rb) : TF w' g2 rb2 L :=
  h.keep c.size (c.block g2 h.lt h1 h2) (c.block rb2 h.rlt h3 h4)
/-- The list is stored back. -/
theorem TF.store {w : World} {g rb : Nat} {L0 : List (Int × Int)} {v0 v : Value} {L : List (Int × Int)} (hlt : g < w.heap.size) (hc : w.cell? ⟨g, 0, none⟩ = some v0) (hf : ∀ o, w.frozen? ⟨g, o, none⟩ = false) (hr : RowV w v rb L) (hne : rb ≠ g) (hrl : rb < w.heap.size) : TF (w.setCell ⟨g, 0, none⟩ v) g rb L := by
  refine ⟨by simpa [World.setCell] using hlt, fun o => by rw [World.frozen?_setCell]; exact hf o, by simpa [World.setCell] using hrl, v, World.cell?_setCell_same' _ _ _ (by rw [hc]; rfl), hr.keep (.inr (Below.heap_setCell _ _ _ _ hne)), .inr hne⟩
theorem new_any (w : World) : Calls Try.prog 10 #[] w fun e w' => e = .returned (.pointer (some ⟨w.heap.size, 0, none⟩)) ∧ TF w' w.heap.size w.heap.size [] ∧ Below w.heap.size w w' := by
  go_enter Try.func10, Try.ntmps10
  go_wp2_with fail
  go_ret
  refine ⟨rfl, ⟨by simp, fun o => by simp, by simp, .slice none 0 0, by rw [World.cell?_alloc_new]; rfl, ⟨⟨rfl, .inl ⟨rfl, rfl⟩⟩, fun b hb => by cases hb⟩, .inl ⟨rfl, rfl⟩⟩, (Below.refl _ _).alloc (Nat.le_refl _) _⟩
theorem len_any (g rb : Nat) (L : List (Int × Int)) (w : World) (h : TF w g rb L) :
    Calls Try.prog 22 #[.pointer (some ⟨g, 0, none⟩)] w fun e w' => e = .returned (.int .i64 (L.length : Int)) ∧ w' = w := by
  obtain ⟨v, hc, hr, _⟩ := h.ex
  obtain ⟨A, c, rfl, _⟩ := hr.slice
  obtain ⟨n, hn⟩ : ∃ n, L.length = n := ⟨_, rfl⟩
  rw [hn] at hc ⊢
  clear h hr hn
  go_enter Try.func22, Try.ntmps22
  go_wp2_with fail
  go_ret
  exact ⟨rfl, rfl⟩
/-- What stands at an id: its tick, or 0. -/
def atV (L : List (Int × Int)) (id : Int) : Int := if pos L id < L.length then (L.getD (pos L id) (0, 0)).2 else 0
def hasB (L : List (Int × Int)) (id : Int) : Bool := decide (pos L id < L.length)
theorem pos_le (L : List (Int × Int)) (id : Int) : pos L id ≤ L.length := List.findIdx_le_length
theorem at_any (g rb : Nat) (id : Int) (L : List (Int × Int)) (w : World) (h : TF w g rb L) (hL : L.length ≤ 1000) :
    Calls Try.prog 25 #[.pointer (some ⟨g, 0, none⟩), .int .i64 id] w fun e w' => e = .returned (.tuple #[.int .i64 (atV L id), .bool (hasB L id)]) ∧ Below w.heap.size w w' := by
  have FI := find_any g rb id L w h hL
  have HT := Lib.hid h
  by_cases hp : pos L id < L.length
  · obtain ⟨p, hpp⟩ : ∃ p, pos L id = p := ⟨_, rfl⟩
    unfold atV hasB
    unfold posI at FI
    rw [if_pos hp] at FI ⊢
    rw [decide_eq_true hp]
    rw [hpp] at FI hp ⊢
    have HF := Lib.hid FI
    have HP := Lib.hid hp
    obtain ⟨y, hy⟩ : ∃ y, Hid ((L.getD p (0, 0)).2 = y) := ⟨_, rfl⟩
    have hp0 : (0 : Int) ≤ (p : Int) := by omega
    clear h hL FI hp hpp
    rw [hy.out]
    go_enter Try.func25, Try.ntmps25
    go_wp2_with fail
    refine HF.out.mono ?_
    rintro e w1 ⟨rfl, b1⟩
    have HT1 := HT.out.below b1
    obtain ⟨v, hc, hr, _⟩ := HT1.ex
    obtain ⟨⟨c, rfl⟩, _, d1, _⟩ := hr.cells p HP.out
    obtain ⟨n, hn⟩ : ∃ n, Hid (L.length = n) := ⟨_, rfl⟩
    rw [hn.out] at hc
    rw [hy.out] at d1
    have hpn : (p : Int) < (n : Int) := by have := HP.out; have := hn.out; omega
    clear HF hr HT1
    go_wp2_with fail
    go_ret2
    exact ⟨rfl, b1⟩
  · unfold atV hasB
    unfold posI at FI
    rw [if_neg hp] at FI ⊢
    rw [decide_eq_false hp]
    have HF := Lib.hid FI
    clear h hL FI hp
    go_enter Try.func25, Try.ntmps25
    go_wp2_with fail
    refine HF.out.mono ?_
    rintro e w1 ⟨rfl, b1⟩
    clear HF
    go_wp2_with fail
    go_ret2
    exact ⟨rfl, b1⟩
theorem next_any (g rb : Nat) (L : List (Int × Int)) (w : World) (h : TF w g rb L) :
    Calls Try.prog 26 #[.pointer (some ⟨g, 0, none⟩)] w fun e w' => e = .returned (.tuple #[.int .i64 (L.headD (0, 0)).2, .bool (decide (0 < L.length))]) ∧ w' = w := by
  obtain ⟨v, hc, hr, _⟩ := h.ex
  cases L with
  | nil =>
    obtain ⟨A, c, rfl, _⟩ := hr.slice
    simp only [List.length_nil] at hc
    clear h hr
    go_enter Try.func26, Try.ntmps26
    go_wp2_with fail
    go_ret2
    exact ⟨rfl, rfl⟩
  | cons x M =>
    obtain ⟨⟨c, rfl⟩, _, d1, _⟩ := hr.cells 0 (by simp)
    obtain ⟨n, hn⟩ : ∃ n, (x :: M).length = n := ⟨_, rfl⟩
    have hn0 : 0 < n := by rw [← hn]; simp
    have hnI : (0 : Int) < (n : Int) := by omega
    have hne : ((n : Int) == 0) = false := by rw [beq_eq_false_iff_ne]; omega
    rw [hn] at hc ⊢
    rw [decide_eq_true hn0]
    obtain ⟨y, hy⟩ : ∃ y, x.2 = y := ⟨_, rfl⟩
    simp only [List.getD_cons_zero, List.headD_cons, Nat.zero_mul, Nat.zero_add, hy] at d1 ⊢
    clear h hr hn hy hn0
    go_enter Try.func26, Try.ntmps26
    go_wp2_with fail
    go_ret2
    exact ⟨rfl, rfl⟩
/-- Without an id. -/
def del (L : List (Int × Int)) (id : Int) : List (Int × Int) := if pos L id < L.length then L.take (pos L id) ++ L.drop (pos L id + 1) else L
theorem del_len (L : List (Int × Int)) (id : Int) : (del L id).length ≤ L.length := by
  unfold del; split
  · simp; omega
  · exact Nat.le_refl _
theorem drop_any (g rb : Nat) (id : Int) (L : List (Int × Int)) (w : World) (h : TF w g rb L) (hL : L.length ≤ 1000) :
    Calls Try.prog 16 #[.pointer (some ⟨g, 0, none⟩), .int .i64 id] w fun e w' => e = .returned (.bool (hasB L id)) ∧ TF w' g rb (del L id) ∧ Ch g rb w w' := by
  have FI := find_any g rb id L w h hL
  have HT := Lib.hid h
  have HL := Lib.hid hL
  by_cases hp : pos L id < L.length
  · obtain ⟨p, hpp⟩ : ∃ p, pos L id = p := ⟨_, rfl⟩
    unfold del hasB
    unfold posI at FI
    rw [if_pos hp] at FI ⊢
    rw [decide_eq_true hp]
    rw [hpp] at FI hp ⊢
    obtain ⟨D, hD⟩ : ∃ D, L.take p ++ L.drop (p + 1) = D := ⟨_, rfl⟩
    rw [hD]
    have HD := Lib.hid hD
    clear hD
    have HF := Lib.hid FI
    have HP := Lib.hid hp
    have hp0 : (0 : Int) ≤ (p : Int) := by omega
    have hp1 : IntKind.i64.wrap ((p : Int) + 1) = (p : Int) + 1 := by rw [IntKind.wrap_i64]; omega
    clear h hL FI hp hpp
    go_enter Try.func16, Try.ntmps16
    go_wp2_with fail
    refine HF.out.mono ?_
    rintro e w1 ⟨rfl, b1⟩
    have HT1 := HT.out.below b1
    obtain ⟨v, hc, hr, hne⟩ := HT1.ex
    have hne' : rb ≠ g := by
      rcases hne with ⟨hv, _⟩ | hne
      · obtain ⟨⟨c, h1⟩, _⟩ := hr.cells p HP.out
        rw [h1] at hv; cases hv
      · exact hne
    have DE := Lib.hid (delete_any v rb p (p + 1) L w1 hr (by omega) HP.out HL.out)
    simp only [Int.natCast_add, Int.natCast_one] at DE
    have HH1 := Lib.hid HT1
    have HB1 := Lib.hid b1
    have HNE := Lib.hid hne'
    rw [HD.out] at DE
    clear HF hr HT1 hne hne' b1
    go_wp2_with fail
    refine DE.out.mono ?_
    rintro e w2 ⟨v', rfl, hr', hp'⟩
    obtain ⟨A', c', hv', _⟩ := hr'.slice
    obtain ⟨n', hn'⟩ : ∃ n', Hid (D.length = n') := ⟨_, rfl⟩
    rw [hn'.out] at hv'
    subst hv'
    have hgb := hp'.block g HH1.out.lt HNE.out.symm
    have k0 : w2.cell? ⟨g, 0, none⟩ = some v := (World.cell?_of_block (a := ⟨g, 0, none⟩) hgb).trans hc
    have kf : ∀ o, w2.frozen? ⟨g, o, none⟩ = false := fun o => (World.frozen?_of_block (a := ⟨g, o, none⟩) hgb).trans (HH1.out.fz o)
    have HS := Lib.hid (TF.store (L0 := L) (Nat.lt_of_lt_of_le HH1.out.lt hp'.size) k0 kf hr' HNE.out (Nat.lt_of_lt_of_le HH1.out.rlt hp'.size))
    have HC := Lib.hid (((Ch.of_below (g := g) (rb := rb) HB1.out).trans (Ch.of_past hp') (.inl rfl)).set 0 (.slice A' n' c'))
    clear hr' hp' hgb DE
    go_wp2_with fail
    go_ret
    exact ⟨rfl, HS.out, HC.out⟩
  · unfold del hasB
    unfold posI at FI
    rw [if_neg hp] at FI ⊢
    rw [decide_eq_false hp]
    have HF := Lib.hid FI
    clear h hL FI hp
    go_enter Try.func16, Try.ntmps16
    go_wp2_with fail
    refine HF.out.mono ?_
    rintro e w1 ⟨rfl, b1⟩
    clear HF
    go_wp2_with fail
    go_ret
    exact ⟨rfl, HT.out.below b1, Ch.of_below b1⟩
end Go.Proofs.Ytnobfmdjnldfpaa
