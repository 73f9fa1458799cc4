/-
  Timers in memory; the contracts of find, At, Drop, until. Each statement bears its own conditions.
-/
import Derived.Test.YtnobfmdjnldfpaaDel
import Derived.Test.YtnobfmdjnldfpaaGrow
namespace Go.Proofs.Ytnobfmdjnldfpaa
open Go.RowKit
set_option linter.unusedVariables false
set_option linter.unusedSimpArgs false
theorem RowV.cells {w : World} {v : Value} {rb : Nat} {L : List (Int × Int)} (h : RowV w v rb L) (i : Nat) (hi : i < L.length) : (∃ c, v = .slice (some ⟨rb, 0, none⟩) L.length c) ∧ w.cell? ⟨rb, i * 2, none⟩ = some (.int .i64 (L.getD i (0, 0)).1) ∧ w.cell? ⟨rb, i * 2 + 1, none⟩ = some (.int .i64 (L.getD i (0, 0)).2) ∧ rb < w.heap.size := by
  rcases h.form with ⟨_, h0⟩ | ⟨cap, cur, hv, hg, h1, h2, h3, h4⟩
  · subst h0; simp at hi
  · obtain ⟨a, b⟩ := C_at L i hi
    rw [← h4, List.getElem?_take_of_lt (by omega), Array.getElem?_toList] at a b
    refine ⟨⟨cap, hv⟩, by rw [(row_cell hg _).1]; exact a, by rw [(row_cell hg _).1]; exact b, ?_⟩
    exact World.block_lt_of_cell? w ⟨rb, i * 2, none⟩ (u := .int .i64 (L.getD i (0, 0)).1) (by rw [(row_cell hg _).1]; exact a)
theorem RowV.slice {w : World} {v : Value} {rb : Nat} {L : List (Int × Int)} (h : RowV w v rb L) : ∃ A c, v = .slice A L.length c ∧ L.length ≤ c := by
  rcases h.form with ⟨hv, h0⟩ | ⟨cap, cur, hv, hg, h1, h2, h3, h4⟩
  · subst h0; exact ⟨none, 0, hv, Nat.le_refl _⟩
  · exact ⟨_, cap, hv, h1⟩
theorem RowV.keep {w w' : World} {v : Value} {rb : Nat} {L : List (Int × Int)} (h : RowV w v rb L) (hb : v = .slice none 0 0 ∨ w'.heap[rb]? = w.heap[rb]?) : RowV w' v rb L := by
  refine ⟨⟨h.own.1, ?_⟩, h.at_⟩
  rcases h.form with ⟨hv, h0⟩ | ⟨cap, cur, hv, hg, h1, h2, h3, h4⟩
  · exact .inl ⟨hv, by rw [h0]; rfl⟩
  · rcases hb with hb | hb
    · rw [hv] at hb; cases hb
    · exact .inr ⟨rb, cap, cur, hv, Nat.zero_le _, hb.trans hg, h1, h2, h3, h4⟩
theorem RowV.lt {w : World} {v : Value} {rb : Nat} {L : List (Int × Int)} (h : RowV w v rb L) : v = .slice none 0 0 ∨ rb < w.heap.size := by
  rcases h.form with ⟨hv, h0⟩ | ⟨cap, cur, hv, hg, h1, h2, h3, h4⟩
  · exact .inl hv
  · right
    rcases Nat.lt_or_ge rb w.heap.size with h | h
    · exact h
    · rw [Array.getElem?_eq_none h] at hg; cases hg
/-- Timers: the pointer's block is g, the row's rb. -/
structure TF (w : World) (g rb : Nat) (L : List (Int × Int)) : Prop where
  lt : g < w.heap.size
  fz : ∀ o, w.frozen? ⟨g, o, none⟩ = false
  rlt : rb < w.heap.size
  ex : ∃ v, w.cell? ⟨g, 0, none⟩ = some v ∧ RowV w v rb L ∧ ((v = .slice none 0 0 ∧ rb = g) ∨ rb ≠ g)
theorem TF.keep {w w' : World} {g rb : Nat} {L : List (Int × Int)} (h : TF w g rb L) (hs : w.heap.size ≤ w'.heap.size) (h1 : w'.heap[g]? = w.heap[g]?) (h2 : w'.heap[rb]? = w.heap[rb]?) : TF w' g rb L := by
  obtain ⟨v, hc, hr, hne⟩ := h.ex
  exact ⟨Nat.lt_of_lt_of_le h.lt hs, fun o => (World.frozen?_of_block (a := ⟨g, o, none⟩) h1).trans (h.fz o), Nat.lt_of_lt_of_le h.rlt hs, v, (World.cell?_of_block (a := ⟨g, 0, none⟩) h1).trans hc, hr.keep (.inr h2), hne⟩
theorem TF.below {w w' : World} {g rb : Nat} {L : List (Int × Int)} (h : TF w g rb L) (hb : Below w.heap.size w w') : TF w' g rb L := h.keep hb.size (hb.block g h.lt) (hb.block rb h.rlt)
/-- The place of an id; the length where it isn't there. -/
def pos (L : List (Int × Int)) (id : Int) : Nat := L.findIdx (fun x => decide (x.1 = id))
def posI (L : List (Int × Int)) (id : Int) : Int := if pos L id < L.length then (pos L id : Int) else -1
theorem pos_hit {L : List (Int × Int)} {id : Int} {j : Nat} (hj : j < L.length) (hn : ∀ k, k < j → (L.getD k (0, 0)).1 ≠ id) (h : (L.getD j (0, 0)).1 = id) : pos L id = j := by
  unfold pos
  rw [List.findIdx_eq hj]
  refine ⟨?_, fun k hk => ?_⟩
  · rw [List.getD_eq_getElem?_getD, List.getElem?_eq_getElem hj] at h
    simpa using h
  · have := hn k hk
    rw [List.getD_eq_getElem?_getD, List.getElem?_eq_getElem (by omega)] at this
    simpa using this
theorem pos_none {L : List (Int × Int)} {id : Int} (hn : ∀ k, k < L.length → (L.getD k (0, 0)).1 ≠ id) : pos L id = L.length := by
  unfold pos
  rw [List.findIdx_eq_length]
  intro x hx
  obtain ⟨k, hk, rfl⟩ := List.getElem_of_mem hx
  have := hn k hk
  rw [List.getD_eq_getElem?_getD, List.getElem?_eq_getElem hk] at this
  simpa using this
theorem clo39 (a b id : Int) (q : Nat) (w : World) (hq : w.cell? ⟨q, 0, none⟩ = some (.int .i64 id)) :
    Calls Try.prog 39 #[.agg #[.int .i64 a, .int .i64 b], .pointer (some ⟨q, 0, none⟩)] w fun e w' => e = .returned (.bool (a == id)) ∧ Below w.heap.size w w' := by
  have hlt : q < w.heap.size := World.block_lt_of_cell? w ⟨q, 0, none⟩ hq
  go_enter Try.func39, Try.ntmps39
  go_wp2_with fail
  go_ret
  exact ⟨by simp, (Below.refl _ _).alloc (Nat.le_refl _) _⟩
structure FRel (L : List (Int × Int)) (id : Int) (n : Nat) (w : World) (iv : Value) (wr : World) : Prop where
  ex : ∃ j : Nat, j ≤ n ∧ iv = .int .i64 (j : Int) ∧ (∀ k, k < j → (L.getD k (0, 0)).1 ≠ id) ∧ Below w.heap.size w wr
theorem index_any (v : Value) (rb q : Nat) (id : Int) (L : List (Int × Int)) (w : World) (hr : RowV w v rb L) (hL : L.length ≤ 1000) (hq : w.cell? ⟨q, 0, none⟩ = some (.int .i64 id)) :
    Calls Try.prog 38 #[v, .func (.func 39) #[] #[.pointer (some ⟨q, 0, none⟩)]] w fun e w' => e = .returned (.int .i64 (posI L id)) ∧ Below w.heap.size w w' := by
  obtain ⟨A, c, rfl, hc⟩ := hr.slice
  obtain ⟨n, hn⟩ : ∃ n, L.length = n := ⟨_, rfl⟩
  have HR := Lib.hid hr
  have HN := Lib.hid hn
  have HL := Lib.hid hL
  have HQ := Lib.hid hq
  rw [hn] at HR hc ⊢
  clear hr hL hn hq
  go_enter Try.func38, Try.ntmps38
  go_wp2_with fail
  go_loopw [8] (fun i wr => FRel L id n w i wr) (fun i _ => 1001 - (intOf i).toNat)
  case atStart => exact ⟨⟨0, Nat.zero_le _, rfl, fun k hk => absurd hk (by omega), Below.refl _ _⟩⟩
  case round =>
    obtain ⟨⟨j, hj, rfl, hne, hb⟩⟩ := hrel
    have HB := Lib.hid hb
    have HNE := Lib.hid hne
    clear hb hne
    by_cases hlt : j < n
    · obtain ⟨⟨c', hv⟩, d0, d1, hrl⟩ := RowV.cells (v := .slice A n c) (w := w) (rb := rb) (L := L) HR.out j (by rw [HN.out]; exact hlt)
      rw [HN.out] at hv
      injection hv with hv _ hcc
      subst hv hcc
      have d0 := cell_later HB.out d0
      have d1 := cell_later HB.out d1
      have hjI : (j : Int) < (n : Int) := by omega
      have hj1 : Hid (j < 1000) := by have := HL.out; have := HN.out; unfold Hid; omega
      have hj2 : (j : Int) < 1000 := by have := hj1.out; omega
      obtain ⟨a, ha⟩ : ∃ a, Hid ((L.getD j (0, 0)).1 = a) := ⟨_, rfl⟩
      obtain ⟨b, hb'⟩ : ∃ b, Hid ((L.getD j (0, 0)).2 = b) := ⟨_, rfl⟩
      rw [ha.out] at d0
      rw [hb'.out] at d1
      have CL := Lib.hid (clo39 a b id q wr (cell_later HB.out HQ.out))
      by_cases he : a = id
      · have he' : (a == id) = true := by rw [beq_iff_eq]; exact he
        rw [he'] at CL
        have HP : Hid (posI L id = (j : Int)) := by
          have h1 := pos_hit (L := L) (id := id) (j := j) (by rw [HN.out]; exact hlt) HNE.out (by rw [ha.out]; exact he)
          unfold Hid posI
          rw [h1, HN.out, if_pos hlt]
        clear he he' hj
        go_wp2_with fail
        refine CL.out.mono ?_
        rintro e w1 ⟨rfl, b1⟩
        clear CL
        go_wp2_with fail
        go_ret
        exact ⟨by rw [HP.out]; rfl, HB.out.trans (b1.mono HB.out.size)⟩
      · have he' : (a == id) = false := by rw [beq_eq_false_iff_ne]; exact he
        rw [he'] at CL
        have HN2 : Hid (∀ k, k < j + 1 → (L.getD k (0, 0)).1 ≠ id) := fun k hk => by
          by_cases e : k = j
          · subst e; rw [ha.out]; exact he
          · exact HNE.out k (by omega)
        clear he he' hj
        go_wp2_with fail
        refine CL.out.mono ?_
        rintro e w1 ⟨rfl, b1⟩
        have HB2 := Lib.hid (HB.out.trans (b1.mono HB.out.size))
        clear CL b1
        go_wp2_with fail
        go_roundw
        case rel => first | exact ⟨⟨j + 1, hlt, by go_num, HN2.out, HB2.out⟩⟩ | ((repeat apply Exists.intro); exact ⟨⟨⟨j + 1, hlt, by go_num, HN2.out, HB2.out⟩⟩, rfl⟩)
        case measure => have := hj1.out; simp [intOf]; omega
    · have hjI : ¬ (j : Int) < (n : Int) := by omega
      have HP : Hid (posI L id = -1) := by
        have h1 := pos_none (L := L) (id := id) (fun k hk => HNE.out k (by rw [HN.out] at hk; omega))
        unfold Hid posI
        rw [if_neg (by rw [h1]; omega)]
      clear hj
      go_wp2_with fail
      go_ret
      exact ⟨by rw [HP.out]; rfl, HB.out⟩
theorem find_any (g rb : Nat) (id : Int) (L : List (Int × Int)) (w : World) (h : TF w g rb L) (hL : L.length ≤ 1000) :
    Calls Try.prog 32 #[.pointer (some ⟨g, 0, none⟩), .int .i64 id] w fun e w' => e = .returned (.int .i64 (posI L id)) ∧ Below w.heap.size w w' := by
  have hmf : ∀ (fn : Fn) (first cap : Array Value) (w : World), (Instr.makeFunc fn first cap).run Try.prog w = .ok (.func fn first cap) w := fun _ _ _ _ => rfl
  obtain ⟨v, hc, hr, _⟩ := h.ex
  have hlt := h.lt
  have BA : Below w.heap.size w (w.alloc (.cells #[.int .i64 id] 3)) := (Below.refl _ _).alloc (Nat.le_refl _) _
  have IX := Lib.hid (index_any v rb w.heap.size id L (w.alloc (.cells #[.int .i64 id] 3)) (hr.keep (.inr (BA.block rb h.rlt))) hL (by rw [World.cell?_alloc_new]; rfl))
  obtain ⟨p, hp⟩ : ∃ p, posI L id = p := ⟨_, rfl⟩
  rw [hp] at IX ⊢
  have HBA := Lib.hid BA
  clear h hr hp hL BA
  go_enter Try.func32, Try.ntmps32
  go_wp2_with fail
  refine IX.out.mono ?_
  rintro e w1 ⟨rfl, b1⟩
  clear IX
  go_wp2_with fail
  go_ret
  exact ⟨rfl, HBA.out.trans (b1.mono HBA.out.size)⟩
end Go.Proofs.Ytnobfmdjnldfpaa
