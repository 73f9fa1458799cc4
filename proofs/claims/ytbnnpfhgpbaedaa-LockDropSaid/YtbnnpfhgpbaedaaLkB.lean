/-
  Locks: who waits, and where one more comes to stand. Each statement bears its own conditions.
-/
import Derived.Test.YtbnnpfhgpbaedaaLkA
namespace Go.Proofs.Ytbnnpfhgpbaedaa.K
open Go.RowKit Go.Maps
set_option linter.unusedVariables false
set_option linter.unusedSimpArgs false
theorem waits_any (lo g bc bw bm N : Nat) (rb : Nat → Nat) (cs : List Int) (ws : Nat → List (Int × Int)) (os : Int → Option Int) (id : Int) (w : World) (h : LV lo w g bc bw bm N rb cs ws os) (hn : cs.length ≤ 16) (hl : ∀ i, i < cs.length → (ws i).length ≤ 1000) :
    Calls Try.prog 36 #[.pointer (some ⟨g, 0, none⟩), .int .i64 id] w fun e w' => e = .returned (.bool (!decide (NoId ws cs.length id))) ∧ Below w.heap.size w w' := by
  have FI := Lib.hid (find_any lo g bc bw bm N rb cs ws os id w h hn hl)
  clear h hn hl
  go_enter Try.func36, Try.ntmps36
  go_wp2_with fail
  refine FI.out.mono ?_
  rintro e w1 ⟨i, j, b, rfl, f1, f2⟩
  have HF := Lib.hid f1.no
  have HB := Lib.hid f2
  clear f1 f2 FI
  go_wp2_with fail
  go_ret
  exact ⟨by rw [← HF.out]; rfl, HB.out⟩
def plc (L : List (Int × Int)) (id : Int) : Nat := L.findIdx (fun x => decide (x.2 < id))
def plcI (L : List (Int × Int)) (id : Int) : Int := if plc L id < L.length then (plc L id : Int) else -1
theorem plc_hit {L : List (Int × Int)} {id : Int} {j : Nat} (hj : j < L.length) (hn : ∀ k, k < j → ¬ (L.getD k (0, 0)).2 < id) (h : (L.getD j (0, 0)).2 < id) : plc L id = j := by
  unfold plc
  rw [List.findIdx_eq hj]
  refine ⟨?_, fun k hk => ?_⟩
  · rw [List.getD_eq_getElem?_getD, List.getElem?_eq_getElem hj] at h
    simpa using h
  · have := hn k hk
    rw [List.getD_eq_getElem?_getD, List.getElem?_eq_getElem (by omega)] at this
    simpa using this
theorem plc_none {L : List (Int × Int)} {id : Int} (hn : ∀ k, k < L.length → ¬ (L.getD k (0, 0)).2 < id) : plc L id = L.length := by
  unfold plc
  rw [List.findIdx_eq_length]
  intro x hx
  obtain ⟨k, hk, rfl⟩ := List.getElem_of_mem hx
  have := hn k hk
  rw [List.getD_eq_getElem?_getD, List.getElem?_eq_getElem hk] at this
  simpa using this
theorem clo51 (a b y id : Int) (q : Nat) (w : World) (hq0 : w.cell? ⟨q, 0, none⟩ = some (.int .i64 y)) (hq : w.cell? ⟨q, 1, none⟩ = some (.int .i64 id)) :
    Calls Try.prog 51 #[.agg #[.int .i64 a, .int .i64 b], .pointer (some ⟨q, 0, none⟩)] w fun e w' => e = .returned (.bool (decide (b < id))) ∧ Below w.heap.size w w' := by
  have hlt : q < w.heap.size := World.block_lt_of_cell? w ⟨q, 1, none⟩ hq
  go_enter Try.func51, Try.ntmps51
  go_wp2_with fail
  go_ret
  exact ⟨by simp, (Below.refl _ _).alloc (Nat.le_refl _) _⟩
structure QRel (L : List (Int × Int)) (id : Int) (n : Nat) (w : World) (iv : Value) (wr : World) : Prop where
  ex : ∃ j : Nat, j ≤ n ∧ iv = .int .i64 (j : Int) ∧ (∀ k, k < j → ¬ (L.getD k (0, 0)).2 < id) ∧ Below w.heap.size w wr
theorem index_any (v : Value) (rb q : Nat) (y id : Int) (L : List (Int × Int)) (w : World) (hr : W.RowV w v rb L) (hL : L.length ≤ 1000) (hq : w.cell? ⟨q, 0, none⟩ = some (.int .i64 y) ∧ w.cell? ⟨q, 1, none⟩ = some (.int .i64 id)) :
    Calls Try.prog 50 #[v, .func (.func 51) #[] #[.pointer (some ⟨q, 0, none⟩)]] w fun e w' => e = .returned (.int .i64 (plcI L id)) ∧ Below w.heap.size w w' := by
  obtain ⟨A, c, rfl, hc⟩ := hr.slice
  obtain ⟨n, hn⟩ : ∃ n, L.length = n := ⟨_, rfl⟩
  have HR := Lib.hid hr
  have HN := Lib.hid hn
  have HL := Lib.hid hL
  have HQ := Lib.hid hq
  rw [hn] at HR hc ⊢
  clear hr hL hn hq
  go_enter Try.func50, Try.ntmps50
  go_wp2_with fail
  go_loopw [8] (fun i wr => QRel L id n w i wr) (fun i _ => 1001 - (intOf i).toNat)
  case atStart => exact ⟨⟨0, Nat.zero_le _, rfl, fun k hk => absurd hk (by omega), Below.refl _ _⟩⟩
  case round =>
    obtain ⟨⟨j, hj, rfl, hne, hb⟩⟩ := hrel
    have HB := Lib.hid hb
    have HNE := Lib.hid hne
    clear hb hne
    by_cases hlt : j < n
    · obtain ⟨⟨c', hv⟩, d0, d1, hrl⟩ := W.RowV.cells (v := .slice A n c) (w := w) (rb := rb) (L := L) HR.out j (by rw [HN.out]; exact hlt)
      rw [HN.out] at hv
      injection hv with hv _ hcc
      subst hv hcc
      have d0 := cell_later HB.out d0
      have d1 := cell_later HB.out d1
      have hjI : (j : Int) < (n : Int) := by omega
      have hj1 : Hid (j < 1000) := by have := HL.out; have := HN.out; unfold Hid; omega
      have hj2 : (j : Int) < 1000 := by have := hj1.out; omega
      obtain ⟨a, ha⟩ : ∃ a, Hid ((L.getD j (0, 0)).1 = a) := ⟨_, rfl⟩
      obtain ⟨b, hb'⟩ : ∃ b, Hid ((L.getD j (0, 0)).2 = b) := ⟨_, rfl⟩
      rw [ha.out] at d0
      rw [hb'.out] at d1
      have CL := Lib.hid (clo51 a b y id q wr (cell_later HB.out HQ.out.1) (cell_later HB.out HQ.out.2))
      by_cases he : b < id
      · have he' : decide (b < id) = true := decide_eq_true he
        rw [he'] at CL
        have HP : Hid (plcI L id = (j : Int)) := by
          have h1 := plc_hit (L := L) (id := id) (j := j) (by rw [HN.out]; exact hlt) HNE.out (by rw [hb'.out]; exact he)
          unfold Hid plcI
          rw [h1, HN.out, if_pos hlt]
        clear he he' hj
        go_wp2_with fail
        refine CL.out.mono ?_
        rintro e w1 ⟨rfl, b1⟩
        clear CL
        go_wp2_with fail
        go_ret
        exact ⟨by rw [HP.out]; rfl, HB.out.trans (b1.mono HB.out.size)⟩
      · have he' : decide (b < id) = false := decide_eq_false he
        rw [he'] at CL
        have HN2 : Hid (∀ k, k < j + 1 → ¬ (L.getD k (0, 0)).2 < id) := fun k hk => by
          by_cases e : k = j
          · subst e; rw [hb'.out]; exact he
          · exact HNE.out k (by omega)
        clear he he' hj
        go_wp2_with fail
        refine CL.out.mono ?_
        rintro e w1 ⟨rfl, b1⟩
        have HB2 := Lib.hid (HB.out.trans (b1.mono HB.out.size))
        clear CL b1
        go_wp2_with fail
        go_roundw
        case rel => exact ⟨⟨j + 1, hlt, by go_num, fun k hk => by (have := HN2.out k hk; omega), HB2.out⟩⟩
        case measure => have := hj1.out; simp [intOf]; omega
    · have hjI : ¬ (j : Int) < (n : Int) := by omega
      have HP : Hid (plcI L id = -1) := by
        have h1 := plc_none (L := L) (id := id) (fun k hk => HNE.out k (by rw [HN.out] at hk; omega))
        unfold Hid plcI
        rw [if_neg (by rw [h1]; omega)]
      clear hj
      go_wp2_with fail
      go_ret
      exact ⟨by rw [HP.out]; rfl, HB.out⟩
end Go.Proofs.Ytbnnpfhgpbaedaa.K
