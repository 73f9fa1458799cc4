/-
  The contract of New. Each statement bears its own conditions.
-/
import Derived.Test.YtdabmbdikofhpaaPrB
import Derived.StillTailTactics
import Derived.Laws.MakeOwn
namespace Go.Proofs.Ytdabmbdikofhpaa.P
open Go.RowKit
set_option linter.unusedVariables false
set_option linter.unusedSimpArgs false
/-- What is asked of a process. -/
structure AT where
  pri : Int
  per : Int
  cap : Int
  dea : Int
  off : Int
def AT.cells (a : AT) : List Value := [.int .i64 a.pri, .int .i64 a.per, .int .i64 a.cap, .int .i64 a.dea, .int .i64 a.off]
def AT.val (a : AT) : Value := .agg #[.int .i64 a.pri, .int .i64 a.per, .int .i64 a.cap, .int .i64 a.dea, .int .i64 a.off]
def CT (l : List AT) : List Value := l.flatMap AT.cells
theorem CT_len (l : List AT) : (CT l).length = l.length * 5 := by
  induction l with
  | nil => rfl
  | cons x r ih => unfold CT at *; rw [List.flatMap_cons, List.length_append, ih, List.length_cons]; simp [AT.cells]; omega
theorem CT_at {l : List AT} {i : Nat} {x : AT} (h : l[i]? = some x) : ∀ j u, x.cells[j]? = some u → (CT l)[i * 5 + j]? = some u := by
  induction l generalizing i with
  | nil => simp at h
  | cons y r ih =>
    intro j u hu
    have hj : j < 5 := (List.getElem?_eq_some_iff.1 hu).1
    unfold CT at *
    rw [List.flatMap_cons]
    cases i with
    | zero =>
      simp at h; subst h
      rw [List.getElem?_append_left (by simp [AT.cells]; omega)]
      simpa using hu
    | succ i =>
      rw [List.getElem?_append_right (by simp [AT.cells]; omega)]
      have : (i + 1) * 5 + j - y.cells.length = i * 5 + j := by simp [AT.cells]; omega
      rw [this]
      exact ih (by simpa using h) j u hu
theorem CT_one (l : List AT) : ∀ u ∈ CT l, u.oneCell' = true := by
  intro u hu
  obtain ⟨x, _, hx⟩ := List.mem_flatMap.1 hu
  simp [AT.cells] at hx
  rcases hx with rfl | rfl | rfl | rfl | rfl <;> rfl
def OKL (n : Int) : Prop := 0 ≤ n ∧ n ≤ 1048576
def FitsA (a : AT) : Prop := OKL a.per ∧ OKL a.cap ∧ OKL a.dea ∧ OKL a.off ∧ PRI a.pri
instance (n : Int) : Decidable (OKL n) := inferInstanceAs (Decidable (_ ∧ _))
instance (a : AT) : Decidable (FitsA a) := inferInstanceAs (Decidable (_ ∧ _))
def fitsA (a : AT) : Bool := decide (FitsA a)
def freshP (a : AT) : MP := ⟨a.pri, a.per, a.cap, a.dea, a.off, 0, false, a.pri, 0, 0, 0, 0, false⟩
def wideP (a : AT) : MP := ⟨a.pri, a.per, a.cap, a.dea, a.off, 0, false, 0, 0, 0, 0, 0, false⟩
def zeroP : MP := ⟨0, 0, 0, 0, 0, 0, false, 0, 0, 0, 0, 0, false⟩
theorem Ok.fresh {a : AT} (h : fitsA a = true) : Ok (freshP a) := by
  obtain ⟨h1, h2, h3, h4, h5⟩ : FitsA a := by simpa [fitsA] using h
  exact ⟨h5, h1, h2, h3, h4, by simp [freshP], h5, by simp [freshP], by simp [freshP], by simp [freshP], by simp [freshP]⟩
def newE (l : List AT) : Int := if 16 < l.length then 8 else if l.all fitsA then 0 else 2
/-- How far attributes were gone through. -/
def FR (k : Nat) (p q r s : Int) : Prop := (0 < k → OKL p) ∧ (1 < k → OKL q) ∧ (2 < k → OKL r) ∧ (3 < k → OKL s)
set_option maxRecDepth 100000 in
set_option maxHeartbeats 4000000 in
theorem fits_any (a : AT) (w : World) : Calls Try.prog 65 #[a.val] w fun e w' => e = .returned (.bool (fitsA a)) ∧ Below w.heap.size w w' := by
  obtain ⟨a0, a1, a2, a3, a4⟩ := a
  unfold AT.val
  dsimp only
  have HB : Hid (Below w.heap.size w (w.alloc (.cells #[.int .i64 a0, .int .i64 a1, .int .i64 a2, .int .i64 a3, .int .i64 a4] 48))) := (Below.refl _ _).alloc (Nat.le_refl _) _
  have i1 : ∀ w, (Instr.index 103 (.agg #[.int .i64 a1, .int .i64 a2, .int .i64 a3, .int .i64 a4]) (.int .i64 0)).run Try.prog w = .ok (.int .i64 a1) w := fun _ => by kernel_rfl
  have i2 : ∀ w, (Instr.index 103 (.agg #[.int .i64 a1, .int .i64 a2, .int .i64 a3, .int .i64 a4]) (.int .i64 1)).run Try.prog w = .ok (.int .i64 a2) w := fun _ => by kernel_rfl
  have i3 : ∀ w, (Instr.index 103 (.agg #[.int .i64 a1, .int .i64 a2, .int .i64 a3, .int .i64 a4]) (.int .i64 2)).run Try.prog w = .ok (.int .i64 a3) w := fun _ => by kernel_rfl
  have i4 : ∀ w, (Instr.index 103 (.agg #[.int .i64 a1, .int .i64 a2, .int .i64 a3, .int .i64 a4]) (.int .i64 3)).run Try.prog w = .ok (.int .i64 a4) w := fun _ => by kernel_rfl
  go_enter Try.func65, Try.ntmps65
  go_wp2_with fail
  go_loop [14] (fun v => ∃ k : Nat, k ≤ 4 ∧ v = .int .i64 (k : Int) ∧ FR k a1 a2 a3 a4) (fun v => 4 - (intOf v).toNat)
  case atStart => exact ⟨0, by omega, rfl, fun h => by omega, fun h => by omega, fun h => by omega, fun h => by omega⟩
  case round =>
    obtain ⟨k, hk, rfl, hfr⟩ := hrel
    have HF := Lib.hid hfr
    clear hfr
    by_cases h4 : k = 4
    · subst h4
      by_cases hp : 1 ≤ a0
      · have hd1 : decide (1 ≤ a0) = true := by simpa using hp
        go_wp2_with go_in
        go_ret
        exact ⟨bool_ret (by obtain ⟨q1, q2, q3, q4⟩ := HF.out; have q1 := q1 (by omega); have q2 := q2 (by omega); have q3 := q3 (by omega); have q4 := q4 (by omega); simp [fitsA, FitsA, PRI, q1, q2, q3, q4, hp]), HB.out⟩
      · have hd1 : decide (1 ≤ a0) = false := by simpa using hp
        have HN : Hid (fitsA ⟨a0, a1, a2, a3, a4⟩ = false) := by unfold Hid; simp only [fitsA, decide_eq_false_iff_not]; exact fun h => hp h.2.2.2.2.1
        go_wp2_with go_in
        go_ret
        exact ⟨bool_ret HN.out.symm, HB.out⟩
    · obtain hk0 | hk1 | hk2 | hk3 : k = 0 ∨ k = 1 ∨ k = 2 ∨ k = 3 := by omega
      · subst hk0
        by_cases hb : OKL a1
        · have hd1 : decide (a1 < 0) = false := by have := hb.1; simp; omega
          have hd2 : decide (1048576 < a1) = false := by have := hb.2; simp; omega
          have HB1 := Lib.hid hb
          clear hb hk h4
          go_wp2_with fail
          go_round
          case rel =>
            refine ⟨1, by omega, rfl, ?_⟩
            obtain ⟨q1, q2, q3, q4⟩ := HF.out
            exact ⟨fun _ => HB1.out, fun h => by omega, fun h => by omega, fun h => by omega⟩
          case measure => simp [intOf]
        · have HN : Hid (fitsA ⟨a0, a1, a2, a3, a4⟩ = false) := by unfold Hid; simp [fitsA, FitsA, hb]
          by_cases hl : a1 < 0
          · have hd1 : decide (a1 < 0) = true := by simpa using hl
            clear hb hk h4
            go_wp2_with fail
            go_ret
            exact ⟨bool_ret HN.out.symm, HB.out⟩
          · have hd1 : decide (a1 < 0) = false := by simpa using hl
            have hd2 : decide (1048576 < a1) = true := by unfold OKL at hb; simp; omega
            clear hb hk h4
            go_wp2_with fail
            go_ret
            exact ⟨bool_ret HN.out.symm, HB.out⟩
      · subst hk1
        by_cases hb : OKL a2
        · have hd1 : decide (a2 < 0) = false := by have := hb.1; simp; omega
          have hd2 : decide (1048576 < a2) = false := by have := hb.2; simp; omega
          have HB1 := Lib.hid hb
          clear hb hk h4
          go_wp2_with fail
          go_round
          case rel =>
            refine ⟨2, by omega, rfl, ?_⟩
            obtain ⟨q1, q2, q3, q4⟩ := HF.out
            exact ⟨fun _ => q1 (by omega), fun _ => HB1.out, fun h => by omega, fun h => by omega⟩
          case measure => simp [intOf]
        · have HN : Hid (fitsA ⟨a0, a1, a2, a3, a4⟩ = false) := by unfold Hid; simp [fitsA, FitsA, hb]
          by_cases hl : a2 < 0
          · have hd1 : decide (a2 < 0) = true := by simpa using hl
            clear hb hk h4
            go_wp2_with fail
            go_ret
            exact ⟨bool_ret HN.out.symm, HB.out⟩
          · have hd1 : decide (a2 < 0) = false := by simpa using hl
            have hd2 : decide (1048576 < a2) = true := by unfold OKL at hb; simp; omega
            clear hb hk h4
            go_wp2_with fail
            go_ret
            exact ⟨bool_ret HN.out.symm, HB.out⟩
      · subst hk2
        by_cases hb : OKL a3
        · have hd1 : decide (a3 < 0) = false := by have := hb.1; simp; omega
          have hd2 : decide (1048576 < a3) = false := by have := hb.2; simp; omega
          have HB1 := Lib.hid hb
          clear hb hk h4
          go_wp2_with fail
          go_round
          case rel =>
            refine ⟨3, by omega, rfl, ?_⟩
            obtain ⟨q1, q2, q3, q4⟩ := HF.out
            exact ⟨fun _ => q1 (by omega), fun _ => q2 (by omega), fun _ => HB1.out, fun h => by omega⟩
          case measure => simp [intOf]
        · have HN : Hid (fitsA ⟨a0, a1, a2, a3, a4⟩ = false) := by unfold Hid; simp [fitsA, FitsA, hb]
          by_cases hl : a3 < 0
          · have hd1 : decide (a3 < 0) = true := by simpa using hl
            clear hb hk h4
            go_wp2_with fail
            go_ret
            exact ⟨bool_ret HN.out.symm, HB.out⟩
          · have hd1 : decide (a3 < 0) = false := by simpa using hl
            have hd2 : decide (1048576 < a3) = true := by unfold OKL at hb; simp; omega
            clear hb hk h4
            go_wp2_with fail
            go_ret
            exact ⟨bool_ret HN.out.symm, HB.out⟩
      · subst hk3
        by_cases hb : OKL a4
        · have hd1 : decide (a4 < 0) = false := by have := hb.1; simp; omega
          have hd2 : decide (1048576 < a4) = false := by have := hb.2; simp; omega
          have HB1 := Lib.hid hb
          clear hb hk h4
          go_wp2_with fail
          go_round
          case rel =>
            refine ⟨4, by omega, rfl, ?_⟩
            obtain ⟨q1, q2, q3, q4⟩ := HF.out
            exact ⟨fun _ => q1 (by omega), fun _ => q2 (by omega), fun _ => q3 (by omega), fun _ => HB1.out⟩
          case measure => simp [intOf]
        · have HN : Hid (fitsA ⟨a0, a1, a2, a3, a4⟩ = false) := by unfold Hid; simp [fitsA, FitsA, hb]
          by_cases hl : a4 < 0
          · have hd1 : decide (a4 < 0) = true := by simpa using hl
            clear hb hk h4
            go_wp2_with fail
            go_ret
            exact ⟨bool_ret HN.out.symm, HB.out⟩
          · have hd1 : decide (a4 < 0) = false := by simpa using hl
            have hd2 : decide (1048576 < a4) = true := by unfold OKL at hb; simp; omega
            clear hb hk h4
            go_wp2_with fail
            go_ret
            exact ⟨bool_ret HN.out.symm, HB.out⟩
set_option maxRecDepth 100000 in
set_option maxHeartbeats 4000000 in
theorem stop_raw (lo hi p rb : Nat) (l : List MP) (i : Nat) (x : MP) (w : World) (h : PT lo hi w p rb l) (hx : l[i]? = some x) :
    Calls Try.prog 39 #[.pointer (some ⟨rb, i * 13, none⟩)] w fun e w' => e = .returned (.tuple #[]) ∧ PT lo hi w' p rb (l.set i (stopP x)) ∧ Past rb w w' := by
  have hxc : (l.map MP.cells)[i]? = some x.cells := by simp [hx]
  have hin : i < (l.map MP.cells).length := (List.getElem?_eq_some_iff.1 hxc).1
  have HS := Lib.hid (RT.start h hxc)
  obtain ⟨c0, f0⟩ := RT.at_ h hxc (j := 0) rfl
  rw [Nat.add_zero] at c0 f0
  obtain ⟨c5, f5⟩ := RT.at_ h hxc (j := 5) rfl
  obtain ⟨c6, f6⟩ := RT.at_ h hxc (j := 6) rfl
  rw [show i * 13 + 6 = i * 13 + 5 + 1 by omega] at c6 f6
  obtain ⟨c7, f7⟩ := RT.at_ h hxc (j := 7) rfl
  rw [show i * 13 + 7 = i * 13 + 5 + 2 by omega] at c7 f7
  obtain ⟨c8, f8⟩ := RT.at_ h hxc (j := 8) rfl
  rw [show i * 13 + 8 = i * 13 + 5 + 3 by omega] at c8 f8
  obtain ⟨c9, f9⟩ := RT.at_ h hxc (j := 9) rfl
  rw [show i * 13 + 9 = i * 13 + 5 + 4 by omega] at c9 f9
  obtain ⟨c10, f10⟩ := RT.at_ h hxc (j := 10) rfl
  obtain ⟨c11, f11⟩ := RT.at_ h hxc (j := 11) rfl
  rw [show i * 13 + 11 = i * 13 + 10 + 1 by omega] at c11 f11
  obtain ⟨c12, f12⟩ := RT.at_ h hxc (j := 12) rfl
  rw [show i * 13 + 12 = i * 13 + 10 + 2 by omega] at c12 f12
  obtain ⟨hpz, hrz, hpr⟩ := PT.lt h
  have HPR := Lib.hid hpr
  have HIN := Lib.hid hin
  obtain ⟨x0, x1, x2, x3, x4, x5, x6, x7, x8, x9, x10, x11, x12⟩ := x
  have H := Lib.hid h
  have HX := Lib.hid hx
  clear h hxc hx hpr hin
  go_enter Try.func39, Try.ntmps39
  go_wp2_with go_in
  go_end0
  refine ⟨rfl, PT.close ?_, ?_⟩
  · apply Exists.intro
    apply And.intro
    · (try simp only [Nat.add_assoc, Nat.reduceAdd])
      repeat (first | with_reducible exact HS.out | (with_reducible refine RT.al ?_ _) | ((with_reducible apply RT.step HIN.out); rotate_left; exact of_decide_eq_true rfl; rfl; rotate_left))
    · rfl
  · repeat (first | with_reducible exact Past.refl _ _ | (with_reducible refine Past.setCell ?_ _ _) | (with_reducible refine Past.alloc ?_ _))
theorem pinfo : (Try.prog.info? 73).map (fun i => (i.zero, i.size, i.bytes)) = some (some (.agg #[.int .i64 0, .int .i64 0, .int .i64 0, .int .i64 0, .int .i64 0, .int .i64 0, .bool false, .int .i64 0, .int .i64 0, .int .i64 0, .int .i64 0, .int .i64 0, .bool false]), 13, 104) := by kernel_rfl
theorem info_of' {e : TypeId} {z : Option Value} {k b : Nat} (h : (Try.prog.info? e).map (fun i => (i.zero, i.size, i.bytes)) = some (z, k, b)) : ∃ i, Try.prog.info? e = some i ∧ i.zero = z ∧ i.size = k ∧ i.bytes = b := by
  rcases hq : Try.prog.info? e with _ | i
  · rw [hq] at h; cases h
  · rw [hq] at h
    simp at h
    exact ⟨i, rfl, h.1, h.2.1, h.2.2⟩
theorem made_zero (n : Nat) : (madeCells (zeroP.cells.toArray) (n * 13)).toList = CP (List.replicate n zeroP) := by
  apply List.ext_getElem?
  intro k
  by_cases hk : k < n * 13
  · have h1 : (List.replicate n zeroP)[k / 13]? = some zeroP := by rw [List.getElem?_replicate, if_pos (by omega)]
    have h2 : k % 13 < 13 := Nat.mod_lt _ (by omega)
    have h3 := CP_at h1 (k % 13) (zeroP.cells[k % 13]'(by simpa [MP.cells] using h2)) (List.getElem?_eq_getElem _)
    have h4 : k / 13 * 13 + k % 13 = k := by omega
    rw [h4] at h3
    rw [h3]
    unfold madeCells
    have h5 : zeroP.cells.toArray.size = 13 := rfl
    simp [hk, h5]
    rw [List.getElem?_eq_getElem (show k % 13 < zeroP.cells.length from h2)]
    rfl
  · rw [List.getElem?_eq_none (by simp [size_madeCells]; omega), List.getElem?_eq_none (by rw [CP_len]; simp; omega)]
theorem make_procs (n : Nat) (hn : n ≤ 16) (W : World) : (Instr.makeSlice 66 (.int .i64 (n : Int)) (.int .i64 (n : Int))).run Try.prog W = .ok (.slice (some ⟨W.heap.size, 0, none⟩) n n) (W.alloc (.cells (madeCells (zeroP.cells.toArray) (n * 13)) 73)) := by
  obtain ⟨i0, hi, hz0, hz1, hz2⟩ := info_of' pinfo
  have := run_makeSlice (P := Try.prog) W 66 73 i0 (.agg #[.int .i64 0, .int .i64 0, .int .i64 0, .int .i64 0, .int .i64 0, .int .i64 0, .bool false, .int .i64 0, .int .i64 0, .int .i64 0, .int .i64 0, .int .i64 0, .bool false]) Try.underlying66 hi hz0 .i64 .i64 (n : Int) (n : Int) (by omega) (Int.le_refl _) (by rw [hz1]; simp; omega) (by rw [hz2]; omega) (by omega)
  have hz : (Value.agg #[.int .i64 0, .int .i64 0, .int .i64 0, .int .i64 0, .int .i64 0, .int .i64 0, .bool false, .int .i64 0, .int .i64 0, .int .i64 0, .int .i64 0, .int .i64 0, .bool false]).cells = zeroP.cells.toArray := rfl
  rw [hz1, hz] at this
  simpa using this
theorem RT.wide {lo hi hi' p rb : Nat} {w : World} {L : List (List Value)} (h : RT lo hi w p rb L) (h1 : hi ≤ hi') (h2 : hi' ≤ w.heap.size) : RT lo hi' w p rb L :=
  ⟨h2, ⟨h.hp.1, Nat.lt_of_lt_of_le h.hp.2 h1⟩, ⟨h.hr.1, Nat.lt_of_lt_of_le h.hr.2 h1⟩, h.ne, h.each, h.ex⟩
theorem rt_made (n : Nat) (hn : n ≤ 16) (w : World) : PT w.heap.size (w.heap.size + 2) ((w.alloc (.cells (madeCells (zeroP.cells.toArray) (n * 13)) 73)).alloc (.cells #[.slice (some ⟨w.heap.size, 0, none⟩) n n] 75)) (w.heap.size + 1) w.heap.size (List.replicate n zeroP) := by
  have hl : ((List.replicate n zeroP).map MP.cells).length = n := by simp
  have h2 := heap_alloc_new w (.cells (madeCells (zeroP.cells.toArray) (n * 13)) 73)
  refine ⟨by simp, ⟨by omega, by omega⟩, ⟨by omega, by omega⟩, by omega, map_13 _, n, ?_, ?_⟩
  · rw [hl]
    have := heap_alloc_new (w.alloc (.cells (madeCells (zeroP.cells.toArray) (n * 13)) 73)) (.cells #[.slice (some ⟨w.heap.size, 0, none⟩) n n] 75)
    simpa using this
  · rw [hl]
    refine own_below ⟨?_, .inr ⟨w.heap.size, n, _, rfl, Nat.le_refl _, h2, Nat.le_refl _, by unfold maxLen; omega, ?_, ?_⟩⟩ ((Below.refl _ _).alloc (Nat.le_refl _) _)
    · rw [rc_len (map_13 _)]; simp
    · rw [size_madeCells]
    · rw [made_zero, List.take_of_length_le (by rw [CP_len]; simp)]; rfl
def stL (l : List AT) (n k : Nat) : List MP := (l.take k).map freshP ++ List.replicate (n - k) zeroP
theorem stL_len {l : List AT} {n k : Nat} (hn : l.length = n) (hk : k ≤ n) : (stL l n k).length = n := by
  unfold stL
  rw [List.length_append, List.length_map, List.length_take, List.length_replicate]
  omega
theorem stL_at {l : List AT} {n k : Nat} (hn : l.length = n) (hk : k < n) : (stL l n k)[k]? = some zeroP := by
  unfold stL
  have h1 : ((l.take k).map freshP).length = k := by rw [List.length_map, List.length_take]; omega
  rw [List.getElem?_append_right (by omega), h1, Nat.sub_self, List.getElem?_replicate, if_pos (by omega)]
theorem stL_set {l : List AT} {n k : Nat} {a : AT} (hn : l.length = n) (hk : k < n) (ha : l[k]? = some a) : (stL l n k).set k (freshP a) = stL l n (k + 1) := by
  have h1 : ((l.take k).map freshP).length = k := by rw [List.length_map, List.length_take]; omega
  have h2 : n - k = (n - (k + 1)) + 1 := by omega
  unfold stL
  rw [List.set_append_right _ _ (by omega), h1, Nat.sub_self, h2, List.replicate_succ, List.set_cons_zero, take_snoc ha, List.map_append, List.append_assoc]
  rfl
theorem stL_end {l : List AT} {n : Nat} (hn : l.length = n) : stL l n n = l.map freshP := by
  unfold stL
  rw [List.take_of_length_le (by omega)]
  simp
theorem RT.step0 {lo hi p rb i : Nat} {w : World} {L : List (List Value)} {c : List Value} (hi' : i < L.length) (h : RT lo hi w p rb (L.set i c)) (v : Value) (hv : v.oneCell' = true) : RT lo hi (w.setCell ⟨rb, i * 13, none⟩ v) p rb (L.set i (c.set 0 v)) :=
  RT.step (j := 0) hi' h (by decide) v hv
structure NRel (n : Nat) (l : List AT) (w : World) (v : Value) (wr : World) : Prop where
  ex : ∃ k : Nat, k ≤ n ∧ v = .int .i64 (k : Int) ∧ (l.take k).all fitsA = true ∧ PT w.heap.size (w.heap.size + 2) wr (w.heap.size + 1) w.heap.size (stL l n k) ∧ Below w.heap.size w wr
def NewP (l : List AT) (w : World) (e : Ending) (w' : World) : Prop :=
  (newE l ≠ 0 → e = .returned (.tuple #[.pointer none, .int .i64 (newE l)])) ∧ (newE l = 0 → ∃ p rb, e = .returned (.tuple #[.pointer (some ⟨p, 0, none⟩), .int .i64 0]) ∧ PT w.heap.size w'.heap.size w' p rb (l.map freshP)) ∧ Below w.heap.size w w'
theorem NewP.err {l : List AT} {w w' : World} {z : Int} (h : newE l = z) (hz : z ≠ 0) (hb : Below w.heap.size w w') : NewP l w (.returned (.tuple #[.pointer none, .int .i64 z])) w' :=
  ⟨fun _ => by rw [h], fun h0 => absurd (h.symm.trans h0) hz, hb⟩
theorem NewP.ok {l : List AT} {w w' : World} {p rb : Nat} (h : newE l = 0) (hs : PT w.heap.size w'.heap.size w' p rb (l.map freshP)) (hb : Below w.heap.size w w') : NewP l w (.returned (.tuple #[.pointer (some ⟨p, 0, none⟩), .int .i64 0])) w' :=
  ⟨fun h0 => absurd h h0, fun _ => ⟨p, rb, rfl, hs⟩, hb⟩
theorem all_step {l : List AT} {k : Nat} {a : AT} (ha : l[k]? = some a) (h : (l.take k).all fitsA = true) (hf : fitsA a = true) : (l.take (k + 1)).all fitsA = true := by
  rw [take_snoc ha, List.all_append, h]; simp [hf]
theorem newE_two {l : List AT} {k : Nat} {a : AT} (hl : l.length ≤ 16) (ha : l[k]? = some a) (hf : fitsA a = false) : newE l = 2 := by
  unfold newE
  rw [if_neg (by omega), if_neg]
  rw [List.all_eq_true]
  exact fun h => by have := h a (List.mem_of_getElem? ha); rw [hf] at this; cases this
theorem newE_zero {l : List AT} (hl : l.length ≤ 16) (h : l.all fitsA = true) : newE l = 0 := by
  unfold newE
  rw [if_neg (by omega), if_pos h]
set_option maxRecDepth 100000 in
set_option maxHeartbeats 8000000 in
theorem new_any (g : Nat) (A : Option Addr) (n c : Nat) (l : List AT) (w : World) (h : St g w 5 (.slice A n c) n (CT l)) (hn : l.length = n) (hm : n ≤ maxLen) :
    Calls Try.prog 18 #[.slice A n c] w (NewP l w) := by
  have HN := Lib.hid hn
  have H := Lib.hid h
  unfold maxLen at hm
  clear h hn
  by_cases h16 : 16 < n
  · have hd : decide (16 < (n : Int)) = true := by simp; omega
    go_enter Try.func18, Try.ntmps18
    go_wp2_with fail
    go_ret2
    exact NewP.err (by unfold newE; rw [HN.out, if_pos h16]) (by decide) (Below.refl _ _)
  · have hd : decide (16 < (n : Int)) = false := by simp; omega
    have hn16 : n ≤ 16 := by omega
    have HN16 : Hid (n ≤ 16) := hn16
    have HR := Lib.hid (rt_made n hn16 w)
    have hmk := make_procs n hn16
    obtain ⟨M, hM⟩ : ∃ M, madeCells (zeroP.cells.toArray) (n * 13) = M := ⟨_, rfl⟩
    simp only [hM] at hmk
    rw [hM] at HR
    clear hM hm h16
    go_enter Try.func18, Try.ntmps18
    go_wp2_with fail
    clear hmk
    go_loopw [17] (fun v wr => NRel n l w v wr) (fun v => fun _ => n - (intOf v).toNat)
    case atStart => exact ⟨⟨0, Nat.zero_le _, rfl, by simp, by simpa [stL] using HR.out, ((Below.refl _ _).alloc (Nat.le_refl _) _).alloc (by simp) _⟩⟩
    case round =>
      obtain ⟨⟨k, hk, rfl, hall, hpt, hb⟩⟩ := hrel
      have HK := Lib.hid hk
      have HA := Lib.hid hall
      have HP := Lib.hid hpt
      have HB := Lib.hid hb
      clear hk hall hpt hb
      by_cases hlt : k < n
      · have hkI : (k : Int) < (n : Int) := by omega
        have HX : Hid (k < n) := hlt
        obtain ⟨_, b, off, rfl, hbl, hg, hc⟩ := H.out.at_ hlt
        have hxs : l[k]? = some (l[k]'(by have := HN.out; omega)) := List.getElem?_eq_getElem _
        obtain ⟨x, hx⟩ : ∃ x, l[k]'(by have := HN.out; omega) = x := ⟨_, rfl⟩
        rw [hx] at hxs
        have HXS := Lib.hid hxs
        have hca := CT_at hxs
        have CF := Lib.hid fun (W : World) => fits_any x W
        obtain ⟨t, ht⟩ : ∃ t, fitsA x = t := ⟨_, rfl⟩
        have HT := Lib.hid ht
        rw [ht] at CF
        obtain ⟨a0, a1, a2, a3, a4⟩ := x
        unfold AT.val at CF
        dsimp only at CF
        have d0 : wr.cell? ⟨b, off + k * 5, none⟩ = some (.int .i64 a0) := by have := hc _ _ (hca 0 _ rfl); exact cell_later HB.out (by simpa [Nat.add_assoc] using this)
        have d1 : wr.cell? ⟨b, off + k * 5 + 1, none⟩ = some (.int .i64 a1) := by have := hc _ _ (hca 1 _ rfl); exact cell_later HB.out (by simpa [Nat.add_assoc] using this)
        have d2 : wr.cell? ⟨b, off + k * 5 + 2, none⟩ = some (.int .i64 a2) := by have := hc _ _ (hca 2 _ rfl); exact cell_later HB.out (by simpa [Nat.add_assoc] using this)
        have d3 : wr.cell? ⟨b, off + k * 5 + 3, none⟩ = some (.int .i64 a3) := by have := hc _ _ (hca 3 _ rfl); exact cell_later HB.out (by simpa [Nat.add_assoc] using this)
        have d4 : wr.cell? ⟨b, off + k * 5 + 4, none⟩ = some (.int .i64 a4) := by have := hc _ _ (hca 4 _ rfl); exact cell_later HB.out (by simpa [Nat.add_assoc] using this)
        clear hc hca hx hbl hg hxs ht
        cases t with
        | false =>
          clear hlt
          go_wp2_with (go_at_call 65; refine (CF.out _).mono ?_; rintro e w1 ⟨rfl, b1⟩)
          go_ret2
          exact NewP.err (newE_two (by rw [HN.out]; exact HN16.out) HXS.out HT.out) (by decide) ((HB.out.alloc HB.out.size _).trans (b1.mono (by simpa using Nat.le_succ_of_le HB.out.size)))
        | true =>
          clear hlt
          have HBS := Lib.hid HB.out.size
          go_wp2_with (go_at_call 65; refine (CF.out _).mono ?_; rintro e w1 ⟨rfl, b1⟩)
          have HB1 : Hid (Below w.heap.size w w1) := (HB.out.alloc HB.out.size _).trans (b1.mono (by simpa using Nat.le_succ_of_le HB.out.size))
          have HP1 : Hid (PT w.heap.size (w.heap.size + 2) w1 (w.heap.size + 1) w.heap.size (stL l n k)) := HP.out.below (((Below.refl _ _).alloc (Nat.le_refl _) _).trans (b1.mono (by simp)))
          have x0 : w1.cell? ⟨wr.heap.size, 0, none⟩ = some (.int .i64 a0) := cell_later b1 (by simp)
          have x1 : w1.cell? ⟨wr.heap.size, 1, none⟩ = some (.int .i64 a1) := cell_later b1 (by simp)
          have x2 : w1.cell? ⟨wr.heap.size, 2, none⟩ = some (.int .i64 a2) := cell_later b1 (by simp)
          have x3 : w1.cell? ⟨wr.heap.size, 3, none⟩ = some (.int .i64 a3) := cell_later b1 (by simp)
          have x4 : w1.cell? ⟨wr.heap.size, 4, none⟩ = some (.int .i64 a4) := cell_later b1 (by simp)
          obtain ⟨cap, hc, hcap⟩ := RT.cell HP1.out
          rw [List.length_map, stL_len HN.out HK.out] at hc
          have hxc : ((stL l n k).map MP.cells)[k]? = some zeroP.cells := by rw [List.getElem?_map, stL_at HN.out HX.out]; rfl
          obtain ⟨c0, f0⟩ := RT.at_ HP1.out hxc (j := 0) rfl
          obtain ⟨c1, f1⟩ := RT.at_ HP1.out hxc (j := 1) rfl
          obtain ⟨c2, f2⟩ := RT.at_ HP1.out hxc (j := 2) rfl
          obtain ⟨c3, f3⟩ := RT.at_ HP1.out hxc (j := 3) rfl
          obtain ⟨c4, f4⟩ := RT.at_ HP1.out hxc (j := 4) rfl
          rw [Nat.add_zero] at c0 f0
          have HXC := Lib.hid hxc
          clear hxc hcap b1 d0 d1 d2 d3 d4 CF
          have hkn : k < n := HX.out
          go_still_tail 8, (by kernel_rfl)
          repeat still_step
          go_wp2_with fail
          have HIN : Hid (k < ((stL l n k).map MP.cells).length) := by unfold Hid; rw [List.length_map, stL_len HN.out HK.out]; exact HX.out
          have HS := Lib.hid (RT.start HP1.out HXC.out)
          refine (stop_raw w.heap.size (w.heap.size + 2) (w.heap.size + 1) w.heap.size ((stL l n k).set k (wideP ⟨a0, a1, a2, a3, a4⟩)) k (wideP ⟨a0, a1, a2, a3, a4⟩) _ (PT.below (PT.close ?_) (below_drewN (Below.refl _ _) 1)) ?_).mono ?_
          · apply Exists.intro
            apply And.intro
            · repeat (first | with_reducible exact HS.out | ((with_reducible apply RT.step0 HIN.out); rotate_left; rfl; rotate_left) | ((with_reducible apply RT.step HIN.out); rotate_left; exact of_decide_eq_true rfl; rfl; rotate_left))
            · rfl
          · rw [List.getElem?_set_self (by rw [stL_len HN.out HK.out]; exact HX.out)]
          rintro e w3 ⟨rfl, hp3, hq3⟩
          have HP3 : Hid (PT w.heap.size (w.heap.size + 2) w3 (w.heap.size + 1) w.heap.size (stL l n (k + 1))) := by
            unfold Hid
            rw [← stL_set HN.out HX.out HXS.out]
            rw [List.set_set] at hp3
            exact hp3
          have HB3 : Hid (Below w.heap.size w w3) := by
            have h1 : Past w.heap.size w1 w3 := by
              refine Past.trans ?_ hq3
              refine Past.drew ?_
              repeat (first | with_reducible exact Past.refl _ _ | (with_reducible refine Past.setCell ?_ _ _))
            exact HB1.out.trans (h1.below (Nat.le_refl _) HB1.out.size)
          clear hp3 hq3 x0 x1 x2 x3 x4 c0 c1 c2 c3 c4 f0 f1 f2 f3 f4 hc
          go_wp2_with fail
          go_roundw
          case rel =>
            have Q : NRel n l w (.int .i64 ((k : Int) + 1)) w3 := ⟨⟨k + 1, HX.out, by go_num, all_step HXS.out HA.out HT.out, HP3.out, HB3.out⟩⟩
            first | exact Q | ((repeat apply Exists.intro); exact ⟨Q, rfl⟩)
          case measure => have := HX.out; simp [intOf]; omega
      · have hkn : k = n := by have := HK.out; omega
        clear hlt
        subst hkn
        go_wp2_with fail
        go_ret2
        have h1 := HP.out
        rw [stL_end HN.out] at h1
        have h2 := HA.out
        rw [List.take_of_length_le (Nat.le_of_eq HN.out)] at h2
        exact NewP.ok (newE_zero (by rw [HN.out]; exact HN16.out) h2) (RT.wide h1 (RT.hs h1) (Nat.le_refl _)) HB.out
end Go.Proofs.Ytdabmbdikofhpaa.P
