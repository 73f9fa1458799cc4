/-
  A monitor is made. Each statement bears its own conditions.
-/
import Derived.Test.YthnlkfcfiieddaaHlC
namespace Go.Proofs.Ythnlkfcfiieddaa.Hl
open Go.RowKit Go.Proofs.Ythnlkfcfiieddaa.F 
set_option linter.unusedVariables false
set_option linter.unusedSimpArgs false
theorem he_hl : ∀ (x : Nat) (w : World), (binOp .eql 25 (.pointer (some ⟨x, 0, none⟩)) (.pointer none)).run Try.prog w = .ok (.bool false) w := fun _ _ => rfl
/-- Rules, one behind the other: the first error, and the rules so far. -/
def newL (mo : Bool) : List (Int × Int × Int) → List ((Int × Int) × Int) → Int × List ((Int × Int) × Int)
  | [], R => (0, R)
  | x :: r, R => if addE mo R x.1 x.2.1 x.2.2 = 0 then newL mo r (addR mo R x.1 x.2.1 x.2.2) else (addE mo R x.1 x.2.1 x.2.2, R)
/-- Rules that lie in a row. -/
structure RR (w : World) (A : Option Addr) (n : Nat) (rs : List (Int × Int × Int)) : Prop where
  ln : rs.length = n
  ex : ∀ i x, rs[i]? = some x → ∃ b off, A = some ⟨b, off, none⟩ ∧ b < w.heap.size ∧ w.cell? ⟨b, off + i * 3, none⟩ = some (.int .i64 x.1) ∧ w.cell? ⟨b, off + i * 3 + 1, none⟩ = some (.int .i64 x.2.1) ∧ w.cell? ⟨b, off + i * 3 + 2, none⟩ = some (.int .i64 x.2.2)
structure NR (S n : Nat) (mo : Bool) (rs : List (Int × Int × Int)) (w0 : World) (iv : Value) (wr : World) : Prop where
  ex : ∃ (j : Nat) (R : List ((Int × Int) × Int)), j ≤ n ∧ iv = .int .i64 (j : Int) ∧ newL mo (rs.drop j) R = newL mo rs [] ∧ MV wr (S + 2) S (S + 1) mo R [] ∧ Below S w0 wr
set_option maxRecDepth 100000 in
set_option maxHeartbeats 16000000 in
theorem new_any (mo : Bool) (A : Option Addr) (n c : Nat) (rs : List (Int × Int × Int)) (w : World) (h : RR w A n rs) (hn : n ≤ 64) : Calls Try.prog 9 #[.slice A n c, .bool mo] w fun r w' =>
    Below w.heap.size w w' ∧ ((newL mo rs []).1 = 0 → r = .returned (.tuple #[.pointer (some ⟨w.heap.size + 2, 0, none⟩), .int .i64 0]) ∧ MV w' (w.heap.size + 2) w.heap.size (w.heap.size + 1) mo (newL mo rs []).2 []) ∧ (¬ (newL mo rs []).1 = 0 → r = .returned (.tuple #[.pointer none, .int .i64 (newL mo rs []).1])) := by
  have hmm := @run_makeMap Try.prog
  have HR := Lib.hid h
  obtain ⟨S, hS⟩ : ∃ S, w.heap.size = S := ⟨_, rfl⟩
  have HS := Lib.hid hS
  obtain ⟨W0, hW0⟩ : ∃ W0, ((w.alloc (.map #[] 0)).alloc (.map #[] 0)).alloc (.cells #[.bool mo, .map (some S), .map (some (S + 1))] 64) = W0 := ⟨_, rfl⟩
  have a1 : Below S w (w.alloc (.map #[] 0)) := by rw [← hS]; exact (Below.refl _ _).alloc (Nat.le_refl _) _
  have s1 : (w.alloc (.map #[] 0)).heap.size = S + 1 := by rw [← hS]; simp
  have a2 : Below (S + 1) (w.alloc (.map #[] 0)) ((w.alloc (.map #[] 0)).alloc (.map #[] 0)) := by rw [← s1]; exact (Below.refl _ _).alloc (Nat.le_refl _) _
  have s2 : ((w.alloc (.map #[] 0)).alloc (.map #[] 0)).heap.size = S + 2 := by rw [← hS]; simp
  have a3 : Below (S + 2) ((w.alloc (.map #[] 0)).alloc (.map #[] 0)) W0 := by rw [← hW0, ← s2]; exact (Below.refl _ _).alloc (Nat.le_refl _) _
  have m1 : MP (w.alloc (.map #[] 0)) S [] := by rw [← hS]; exact MP.made w
  have m2 : MP ((w.alloc (.map #[] 0)).alloc (.map #[] 0)) (S + 1) [] := by rw [← s1]; exact MP.made _
  have HM0 : Hid (MV W0 (S + 2) S (S + 1) mo [] []) := by
    refine ⟨?_, ?_, ?_, by omega, by omega, by omega⟩
    · rw [← hW0]
      have := heap_alloc_new ((w.alloc (.map #[] 0)).alloc (.map #[] 0)) (.cells #[.bool mo, .map (some S), .map (some (S + 1))] 64)
      rw [s2] at this
      exact this
    · exact m1.keep ((a3.block S (by omega)).trans (a2.block S (by omega)))
    · exact m2.keep (a3.block (S + 1) (by omega))
  have HB0 : Hid (Below S w W0) := by
    have h2 : Below S w ((w.alloc (.map #[] 0)).alloc (.map #[] 0)) := a1.trans (a2.mono (Nat.le_succ _))
    exact h2.trans (a3.mono (by omega))
  have S0 : Hid (W0.heap.size = S + 3) := by rw [← hW0, ← hS]; unfold Hid; simp
  have hq : decide (64 < (n : Int)) = false := by simp; omega
  have hq' : ¬ (64 : Int) < (n : Int) := by omega
  have HN : Hid (n ≤ 64) := hn
  rw [hS]
  clear h a1 s2 a2 a3 m1 m2 hn
  go_enter Try.func9, Try.ntmps9
  go_upto_block 0 with fail
  clear hW0 hS s1 hmm hq hq'
  go_cut [20] (fun ix wx => ∃ R, (0, R) = newL mo rs [] ∧ MV wx (S + 2) S (S + 1) mo R [] ∧ Below S w wx)
  case first =>
    go_wp2_with fail
    go_loopw [20] (fun iv wr => NR S n mo rs w iv wr) (fun i _ => n - (intOf i).toNat)
    case atStart => exact ⟨⟨0, [], Nat.zero_le _, rfl, rfl, HM0.out, HB0.out⟩⟩
    case round =>
      clear HM0 HB0 S0
      obtain ⟨⟨j, R, hj, rfl, hf, hm, hb⟩⟩ := hrel
      have HM := Lib.hid hm
      have HB := Lib.hid hb
      clear hm hb
      by_cases hlt : j < n
      rotate_left
      · have hjI : ¬ (j : Int) < (n : Int) := by omega
        have g0 : decide ((j : Int) < (n : Int)) = false := by simp; omega
        have hd : rs.drop j = [] := List.drop_eq_nil_of_le (by have := HR.out.ln; omega)
        rw [hd] at hf
        have HF : Hid ((0, R) = newL mo rs []) := hf
        clear hlt hj hf hd
        go_wp2_with fail
        go_meet
        exact ⟨R, HF.out, HM.out, HB.out⟩
      have hjI : (j : Int) < (n : Int) := by omega
      have g0 : decide ((j : Int) < (n : Int)) = true := by simp; omega
      have hjl : j < rs.length := by have := HR.out.ln; omega
      obtain ⟨x, hx⟩ : ∃ x, rs[j] = x := ⟨_, rfl⟩
      have hd : rs.drop j = x :: rs.drop (j + 1) := by rw [List.drop_eq_getElem_cons hjl, hx]
      rw [hd] at hf
      obtain ⟨b, off, hA, hbl, c0, c1, c2⟩ := HR.out.ex j x (by rw [List.getElem?_eq_getElem hjl, hx])
      subst hA
      obtain ⟨xe, xl, xd⟩ := x
      rw [HS.out] at hbl
      have q0 : wr.cell? ⟨b, off + j * 3, none⟩ = some (.int .i64 xe) := (HB.out.cell hbl).trans c0
      have q1 : wr.cell? ⟨b, off + j * 3 + 1, none⟩ = some (.int .i64 xl) := (HB.out.cell hbl).trans c1
      have q2 : wr.cell? ⟨b, off + j * 3 + 2, none⟩ = some (.int .i64 xd) := (HB.out.cell hbl).trans c2
      have HX : Hid (j < n ∧ n ≤ 64) := ⟨hlt, HN.out⟩
      have hj64 : (j : Int) < 64 := by have := HN.out; omega
      have hW : Below wr.heap.size wr (wr.alloc (.cells #[.int .i64 0, .int .i64 0, .int .i64 0] 59)) := (Below.refl _ _).alloc (Nat.le_refl _) _
      have hy1 : (wr.alloc (.cells #[.int .i64 0, .int .i64 0, .int .i64 0] 59)).heap[wr.heap.size]? = some (.cells #[.int .i64 0, .int .i64 0, .int .i64 0] 59 (0, 0)) := heap_alloc_new _ _
      have hlt3 : S + 3 ≤ wr.heap.size := by have := HM.out.lt; omega
      obtain ⟨Y, hY⟩ : ∃ Y, wr.heap.size = Y := ⟨_, rfl⟩
      obtain ⟨W1, hW1⟩ : ∃ W, wr.alloc (.cells #[.int .i64 0, .int .i64 0, .int .i64 0] 59) = W := ⟨_, rfl⟩
      have HM1 := HM.out.below hW
      rw [hW1] at hW hy1 HM1
      rw [hY] at hy1 hlt3
      have z0 : W1.frozen? ⟨Y, 0, none⟩ = false := (row_cell hy1 0).2
      have z1 : W1.frozen? ⟨Y, 1, none⟩ = false := (row_cell hy1 1).2
      have z2 : W1.frozen? ⟨Y, 2, none⟩ = false := (row_cell hy1 2).2
      have y0 : W1.cell? ⟨Y, 0, none⟩ = some (.int .i64 0) := by rw [(row_cell hy1 0).1]; rfl
      have y1 : W1.cell? ⟨Y, 1, none⟩ = some (.int .i64 0) := by rw [(row_cell hy1 1).1]; rfl
      have y2 : W1.cell? ⟨Y, 2, none⟩ = some (.int .i64 0) := by rw [(row_cell hy1 2).1]; rfl
      have hs := set_at (set_at (set_at hy1 0 (.int .i64 xe)) 1 (.int .i64 xl)) 2 (.int .i64 xd)
      have hfo : Fo (fun b => b = Y) W1 (((W1.setCell ⟨Y, 0, none⟩ (.int .i64 xe)).setCell ⟨Y, 1, none⟩ (.int .i64 xl)).setCell ⟨Y, 2, none⟩ (.int .i64 xd)) := (((Fo.refl (fun b => b = Y) W1).setCell (.inl rfl) _ _).setCell (.inl rfl) _ _).setCell (.inl rfl) _ _
      obtain ⟨W2, hW2⟩ : ∃ W, ((W1.setCell ⟨Y, 0, none⟩ (.int .i64 xe)).setCell ⟨Y, 1, none⟩ (.int .i64 xl)).setCell ⟨Y, 2, none⟩ (.int .i64 xd) = W := ⟨_, rfl⟩
      rw [hW2] at hs hfo
      have HY2 : Hid (W2.heap[Y]? = some (.cells #[.int .i64 xe, .int .i64 xl, .int .i64 xd] 59 (0, 0))) := hs
      have HM2 : Hid (MV W2 (S + 2) S (S + 1) mo R []) := HM1.fo hfo (by omega) (by omega) (by omega)
      have HB2 : Hid (Below S w W2) := (HB.out.trans (hW.mono (by omega))).trans (hfo.below (fun b hb => by rw [hb]; omega) (by have := hW.size; omega))
      have p0 : W2.cell? ⟨Y, 0, none⟩ = some (.int .i64 xe) := by rw [(row_cell HY2.out 0).1]; rfl
      have p1 : W2.cell? ⟨Y, 1, none⟩ = some (.int .i64 xl) := by rw [(row_cell HY2.out 1).1]; rfl
      have p2 : W2.cell? ⟨Y, 2, none⟩ = some (.int .i64 xd) := by rw [(row_cell HY2.out 2).1]; rfl
      have CA := Lib.hid (add_any (S + 2) S (S + 1) mo R [] xe xl xd W2 HM2.out)
      obtain ⟨ae, hae⟩ : ∃ x, addE mo R xe xl xd = x := ⟨_, rfl⟩
      rw [hae] at CA
      have hstep : newL mo ((xe, xl, xd) :: rs.drop (j + 1)) R = if ae = 0 then newL mo (rs.drop (j + 1)) (addR mo R xe xl xd) else (ae, R) := by rw [← hae]; rfl
      rw [hstep] at hf
      obtain ⟨R2, hR2⟩ : ∃ x, addR mo R xe xl xd = x := ⟨_, rfl⟩
      rw [hR2] at CA hf
      clear hW hy1 hs hfo HM1 c0 c1 c2 hbl hx hd hjl hae hstep hR2 hlt hj
      by_cases ha : ae = 0
      · subst ha
        rw [if_pos rfl] at hf
        have HF := Lib.hid hf
        clear hf
        go_wp2_with fail
        refine CA.out.mono ?_
        rintro r w5 ⟨rfl, m5, f5⟩
        have M5 := Lib.hid m5
        have B5 : Hid (Below S w w5) := HB2.out.trans (f5.below (fun b hb => by rw [hb]; exact Nat.le_refl _) (by have := HM2.out.lt; omega))
        clear m5 f5 CA
        go_wp2_with fail
        go_roundw
        case rel =>
          have Q : NR S n mo rs w (.int .i64 ((j : Int) + 1)) w5 := ⟨⟨j + 1, R2, HX.out.1, by go_num, HF.out, M5.out, B5.out⟩⟩
          first | exact Q | ((repeat apply Exists.intro); exact ⟨Q, rfl⟩)
        case measure => have := HX.out; simp [intOf]; omega
      · rw [if_neg ha] at hf
        have ga : (ae != 0) = true := by simpa using ha
        have HF : Hid (newL mo rs [] = (ae, R)) := hf.symm
        have HA := Lib.hid ha
        clear hf ha
        go_wp2_with fail
        refine CA.out.mono ?_
        rintro r w5 ⟨rfl, m5, f5⟩
        have B5 : Hid (Below S w w5) := HB2.out.trans (f5.below (fun b hb => by rw [hb]; exact Nat.le_refl _) (by have := HM2.out.lt; omega))
        clear m5 f5 CA
        go_wp2_with fail
        go_ret2
        refine ⟨B5.out, fun h0 => ?_, fun _ => ?_⟩
        · rw [HF.out] at h0; exact absurd h0 HA.out
        · rw [HF.out]; rfl
  case rest =>
    obtain ⟨w3, hw3⟩ : ∃ w', w' = wc := ⟨_, rfl⟩
    subst hw3
    obtain ⟨R, hf, hm, hb⟩ := hcut
    have HF := Lib.hid hf
    have HM := Lib.hid hm
    have HB := Lib.hid hb
    clear hf hm hb HM0 HB0 S0
    go_wp2_with fail
    go_ret2
    refine ⟨HB.out, fun _ => ⟨rfl, ?_⟩, fun h0 => ?_⟩
    · rw [← HF.out]; exact HM.out
    · rw [← HF.out] at h0; exact absurd rfl h0
end Go.Proofs.Ythnlkfcfiieddaa.Hl
