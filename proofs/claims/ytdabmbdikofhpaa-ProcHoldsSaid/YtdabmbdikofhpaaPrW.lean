/-
  The walk of ProcHolds. Each statement bears its own conditions.
-/
import Derived.Test.YtdabmbdikofhpaaPrK
import Derived.Test.YtdabmbdikofhpaaPrQ
import Derived.Test.YtdabmbdikofhpaaPrV
namespace Go.Proofs.Ytdabmbdikofhpaa.P
open Go.RowKit
set_option linter.unusedVariables false
set_option linter.unusedSimpArgs false
/-- What is done. -/
structure MC where
  d : Int
  i : Int
  n : Int
def RC3 (x : MC) (cs : List Value) : Prop := cs = [.int .u8 x.d, .int .i64 x.i, .int .i64 x.n] ∧ 0 ≤ x.d ∧ x.d ≤ 255 ∧ I64 x.i ∧ I64 x.n
structure HRel (n : Nat) (W1 : World) (p rb p' rb' m : Nat) (v : Value) (wr : World) : Prop where
  ex : ∃ (k : Nat) (x : MP), k ≤ n ∧ v = .int .i64 (k : Int) ∧ H1 x ∧ T2 W1 wr p rb p' rb' m x (hd x)
theorem H1.start {a : AT} (h : fitsA a = true) {t : Int} (ht : TK t) : H1 (startP (freshP a) t) := by
  have hf : FitsA a := by simpa [fitsA] using h
  refine ⟨(Ok.fresh h).start ht, ?_, ?_, ?_⟩ <;> unfold startP <;> split
  · rfl
  · rfl
  · simp [restP]
  · simp [beginP]
  · intro _
    have h1 : 0 ≤ a.off := hf.2.2.2.1.1
    have h2 := ht.1
    show 0 ≤ t + a.off
    omega
  · intro h3
    simp [beginP] at h3
set_option maxRecDepth 100000 in
set_option maxHeartbeats 8000000 in
theorem holds_core (a : AT) (st : Int) (A : Option Addr) (n c : Nat) (l : List MC) (W : World) (h : Row W 3 RC3 (.slice A n c) l) (hst : 0 ≤ st ∧ st ≤ 65535) (hm : n ≤ maxLen) :
    Calls Try.prog 8 #[a.val, .int .u16 st, .slice A n c] W fun e w' => e = .returned (.bool true) ∧ Below W.heap.size W w' := by
  have H := Lib.hid h
  unfold maxLen at hm
  obtain ⟨a0, a1, a2, a3, a4⟩ := a
  obtain ⟨W0, hW0⟩ : ∃ W0, W.alloc (.cells #[.int .i64 a0, .int .i64 a1, .int .i64 a2, .int .i64 a3, .int .i64 a4] 43) = W0 := ⟨_, rfl⟩
  have HB0 : Hid (Below W.heap.size W W0) := by unfold Hid; rw [← hW0]; exact (Below.refl _ _).alloc (Nat.le_refl _) _
  have HX0 : Hid (W0.cell? ⟨W.heap.size, 0, none⟩ = some (.int .i64 a0)) := by unfold Hid; rw [← hW0]; simp
  have HX1 : Hid (W0.cell? ⟨W.heap.size, 1, none⟩ = some (.int .i64 a1)) := by unfold Hid; rw [← hW0]; simp
  have HX2 : Hid (W0.cell? ⟨W.heap.size, 2, none⟩ = some (.int .i64 a2)) := by unfold Hid; rw [← hW0]; simp
  have HX3 : Hid (W0.cell? ⟨W.heap.size, 3, none⟩ = some (.int .i64 a3)) := by unfold Hid; rw [← hW0]; simp
  have HX4 : Hid (W0.cell? ⟨W.heap.size, 4, none⟩ = some (.int .i64 a4)) := by unfold Hid; rw [← hW0]; simp
  have CS := Lib.hid fun (W : World) => speaks_any W
  have CN := Lib.hid fun (W : World) => new1 ⟨a0, a1, a2, a3, a4⟩ W
  unfold AT.cells at CN
  dsimp only at CN
  unfold AT.val
  dsimp only
  clear h
  by_cases h40 : 40 < n
  · have h4d : decide (40 < (n : Int)) = true := by simp; omega
    go_enter Try.func8, Try.ntmps8
    go_wp2_with fail
    refine (CS.out _).mono ?_
    rintro e w1 ⟨rfl, b1⟩
    go_wp2_with fail
    refine (CS.out _).mono ?_
    rintro e w2 ⟨rfl, b2⟩
    go_wp2_with fail
    go_ret
    have b0 := HB0.out
    exact ⟨rfl, b0.trans ((b1.trans (b2.mono b1.size)).mono b0.size)⟩
  · have h4d : decide (40 < (n : Int)) = false := by simp; omega
    have hn40 : n ≤ 40 := by omega
    clear h40 hm
    go_enter Try.func8, Try.ntmps8
    go_wp2_with fail
    refine (CS.out _).mono ?_
    rintro e W1 ⟨rfl, b1⟩
    have x0 : W1.cell? ⟨W.heap.size, 0, none⟩ = some (.int .i64 a0) := cell_later b1 HX0.out
    have x1 : W1.cell? ⟨W.heap.size, 1, none⟩ = some (.int .i64 a1) := cell_later b1 HX1.out
    have x2 : W1.cell? ⟨W.heap.size, 2, none⟩ = some (.int .i64 a2) := cell_later b1 HX2.out
    have x3 : W1.cell? ⟨W.heap.size, 3, none⟩ = some (.int .i64 a3) := cell_later b1 HX3.out
    have x4 : W1.cell? ⟨W.heap.size, 4, none⟩ = some (.int .i64 a4) := cell_later b1 HX4.out
    have HB1 : Hid (Below W.heap.size W W1) := HB0.out.trans (b1.mono HB0.out.size)
    clear b1
    go_wp2_with fail
    refine (CN.out W1).mono ?_
    rintro e W2 ⟨hbad, hok, hb⟩
    have HY0 : Hid (W1.cell? ⟨W.heap.size, 0, none⟩ = some (.int .i64 a0)) := x0
    have HY1 : Hid (W1.cell? ⟨W.heap.size, 1, none⟩ = some (.int .i64 a1)) := x1
    have HY2 : Hid (W1.cell? ⟨W.heap.size, 2, none⟩ = some (.int .i64 a2)) := x2
    have HY3 : Hid (W1.cell? ⟨W.heap.size, 3, none⟩ = some (.int .i64 a3)) := x3
    have HY4 : Hid (W1.cell? ⟨W.heap.size, 4, none⟩ = some (.int .i64 a4)) := x4
    have HB2 : Hid (Below W.heap.size W W2) := HB1.out.trans (hb.mono HB1.out.size)
    clear hb x0 x1 x2 x3 x4
    rcases hf : fitsA ⟨a0, a1, a2, a3, a4⟩ with _ | _
    · obtain rfl := hbad hf
      clear hbad hok hf
      go_wp2_with fail
      go_ret
      exact ⟨rfl, HB2.out⟩
    · obtain ⟨p, rb, rfl, ht⟩ := hok hf
      have HT := Lib.hid ht
      have hfa : FitsA ⟨a0, a1, a2, a3, a4⟩ := by simpa [fitsA] using hf
      have HF := Lib.hid hfa
      have hnil : ∀ W : World, (binOp .eql 25 (.pointer (some ⟨p, 0, none⟩)) (.pointer none)).run Try.prog W = .ok (.bool false) W := fun _ => rfl
      clear hbad hok hf ht CN hfa
      obtain ⟨hst0, hst1⟩ := hst
      have HH : Hid (H1 (startP (freshP ⟨a0, a1, a2, a3, a4⟩) st)) := H1.start (by unfold fitsA; exact decide_eq_true HF.out) ⟨hst0, by omega⟩
      have C1 := Lib.hid (start1 (t := st) HT.out ⟨hst0, by omega⟩ rfl)
      obtain ⟨X, hX⟩ : ∃ X, startP (freshP ⟨a0, a1, a2, a3, a4⟩) st = X := ⟨_, rfl⟩
      rw [hX] at C1 HH
      clear hX
      go_wp2_with fail
      refine C1.out.mono ?_
      rintro e V1 ⟨rfl, ht⟩
      have CC := Lib.hid (show Calls Try.prog 11 #[.pointer (some ⟨p, 0, none⟩)] V1 (fun e w' => ∃ p' rb', e = .returned (.pointer (some ⟨p', 0, none⟩)) ∧ T2 W1 w' p rb p' rb' V1.heap.size X X) from by
        obtain ⟨hi, hp⟩ := ht.pt
        refine (clone_any _ hi p rb [X] V1 hp (by simp)).mono fun e w' q => ?_
        obtain ⟨⟨p', rb', q1, q2⟩, q3⟩ := q
        exact ⟨p', rb', q1, ⟨RT.wide (hp.below q3) hp.hs q3.size, ⟨_, q2⟩, ht.b.trans (q3.mono ht.b.size)⟩⟩)
      clear ht C1 HT
      go_wp2_with fail
      refine CC.out.mono ?_
      rintro e V2 ⟨p', rb', rfl, ht⟩
      have HT2 := Lib.hid ht
      have hnil' : ∀ W : World, (binOp .eql 25 (.pointer (some ⟨p', 0, none⟩)) (.pointer none)).run Try.prog W = .ok (.bool false) W := fun _ => rfl
      have C2 := Lib.hid (ht.op0r (suspend_op X (by unfold freeB; exact decide_eq_true ⟨HH.out.sta, HH.out.hel⟩)))
      clear ht CC
      obtain ⟨m, hm⟩ : ∃ m, V1.heap.size = m := ⟨_, rfl⟩
      rw [hm] at C2
      clear hm HT2
      go_wp2_with fail
      refine C2.out.mono ?_
      rintro e V3 ⟨rfl, ht⟩
      have HT3 : Hid (T2 W1 V3 p rb p' rb' m X (hd X)) := ht
      have C3 := Lib.hid (HT3.out.op0r (state_op (hd X)))
      have hs4 : stateN (hd X) = 4 := rfl
      rw [hs4] at C3
      clear ht C2 hs4
      go_wp2_with fail
      refine C3.out.mono ?_
      rintro e V4 ⟨rfl, ht⟩
      have HT4 := Lib.hid ht
      have C4 := Lib.hid ht.same_rl
      have hsf : sameL [hd X] [X] = false := by
        rw [Bool.eq_false_iff]
        intro h
        have h1 := sameL_iff.1 h
        have h2 : hd X = X := by injection h1
        have h3 : (hd X).hel = X.hel := by rw [h2]
        rw [HH.out.hel] at h3
        cases h3
      rw [hsf] at C4
      clear ht C3 HT3 hsf
      go_wp2_with fail
      refine C4.out.mono ?_
      rintro e V5 ⟨rfl, ht⟩
      have HT5 := Lib.hid ht
      clear ht C4 HT4
      go_wp2_with fail
      go_loopw [65] (fun v wr => HRel n W1 p rb p' rb' m v wr) (fun v => fun _ => n - (intOf v).toNat)
      case atStart => exact ⟨⟨0, X, Nat.zero_le _, rfl, HH.out, HT5.out⟩⟩
      case round =>
        clear HT5 HH
        obtain ⟨⟨k, x, hk, rfl, hh, ht⟩⟩ := hrel
        have HK := Lib.hid hk
        have HH := Lib.hid hh
        have HT := Lib.hid ht
        by_cases hlt : k < n
        · have hkI : (k : Int) < (n : Int) := by omega
          have HX : Hid (k < n) := hlt
          obtain ⟨hnl, b, off, c0, cs, rfl, hbl, hlk, hrc, hcl, hcc⟩ := H.out.at_ k hlt
          obtain ⟨hcs, hd0, hd1, hci, hcn⟩ := hrc
          subst hcs
          obtain ⟨d, ii, nn⟩ := c0
          dsimp only at hd0 hd1 hci hcn hcc
          have e0 : wr.cell? ⟨b, off + k * 3, none⟩ = some (.int .u8 d) := ht.cell (cell_later HB1.out (by simpa using hcc 0 _ rfl))
          have e1 : wr.cell? ⟨b, off + k * 3 + 1, none⟩ = some (.int .i64 ii) := ht.cell (cell_later HB1.out (hcc 1 _ rfl))
          have e2 : wr.cell? ⟨b, off + k * 3 + 2, none⟩ = some (.int .i64 nn) := ht.cell (cell_later HB1.out (hcc 2 _ rfl))
          have HTA : Hid (T2 W1 (wr.alloc (.cells #[.int .u8 d, .int .i64 ii, .int .i64 nn] 30)) p rb p' rb' m x (hd x)) := ht.below ((Below.refl _ _).alloc (Nat.le_refl _) _)
          clear hcc hcl hbl hlt hk hh ht hci HT hnl hlk
          have hcase : d % 6 = 0 ∨ d % 6 = 1 ∨ d % 6 = 2 ∨ d % 6 = 3 ∨ d % 6 = 4 ∨ d % 6 = 5 := by omega
          rcases hcase with hr | hr | hr | hr | hr | hr
          · have t0 : (d % 6 == 0) = true := by rw [hr]; rfl
            have HR := Lib.hid hr
            clear hr
            have P1 := Lib.hid (HTA.out.op0l (wake_op x HH.out.ok))
            obtain ⟨z, hz⟩ : ∃ z, wkE x = z := ⟨_, rfl⟩
            rw [hz] at P1
            go_wp2_with fail
            refine P1.out.mono ?_
            rintro e X1 ⟨rfl, ht⟩
            have P2 := Lib.hid (ht.op0r (wake_op (hd x) HH.out.ok.hd))
            have hz2 : wkE (hd x) = z := hz
            rw [hz2, wk_hd] at P2
            clear ht P1 hz2 hz
            go_wp2_with fail
            refine P2.out.mono ?_
            rintro e X2 ⟨rfl, ht⟩
            have HTX := Lib.hid ht
            clear ht P2
            have R1 := Lib.hid (HTX.out.op0r (state_op (hd (wkX x))))
            have hs4 : stateN (hd (wkX x)) = 4 := rfl
            rw [hs4] at R1
            clear hs4
            go_wp2_with fail
            refine R1.out.mono ?_
            rintro e Y1 ⟨rfl, ht⟩
            have R2 := Lib.hid (ht.op1r (wait_no (hd (wkX x)) 5 ⟨by omega, by omega⟩ (decide_eq_false (fun h => by cases h.2))))
            clear ht R1
            go_wp2_with fail
            refine R2.out.mono ?_
            rintro e Y2 ⟨rfl, ht⟩
            have R3 := Lib.hid (ht.op0r (suspend_no (hd (wkX x)) (decide_eq_false (fun h => by cases h.2))))
            clear ht R2
            go_wp2_with fail
            refine R3.out.mono ?_
            rintro e Y3 ⟨rfl, ht⟩
            have HTY := Lib.hid ht
            clear ht R3
            go_wp2_with fail
            go_roundw
            case rel =>
              have Q : HRel n W1 p rb p' rb' m (.int .i64 ((k : Int) + 1)) Y3 := ⟨⟨k + 1, wkX x, HX.out, by go_num, HH.out.wk, HTY.out⟩⟩
              first | exact Q | ((repeat apply Exists.intro); exact ⟨Q, rfl⟩)
            case measure => have := HX.out; simp [intOf]; omega
          · have t0 : (d % 6 == 0) = false := by rw [hr]; rfl
            have t1 : (d % 6 == 1) = true := by rw [hr]; rfl
            have HR := Lib.hid hr
            clear hr
            have P1 := Lib.hid (HTA.out.op1l (release_op x nn HH.out.ok))
            obtain ⟨z, hz⟩ : ∃ z, rlE x nn = z := ⟨_, rfl⟩
            rw [hz] at P1
            go_wp2_with fail
            refine P1.out.mono ?_
            rintro e X1 ⟨rfl, ht⟩
            have P2 := Lib.hid (ht.op1r (release_op (hd x) nn HH.out.ok.hd))
            have hz2 : rlE (hd x) nn = z := hz
            rw [hz2, rl_hd] at P2
            clear ht P1 hz2 hz
            go_wp2_with fail
            refine P2.out.mono ?_
            rintro e X2 ⟨rfl, ht⟩
            have HTX := Lib.hid ht
            clear ht P2
            have R1 := Lib.hid (HTX.out.op0r (state_op (hd (rlX x nn))))
            have hs4 : stateN (hd (rlX x nn)) = 4 := rfl
            rw [hs4] at R1
            clear hs4
            go_wp2_with fail
            refine R1.out.mono ?_
            rintro e Y1 ⟨rfl, ht⟩
            have R2 := Lib.hid (ht.op1r (wait_no (hd (rlX x nn)) 5 ⟨by omega, by omega⟩ (decide_eq_false (fun h => by cases h.2))))
            clear ht R1
            go_wp2_with fail
            refine R2.out.mono ?_
            rintro e Y2 ⟨rfl, ht⟩
            have R3 := Lib.hid (ht.op0r (suspend_no (hd (rlX x nn)) (decide_eq_false (fun h => by cases h.2))))
            clear ht R2
            go_wp2_with fail
            refine R3.out.mono ?_
            rintro e Y3 ⟨rfl, ht⟩
            have HTY := Lib.hid ht
            clear ht R3
            go_wp2_with fail
            go_roundw
            case rel =>
              have Q : HRel n W1 p rb p' rb' m (.int .i64 ((k : Int) + 1)) Y3 := ⟨⟨k + 1, rlX x nn, HX.out, by go_num, HH.out.rl nn, HTY.out⟩⟩
              first | exact Q | ((repeat apply Exists.intro); exact ⟨Q, rfl⟩)
            case measure => have := HX.out; simp [intOf]; omega
          · have t0 : (d % 6 == 0) = false := by rw [hr]; rfl
            have t1 : (d % 6 == 1) = false := by rw [hr]; rfl
            have t2 : (d % 6 == 2) = true := by rw [hr]; rfl
            have HR := Lib.hid hr
            clear hr
            have P1 := Lib.hid (HTA.out.op1l (charge_op x nn HH.out.ok))
            obtain ⟨z, hz⟩ : ∃ z, chE x nn = z := ⟨_, rfl⟩
            rw [hz] at P1
            go_wp2_with fail
            refine P1.out.mono ?_
            rintro e X1 ⟨rfl, ht⟩
            have P2 := Lib.hid (ht.op1r (charge_op (hd x) nn HH.out.ok.hd))
            have hz2 : chE (hd x) nn = z := hz
            rw [hz2, ch_hd] at P2
            clear ht P1 hz2 hz
            go_wp2_with fail
            refine P2.out.mono ?_
            rintro e X2 ⟨rfl, ht⟩
            have HTX := Lib.hid ht
            clear ht P2
            have R1 := Lib.hid (HTX.out.op0r (state_op (hd (chX x nn))))
            have hs4 : stateN (hd (chX x nn)) = 4 := rfl
            rw [hs4] at R1
            clear hs4
            go_wp2_with fail
            refine R1.out.mono ?_
            rintro e Y1 ⟨rfl, ht⟩
            have R2 := Lib.hid (ht.op1r (wait_no (hd (chX x nn)) 5 ⟨by omega, by omega⟩ (decide_eq_false (fun h => by cases h.2))))
            clear ht R1
            go_wp2_with fail
            refine R2.out.mono ?_
            rintro e Y2 ⟨rfl, ht⟩
            have R3 := Lib.hid (ht.op0r (suspend_no (hd (chX x nn)) (decide_eq_false (fun h => by cases h.2))))
            clear ht R2
            go_wp2_with fail
            refine R3.out.mono ?_
            rintro e Y3 ⟨rfl, ht⟩
            have HTY := Lib.hid ht
            clear ht R3
            go_wp2_with fail
            go_roundw
            case rel =>
              have Q : HRel n W1 p rb p' rb' m (.int .i64 ((k : Int) + 1)) Y3 := ⟨⟨k + 1, chX x nn, HX.out, by go_num, HH.out.ch nn, HTY.out⟩⟩
              first | exact Q | ((repeat apply Exists.intro); exact ⟨Q, rfl⟩)
            case measure => have := HX.out; simp [intOf]; omega
          · have t0 : (d % 6 == 0) = false := by rw [hr]; rfl
            have t1 : (d % 6 == 1) = false := by rw [hr]; rfl
            have t2 : (d % 6 == 2) = false := by rw [hr]; rfl
            have t3 : (d % 6 == 3) = true := by rw [hr]; rfl
            have HR := Lib.hid hr
            clear hr
            have P1 := Lib.hid (HTA.out.op1l (setp_op x nn HH.out.ok))
            obtain ⟨z, hz⟩ : ∃ z, spE x nn = z := ⟨_, rfl⟩
            rw [hz] at P1
            go_wp2_with fail
            refine P1.out.mono ?_
            rintro e X1 ⟨rfl, ht⟩
            have P2 := Lib.hid (ht.op1r (setp_op (hd x) nn HH.out.ok.hd))
            have hz2 : spE (hd x) nn = z := hz
            rw [hz2, sp_hd] at P2
            clear ht P1 hz2 hz
            go_wp2_with fail
            refine P2.out.mono ?_
            rintro e X2 ⟨rfl, ht⟩
            have HTX := Lib.hid ht
            clear ht P2
            have R1 := Lib.hid (HTX.out.op0r (state_op (hd (spX x nn))))
            have hs4 : stateN (hd (spX x nn)) = 4 := rfl
            rw [hs4] at R1
            clear hs4
            go_wp2_with fail
            refine R1.out.mono ?_
            rintro e Y1 ⟨rfl, ht⟩
            have R2 := Lib.hid (ht.op1r (wait_no (hd (spX x nn)) 5 ⟨by omega, by omega⟩ (decide_eq_false (fun h => by cases h.2))))
            clear ht R1
            go_wp2_with fail
            refine R2.out.mono ?_
            rintro e Y2 ⟨rfl, ht⟩
            have R3 := Lib.hid (ht.op0r (suspend_no (hd (spX x nn)) (decide_eq_false (fun h => by cases h.2))))
            clear ht R2
            go_wp2_with fail
            refine R3.out.mono ?_
            rintro e Y3 ⟨rfl, ht⟩
            have HTY := Lib.hid ht
            clear ht R3
            go_wp2_with fail
            go_roundw
            case rel =>
              have Q : HRel n W1 p rb p' rb' m (.int .i64 ((k : Int) + 1)) Y3 := ⟨⟨k + 1, spX x nn, HX.out, by go_num, HH.out.sp nn, HTY.out⟩⟩
              first | exact Q | ((repeat apply Exists.intro); exact ⟨Q, rfl⟩)
            case measure => have := HX.out; simp [intOf]; omega
          · have t0 : (d % 6 == 0) = false := by rw [hr]; rfl
            have t1 : (d % 6 == 1) = false := by rw [hr]; rfl
            have t2 : (d % 6 == 2) = false := by rw [hr]; rfl
            have t3 : (d % 6 == 3) = false := by rw [hr]; rfl
            have t4 : (d % 6 == 4) = true := by rw [hr]; rfl
            have HR := Lib.hid hr
            clear hr
            have P1 := Lib.hid (HTA.out.op1l (raise_op x nn HH.out.ok))
            obtain ⟨z, hz⟩ : ∃ z, raE x nn = z := ⟨_, rfl⟩
            rw [hz] at P1
            go_wp2_with fail
            refine P1.out.mono ?_
            rintro e X1 ⟨rfl, ht⟩
            have P2 := Lib.hid (ht.op1r (raise_op (hd x) nn HH.out.ok.hd))
            have hz2 : raE (hd x) nn = z := hz
            rw [hz2, ra_hd] at P2
            clear ht P1 hz2 hz
            go_wp2_with fail
            refine P2.out.mono ?_
            rintro e X2 ⟨rfl, ht⟩
            have HTX := Lib.hid ht
            clear ht P2
            have R1 := Lib.hid (HTX.out.op0r (state_op (hd (raX x nn))))
            have hs4 : stateN (hd (raX x nn)) = 4 := rfl
            rw [hs4] at R1
            clear hs4
            go_wp2_with fail
            refine R1.out.mono ?_
            rintro e Y1 ⟨rfl, ht⟩
            have R2 := Lib.hid (ht.op1r (wait_no (hd (raX x nn)) 5 ⟨by omega, by omega⟩ (decide_eq_false (fun h => by cases h.2))))
            clear ht R1
            go_wp2_with fail
            refine R2.out.mono ?_
            rintro e Y2 ⟨rfl, ht⟩
            have R3 := Lib.hid (ht.op0r (suspend_no (hd (raX x nn)) (decide_eq_false (fun h => by cases h.2))))
            clear ht R2
            go_wp2_with fail
            refine R3.out.mono ?_
            rintro e Y3 ⟨rfl, ht⟩
            have HTY := Lib.hid ht
            clear ht R3
            go_wp2_with fail
            go_roundw
            case rel =>
              have Q : HRel n W1 p rb p' rb' m (.int .i64 ((k : Int) + 1)) Y3 := ⟨⟨k + 1, raX x nn, HX.out, by go_num, HH.out.ra nn, HTY.out⟩⟩
              first | exact Q | ((repeat apply Exists.intro); exact ⟨Q, rfl⟩)
            case measure => have := HX.out; simp [intOf]; omega
          · have t0 : (d % 6 == 0) = false := by rw [hr]; rfl
            have t1 : (d % 6 == 1) = false := by rw [hr]; rfl
            have t2 : (d % 6 == 2) = false := by rw [hr]; rfl
            have t3 : (d % 6 == 3) = false := by rw [hr]; rfl
            have t4 : (d % 6 == 4) = false := by rw [hr]; rfl
            have HR := Lib.hid hr
            clear hr
            by_cases hn0 : 0 ≤ nn
            · have hdn0 : decide (0 ≤ nn) = true := by simpa using hn0
              by_cases hn1 : nn ≤ 1099511627776
              · have hdn1 : decide (nn ≤ 1099511627776) = true := by simpa using hn1
                have P1 := Lib.hid (HTA.out.missed_l (t := nn) HH.out.ok)
                rcases hlt : lateB x nn with _ | _
                · have hl1 : lateL nn [x] 0 = [] := by simp [lateL, hlt]
                  have hl2 : lateL nn [hd x] 0 = [] := by have h2 : lateB (hd x) nn = false := hlt; simp [lateL, h2]
                  rw [hl1] at P1
                  have HWS : Hid (rb' < (wr.alloc (.cells #[.int .u8 d, .int .i64 ii, .int .i64 nn] 30)).heap.size) := by obtain ⟨hi, hc⟩ := HTA.out.pc; exact (PT.lt hc).2.1
                  clear hlt hl1
                  go_wp2_with fail
                  refine P1.out.mono ?_
                  rintro e X1 ⟨⟨A1, c1, rfl, ho1⟩, ht⟩
                  have P2 := Lib.hid (ht.missed_r (t := nn) HH.out.ok.hd)
                  rw [hl2, ms_hd] at P2
                  have HO1 := Lib.hid ho1
                  have HSZ := Lib.hid ht.b.size
                  clear ht P1 hl2 ho1
                  go_wp2_with fail
                  refine P2.out.mono ?_
                  rintro e X2 ⟨⟨A2, c2, rfl, ho2⟩, ht, hpast⟩
                  have HTX := Lib.hid ht
                  have HO2 := Lib.hid ho2
                  have HPA := Lib.hid hpast
                  clear ht P2 ho2 hpast
                  have CE := Lib.hid (ieq_nil A1 A2 c1 c2 X2)
                  go_wp2_with fail
                  refine CE.out.mono ?_
                  rintro e X3 ⟨rfl, hb3⟩
                  have HTZ := Lib.hid (HTX.out.below hb3)
                  clear hb3 CE HTX
                  have R1 := Lib.hid (HTZ.out.op0r (state_op (hd (missP x nn))))
                  have hs4 : stateN (hd (missP x nn)) = 4 := rfl
                  rw [hs4] at R1
                  clear hs4
                  go_wp2_with fail
                  refine R1.out.mono ?_
                  rintro e Y1 ⟨rfl, ht⟩
                  have R2 := Lib.hid (ht.op1r (wait_no (hd (missP x nn)) 5 ⟨by omega, by omega⟩ (decide_eq_false (fun h => by cases h.2))))
                  clear ht R1
                  go_wp2_with fail
                  refine R2.out.mono ?_
                  rintro e Y2 ⟨rfl, ht⟩
                  have R3 := Lib.hid (ht.op0r (suspend_no (hd (missP x nn)) (decide_eq_false (fun h => by cases h.2))))
                  clear ht R2
                  go_wp2_with fail
                  refine R3.out.mono ?_
                  rintro e Y3 ⟨rfl, ht⟩
                  have HTY := Lib.hid ht
                  clear ht R3
                  go_wp2_with fail
                  go_roundw
                  case rel =>
                    have Q : HRel n W1 p rb p' rb' m (.int .i64 ((k : Int) + 1)) Y3 := ⟨⟨k + 1, missP x nn, HX.out, by go_num, HH.out.ms nn, HTY.out⟩⟩
                    first | exact Q | ((repeat apply Exists.intro); exact ⟨Q, rfl⟩)
                  case measure => have := HX.out; simp [intOf]; omega
                · have hl1 : lateL nn [x] 0 = [0] := by simp [lateL, hlt]
                  have hl2 : lateL nn [hd x] 0 = [0] := by have h2 : lateB (hd x) nn = true := hlt; simp [lateL, h2]
                  rw [hl1] at P1
                  have HWS : Hid (rb' < (wr.alloc (.cells #[.int .u8 d, .int .i64 ii, .int .i64 nn] 30)).heap.size) := by obtain ⟨hi, hc⟩ := HTA.out.pc; exact (PT.lt hc).2.1
                  clear hlt hl1
                  go_wp2_with fail
                  refine P1.out.mono ?_
                  rintro e X1 ⟨⟨A1, c1, rfl, ho1⟩, ht⟩
                  have P2 := Lib.hid (ht.missed_r (t := nn) HH.out.ok.hd)
                  rw [hl2, ms_hd] at P2
                  have HO1 := Lib.hid ho1
                  have HSZ := Lib.hid ht.b.size
                  clear ht P1 hl2 ho1
                  go_wp2_with fail
                  refine P2.out.mono ?_
                  rintro e X2 ⟨⟨A2, c2, rfl, ho2⟩, ht, hpast⟩
                  have HTX := Lib.hid ht
                  have HO2 := Lib.hid ho2
                  have HPA := Lib.hid hpast
                  clear ht P2 ho2 hpast
                  obtain ⟨g1, cap1, hv1, hB1, hl1⟩ := HO1.out.form (by simp)
                  have hA1 : A1 = some ⟨g1, 0, none⟩ := by injection hv1
                  subst hA1
                  obtain ⟨g2, cap2, hv2, hB2, hl2⟩ := HO2.out.form (by simp)
                  have hA2 : A2 = some ⟨g2, 0, none⟩ := by injection hv2
                  subst hA2
                  have hc1 : X2.cell? ⟨g1, 0, none⟩ = some (.int .i64 0) := by
                    have h9 := HO1.out.cells (g := g1) rfl 0 (.int .i64 0) rfl
                    rw [Addr.add_lit] at h9
                    exact cell_past HPA.out hl1 (by have := HWS.out; omega) (by simpa using h9)
                  have hc2 : X2.cell? ⟨g2, 0, none⟩ = some (.int .i64 0) := by
                    have h9 := HO2.out.cells (g := g2) rfl 0 (.int .i64 0) rfl
                    rw [Addr.add_lit] at h9
                    simpa using h9
                  have CE := Lib.hid (ieq_one g1 g2 0 c1 c2 X2 hc1 hc2)
                  clear hv1 hv2 hB1 hB2 hl1 hl2 hc1 hc2 HO1 HO2
                  go_wp2_with fail
                  refine CE.out.mono ?_
                  rintro e X3 ⟨rfl, hb3⟩
                  have HTZ := Lib.hid (HTX.out.below hb3)
                  clear hb3 CE HTX
                  have R1 := Lib.hid (HTZ.out.op0r (state_op (hd (missP x nn))))
                  have hs4 : stateN (hd (missP x nn)) = 4 := rfl
                  rw [hs4] at R1
                  clear hs4
                  go_wp2_with fail
                  refine R1.out.mono ?_
                  rintro e Y1 ⟨rfl, ht⟩
                  have R2 := Lib.hid (ht.op1r (wait_no (hd (missP x nn)) 5 ⟨by omega, by omega⟩ (decide_eq_false (fun h => by cases h.2))))
                  clear ht R1
                  go_wp2_with fail
                  refine R2.out.mono ?_
                  rintro e Y2 ⟨rfl, ht⟩
                  have R3 := Lib.hid (ht.op0r (suspend_no (hd (missP x nn)) (decide_eq_false (fun h => by cases h.2))))
                  clear ht R2
                  go_wp2_with fail
                  refine R3.out.mono ?_
                  rintro e Y3 ⟨rfl, ht⟩
                  have HTY := Lib.hid ht
                  clear ht R3
                  go_wp2_with fail
                  go_roundw
                  case rel =>
                    have Q : HRel n W1 p rb p' rb' m (.int .i64 ((k : Int) + 1)) Y3 := ⟨⟨k + 1, missP x nn, HX.out, by go_num, HH.out.ms nn, HTY.out⟩⟩
                    first | exact Q | ((repeat apply Exists.intro); exact ⟨Q, rfl⟩)
                  case measure => have := HX.out; simp [intOf]; omega
              · have hdn1 : decide (nn ≤ 1099511627776) = false := by simpa using hn1
                clear hn1
                have R1 := Lib.hid (HTA.out.op0r (state_op (hd (x))))
                have hs4 : stateN (hd (x)) = 4 := rfl
                rw [hs4] at R1
                clear hs4
                go_wp2_with fail
                refine R1.out.mono ?_
                rintro e Y1 ⟨rfl, ht⟩
                have R2 := Lib.hid (ht.op1r (wait_no (hd (x)) 5 ⟨by omega, by omega⟩ (decide_eq_false (fun h => by cases h.2))))
                clear ht R1
                go_wp2_with fail
                refine R2.out.mono ?_
                rintro e Y2 ⟨rfl, ht⟩
                have R3 := Lib.hid (ht.op0r (suspend_no (hd (x)) (decide_eq_false (fun h => by cases h.2))))
                clear ht R2
                go_wp2_with fail
                refine R3.out.mono ?_
                rintro e Y3 ⟨rfl, ht⟩
                have HTY := Lib.hid ht
                clear ht R3
                go_wp2_with fail
                go_roundw
                case rel =>
                  have Q : HRel n W1 p rb p' rb' m (.int .i64 ((k : Int) + 1)) Y3 := ⟨⟨k + 1, x, HX.out, by go_num, HH.out, HTY.out⟩⟩
                  first | exact Q | ((repeat apply Exists.intro); exact ⟨Q, rfl⟩)
                case measure => have := HX.out; simp [intOf]; omega
            · have hdn0 : decide (0 ≤ nn) = false := by simpa using hn0
              clear hn0
              have R1 := Lib.hid (HTA.out.op0r (state_op (hd (x))))
              have hs4 : stateN (hd (x)) = 4 := rfl
              rw [hs4] at R1
              clear hs4
              go_wp2_with fail
              refine R1.out.mono ?_
              rintro e Y1 ⟨rfl, ht⟩
              have R2 := Lib.hid (ht.op1r (wait_no (hd (x)) 5 ⟨by omega, by omega⟩ (decide_eq_false (fun h => by cases h.2))))
              clear ht R1
              go_wp2_with fail
              refine R2.out.mono ?_
              rintro e Y2 ⟨rfl, ht⟩
              have R3 := Lib.hid (ht.op0r (suspend_no (hd (x)) (decide_eq_false (fun h => by cases h.2))))
              clear ht R2
              go_wp2_with fail
              refine R3.out.mono ?_
              rintro e Y3 ⟨rfl, ht⟩
              have HTY := Lib.hid ht
              clear ht R3
              go_wp2_with fail
              go_roundw
              case rel =>
                have Q : HRel n W1 p rb p' rb' m (.int .i64 ((k : Int) + 1)) Y3 := ⟨⟨k + 1, x, HX.out, by go_num, HH.out, HTY.out⟩⟩
                first | exact Q | ((repeat apply Exists.intro); exact ⟨Q, rfl⟩)
              case measure => have := HX.out; simp [intOf]; omega
        · have hkn : k = n := by omega
          subst hkn
          clear hlt hk hh ht
          have Z1 := Lib.hid (HT.out.op0r (resume_op (hd x) rfl))
          have hbk : ({ hd x with hel := false } : MP) = x := by have h1 := HH.out.hel; obtain ⟨x0, x1, x2, x3, x4, x5, x6, x7, x8, x9, x10, x11, x12⟩ := x; dsimp only at h1; subst h1; rfl
          rw [hbk] at Z1
          clear hbk
          have hss : sameL [x] [x] = true := sameL_iff.2 rfl
          have HSS := Lib.hid hss
          clear hss
          go_wp2_with fail
          refine Z1.out.mono ?_
          rintro e Y1 ⟨rfl, ht⟩
          have Z2 := Lib.hid ht.same_rl
          rw [HSS.out] at Z2
          clear ht Z1
          go_wp2_with fail
          refine Z2.out.mono ?_
          rintro e Y2 ⟨rfl, ht⟩
          have Z3 := Lib.hid ht.same_lr
          rw [HSS.out] at Z3
          clear ht Z2
          go_wp2_with fail
          refine Z3.out.mono ?_
          rintro e Y3 ⟨rfl, ht⟩
          clear Z3
          go_wp2_with fail
          go_ret
          exact ⟨rfl, HB1.out.trans (ht.b.mono HB1.out.size)⟩
theorem holds_walk (a : AT) (st : Int) (A : Option Addr) (n c : Nat) (l : List MC) (W : World) (hst : 0 ≤ st ∧ st ≤ 65535) (h : Row W 3 RC3 (.slice A n c) l) :
    Calls Try.prog 8 #[.agg a.cells.toArray, .int .u16 st, .slice A n c] W fun e w' => e = .returned (.bool true) ∧ Below W.heap.size W w' := by
  refine holds_core a st A n c l W h hst ?_
  obtain ⟨a, cap, e, hm⟩ := h.form
  injection e with e1 e2 e3
  unfold rowMax at hm
  unfold maxLen
  omega
end Go.Proofs.Ytdabmbdikofhpaa.P
