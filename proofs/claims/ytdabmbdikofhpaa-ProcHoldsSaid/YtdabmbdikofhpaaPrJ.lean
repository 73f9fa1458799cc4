/-
  The walk of ProcUses. Each statement bears its own conditions.
-/
import Derived.Test.YtdabmbdikofhpaaPrI
import Derived.BigQuiet
namespace Go.Proofs.Ytdabmbdikofhpaa.P
open Go.RowKit
set_option linter.unusedVariables false
set_option linter.unusedSimpArgs false
def IsRow (k : IntKind) (w : World) (a : Option Addr) (len cap : Nat) (zs : List Int) : Prop :=
  (a = none ∧ len = 0 ∧ cap = 0 ∧ zs = []) ∨
  ∃ x, a = some x ∧ len ≤ cap ∧ cap ≤ maxLen ∧ zs.length = cap ∧ (∀ i, i < zs.length → w.cell? (x.add i) = some (.int k (zs.getD i 0))) ∧ ∀ n ∈ zs, (Lit.int k n).wf = true
theorem row_at {k : IntKind} {w : World} {a : Option Addr} {len cap : Nat} {zs : List Int} (h : IsRow k w a len cap zs) (hn : 0 < len) : ∃ b off, a = some ⟨b, off, none⟩ ∧ ∀ i, i < len → w.cell? ⟨b, off + i, none⟩ = some (.int k (zs.getD i 0)) ∧ (Lit.int k (zs.getD i 0)).wf = true := by
  rcases h with ⟨rfl, rfl, rfl, rfl⟩ | ⟨⟨b, off, spot⟩, rfl, h1, h2, h3, h4, h5⟩
  · omega
  · have e0 := h4 0 (by omega)
    have hs : spot = none := by simpa [Addr.add] using World.cell?_spot e0
    subst hs
    refine ⟨b, off, rfl, fun i hi => ⟨?_, ?_⟩⟩
    · have := h4 i (by omega)
      rwa [Addr.add_lit] at this
    · apply h5
      rw [List.getD_eq_getElem?_getD, List.getElem?_eq_getElem (by omega)]
      exact List.getElem_mem _
/-- Numbers of a list, each within bounds. -/
structure NumsAt (k : IntKind) (hi : Int) (w : World) (a : Option Addr) (len : Nat) (y : Nat → Int) : Prop where
  bd : ∀ i, 0 ≤ y i ∧ y i ≤ hi
  ex : 0 < len → ∃ b off, a = some ⟨b, off, none⟩ ∧ ∀ i, i < len → w.cell? ⟨b, off + i, none⟩ = some (.int k (y i))
theorem nums_at {k : IntKind} {hi : Int} {w : World} {a : Option Addr} {len cap : Nat} {zs : List Int} (h0 : 0 ≤ hi) (hk : ∀ n, (Lit.int k n).wf = true → 0 ≤ n ∧ n ≤ hi) (h : IsRow k w a len cap zs) : ∃ y, NumsAt k hi w a len y ∧ ∀ i, i < len → y i = zs.getD i 0 := by
  refine ⟨fun i => if i < len then zs.getD i 0 else 0, ⟨fun i => ?_, fun hn => ?_⟩, fun i hi => by simp [hi]⟩
  · split
    next hl =>
      obtain ⟨b, off, ha, hc⟩ := row_at h (by omega)
      exact hk _ (hc i hl).2
    next => exact ⟨Int.le_refl _, h0⟩
  · obtain ⟨b, off, ha, hc⟩ := row_at h hn
    refine ⟨b, off, ha, fun i hi => ?_⟩
    simp only [hi, if_true]
    exact (hc i hi).1
theorem u16_wf (n : Int) (h : (Lit.int .u16 n).wf = true) : 0 ≤ n ∧ n ≤ 65535 := by
  simp only [Lit.wf, Bool.and_eq_true, decide_eq_true_eq] at h
  exact h
theorem u8_wf (n : Int) (h : (Lit.int .u8 n).wf = true) : 0 ≤ n ∧ n ≤ 255 := by
  simp only [Lit.wf, Bool.and_eq_true, decide_eq_true_eq] at h
  exact h
theorem T1.cell {w0 w : World} {p rb : Nat} {x : MP} (h : T1 w0 w p rb x) {a : Addr} {v : Value} (hc : w0.cell? a = some v) : w.cell? a = some v := cell_later h.b hc
def usP (a0 a1 a2 a3 s : Int) : MP := ⟨a0, a1, a2, a3, 0, 1, false, a0, 0, 0, 0, s, false⟩
theorem us_charge (a0 a1 a2 a3 s z : Int) (h0 : 0 ≤ s) (h1 : 0 ≤ z) (h2 : s + z ≤ 1099511627776) : chargeP (usP a0 a1 a2 a3 s) z = usP a0 a1 a2 a3 (s + z) := by
  unfold chargeP usP
  simp only [MP.mk.injEq, true_and, and_true]
  omega
structure URel (n : Nat) (a0 a1 a2 a3 : Int) (W1 : World) (p rb : Nat) (v7 v : Value) (wr : World) : Prop where
  ex : ∃ (k : Nat) (s : Int), k ≤ n ∧ v = .int .i64 (k : Int) ∧ v7 = .int .i64 s ∧ 0 ≤ s ∧ s ≤ k * 65535 ∧ T1 W1 wr p rb (usP a0 a1 a2 a3 s)
set_option maxRecDepth 100000 in
set_option maxHeartbeats 8000000 in
theorem uses_core (a : AT) (A : Option Addr) (n c : Nat) (y : Nat → Int) (W : World) (h : NumsAt .u16 65535 W A n y) (hm : n ≤ maxLen) :
    Calls Try.prog 7 #[a.val, .slice A n c] W fun e w' => e = .returned (.bool true) ∧ Below W.heap.size W w' := by
  have H := Lib.hid h
  unfold maxLen at hm
  obtain ⟨a0, a1, a2, a3, a4⟩ := a
  have HFI : Hid (∀ b, fitsA ⟨a0, a1, a2, a3, a4⟩ = b → fitsA ⟨a0, a1, a2, a3, a4⟩ = b) := fun _ h => h
  obtain ⟨W0, hW0⟩ : ∃ W0, W.alloc (.cells #[.int .i64 a0, .int .i64 a1, .int .i64 a2, .int .i64 a3, .int .i64 a4] 43) = W0 := ⟨_, rfl⟩
  have HB0 : Hid (Below W.heap.size W W0) := by unfold Hid; rw [← hW0]; exact (Below.refl _ _).alloc (Nat.le_refl _) _
  have HX0 : Hid (W0.cell? ⟨W.heap.size, 0, none⟩ = some (.int .i64 a0)) := by unfold Hid; rw [← hW0]; simp
  have HX1 : Hid (W0.cell? ⟨W.heap.size, 1, none⟩ = some (.int .i64 a1)) := by unfold Hid; rw [← hW0]; simp
  have HX2 : Hid (W0.cell? ⟨W.heap.size, 2, none⟩ = some (.int .i64 a2)) := by unfold Hid; rw [← hW0]; simp
  have HX3 : Hid (W0.cell? ⟨W.heap.size, 3, none⟩ = some (.int .i64 a3)) := by unfold Hid; rw [← hW0]; simp
  have HX4 : Hid (W0.cell? ⟨W.heap.size, 4, none⟩ = some (.int .i64 a4)) := by unfold Hid; rw [← hW0]; simp
  have CS := Lib.hid fun (W : World) => speaks_any W
  have CN := Lib.hid fun (W : World) => new1 ⟨a0, a1, a2, a3, a4⟩ W
  unfold AT.cells at CN
  dsimp only at CN
  unfold AT.val
  dsimp only
  clear h
  by_cases h40 : 40 < n
  · have hd : decide (40 < (n : Int)) = true := by simp; omega
    go_enter Try.func7, Try.ntmps7
    go_wp2_with fail
    refine (CS.out _).mono ?_
    rintro e w1 ⟨rfl, b1⟩
    go_wp2_with fail
    refine (CS.out _).mono ?_
    rintro e w2 ⟨rfl, b2⟩
    go_wp2_with fail
    go_ret
    have b0 := HB0.out
    exact ⟨rfl, b0.trans ((b1.trans (b2.mono b1.size)).mono b0.size)⟩
  · have hd : decide (40 < (n : Int)) = false := by simp; omega
    have hn40 : n ≤ 40 := by omega
    clear h40 hm
    go_enter Try.func7, Try.ntmps7
    go_wp2_with fail
    refine (CS.out _).mono ?_
    rintro e W1 ⟨rfl, b1⟩
    have x0 : W1.cell? ⟨W.heap.size, 0, none⟩ = some (.int .i64 a0) := cell_later b1 HX0.out
    have x1 : W1.cell? ⟨W.heap.size, 1, none⟩ = some (.int .i64 a1) := cell_later b1 HX1.out
    have x2 : W1.cell? ⟨W.heap.size, 2, none⟩ = some (.int .i64 a2) := cell_later b1 HX2.out
    have x3 : W1.cell? ⟨W.heap.size, 3, none⟩ = some (.int .i64 a3) := cell_later b1 HX3.out
    have x4 : W1.cell? ⟨W.heap.size, 4, none⟩ = some (.int .i64 a4) := cell_later b1 HX4.out
    have HB1 : Hid (Below W.heap.size W W1) := HB0.out.trans (b1.mono HB0.out.size)
    clear b1
    go_wp2_with fail
    refine (CN.out W1).mono ?_
    rintro e W2 ⟨hbad, hok, hb⟩
    have HY0 : Hid (W1.cell? ⟨W.heap.size, 0, none⟩ = some (.int .i64 a0)) := x0
    have HY1 : Hid (W1.cell? ⟨W.heap.size, 1, none⟩ = some (.int .i64 a1)) := x1
    have HY2 : Hid (W1.cell? ⟨W.heap.size, 2, none⟩ = some (.int .i64 a2)) := x2
    have HY3 : Hid (W1.cell? ⟨W.heap.size, 3, none⟩ = some (.int .i64 a3)) := x3
    have HY4 : Hid (W1.cell? ⟨W.heap.size, 4, none⟩ = some (.int .i64 a4)) := x4
    have z1 : W2.cell? ⟨W.heap.size, 1, none⟩ = some (.int .i64 a1) := cell_later hb x1
    have z2 : W2.cell? ⟨W.heap.size, 2, none⟩ = some (.int .i64 a2) := cell_later hb x2
    have z4 : W2.cell? ⟨W.heap.size, 4, none⟩ = some (.int .i64 a4) := cell_later hb x4
    have HB2 : Hid (Below W.heap.size W W2) := HB1.out.trans (hb.mono HB1.out.size)
    clear hb x0 x1 x2 x3 x4
    rcases hf : fitsA ⟨a0, a1, a2, a3, a4⟩ with _ | _
    · obtain rfl := hbad hf
      clear hbad hok hf
      go_wp2_with fail
      go_ret
      exact ⟨rfl, HB2.out⟩
    · obtain ⟨p, rb, rfl, ht⟩ := hok hf
      have HT := Lib.hid ht
      have hfa : FitsA ⟨a0, a1, a2, a3, a4⟩ := by simpa [fitsA] using hf
      have HF := Lib.hid hfa
      have hnil : ∀ W : World, (binOp .eql 25 (.pointer (some ⟨p, 0, none⟩)) (.pointer none)).run Try.prog W = .ok (.bool false) W := fun _ => rfl
      clear hbad hok hf ht CN hfa
      by_cases h4 : 0 < a4
      · have hd4 : decide (0 < a4) = true := by simpa using h4
        clear h4
        go_wp2_with fail
        go_ret
        exact ⟨rfl, HB2.out⟩
      · have hz4 : a4 = 0 := by have h5 : 0 ≤ a4 := HF.out.2.2.2.1.1; omega
        subst hz4
        have C1 := Lib.hid ((start1 (t := 0) HT.out ⟨by omega, by omega⟩ rfl).mono (R' := fun e w' => e = .returned (.int .i64 0) ∧ T1 W1 w' p rb (usP a0 a1 a2 a3 0)) fun _ _ h => h)
        obtain ⟨⟨q11, q12⟩, ⟨q21, q22⟩, _, _, _⟩ := HF.out
        dsimp only at q11 q12 q21 q22
        clear h4
        go_wp2_with fail
        refine C1.out.mono ?_
        rintro e W3 ⟨rfl, ht⟩
        have HT3 := Lib.hid ht
        clear ht C1 z1 z2 z4 HT
        go_wp2_with fail
        go_loopw [7, 45] (fun v7 v wr => URel n a0 a1 a2 a3 W1 p rb v7 v wr) (fun _ v => fun _ => n - (intOf v).toNat)
        case atStart => exact ⟨⟨0, 0, Nat.zero_le _, rfl, rfl, by omega, by omega, HT3.out⟩⟩
        case round =>
          clear HT3
          obtain ⟨⟨k, s, hk, rfl, rfl, hs0, hs1, ht⟩⟩ := hrel
          have HT := Lib.hid ht
          have HK := Lib.hid hk
          have HS1 := Lib.hid hs1
          have y1 := ht.cell HY1.out
          have y2 := ht.cell HY2.out
          by_cases hlt : k < n
          · have hkI : (k : Int) < (n : Int) := by omega
            have HX : Hid (k < n) := hlt
            obtain ⟨b, off, rfl, hc⟩ := H.out.ex (by omega)
            have hcz := hc k hlt
            have hyk := H.out.bd k
            obtain ⟨z, hz⟩ : ∃ z, y k = z := ⟨_, rfl⟩
            rw [hz] at hcz hyk
            obtain ⟨hz0, hz1⟩ := hyk
            have dk : wr.cell? ⟨b, off + k, none⟩ = some (.int .u16 z) := ht.cell (cell_later HB1.out hcz)
            have hsz : s + z ≤ 2687000 := by omega
            have hsz0 : 0 ≤ s + z := by omega
            have HB : Hid (s + z ≤ ((k + 1 : Nat) : Int) * 65535) := by unfold Hid; omega
            have HU := Lib.hid (us_charge a0 a1 a2 a3 s z hs0 hz0 (by omega))
            have CC := Lib.hid (charge1 (t := z) ht ⟨hz0, by omega⟩ rfl)
            rw [HU.out] at CC
            have CL := Lib.hid fun (W : World) (h : T1 W1 W p rb (usP a0 a1 a2 a3 (s + z))) => left1 h
            clear hc hcz hz hs1 hk hkI ht
            have hkI : (k : Int) < (n : Int) := by have := HX.out; omega
            clear hlt
            by_cases hcap : a2 = 0
            · subst hcap
              have hov : overB (usP a0 a1 0 a3 (s + z)) = false := by simp [overB, usP]
              have hlf : leftN (usP a0 a1 0 a3 (s + z)) = -1 := rfl
              rw [hov] at CC
              rw [hlf] at CL
              clear hov hlf
              go_wp2_with fail
              refine CC.out.mono ?_
              rintro e W4 ⟨rfl, ht⟩
              have HT4 := Lib.hid ht
              have y2 := ht.cell HY2.out
              clear ht CC
              go_wp2_with fail
              refine (CL.out _ HT4.out).mono ?_
              rintro e W5 ⟨rfl, ht⟩
              have HT5 := Lib.hid ht
              have y2 := ht.cell HY2.out
              clear ht CL HT4
              go_wp2_with fail
              go_roundw
              case rel =>
                have Q : URel n a0 a1 0 a3 W1 p rb (.int .i64 (s + z)) (.int .i64 ((k : Int) + 1)) W5 := ⟨⟨k + 1, s + z, HX.out, by go_num, rfl, hsz0, HB.out, HT5.out⟩⟩
                first | exact Q | ((repeat apply Exists.intro); exact ⟨Q, rfl⟩)
              case measure => have := HX.out; simp [intOf]; omega
            · have hcp : 0 < a2 := by omega
              have hd2 : decide (0 < a2) = true := by simpa using hcp
              have hd3 : (a2 == 0) = false := by simpa using hcap
              have hlf : leftN (usP a0 a1 a2 a3 (s + z)) = max (a2 - (s + z)) 0 := by unfold leftN usP; dsimp only; rw [if_neg hcap]
              rw [hlf] at CL
              have hwr : IntKind.i64.wrap (a2 - (s + z)) = a2 - (s + z) := wrap_ok (by omega) (by omega)
              clear hlf hcap
              by_cases hov : a2 < s + z
              · have hd5 : decide (a2 < s + z) = true := by simpa using hov
                have hob : overB (usP a0 a1 a2 a3 (s + z)) = true := decide_eq_true ⟨hcp, hov⟩
                rw [hob] at CC
                clear hob
                go_wp2_with fail
                refine CC.out.mono ?_
                rintro e W4 ⟨rfl, ht⟩
                have HT4 := Lib.hid ht
                have y2 := ht.cell HY2.out
                clear ht CC
                go_wp2_with fail
                refine (CL.out _ HT4.out).mono ?_
                rintro e W5 ⟨rfl, ht⟩
                have HT5 := Lib.hid ht
                have y2 := ht.cell HY2.out
                clear ht CL HT4
                go_wp2_with fail
                go_roundw
                case rel =>
                  have Q : URel n a0 a1 a2 a3 W1 p rb (.int .i64 (s + z)) (.int .i64 ((k : Int) + 1)) W5 := ⟨⟨k + 1, s + z, HX.out, by go_num, rfl, hsz0, HB.out, HT5.out⟩⟩
                  first | exact Q | ((repeat apply Exists.intro); exact ⟨Q, rfl⟩)
                case measure => have := HX.out; simp [intOf]; omega
              · have hd5 : decide (a2 < s + z) = false := by simpa using hov
                have hob : overB (usP a0 a1 a2 a3 (s + z)) = false := decide_eq_false (fun h => hov h.2)
                rw [hob] at CC
                clear hob
                go_wp2_with fail
                refine CC.out.mono ?_
                rintro e W4 ⟨rfl, ht⟩
                have HT4 := Lib.hid ht
                have y2 := ht.cell HY2.out
                clear ht CC
                go_wp2_with fail
                refine (CL.out _ HT4.out).mono ?_
                rintro e W5 ⟨rfl, ht⟩
                have HT5 := Lib.hid ht
                have y2 := ht.cell HY2.out
                clear ht CL HT4
                go_wp2_with fail
                go_roundw
                case rel =>
                  have Q : URel n a0 a1 a2 a3 W1 p rb (.int .i64 (s + z)) (.int .i64 ((k : Int) + 1)) W5 := ⟨⟨k + 1, s + z, HX.out, by go_num, rfl, hsz0, HB.out, HT5.out⟩⟩
                  first | exact Q | ((repeat apply Exists.intro); exact ⟨Q, rfl⟩)
                case measure => have := HX.out; simp [intOf]; omega
          · have hkn : k = n := by omega
            subst hkn
            clear hlt hk hs1
            by_cases h1 : a1 = 0
            · subst h1
              have CD := Lib.hid ((done1 (t := 1073741824) HT.out ⟨by omega, by omega⟩ rfl).mono (R' := fun e w' => e = .returned (.tuple #[.int .i64 (-1), .int .i64 0]) ∧ T1 W1 w' p rb (stopP (usP a0 0 a2 a3 s))) fun _ _ h => h)
              by_cases h2 : a2 = 0
              · subst h2
                go_wp2_with fail
                refine CD.out.mono ?_
                rintro e W6 ⟨rfl, ht⟩
                have HT6 := Lib.hid ht
                have y1 := ht.cell HY1.out
                have y2 := ht.cell HY2.out
                clear ht CD HT
                go_wp2_with fail
                go_quiet (fail)
                have HT7 := Lib.hid (HT6.out.below (below_drewN (Below.refl _ _) nq))
                have y3 : (W6.drewN nq).cell? ⟨W.heap.size, 1, none⟩ = some (.int .i64 0) := HT7.out.cell HY1.out
                have C7 := Lib.hid (state1 HT7.out)
                go_wp2_with fail
                refine C7.out.mono ?_
                rintro e W8 ⟨rfl, ht⟩
                go_wp2_with fail
                go_ret
                exact ⟨rfl, HB1.out.trans (ht.b.mono HB1.out.size)⟩
              · have hcp : 0 < a2 := by omega
                have hd2 : decide (0 < a2) = true := by simpa using hcp
                go_wp2_with fail
                refine CD.out.mono ?_
                rintro e W6 ⟨rfl, ht⟩
                have HT6 := Lib.hid ht
                have y1 := ht.cell HY1.out
                have y2 := ht.cell HY2.out
                have hlf : leftN (stopP (usP a0 0 a2 a3 s)) = a2 := by unfold leftN; rw [if_neg (show ¬ (stopP (usP a0 0 a2 a3 s)).cap = 0 from h2)]; show max (a2 - 0) 0 = a2; omega
                have CQ := Lib.hid fun (n : Nat) => by have q := (ht.below (below_drewN (Below.refl _ _) n)); obtain ⟨hi, hp⟩ := q.pt; exact left_quiet _ hi p rb [stopP (usP a0 0 a2 a3 s)] 0 _ (W6.drewN n) hp rfl (by simp) q.ok
                rw [hlf] at CQ
                clear ht CD hlf HT h2
                go_wp2_with fail
                go_quiet ((go_at_call 26; exact Calls.quiet_of (CQ.out _)))
                have HT7 := Lib.hid (HT6.out.below (below_drewN (Below.refl _ _) nq))
                have y3 : (W6.drewN nq).cell? ⟨W.heap.size, 1, none⟩ = some (.int .i64 0) := HT7.out.cell HY1.out
                have C7 := Lib.hid (state1 HT7.out)
                go_wp2_with fail
                refine C7.out.mono ?_
                rintro e W8 ⟨rfl, ht⟩
                go_wp2_with fail
                go_ret
                exact ⟨rfl, HB1.out.trans (ht.b.mono HB1.out.size)⟩
            · have h1p : 0 < a1 := by omega
              have hd6 : decide (0 < a1) = true := by simpa using h1p
              have CD := Lib.hid ((done1 (t := 1073741824) HT.out ⟨by omega, by omega⟩ rfl).mono (R' := fun e w' => e = .returned (.tuple #[.int .i64 a1, .int .i64 0]) ∧ T1 W1 w' p rb (beginP (usP a0 a1 a2 a3 s) a1)) fun _ _ h => ⟨by rw [h.1]; unfold doneN usP; dsimp only; rw [if_neg h1, Int.zero_add], by
                have h2 := h.2
                unfold doneP at h2
                rw [if_neg (show ¬ (usP a0 a1 a2 a3 s).per = 0 from h1), if_pos (by show (0 : Int) + a1 ≤ 1073741824; omega)] at h2
                have e0 : (usP a0 a1 a2 a3 s).frm + (usP a0 a1 a2 a3 s).per = a1 := Int.zero_add _
                rwa [e0] at h2⟩)
              clear h1
              by_cases h2 : a2 = 0
              · subst h2
                go_wp2_with fail
                refine CD.out.mono ?_
                rintro e W6 ⟨rfl, ht⟩
                have HT6 := Lib.hid ht
                have y1 := ht.cell HY1.out
                have y2 := ht.cell HY2.out
                clear ht CD HT
                go_wp2_with fail
                go_quiet (fail)
                have HT7 := Lib.hid (HT6.out.below (below_drewN (Below.refl _ _) nq))
                have y3 : (W6.drewN nq).cell? ⟨W.heap.size, 1, none⟩ = some (.int .i64 a1) := HT7.out.cell HY1.out
                go_wp2_with fail
                go_ret
                exact ⟨rfl, HB1.out.trans (HT7.out.b.mono HB1.out.size)⟩
              · have hcp : 0 < a2 := by omega
                have hd2 : decide (0 < a2) = true := by simpa using hcp
                go_wp2_with fail
                refine CD.out.mono ?_
                rintro e W6 ⟨rfl, ht⟩
                have HT6 := Lib.hid ht
                have y1 := ht.cell HY1.out
                have y2 := ht.cell HY2.out
                have hlf : leftN (beginP (usP a0 a1 a2 a3 s) a1) = a2 := by unfold leftN; rw [if_neg (show ¬ (beginP (usP a0 a1 a2 a3 s) a1).cap = 0 from h2)]; show max (a2 - 0) 0 = a2; omega
                have CQ := Lib.hid fun (n : Nat) => by have q := (ht.below (below_drewN (Below.refl _ _) n)); obtain ⟨hi, hp⟩ := q.pt; exact left_quiet _ hi p rb [beginP (usP a0 a1 a2 a3 s) a1] 0 _ (W6.drewN n) hp rfl (by simp) q.ok
                rw [hlf] at CQ
                clear ht CD hlf HT h2
                go_wp2_with fail
                go_quiet ((go_at_call 26; exact Calls.quiet_of (CQ.out _)))
                have HT7 := Lib.hid (HT6.out.below (below_drewN (Below.refl _ _) nq))
                have y3 : (W6.drewN nq).cell? ⟨W.heap.size, 1, none⟩ = some (.int .i64 a1) := HT7.out.cell HY1.out
                go_wp2_with fail
                go_ret
                exact ⟨rfl, HB1.out.trans (HT7.out.b.mono HB1.out.size)⟩
theorem uses_walk (a : AT) (A : Option Addr) (n c : Nat) (zs : List Int) (W : World) (h : IsRow .u16 W A n c zs) :
    Calls Try.prog 7 #[.agg a.cells.toArray, .slice A n c] W fun e w' => e = .returned (.bool true) ∧ Below W.heap.size W w' := by
  obtain ⟨y, hy, _⟩ := nums_at (by decide) u16_wf h
  have hm : n ≤ maxLen := by
    rcases h with ⟨_, rfl, _, _⟩ | ⟨_, _, h1, h2, _⟩
    · exact Nat.zero_le _
    · exact Nat.le_trans h1 h2
  exact uses_core a A n c y W hy hm
end Go.Proofs.Ytdabmbdikofhpaa.P
