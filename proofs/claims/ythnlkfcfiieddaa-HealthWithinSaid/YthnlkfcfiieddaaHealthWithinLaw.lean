/-
  HealthWithin's walk. Each statement bears its own conditions.
-/
import Derived.Test.YthnlkfcfiieddaaHlP
namespace Go.Proofs.Ythnlkfcfiieddaa.Hl
open Go.RowKit Go.Proofs.Ythnlkfcfiieddaa.F 
set_option linter.unusedVariables false
set_option linter.unusedSimpArgs false
/-- Every rule is one that may be. -/
def okR (mo : Bool) (R : List ((Int × Int) × Int)) : Prop := ∀ e l d, getL R e l = some d → posB l d = true ∧ lvB mo l = true
theorem newL_ok (mo : Bool) : ∀ (rs : List (Int × Int × Int)) (R : List ((Int × Int) × Int)), okR mo R → (newL mo rs R).1 = 0 → okR mo (newL mo rs R).2 := by
  intro rs
  induction rs with
  | nil => intro R h _; exact h
  | cons x r ih =>
    intro R h h0
    have hs : newL mo (x :: r) R = if addE mo R x.1 x.2.1 x.2.2 = 0 then newL mo r (addR mo R x.1 x.2.1 x.2.2) else (addE mo R x.1 x.2.1 x.2.2, R) := rfl
    rw [hs] at h0 ⊢
    by_cases ha : addE mo R x.1 x.2.1 x.2.2 = 0
    · rw [if_pos ha] at h0 ⊢
      refine ih _ ?_ h0
      have hr : addR mo R x.1 x.2.1 x.2.2 = putL R x.1 x.2.1 x.2.2 := by unfold addR; rw [if_pos ha]
      rw [hr]
      intro e l d hg
      rw [get_put] at hg
      by_cases hk : e = x.1 ∧ l = x.2.1
      · rw [if_pos hk] at hg
        injection hg with hg
        unfold addE at ha
        by_cases h1 : errP x.1 ∧ lvB mo x.2.1 = true
        · rw [if_neg (fun hh => hh h1)] at ha
          by_cases h2 : posB x.2.1 x.2.2 = false
          · rw [if_pos h2] at ha; omega
          · rw [hk.2, ← hg]
            exact ⟨by simpa using h2, h1.2⟩
        · rw [if_pos h1] at ha; omega
      · rw [if_neg hk] at hg
        exact h e l d hg
    · rw [if_neg ha] at h0
      exact absurd h0 ha
theorem pos_bd (l d : Int) (h : posB l d = true) : 0 ≤ d ∧ d ≤ 6 ∧ (l = 2 → d ≤ 1) := by
  unfold posB at h
  by_cases h1 : d = 0 ∨ d = 1
  · omega
  · rw [if_neg h1] at h
    by_cases h2 : d = 2 ∨ d = 3
    · rw [if_pos h2] at h; simp at h; omega
    · rw [if_neg h2] at h
      by_cases h3 : d = 4 ∨ d = 5 ∨ d = 6
      · rw [if_pos h3] at h; simp at h; omega
      · rw [if_neg h3] at h; cases h
theorem find_ok {mo : Bool} {R : List ((Int × Int) × Int)} (h : okR mo R) (e : Int) (o : Int × Int) : ∀ lv : List Int, findV R e o lv = o ∨ ((findV R e o lv).1 ∈ lv ∧ posB (findV R e o lv).1 (findV R e o lv).2 = true)
  | [] => .inl rfl
  | l :: r => by
    unfold findV
    cases hg : getL R e l with
    | some d => exact .inr ⟨by simp, (h e l d hg).1⟩
    | none =>
      rcases find_ok h e o r with h1 | ⟨h1, h2⟩
      · exact .inl h1
      · exact .inr ⟨List.mem_cons_of_mem _ h1, h2⟩
/-- What the law asks of what is done. -/
theorem dec_ok {mo : Bool} {R : List ((Int × Int) × Int)} (h : okR mo R) (p e : Int) (he : errP e) : ((decV mo R p e).1 == 2) = mo ∧ (mo = true → (decV mo R p e).2 ≤ 1) ∧ 0 ≤ (decV mo R p e).2 ∧ (decV mo R p e).2 ≤ 6 ∧ (p < 0 → ((decV mo R p e).1 == 0) = false) := by
  unfold decV
  rw [if_neg (fun hh => hh he)]
  cases mo
  · rw [if_neg (by simp)]
    by_cases hp : p < 0
    · rw [if_pos (by unfold whoI; simp [hp])]
      rcases find_ok h e (1, 6) [1] with h1 | ⟨h1, h2⟩
      · rw [h1]; simp
      · have h3 : (findV R e (1, 6) [1]).1 = 1 := by simpa using h1
        have h4 := pos_bd _ _ h2
        rw [h3]
        exact ⟨rfl, fun h => (by cases h), h4.1, h4.2.1, fun _ => rfl⟩
    · rw [if_neg (by unfold whoI; simp; omega)]
      rcases find_ok h e (0, 2) [0, 1] with h1 | ⟨h1, h2⟩
      · rw [h1]; simp; omega
      · have h3 : (findV R e (0, 2) [0, 1]).1 = 0 ∨ (findV R e (0, 2) [0, 1]).1 = 1 := by simpa using h1
        have h4 := pos_bd _ _ h2
        refine ⟨by rcases h3 with h3 | h3 <;> rw [h3] <;> rfl, fun h => (by cases h), h4.1, h4.2.1, fun h => absurd h hp⟩
  · rw [if_pos rfl]
    rcases find_ok h e (2, 1) [2] with h1 | ⟨h1, h2⟩
    · rw [h1]; simp
    · have h3 : (findV R e (2, 1) [2]).1 = 2 := by simpa using h1
      have h4 := pos_bd _ _ h2
      rw [h3]
      exact ⟨rfl, fun _ => h4.2.2 h3, h4.1, h4.2.1, fun _ => rfl⟩
theorem dec_max (mo : Bool) (R : List ((Int × Int) × Int)) (p e : Int) : decV mo R (max p (-1)) e = decV mo R p e := by
  have h : whoI mo (max p (-1)) = whoI mo p := by
    unfold whoI
    cases mo
    · simp only [Bool.false_eq_true, if_false]
      by_cases hp : p < 0
      · rw [if_pos hp, if_pos (by omega)]
      · rw [if_neg hp, if_neg (by omega)]; omega
    · rfl
  unfold decV
  rw [h]
/-- What was noted is what would be done. -/
def okF (mo : Bool) (R : List ((Int × Int) × Int)) (F : List ((Int × Int) × Value)) : Prop := ∀ a c v, Hv.getL F a c = some v → v = .agg #[.int .i64 (decV mo R a c).1, .int .i64 (decV mo R a c).2]
structure WR (lo g rb cb fb n : Nat) (mo : Bool) (R : List ((Int × Int) × Int)) (w0 : World) (iv : Value) (wr : World) : Prop where
  ex : ∃ (j : Nat) (C : List ((Int × Int) × Int)) (F : List ((Int × Int) × Value)), j ≤ n ∧ iv = .int .i64 (j : Int) ∧ MV wr g rb cb mo R C ∧ Hv.MP wr fb F ∧ okF mo R F ∧ Below lo w0 wr
theorem act_neq (a0 a1 b0 b1 : Int) (w : World) : (binOp .neq 40 (.agg #[.int .i64 a0, .int .i64 a1]) (.agg #[.int .i64 b0, .int .i64 b1])).run Try.prog w = .ok (.bool (!(a0 == b0 && a1 == b1))) w := by
  have h := act_eql a0 a1 b0 b1 w
  rw [run_eql_struct] at h
  rw [run_neq_struct]
  cases hr : (Op.equalIn 10000 40 (.agg #[.int .i64 a0, .int .i64 a1]) (.agg #[.int .i64 b0, .int .i64 b1])).run Try.prog w with
  | ok v w' =>
    rw [hr] at h
    simp only [Result.andThen_ok] at h ⊢
    injection h with h1 h2
    injection h1 with h1
    rw [h1, h2]
  | _ => rw [hr] at h; simp [Result.andThen] at h
theorem zero_act : ∀ u : World, (zeroValue 40).run Try.prog u = .ok (.agg #[.int .i64 0, .int .i64 0]) u := fun u => by
  have := Try.zeroValue40 u
  exact this
set_option maxRecDepth 100000 in
set_option maxHeartbeats 64000000 in
theorem within_walk (A : Option Addr) (n c : Nat) (rs : List (Int × Int × Int)) (mo : Bool) (A2 : Option Addr) (n2 c2 : Nat) (acs : List (Int × Int × Int)) (w : World) (h0 : Row w 3 (RRule w) (.slice A n c) rs) (h2 : Row w 3 (RAct w) (.slice A2 n2 c2) acs) : Calls Try.prog 4 #[.slice A n c, .bool mo, .slice A2 n2 c2] w fun r w' => r = .returned (.bool true) ∧ Below w.heap.size w w' := by
  have he := he_hl
  have hq := act_eql
  have hqn := act_neq
  have hmm := @run_makeMap Try.prog
  have hln : rs.length = n := by
    obtain ⟨a, c, e, _⟩ := h0.form
    injection e with _ e2 _
    exact e2.symm
  have hln2 : acs.length = n2 := by
    obtain ⟨a, c, e, _⟩ := h2.form
    injection e with _ e2 _
    exact e2.symm
  have HR := Lib.hid (RR.of_row h0 hln)
  have HA := Lib.hid h2
  have HL := Lib.hid hln2
  obtain ⟨lo, hlo⟩ : ∃ lo, w.heap.size = lo := ⟨_, rfl⟩
  have HLO := Lib.hid hlo
  have SP : Hid (∀ W, Calls Try.prog 8 #[] W fun r w' => r = .returned (.bool true) ∧ Below W.heap.size W w') := fun W => speaks_any W
  have S1 := Lib.hid (speaks_any w)
  rw [hlo] at S1 ⊢
  clear h0 h2 hlo
  by_cases h70 : 70 < n
  · have g0 : decide (70 < (n : Int)) = true := by simp; omega
    have g0' : (70 : Int) < (n : Int) := by omega
    clear h70
    go_enter Try.func4, Try.ntmps4
    go_wp2_with fail
    refine S1.out.mono ?_
    rintro r w1 ⟨rfl, b⟩
    have Bw1 := Lib.hid b
    clear b S1
    go_wp2_with fail
    refine (SP.out w1).mono ?_
    rintro r w9 ⟨rfl, b⟩
    have Bw9 : Hid (Below lo w w9) := Bw1.out.trans (b.mono (by have := Bw1.out.size; have := HLO.out; omega))
    clear b
    go_wp2_with fail
    go_ret
    exact ⟨rfl, Bw9.out⟩
  have g0 : decide (70 < (n : Int)) = false := by simp; omega
  have g0' : ¬ (70 : Int) < (n : Int) := by omega
  by_cases h60 : 60 < n2
  · have g1 : decide (60 < (n2 : Int)) = true := by simp; omega
    have g1' : (60 : Int) < (n2 : Int) := by omega
    clear h60
    go_enter Try.func4, Try.ntmps4
    go_wp2_with fail
    refine S1.out.mono ?_
    rintro r w1 ⟨rfl, b⟩
    have Bw1 := Lib.hid b
    clear b S1
    go_wp2_with fail
    refine (SP.out w1).mono ?_
    rintro r w9 ⟨rfl, b⟩
    have Bw9 : Hid (Below lo w w9) := Bw1.out.trans (b.mono (by have := Bw1.out.size; have := HLO.out; omega))
    clear b
    go_wp2_with fail
    go_ret
    exact ⟨rfl, Bw9.out⟩
  have g1 : decide (60 < (n2 : Int)) = false := by simp; omega
  have g1' : ¬ (60 : Int) < (n2 : Int) := by omega
  have HN : Hid (n ≤ 70 ∧ n2 ≤ 60) := by unfold Hid; omega
  obtain ⟨rv, hrv⟩ : ∃ x, refE mo rs = x := ⟨_, rfl⟩
  have CR : Hid (∀ W, Below w.heap.size w W → Calls Try.prog 11 #[.slice A n c, .bool mo] W fun r w' => r = .returned (.int .i64 rv) ∧ Below W.heap.size W w') := fun W hW => by
    have := refnew_any mo A n c rs W (HR.out.below hW) HN.out.1
    rw [hrv] at this
    exact this
  by_cases hr0 : rv = 0
  rotate_left
  · have g2 : (rv != 0) = true := by simpa using hr0
    clear h70 h60 hrv hr0
    go_enter Try.func4, Try.ntmps4
    go_wp2_with fail
    refine S1.out.mono ?_
    rintro r w1 ⟨rfl, b⟩
    have Bw1 := Lib.hid b
    clear b S1
    go_wp2_with fail
    refine (CR.out w1 (by rw [HLO.out]; exact Bw1.out)).mono ?_
    rintro r w2 ⟨rfl, b⟩
    have Bw2 : Hid (Below lo w w2) := Bw1.out.trans (b.mono (by have := Bw1.out.size; have := HLO.out; omega))
    clear b
    go_wp2_with fail
    refine (SP.out w2).mono ?_
    rintro r w9 ⟨rfl, b⟩
    have Bw9 : Hid (Below lo w w9) := Bw2.out.trans (b.mono (by have := Bw2.out.size; have := HLO.out; omega))
    clear b
    go_wp2_with fail
    go_ret
    exact ⟨rfl, Bw9.out⟩
  subst hr0
  have h64 : n ≤ 64 := by
    unfold refE at hrv
    by_cases h : 64 < rs.length
    · rw [if_pos h] at hrv; omega
    · omega
  have hnl : (newL mo rs []).1 = 0 := by
    unfold refE at hrv
    rw [if_neg (by omega)] at hrv
    exact hrv
  have hok : okR mo (newL mo rs []).2 := newL_ok mo rs [] (fun e l d h => by simp [getL, look] at h) hnl
  obtain ⟨R, hR⟩ : ∃ R, (newL mo rs []).2 = R := ⟨_, rfl⟩
  rw [hR] at hok
  have HOK := Lib.hid hok
  have HNL : Hid ((newL mo rs []).1 = 0 ∧ (newL mo rs []).2 = R) := ⟨hnl, hR⟩
  have H64 : Hid (n ≤ 64) := h64
  clear h70 h60 hrv hnl hok hR h64 hln hln2
  go_enter Try.func4, Try.ntmps4
  go_wp2_with fail
  refine S1.out.mono ?_
  rintro r w1 ⟨rfl, b⟩
  have Bw1 := Lib.hid b
  clear b S1
  go_wp2_with fail
  refine (CR.out w1 (by rw [HLO.out]; exact Bw1.out)).mono ?_
  rintro r w2 ⟨rfl, b⟩
  have Bw2 : Hid (Below lo w w2) := Bw1.out.trans (b.mono (by have := Bw1.out.size; have := HLO.out; omega))
  clear b CR Bw1
  go_wp2_with fail
  refine (of_any A n c rs w2 (HR.out.below (by rw [HLO.out]; exact Bw2.out)) HN.out.1).mono ?_
  rintro r w3 ⟨A', c', rfl, rr3, b⟩
  have Bw3 : Hid (Below lo w w3) := Bw2.out.trans (b.mono (by have := Bw2.out.size; have := HLO.out; omega))
  have CN := Lib.hid (new_any mo A' n c' rs w3 rr3 H64.out)
  clear b rr3 Bw2
  go_wp2_with fail
  refine CN.out.mono ?_
  rintro r w4 ⟨b4, h1, _⟩
  obtain ⟨rfl, q4⟩ := h1 HNL.out.1
  rw [HNL.out.2] at q4
  have Q4 : Hid (MV w4 (w3.heap.size + 2) w3.heap.size (w3.heap.size + 1) mo R []) := q4
  have S3 : Hid (lo ≤ w3.heap.size) := by have := Bw3.out.size; have := HLO.out; unfold Hid; omega
  have Bw4 : Hid (Below lo w w4) := Bw3.out.trans (b4.mono S3.out)
  obtain ⟨rb, hrb⟩ : ∃ g, w3.heap.size = g := ⟨_, rfl⟩
  rw [hrb] at Q4 S3
  rw [hrb]
  clear q4 b4 h1 CN Bw3 hrb
  have hal : Below w4.heap.size w4 (w4.alloc (.map #[] 0)) := (Below.refl _ _).alloc (Nat.le_refl _) _
  have Q5 := Lib.hid (Q4.out.below hal)
  have hfm : Hv.MP (w4.alloc (.map #[] 0)) w4.heap.size [] := Hv.MP.made w4
  have hfl : rb + 2 < w4.heap.size := Q4.out.lt
  have Bw5 : Hid (Below lo w (w4.alloc (.map #[] 0))) := Bw4.out.trans (hal.mono (by have := S3.out; omega))
  obtain ⟨fb, hfb⟩ : ∃ f, w4.heap.size = f := ⟨_, rfl⟩
  obtain ⟨w5, hw5⟩ : ∃ W, w4.alloc (.map #[] 0) = W := ⟨_, rfl⟩
  rw [hw5] at Q5 hfm Bw5
  rw [hfb] at hfm hfl
  have F5 := Lib.hid hfm
  have HFB : Hid (rb + 2 < fb ∧ lo ≤ rb) := ⟨hfl, S3.out⟩
  clear hal hfm hfl Q4 Bw4 S3
  go_upto_block 0 with fail
  clear hw5 hfb hmm
  go_cut [51] (fun ix wx => Below lo w wx)
  case first =>
    go_wp2_with fail
    go_loopw [51] (fun iv wr => WR lo (rb + 2) rb (rb + 1) fb n2 mo R w iv wr) (fun i _ => n2 - (intOf i).toNat)
    case atStart => exact ⟨⟨0, [], [], Nat.zero_le _, rfl, Q5.out, F5.out, fun a c v h => by simp [Hv.getL, Hv.look] at h, Bw5.out⟩⟩
    case round =>
      clear Q5 F5 Bw5
      obtain ⟨⟨j, C, F, hj, rfl, hm, hf, hof, hb⟩⟩ := hrel
      have HM := Lib.hid hm
      have HF := Lib.hid hf
      have HOF := Lib.hid hof
      have HB := Lib.hid hb
      clear hm hf hof hb
      by_cases hlt : j < n2
      rotate_left
      · have hjI : ¬ (j : Int) < (n2 : Int) := by omega
        have gj : decide ((j : Int) < (n2 : Int)) = false := by simp; omega
        clear hlt hj
        go_wp2_with fail
        go_meet
        exact HB.out
      have hjI : (j : Int) < (n2 : Int) := by omega
      have gj : decide ((j : Int) < (n2 : Int)) = true := by simp; omega
      have HX : Hid (j < n2 ∧ n2 ≤ 60) := ⟨hlt, HN.out.2⟩
      have hj60 : (j : Int) < 60 := by have := HN.out; omega
      obtain ⟨hl9, b, off, x, cs, hA2, hbl, hx, hra, hl8, hc⟩ := HA.out.at_ j hlt
      clear hl9 hl8
      subst hA2
      obtain ⟨xk, p, e⟩ := x
      obtain ⟨hcs, r0, r1, r2⟩ := hra
      subst hcs
      rw [HLO.out] at hbl
      have q0 : wr.cell? ⟨b, off + j * 3, none⟩ = some (.int .u8 xk) := (HB.out.cell hbl).trans (hc 0 _ rfl)
      have q1 : wr.cell? ⟨b, off + j * 3 + 1, none⟩ = some (.int .i64 p) := (HB.out.cell hbl).trans (hc 1 _ rfl)
      have q2 : wr.cell? ⟨b, off + j * 3 + 2, none⟩ = some (.int .i64 e) := (HB.out.cell hbl).trans (hc 2 _ rfl)
      clear hc hbl hx hlt hj
      obtain ⟨Y1, hY_Y1⟩ : ∃ Y, wr.heap.size = Y := ⟨_, rfl⟩
      obtain ⟨Wa, hWa_Y1⟩ : ∃ V, wr.alloc (.cells #[.int .u8 0, .int .i64 0, .int .i64 0] 36) = V := ⟨_, rfl⟩
      have hz_Y1 : Wa.heap[Y1]? = some (.cells #[.int .u8 0, .int .i64 0, .int .i64 0] 36 (0, 0)) := by rw [← hWa_Y1, ← hY_Y1]; exact heap_alloc_new _ _
      obtain ⟨W2, hWn_Y1⟩ : ∃ V, (((Wa.setCell ⟨Y1, 0, none⟩ (.int .u8 xk)).setCell ⟨Y1, 1, none⟩ (.int .i64 p)).setCell ⟨Y1, 2, none⟩ (.int .i64 e)) = V := ⟨_, rfl⟩
      have hn_Y1 : W2.heap[Y1]? = some (.cells #[.int .u8 xk, .int .i64 p, .int .i64 e] 36 (0, 0)) := by rw [← hWn_Y1]; exact set_at (set_at (set_at (hz_Y1) 0 _) 1 _) 2 _
      have HBN_W2 : Hid (Below Y1 wr W2) := by rw [← hWn_Y1, ← hWa_Y1, ← hY_Y1]; exact ((((Below.refl _ _).alloc (Nat.le_refl _) _).setCell (by exact Nat.le_refl _) _).setCell (by exact Nat.le_refl _) _).setCell (by exact Nat.le_refl _) _
      have HEQ_Y1 : Hid (wr.heap.size = Y1) := hY_Y1
      have HM_W2 := Lib.hid (HM.out.below (by rw [hY_Y1]; exact HBN_W2.out))
      have HF_W2 := Lib.hid (HF.out.keep (HBN_W2.out.block fb (by have := HF.out.lt; omega)))
      have HYG_Y1 : Hid (fb < Y1) := by have := HF.out.lt; unfold Hid; omega
      have HB_W2 : Hid (Below lo w W2) := HB.out.trans (HBN_W2.out.mono (by have := HYG_Y1.out; have := HFB.out; omega))
      have az0 : Wa.cell? ⟨Y1, 0, none⟩ = some (.int .u8 0) := by rw [(row_cell hz_Y1 0).1]; rfl
      have af0 : Wa.frozen? ⟨Y1, 0, none⟩ = false := (row_cell hz_Y1 0).2
      have a0 : W2.cell? ⟨Y1, 0, none⟩ = some (.int .u8 xk) := by rw [(row_cell hn_Y1 0).1]; rfl
      have az1 : Wa.cell? ⟨Y1, 1, none⟩ = some (.int .i64 0) := by rw [(row_cell hz_Y1 1).1]; rfl
      have af1 : Wa.frozen? ⟨Y1, 1, none⟩ = false := (row_cell hz_Y1 1).2
      have a1 : W2.cell? ⟨Y1, 1, none⟩ = some (.int .i64 p) := by rw [(row_cell hn_Y1 1).1]; rfl
      have az2 : Wa.cell? ⟨Y1, 2, none⟩ = some (.int .i64 0) := by rw [(row_cell hz_Y1 2).1]; rfl
      have af2 : Wa.frozen? ⟨Y1, 2, none⟩ = false := (row_cell hz_Y1 2).2
      have a2 : W2.cell? ⟨Y1, 2, none⟩ = some (.int .i64 e) := by rw [(row_cell hn_Y1 2).1]; rfl
      clear hz_Y1 hn_Y1
      have CD := Lib.hid (decide_any (rb + 2) rb (rb + 1) mo R C p e W2 HM_W2.out)
      obtain ⟨L0, hL0⟩ : ∃ x, (decV mo R p e).1 = x := ⟨_, rfl⟩
      obtain ⟨D0, hD0⟩ : ∃ x, (decV mo R p e).2 = x := ⟨_, rfl⟩
      rw [hL0, hD0] at CD
      have HDV : Hid (decV mo R p e = (L0, D0)) := by unfold Hid; rw [← hL0, ← hD0]
      have HFX : Hid (∀ i u, W2.cell? ⟨Y1, i, none⟩ = some u → ∀ W, Fo (fun b => b = rb + 1) W2 W → W.cell? ⟨Y1, i, none⟩ = some u) := fun i u hu W hf => hf.cell (by show ¬ Y1 = rb + 1; have := HFB.out; have := HYG_Y1.out; omega) hu
      clear hL0 hD0
      go_wp2_with fail
      refine CD.out.mono ?_
      rintro r w3 ⟨rfl, m3, f3⟩
      have HM_w3 := Lib.hid m3
      have HF_w3 : Hid (Hv.MP w3 fb F) := HF_W2.out.fo f3 (by have := HFB.out; omega)
      have HB_w3 : Hid (Below lo w w3) := HB_W2.out.trans (f3.below (fun b hb => by rw [hb]; have := HFB.out; omega) (by have := HF_W2.out.lt; have := HFB.out; omega))
      have s1 := HFX.out 1 _ a1 w3 f3
      have s2 := HFX.out 2 _ a2 w3 f3
      have SZ3 : Hid (Y1 < w3.heap.size) := World.block_lt_of_cell? _ _ s1
      clear m3 f3 CD HFX q0 q1 q2 az0 af0 a0 az1 af1 a1 az2 af2 a2
      obtain ⟨Y3, hY_Y3⟩ : ∃ Y, w3.heap.size = Y := ⟨_, rfl⟩
      obtain ⟨Wa, hWa_Y3⟩ : ∃ V, w3.alloc (.cells #[.int .i64 0, .int .i64 0] 40) = V := ⟨_, rfl⟩
      have hz_Y3 : Wa.heap[Y3]? = some (.cells #[.int .i64 0, .int .i64 0] 40 (0, 0)) := by rw [← hWa_Y3, ← hY_Y3]; exact heap_alloc_new _ _
      obtain ⟨W5, hWn_Y3⟩ : ∃ V, ((Wa.setCell ⟨Y3, 0, none⟩ (.int .i64 L0)).setCell ⟨Y3, 1, none⟩ (.int .i64 D0)) = V := ⟨_, rfl⟩
      have hn_Y3 : W5.heap[Y3]? = some (.cells #[.int .i64 L0, .int .i64 D0] 40 (0, 0)) := by rw [← hWn_Y3]; exact set_at (set_at (hz_Y3) 0 _) 1 _
      have HBN_W5 : Hid (Below Y3 w3 W5) := by rw [← hWn_Y3, ← hWa_Y3, ← hY_Y3]; exact (((Below.refl _ _).alloc (Nat.le_refl _) _).setCell (by exact Nat.le_refl _) _).setCell (by exact Nat.le_refl _) _
      have HEQ_Y3 : Hid (w3.heap.size = Y3) := hY_Y3
      have HM_W5 := Lib.hid (HM_w3.out.below (by rw [hY_Y3]; exact HBN_W5.out))
      have HF_W5 := Lib.hid (HF_w3.out.keep (HBN_W5.out.block fb (by have := HF_w3.out.lt; omega)))
      have HYG_Y3 : Hid (fb < Y3) := by have := HF_w3.out.lt; unfold Hid; omega
      have HB_W5 : Hid (Below lo w W5) := HB_w3.out.trans (HBN_W5.out.mono (by have := HYG_Y3.out; have := HFB.out; omega))
      have xz0 : Wa.cell? ⟨Y3, 0, none⟩ = some (.int .i64 0) := by rw [(row_cell hz_Y3 0).1]; rfl
      have xf0 : Wa.frozen? ⟨Y3, 0, none⟩ = false := (row_cell hz_Y3 0).2
      have x0 : W5.cell? ⟨Y3, 0, none⟩ = some (.int .i64 L0) := by rw [(row_cell hn_Y3 0).1]; rfl
      have xz1 : Wa.cell? ⟨Y3, 1, none⟩ = some (.int .i64 0) := by rw [(row_cell hz_Y3 1).1]; rfl
      have xf1 : Wa.frozen? ⟨Y3, 1, none⟩ = false := (row_cell hz_Y3 1).2
      have x1 : W5.cell? ⟨Y3, 1, none⟩ = some (.int .i64 D0) := by rw [(row_cell hn_Y3 1).1]; rfl
      clear hz_Y3 hn_Y3
      have d1 : W5.cell? ⟨Y1, 1, none⟩ = some (.int .i64 p) := (HBN_W5.out.cell (by show Y1 < Y3; have := SZ3.out; have := HEQ_Y3.out; omega)).trans s1
      have d2 : W5.cell? ⟨Y1, 2, none⟩ = some (.int .i64 e) := (HBN_W5.out.cell (by show Y1 < Y3; have := SZ3.out; have := HEQ_Y3.out; omega)).trans s2
      by_cases hep : errP e
      rotate_left
      · have HZ : Hid (L0 = 0 ∧ D0 = 0) := by
          have h1 := HDV.out
          unfold decV at h1
          rw [if_pos hep] at h1
          injection h1 with h1 h2
          exact ⟨h1.symm, h2.symm⟩
        obtain ⟨z1, z2⟩ := HZ.out
        have gl : (L0 == 0) = true := by simpa using z1
        have gd : (D0 == 0) = true := by simpa using z2
        clear z1 z2
        by_cases h1 : e < 1
        · have e1 : decide (e < 1) = true := by simpa using h1
          clear hep h1
          go_wp2_with fail
          go_roundw
          case rel =>
            have Q : WR lo (rb + 2) rb (rb + 1) fb n2 mo R w (.int .i64 ((j : Int) + 1)) W5 := ⟨⟨j + 1, _, F, HX.out.1, by go_num, HM_W5.out, HF_W5.out, HOF.out, HB_W5.out⟩⟩
            first | exact Q | ((repeat apply Exists.intro); exact ⟨Q, rfl⟩)
          case measure => have := HX.out; simp [intOf]; omega
        · have e1 : decide (e < 1) = false := by simpa using h1
          have e2 : decide (27 < e) = true := by unfold errP at hep; simp; omega
          clear hep h1
          go_wp2_with fail
          go_roundw
          case rel =>
            have Q : WR lo (rb + 2) rb (rb + 1) fb n2 mo R w (.int .i64 ((j : Int) + 1)) W5 := ⟨⟨j + 1, _, F, HX.out.1, by go_num, HM_W5.out, HF_W5.out, HOF.out, HB_W5.out⟩⟩
            first | exact Q | ((repeat apply Exists.intro); exact ⟨Q, rfl⟩)
          case measure => have := HX.out; simp [intOf]; omega
      have e1 : decide (e < 1) = false := by have := hep.1; simp; omega
      have e2 : decide (27 < e) = false := by have := hep.2; simp; omega
      obtain ⟨o1, o2, o3, o4, o5⟩ := dec_ok HOK.out p e hep
      rw [HDV.out] at o1 o2 o3 o4 o5
      simp only at o1 o2 o3 o4 o5
      have e3 : decide (D0 < 0) = false := by simp; omega
      have e4 : decide (6 < D0) = false := by simp; omega
      obtain ⟨mp, hmp⟩ : ∃ x, max p (-1) = x := ⟨_, rfl⟩
      have HMP : Hid (decV mo R mp e = (L0, D0)) := by unfold Hid; rw [← hmp, dec_max]; exact HDV.out
      clear hep o3 o4
      by_cases hp : p < 0
      · have e5 : decide (p < 0) = true := by simpa using hp
        have e6 : (L0 == 0) = false := o5 hp
        clear hp o5
        cases mo
        · skip
          obtain ⟨Y4, hY_Y4⟩ : ∃ Y, W5.heap.size = Y := ⟨_, rfl⟩
          obtain ⟨Wa, hWa_Y4⟩ : ∃ V, W5.alloc (.cells #[.int .i64 0, .int .i64 0] 48) = V := ⟨_, rfl⟩
          have hz_Y4 : Wa.heap[Y4]? = some (.cells #[.int .i64 0, .int .i64 0] 48 (0, 0)) := by rw [← hWa_Y4, ← hY_Y4]; exact heap_alloc_new _ _
          obtain ⟨W7, hWn_Y4⟩ : ∃ V, ((Wa.setCell ⟨Y4, 0, none⟩ (.int .i64 mp)).setCell ⟨Y4, 1, none⟩ (.int .i64 e)) = V := ⟨_, rfl⟩
          have hn_Y4 : W7.heap[Y4]? = some (.cells #[.int .i64 mp, .int .i64 e] 48 (0, 0)) := by rw [← hWn_Y4]; exact set_at (set_at (hz_Y4) 0 _) 1 _
          have HBN_W7 : Hid (Below Y4 W5 W7) := by rw [← hWn_Y4, ← hWa_Y4, ← hY_Y4]; exact (((Below.refl _ _).alloc (Nat.le_refl _) _).setCell (by exact Nat.le_refl _) _).setCell (by exact Nat.le_refl _) _
          have HEQ_Y4 : Hid (W5.heap.size = Y4) := hY_Y4
          have HM_W7 := Lib.hid (HM_W5.out.below (by rw [hY_Y4]; exact HBN_W7.out))
          have HF_W7 := Lib.hid (HF_W5.out.keep (HBN_W7.out.block fb (by have := HF_W5.out.lt; omega)))
          have HYG_Y4 : Hid (fb < Y4) := by have := HF_W5.out.lt; unfold Hid; omega
          have HB_W7 : Hid (Below lo w W7) := HB_W5.out.trans (HBN_W7.out.mono (by have := HYG_Y4.out; have := HFB.out; omega))
          have tz0 : Wa.cell? ⟨Y4, 0, none⟩ = some (.int .i64 0) := by rw [(row_cell hz_Y4 0).1]; rfl
          have tf0 : Wa.frozen? ⟨Y4, 0, none⟩ = false := (row_cell hz_Y4 0).2
          have t0 : W7.cell? ⟨Y4, 0, none⟩ = some (.int .i64 mp) := by rw [(row_cell hn_Y4 0).1]; rfl
          have tz1 : Wa.cell? ⟨Y4, 1, none⟩ = some (.int .i64 0) := by rw [(row_cell hz_Y4 1).1]; rfl
          have tf1 : Wa.frozen? ⟨Y4, 1, none⟩ = false := (row_cell hz_Y4 1).2
          have t1 : W7.cell? ⟨Y4, 1, none⟩ = some (.int .i64 e) := by rw [(row_cell hn_Y4 1).1]; rfl
          clear hz_Y4 hn_Y4
          have x0' : W7.cell? ⟨Y3, 0, none⟩ = some (.int .i64 L0) := (HBN_W7.out.cell (by show Y3 < Y4; have := World.block_lt_of_cell? _ _ x0; have h5 : W5.heap.size = Y4 := HEQ_Y4.out; have h6 : Y3 < W5.heap.size := this; omega)).trans x0
          have x1' : W7.cell? ⟨Y3, 1, none⟩ = some (.int .i64 D0) := (HBN_W7.out.cell (by show Y3 < Y4; have := World.block_lt_of_cell? _ _ x0; have h5 : W5.heap.size = Y4 := HEQ_Y4.out; have h6 : Y3 < W5.heap.size := this; omega)).trans x1
          have lk := Hv.lookup_ok HF_W7.out Hv.ek_two Try.underlying47 (zero_act _) mp e
          cases hg : Hv.getL F mp e
          · rw [hg] at lk
            have lk' : (Instr.lookup 47 (.map (some fb)) (.agg #[.int .i64 mp, .int .i64 e]) true).run Try.prog W7 = .ok (.tuple #[.agg #[.int .i64 0, .int .i64 0], .bool false]) W7 := lk
            clear lk hg
            obtain ⟨Y5, hY_Y5⟩ : ∃ Y, W7.heap.size = Y := ⟨_, rfl⟩
            obtain ⟨Wa, hWa_Y5⟩ : ∃ V, W7.alloc (.cells #[.int .i64 0, .int .i64 0] 40) = V := ⟨_, rfl⟩
            have hz_Y5 : Wa.heap[Y5]? = some (.cells #[.int .i64 0, .int .i64 0] 40 (0, 0)) := by rw [← hWa_Y5, ← hY_Y5]; exact heap_alloc_new _ _
            obtain ⟨W9, hWn_Y5⟩ : ∃ V, ((Wa.setCell ⟨Y5, 0, none⟩ (.int .i64 0)).setCell ⟨Y5, 1, none⟩ (.int .i64 0)) = V := ⟨_, rfl⟩
            have hn_Y5 : W9.heap[Y5]? = some (.cells #[.int .i64 0, .int .i64 0] 40 (0, 0)) := by rw [← hWn_Y5]; exact set_at (set_at (hz_Y5) 0 _) 1 _
            have HBN_W9 : Hid (Below Y5 W7 W9) := by rw [← hWn_Y5, ← hWa_Y5, ← hY_Y5]; exact (((Below.refl _ _).alloc (Nat.le_refl _) _).setCell (by exact Nat.le_refl _) _).setCell (by exact Nat.le_refl _) _
            have HEQ_Y5 : Hid (W7.heap.size = Y5) := hY_Y5
            have HM_W9 := Lib.hid (HM_W7.out.below (by rw [hY_Y5]; exact HBN_W9.out))
            have HF_W9 := Lib.hid (HF_W7.out.keep (HBN_W9.out.block fb (by have := HF_W7.out.lt; omega)))
            have HYG_Y5 : Hid (fb < Y5) := by have := HF_W7.out.lt; unfold Hid; omega
            have HB_W9 : Hid (Below lo w W9) := HB_W7.out.trans (HBN_W9.out.mono (by have := HYG_Y5.out; have := HFB.out; omega))
            have uz0 : Wa.cell? ⟨Y5, 0, none⟩ = some (.int .i64 0) := by rw [(row_cell hz_Y5 0).1]; rfl
            have uf0 : Wa.frozen? ⟨Y5, 0, none⟩ = false := (row_cell hz_Y5 0).2
            have u0 : W9.cell? ⟨Y5, 0, none⟩ = some (.int .i64 0) := by rw [(row_cell hn_Y5 0).1]; rfl
            have uz1 : Wa.cell? ⟨Y5, 1, none⟩ = some (.int .i64 0) := by rw [(row_cell hz_Y5 1).1]; rfl
            have uf1 : Wa.frozen? ⟨Y5, 1, none⟩ = false := (row_cell hz_Y5 1).2
            have u1 : W9.cell? ⟨Y5, 1, none⟩ = some (.int .i64 0) := by rw [(row_cell hn_Y5 1).1]; rfl
            clear hz_Y5 hn_Y5
            have lt7 : Y3 < W7.heap.size ∧ Y4 < W7.heap.size := ⟨World.block_lt_of_cell? _ _ x0', World.block_lt_of_cell? _ _ t0⟩
            have h57 : W7.heap.size = Y5 := HEQ_Y5.out
            have x0'' : W9.cell? ⟨Y3, 0, none⟩ = some (.int .i64 L0) := (HBN_W9.out.cell (by show Y3 < Y5; omega)).trans x0'
            have x1'' : W9.cell? ⟨Y3, 1, none⟩ = some (.int .i64 D0) := (HBN_W9.out.cell (by show Y3 < Y5; omega)).trans x1'
            have t0' : W9.cell? ⟨Y4, 0, none⟩ = some (.int .i64 mp) := (HBN_W9.out.cell (by show Y4 < Y5; omega)).trans t0
            have t1' : W9.cell? ⟨Y4, 1, none⟩ = some (.int .i64 e) := (HBN_W9.out.cell (by show Y4 < Y5; omega)).trans t1
            obtain ⟨W10, up, mp10, f10⟩ := Hv.update_run (z := .int .i64 0) HF_W9.out Hv.ek_two Try.underlying47 mp e (.agg #[.int .i64 L0, .int .i64 D0])
            have up' : (Instr.mapUpdate 47 (.map (some fb)) (.agg #[.int .i64 mp, .int .i64 e]) (.agg #[.int .i64 L0, .int .i64 D0])).run Try.prog W9 = .ok () W10 := up
            have HF_W10 := Lib.hid mp10
            have HM_W10 := Lib.hid (HM_W9.out.fo f10 (by have := HFB.out; omega) (by have := HFB.out; omega) (by have := HFB.out; omega))
            have HB_W10 : Hid (Below lo w W10) := HB_W9.out.trans (f10.below (fun b hb => by rw [hb]; have := HFB.out; omega) (by have := HF_W9.out.lt; have := HFB.out; omega))
            have HOF2 : Hid (okF false R (Hv.putL F mp e (.agg #[.int .i64 L0, .int .i64 D0]))) := fun a c v hv => by
              rw [Hv.get_put] at hv
              by_cases hk : a = mp ∧ c = e
              · rw [if_pos hk] at hv
                injection hv with hv
                rw [← hv, hk.1, hk.2, HMP.out]
              · rw [if_neg hk] at hv
                exact HOF.out a c v hv
            clear lt7 h57 up mp10 f10
            go_wp2_with fail
            go_roundw
            case rel =>
              have Q : WR lo (rb + 2) rb (rb + 1) fb n2 false R w (.int .i64 ((j : Int) + 1)) W10 := ⟨⟨j + 1, _, _, HX.out.1, by go_num, HM_W10.out, HF_W10.out, HOF2.out, HB_W10.out⟩⟩
              first | exact Q | ((repeat apply Exists.intro); exact ⟨Q, rfl⟩)
            case measure => have := HX.out; simp [intOf]; omega
          · rename_i v0
            have hv0 := HOF.out mp e v0 hg
            rw [HMP.out] at hv0
            subst hv0
            rw [hg] at lk
            have lk' : (Instr.lookup 47 (.map (some fb)) (.agg #[.int .i64 mp, .int .i64 e]) true).run Try.prog W7 = .ok (.tuple #[.agg #[.int .i64 L0, .int .i64 D0], .bool true]) W7 := lk
            clear lk hg
            obtain ⟨Y5, hY_Y5⟩ : ∃ Y, W7.heap.size = Y := ⟨_, rfl⟩
            obtain ⟨Wa, hWa_Y5⟩ : ∃ V, W7.alloc (.cells #[.int .i64 0, .int .i64 0] 40) = V := ⟨_, rfl⟩
            have hz_Y5 : Wa.heap[Y5]? = some (.cells #[.int .i64 0, .int .i64 0] 40 (0, 0)) := by rw [← hWa_Y5, ← hY_Y5]; exact heap_alloc_new _ _
            obtain ⟨W9, hWn_Y5⟩ : ∃ V, ((Wa.setCell ⟨Y5, 0, none⟩ (.int .i64 L0)).setCell ⟨Y5, 1, none⟩ (.int .i64 D0)) = V := ⟨_, rfl⟩
            have hn_Y5 : W9.heap[Y5]? = some (.cells #[.int .i64 L0, .int .i64 D0] 40 (0, 0)) := by rw [← hWn_Y5]; exact set_at (set_at (hz_Y5) 0 _) 1 _
            have HBN_W9 : Hid (Below Y5 W7 W9) := by rw [← hWn_Y5, ← hWa_Y5, ← hY_Y5]; exact (((Below.refl _ _).alloc (Nat.le_refl _) _).setCell (by exact Nat.le_refl _) _).setCell (by exact Nat.le_refl _) _
            have HEQ_Y5 : Hid (W7.heap.size = Y5) := hY_Y5
            have HM_W9 := Lib.hid (HM_W7.out.below (by rw [hY_Y5]; exact HBN_W9.out))
            have HF_W9 := Lib.hid (HF_W7.out.keep (HBN_W9.out.block fb (by have := HF_W7.out.lt; omega)))
            have HYG_Y5 : Hid (fb < Y5) := by have := HF_W7.out.lt; unfold Hid; omega
            have HB_W9 : Hid (Below lo w W9) := HB_W7.out.trans (HBN_W9.out.mono (by have := HYG_Y5.out; have := HFB.out; omega))
            have uz0 : Wa.cell? ⟨Y5, 0, none⟩ = some (.int .i64 0) := by rw [(row_cell hz_Y5 0).1]; rfl
            have uf0 : Wa.frozen? ⟨Y5, 0, none⟩ = false := (row_cell hz_Y5 0).2
            have u0 : W9.cell? ⟨Y5, 0, none⟩ = some (.int .i64 L0) := by rw [(row_cell hn_Y5 0).1]; rfl
            have uz1 : Wa.cell? ⟨Y5, 1, none⟩ = some (.int .i64 0) := by rw [(row_cell hz_Y5 1).1]; rfl
            have uf1 : Wa.frozen? ⟨Y5, 1, none⟩ = false := (row_cell hz_Y5 1).2
            have u1 : W9.cell? ⟨Y5, 1, none⟩ = some (.int .i64 D0) := by rw [(row_cell hn_Y5 1).1]; rfl
            clear hz_Y5 hn_Y5
            have lt7 : Y3 < W7.heap.size ∧ Y4 < W7.heap.size := ⟨World.block_lt_of_cell? _ _ x0', World.block_lt_of_cell? _ _ t0⟩
            have h57 : W7.heap.size = Y5 := HEQ_Y5.out
            have x0'' : W9.cell? ⟨Y3, 0, none⟩ = some (.int .i64 L0) := (HBN_W9.out.cell (by show Y3 < Y5; omega)).trans x0'
            have x1'' : W9.cell? ⟨Y3, 1, none⟩ = some (.int .i64 D0) := (HBN_W9.out.cell (by show Y3 < Y5; omega)).trans x1'
            have t0' : W9.cell? ⟨Y4, 0, none⟩ = some (.int .i64 mp) := (HBN_W9.out.cell (by show Y4 < Y5; omega)).trans t0
            have t1' : W9.cell? ⟨Y4, 1, none⟩ = some (.int .i64 e) := (HBN_W9.out.cell (by show Y4 < Y5; omega)).trans t1
            obtain ⟨W10, up, mp10, f10⟩ := Hv.update_run (z := .int .i64 0) HF_W9.out Hv.ek_two Try.underlying47 mp e (.agg #[.int .i64 L0, .int .i64 D0])
            have up' : (Instr.mapUpdate 47 (.map (some fb)) (.agg #[.int .i64 mp, .int .i64 e]) (.agg #[.int .i64 L0, .int .i64 D0])).run Try.prog W9 = .ok () W10 := up
            have HF_W10 := Lib.hid mp10
            have HM_W10 := Lib.hid (HM_W9.out.fo f10 (by have := HFB.out; omega) (by have := HFB.out; omega) (by have := HFB.out; omega))
            have HB_W10 : Hid (Below lo w W10) := HB_W9.out.trans (f10.below (fun b hb => by rw [hb]; have := HFB.out; omega) (by have := HF_W9.out.lt; have := HFB.out; omega))
            have HOF2 : Hid (okF false R (Hv.putL F mp e (.agg #[.int .i64 L0, .int .i64 D0]))) := fun a c v hv => by
              rw [Hv.get_put] at hv
              by_cases hk : a = mp ∧ c = e
              · rw [if_pos hk] at hv
                injection hv with hv
                rw [← hv, hk.1, hk.2, HMP.out]
              · rw [if_neg hk] at hv
                exact HOF.out a c v hv
            clear lt7 h57 up mp10 f10
            go_wp2_with fail
            go_roundw
            case rel =>
              have Q : WR lo (rb + 2) rb (rb + 1) fb n2 false R w (.int .i64 ((j : Int) + 1)) W10 := ⟨⟨j + 1, _, _, HX.out.1, by go_num, HM_W10.out, HF_W10.out, HOF2.out, HB_W10.out⟩⟩
              first | exact Q | ((repeat apply Exists.intro); exact ⟨Q, rfl⟩)
            case measure => have := HX.out; simp [intOf]; omega
        · have e7 : decide (1 < D0) = false := by have := o2 rfl; simp; omega
          obtain ⟨Y4, hY_Y4⟩ : ∃ Y, W5.heap.size = Y := ⟨_, rfl⟩
          obtain ⟨Wa, hWa_Y4⟩ : ∃ V, W5.alloc (.cells #[.int .i64 0, .int .i64 0] 48) = V := ⟨_, rfl⟩
          have hz_Y4 : Wa.heap[Y4]? = some (.cells #[.int .i64 0, .int .i64 0] 48 (0, 0)) := by rw [← hWa_Y4, ← hY_Y4]; exact heap_alloc_new _ _
          obtain ⟨W7, hWn_Y4⟩ : ∃ V, ((Wa.setCell ⟨Y4, 0, none⟩ (.int .i64 mp)).setCell ⟨Y4, 1, none⟩ (.int .i64 e)) = V := ⟨_, rfl⟩
          have hn_Y4 : W7.heap[Y4]? = some (.cells #[.int .i64 mp, .int .i64 e] 48 (0, 0)) := by rw [← hWn_Y4]; exact set_at (set_at (hz_Y4) 0 _) 1 _
          have HBN_W7 : Hid (Below Y4 W5 W7) := by rw [← hWn_Y4, ← hWa_Y4, ← hY_Y4]; exact (((Below.refl _ _).alloc (Nat.le_refl _) _).setCell (by exact Nat.le_refl _) _).setCell (by exact Nat.le_refl _) _
          have HEQ_Y4 : Hid (W5.heap.size = Y4) := hY_Y4
          have HM_W7 := Lib.hid (HM_W5.out.below (by rw [hY_Y4]; exact HBN_W7.out))
          have HF_W7 := Lib.hid (HF_W5.out.keep (HBN_W7.out.block fb (by have := HF_W5.out.lt; omega)))
          have HYG_Y4 : Hid (fb < Y4) := by have := HF_W5.out.lt; unfold Hid; omega
          have HB_W7 : Hid (Below lo w W7) := HB_W5.out.trans (HBN_W7.out.mono (by have := HYG_Y4.out; have := HFB.out; omega))
          have tz0 : Wa.cell? ⟨Y4, 0, none⟩ = some (.int .i64 0) := by rw [(row_cell hz_Y4 0).1]; rfl
          have tf0 : Wa.frozen? ⟨Y4, 0, none⟩ = false := (row_cell hz_Y4 0).2
          have t0 : W7.cell? ⟨Y4, 0, none⟩ = some (.int .i64 mp) := by rw [(row_cell hn_Y4 0).1]; rfl
          have tz1 : Wa.cell? ⟨Y4, 1, none⟩ = some (.int .i64 0) := by rw [(row_cell hz_Y4 1).1]; rfl
          have tf1 : Wa.frozen? ⟨Y4, 1, none⟩ = false := (row_cell hz_Y4 1).2
          have t1 : W7.cell? ⟨Y4, 1, none⟩ = some (.int .i64 e) := by rw [(row_cell hn_Y4 1).1]; rfl
          clear hz_Y4 hn_Y4
          have x0' : W7.cell? ⟨Y3, 0, none⟩ = some (.int .i64 L0) := (HBN_W7.out.cell (by show Y3 < Y4; have := World.block_lt_of_cell? _ _ x0; have h5 : W5.heap.size = Y4 := HEQ_Y4.out; have h6 : Y3 < W5.heap.size := this; omega)).trans x0
          have x1' : W7.cell? ⟨Y3, 1, none⟩ = some (.int .i64 D0) := (HBN_W7.out.cell (by show Y3 < Y4; have := World.block_lt_of_cell? _ _ x0; have h5 : W5.heap.size = Y4 := HEQ_Y4.out; have h6 : Y3 < W5.heap.size := this; omega)).trans x1
          have lk := Hv.lookup_ok HF_W7.out Hv.ek_two Try.underlying47 (zero_act _) mp e
          cases hg : Hv.getL F mp e
          · rw [hg] at lk
            have lk' : (Instr.lookup 47 (.map (some fb)) (.agg #[.int .i64 mp, .int .i64 e]) true).run Try.prog W7 = .ok (.tuple #[.agg #[.int .i64 0, .int .i64 0], .bool false]) W7 := lk
            clear lk hg
            obtain ⟨Y5, hY_Y5⟩ : ∃ Y, W7.heap.size = Y := ⟨_, rfl⟩
            obtain ⟨Wa, hWa_Y5⟩ : ∃ V, W7.alloc (.cells #[.int .i64 0, .int .i64 0] 40) = V := ⟨_, rfl⟩
            have hz_Y5 : Wa.heap[Y5]? = some (.cells #[.int .i64 0, .int .i64 0] 40 (0, 0)) := by rw [← hWa_Y5, ← hY_Y5]; exact heap_alloc_new _ _
            obtain ⟨W9, hWn_Y5⟩ : ∃ V, ((Wa.setCell ⟨Y5, 0, none⟩ (.int .i64 0)).setCell ⟨Y5, 1, none⟩ (.int .i64 0)) = V := ⟨_, rfl⟩
            have hn_Y5 : W9.heap[Y5]? = some (.cells #[.int .i64 0, .int .i64 0] 40 (0, 0)) := by rw [← hWn_Y5]; exact set_at (set_at (hz_Y5) 0 _) 1 _
            have HBN_W9 : Hid (Below Y5 W7 W9) := by rw [← hWn_Y5, ← hWa_Y5, ← hY_Y5]; exact (((Below.refl _ _).alloc (Nat.le_refl _) _).setCell (by exact Nat.le_refl _) _).setCell (by exact Nat.le_refl _) _
            have HEQ_Y5 : Hid (W7.heap.size = Y5) := hY_Y5
            have HM_W9 := Lib.hid (HM_W7.out.below (by rw [hY_Y5]; exact HBN_W9.out))
            have HF_W9 := Lib.hid (HF_W7.out.keep (HBN_W9.out.block fb (by have := HF_W7.out.lt; omega)))
            have HYG_Y5 : Hid (fb < Y5) := by have := HF_W7.out.lt; unfold Hid; omega
            have HB_W9 : Hid (Below lo w W9) := HB_W7.out.trans (HBN_W9.out.mono (by have := HYG_Y5.out; have := HFB.out; omega))
            have uz0 : Wa.cell? ⟨Y5, 0, none⟩ = some (.int .i64 0) := by rw [(row_cell hz_Y5 0).1]; rfl
            have uf0 : Wa.frozen? ⟨Y5, 0, none⟩ = false := (row_cell hz_Y5 0).2
            have u0 : W9.cell? ⟨Y5, 0, none⟩ = some (.int .i64 0) := by rw [(row_cell hn_Y5 0).1]; rfl
            have uz1 : Wa.cell? ⟨Y5, 1, none⟩ = some (.int .i64 0) := by rw [(row_cell hz_Y5 1).1]; rfl
            have uf1 : Wa.frozen? ⟨Y5, 1, none⟩ = false := (row_cell hz_Y5 1).2
            have u1 : W9.cell? ⟨Y5, 1, none⟩ = some (.int .i64 0) := by rw [(row_cell hn_Y5 1).1]; rfl
            clear hz_Y5 hn_Y5
            have lt7 : Y3 < W7.heap.size ∧ Y4 < W7.heap.size := ⟨World.block_lt_of_cell? _ _ x0', World.block_lt_of_cell? _ _ t0⟩
            have h57 : W7.heap.size = Y5 := HEQ_Y5.out
            have x0'' : W9.cell? ⟨Y3, 0, none⟩ = some (.int .i64 L0) := (HBN_W9.out.cell (by show Y3 < Y5; omega)).trans x0'
            have x1'' : W9.cell? ⟨Y3, 1, none⟩ = some (.int .i64 D0) := (HBN_W9.out.cell (by show Y3 < Y5; omega)).trans x1'
            have t0' : W9.cell? ⟨Y4, 0, none⟩ = some (.int .i64 mp) := (HBN_W9.out.cell (by show Y4 < Y5; omega)).trans t0
            have t1' : W9.cell? ⟨Y4, 1, none⟩ = some (.int .i64 e) := (HBN_W9.out.cell (by show Y4 < Y5; omega)).trans t1
            obtain ⟨W10, up, mp10, f10⟩ := Hv.update_run (z := .int .i64 0) HF_W9.out Hv.ek_two Try.underlying47 mp e (.agg #[.int .i64 L0, .int .i64 D0])
            have up' : (Instr.mapUpdate 47 (.map (some fb)) (.agg #[.int .i64 mp, .int .i64 e]) (.agg #[.int .i64 L0, .int .i64 D0])).run Try.prog W9 = .ok () W10 := up
            have HF_W10 := Lib.hid mp10
            have HM_W10 := Lib.hid (HM_W9.out.fo f10 (by have := HFB.out; omega) (by have := HFB.out; omega) (by have := HFB.out; omega))
            have HB_W10 : Hid (Below lo w W10) := HB_W9.out.trans (f10.below (fun b hb => by rw [hb]; have := HFB.out; omega) (by have := HF_W9.out.lt; have := HFB.out; omega))
            have HOF2 : Hid (okF true R (Hv.putL F mp e (.agg #[.int .i64 L0, .int .i64 D0]))) := fun a c v hv => by
              rw [Hv.get_put] at hv
              by_cases hk : a = mp ∧ c = e
              · rw [if_pos hk] at hv
                injection hv with hv
                rw [← hv, hk.1, hk.2, HMP.out]
              · rw [if_neg hk] at hv
                exact HOF.out a c v hv
            clear lt7 h57 up mp10 f10
            go_wp2_with fail
            go_roundw
            case rel =>
              have Q : WR lo (rb + 2) rb (rb + 1) fb n2 true R w (.int .i64 ((j : Int) + 1)) W10 := ⟨⟨j + 1, _, _, HX.out.1, by go_num, HM_W10.out, HF_W10.out, HOF2.out, HB_W10.out⟩⟩
              first | exact Q | ((repeat apply Exists.intro); exact ⟨Q, rfl⟩)
            case measure => have := HX.out; simp [intOf]; omega
          · rename_i v0
            have hv0 := HOF.out mp e v0 hg
            rw [HMP.out] at hv0
            subst hv0
            rw [hg] at lk
            have lk' : (Instr.lookup 47 (.map (some fb)) (.agg #[.int .i64 mp, .int .i64 e]) true).run Try.prog W7 = .ok (.tuple #[.agg #[.int .i64 L0, .int .i64 D0], .bool true]) W7 := lk
            clear lk hg
            obtain ⟨Y5, hY_Y5⟩ : ∃ Y, W7.heap.size = Y := ⟨_, rfl⟩
            obtain ⟨Wa, hWa_Y5⟩ : ∃ V, W7.alloc (.cells #[.int .i64 0, .int .i64 0] 40) = V := ⟨_, rfl⟩
            have hz_Y5 : Wa.heap[Y5]? = some (.cells #[.int .i64 0, .int .i64 0] 40 (0, 0)) := by rw [← hWa_Y5, ← hY_Y5]; exact heap_alloc_new _ _
            obtain ⟨W9, hWn_Y5⟩ : ∃ V, ((Wa.setCell ⟨Y5, 0, none⟩ (.int .i64 L0)).setCell ⟨Y5, 1, none⟩ (.int .i64 D0)) = V := ⟨_, rfl⟩
            have hn_Y5 : W9.heap[Y5]? = some (.cells #[.int .i64 L0, .int .i64 D0] 40 (0, 0)) := by rw [← hWn_Y5]; exact set_at (set_at (hz_Y5) 0 _) 1 _
            have HBN_W9 : Hid (Below Y5 W7 W9) := by rw [← hWn_Y5, ← hWa_Y5, ← hY_Y5]; exact (((Below.refl _ _).alloc (Nat.le_refl _) _).setCell (by exact Nat.le_refl _) _).setCell (by exact Nat.le_refl _) _
            have HEQ_Y5 : Hid (W7.heap.size = Y5) := hY_Y5
            have HM_W9 := Lib.hid (HM_W7.out.below (by rw [hY_Y5]; exact HBN_W9.out))
            have HF_W9 := Lib.hid (HF_W7.out.keep (HBN_W9.out.block fb (by have := HF_W7.out.lt; omega)))
            have HYG_Y5 : Hid (fb < Y5) := by have := HF_W7.out.lt; unfold Hid; omega
            have HB_W9 : Hid (Below lo w W9) := HB_W7.out.trans (HBN_W9.out.mono (by have := HYG_Y5.out; have := HFB.out; omega))
            have uz0 : Wa.cell? ⟨Y5, 0, none⟩ = some (.int .i64 0) := by rw [(row_cell hz_Y5 0).1]; rfl
            have uf0 : Wa.frozen? ⟨Y5, 0, none⟩ = false := (row_cell hz_Y5 0).2
            have u0 : W9.cell? ⟨Y5, 0, none⟩ = some (.int .i64 L0) := by rw [(row_cell hn_Y5 0).1]; rfl
            have uz1 : Wa.cell? ⟨Y5, 1, none⟩ = some (.int .i64 0) := by rw [(row_cell hz_Y5 1).1]; rfl
            have uf1 : Wa.frozen? ⟨Y5, 1, none⟩ = false := (row_cell hz_Y5 1).2
            have u1 : W9.cell? ⟨Y5, 1, none⟩ = some (.int .i64 D0) := by rw [(row_cell hn_Y5 1).1]; rfl
            clear hz_Y5 hn_Y5
            have lt7 : Y3 < W7.heap.size ∧ Y4 < W7.heap.size := ⟨World.block_lt_of_cell? _ _ x0', World.block_lt_of_cell? _ _ t0⟩
            have h57 : W7.heap.size = Y5 := HEQ_Y5.out
            have x0'' : W9.cell? ⟨Y3, 0, none⟩ = some (.int .i64 L0) := (HBN_W9.out.cell (by show Y3 < Y5; omega)).trans x0'
            have x1'' : W9.cell? ⟨Y3, 1, none⟩ = some (.int .i64 D0) := (HBN_W9.out.cell (by show Y3 < Y5; omega)).trans x1'
            have t0' : W9.cell? ⟨Y4, 0, none⟩ = some (.int .i64 mp) := (HBN_W9.out.cell (by show Y4 < Y5; omega)).trans t0
            have t1' : W9.cell? ⟨Y4, 1, none⟩ = some (.int .i64 e) := (HBN_W9.out.cell (by show Y4 < Y5; omega)).trans t1
            obtain ⟨W10, up, mp10, f10⟩ := Hv.update_run (z := .int .i64 0) HF_W9.out Hv.ek_two Try.underlying47 mp e (.agg #[.int .i64 L0, .int .i64 D0])
            have up' : (Instr.mapUpdate 47 (.map (some fb)) (.agg #[.int .i64 mp, .int .i64 e]) (.agg #[.int .i64 L0, .int .i64 D0])).run Try.prog W9 = .ok () W10 := up
            have HF_W10 := Lib.hid mp10
            have HM_W10 := Lib.hid (HM_W9.out.fo f10 (by have := HFB.out; omega) (by have := HFB.out; omega) (by have := HFB.out; omega))
            have HB_W10 : Hid (Below lo w W10) := HB_W9.out.trans (f10.below (fun b hb => by rw [hb]; have := HFB.out; omega) (by have := HF_W9.out.lt; have := HFB.out; omega))
            have HOF2 : Hid (okF true R (Hv.putL F mp e (.agg #[.int .i64 L0, .int .i64 D0]))) := fun a c v hv => by
              rw [Hv.get_put] at hv
              by_cases hk : a = mp ∧ c = e
              · rw [if_pos hk] at hv
                injection hv with hv
                rw [← hv, hk.1, hk.2, HMP.out]
              · rw [if_neg hk] at hv
                exact HOF.out a c v hv
            clear lt7 h57 up mp10 f10
            go_wp2_with fail
            go_roundw
            case rel =>
              have Q : WR lo (rb + 2) rb (rb + 1) fb n2 true R w (.int .i64 ((j : Int) + 1)) W10 := ⟨⟨j + 1, _, _, HX.out.1, by go_num, HM_W10.out, HF_W10.out, HOF2.out, HB_W10.out⟩⟩
              first | exact Q | ((repeat apply Exists.intro); exact ⟨Q, rfl⟩)
            case measure => have := HX.out; simp [intOf]; omega
      · have e5 : decide (p < 0) = false := by simpa using hp
        clear hp o5
        cases mo
        · skip
          obtain ⟨Y4, hY_Y4⟩ : ∃ Y, W5.heap.size = Y := ⟨_, rfl⟩
          obtain ⟨Wa, hWa_Y4⟩ : ∃ V, W5.alloc (.cells #[.int .i64 0, .int .i64 0] 48) = V := ⟨_, rfl⟩
          have hz_Y4 : Wa.heap[Y4]? = some (.cells #[.int .i64 0, .int .i64 0] 48 (0, 0)) := by rw [← hWa_Y4, ← hY_Y4]; exact heap_alloc_new _ _
          obtain ⟨W7, hWn_Y4⟩ : ∃ V, ((Wa.setCell ⟨Y4, 0, none⟩ (.int .i64 mp)).setCell ⟨Y4, 1, none⟩ (.int .i64 e)) = V := ⟨_, rfl⟩
          have hn_Y4 : W7.heap[Y4]? = some (.cells #[.int .i64 mp, .int .i64 e] 48 (0, 0)) := by rw [← hWn_Y4]; exact set_at (set_at (hz_Y4) 0 _) 1 _
          have HBN_W7 : Hid (Below Y4 W5 W7) := by rw [← hWn_Y4, ← hWa_Y4, ← hY_Y4]; exact (((Below.refl _ _).alloc (Nat.le_refl _) _).setCell (by exact Nat.le_refl _) _).setCell (by exact Nat.le_refl _) _
          have HEQ_Y4 : Hid (W5.heap.size = Y4) := hY_Y4
          have HM_W7 := Lib.hid (HM_W5.out.below (by rw [hY_Y4]; exact HBN_W7.out))
          have HF_W7 := Lib.hid (HF_W5.out.keep (HBN_W7.out.block fb (by have := HF_W5.out.lt; omega)))
          have HYG_Y4 : Hid (fb < Y4) := by have := HF_W5.out.lt; unfold Hid; omega
          have HB_W7 : Hid (Below lo w W7) := HB_W5.out.trans (HBN_W7.out.mono (by have := HYG_Y4.out; have := HFB.out; omega))
          have tz0 : Wa.cell? ⟨Y4, 0, none⟩ = some (.int .i64 0) := by rw [(row_cell hz_Y4 0).1]; rfl
          have tf0 : Wa.frozen? ⟨Y4, 0, none⟩ = false := (row_cell hz_Y4 0).2
          have t0 : W7.cell? ⟨Y4, 0, none⟩ = some (.int .i64 mp) := by rw [(row_cell hn_Y4 0).1]; rfl
          have tz1 : Wa.cell? ⟨Y4, 1, none⟩ = some (.int .i64 0) := by rw [(row_cell hz_Y4 1).1]; rfl
          have tf1 : Wa.frozen? ⟨Y4, 1, none⟩ = false := (row_cell hz_Y4 1).2
          have t1 : W7.cell? ⟨Y4, 1, none⟩ = some (.int .i64 e) := by rw [(row_cell hn_Y4 1).1]; rfl
          clear hz_Y4 hn_Y4
          have x0' : W7.cell? ⟨Y3, 0, none⟩ = some (.int .i64 L0) := (HBN_W7.out.cell (by show Y3 < Y4; have := World.block_lt_of_cell? _ _ x0; have h5 : W5.heap.size = Y4 := HEQ_Y4.out; have h6 : Y3 < W5.heap.size := this; omega)).trans x0
          have x1' : W7.cell? ⟨Y3, 1, none⟩ = some (.int .i64 D0) := (HBN_W7.out.cell (by show Y3 < Y4; have := World.block_lt_of_cell? _ _ x0; have h5 : W5.heap.size = Y4 := HEQ_Y4.out; have h6 : Y3 < W5.heap.size := this; omega)).trans x1
          have lk := Hv.lookup_ok HF_W7.out Hv.ek_two Try.underlying47 (zero_act _) mp e
          cases hg : Hv.getL F mp e
          · rw [hg] at lk
            have lk' : (Instr.lookup 47 (.map (some fb)) (.agg #[.int .i64 mp, .int .i64 e]) true).run Try.prog W7 = .ok (.tuple #[.agg #[.int .i64 0, .int .i64 0], .bool false]) W7 := lk
            clear lk hg
            obtain ⟨Y5, hY_Y5⟩ : ∃ Y, W7.heap.size = Y := ⟨_, rfl⟩
            obtain ⟨Wa, hWa_Y5⟩ : ∃ V, W7.alloc (.cells #[.int .i64 0, .int .i64 0] 40) = V := ⟨_, rfl⟩
            have hz_Y5 : Wa.heap[Y5]? = some (.cells #[.int .i64 0, .int .i64 0] 40 (0, 0)) := by rw [← hWa_Y5, ← hY_Y5]; exact heap_alloc_new _ _
            obtain ⟨W9, hWn_Y5⟩ : ∃ V, ((Wa.setCell ⟨Y5, 0, none⟩ (.int .i64 0)).setCell ⟨Y5, 1, none⟩ (.int .i64 0)) = V := ⟨_, rfl⟩
            have hn_Y5 : W9.heap[Y5]? = some (.cells #[.int .i64 0, .int .i64 0] 40 (0, 0)) := by rw [← hWn_Y5]; exact set_at (set_at (hz_Y5) 0 _) 1 _
            have HBN_W9 : Hid (Below Y5 W7 W9) := by rw [← hWn_Y5, ← hWa_Y5, ← hY_Y5]; exact (((Below.refl _ _).alloc (Nat.le_refl _) _).setCell (by exact Nat.le_refl _) _).setCell (by exact Nat.le_refl _) _
            have HEQ_Y5 : Hid (W7.heap.size = Y5) := hY_Y5
            have HM_W9 := Lib.hid (HM_W7.out.below (by rw [hY_Y5]; exact HBN_W9.out))
            have HF_W9 := Lib.hid (HF_W7.out.keep (HBN_W9.out.block fb (by have := HF_W7.out.lt; omega)))
            have HYG_Y5 : Hid (fb < Y5) := by have := HF_W7.out.lt; unfold Hid; omega
            have HB_W9 : Hid (Below lo w W9) := HB_W7.out.trans (HBN_W9.out.mono (by have := HYG_Y5.out; have := HFB.out; omega))
            have uz0 : Wa.cell? ⟨Y5, 0, none⟩ = some (.int .i64 0) := by rw [(row_cell hz_Y5 0).1]; rfl
            have uf0 : Wa.frozen? ⟨Y5, 0, none⟩ = false := (row_cell hz_Y5 0).2
            have u0 : W9.cell? ⟨Y5, 0, none⟩ = some (.int .i64 0) := by rw [(row_cell hn_Y5 0).1]; rfl
            have uz1 : Wa.cell? ⟨Y5, 1, none⟩ = some (.int .i64 0) := by rw [(row_cell hz_Y5 1).1]; rfl
            have uf1 : Wa.frozen? ⟨Y5, 1, none⟩ = false := (row_cell hz_Y5 1).2
            have u1 : W9.cell? ⟨Y5, 1, none⟩ = some (.int .i64 0) := by rw [(row_cell hn_Y5 1).1]; rfl
            clear hz_Y5 hn_Y5
            have lt7 : Y3 < W7.heap.size ∧ Y4 < W7.heap.size := ⟨World.block_lt_of_cell? _ _ x0', World.block_lt_of_cell? _ _ t0⟩
            have h57 : W7.heap.size = Y5 := HEQ_Y5.out
            have x0'' : W9.cell? ⟨Y3, 0, none⟩ = some (.int .i64 L0) := (HBN_W9.out.cell (by show Y3 < Y5; omega)).trans x0'
            have x1'' : W9.cell? ⟨Y3, 1, none⟩ = some (.int .i64 D0) := (HBN_W9.out.cell (by show Y3 < Y5; omega)).trans x1'
            have t0' : W9.cell? ⟨Y4, 0, none⟩ = some (.int .i64 mp) := (HBN_W9.out.cell (by show Y4 < Y5; omega)).trans t0
            have t1' : W9.cell? ⟨Y4, 1, none⟩ = some (.int .i64 e) := (HBN_W9.out.cell (by show Y4 < Y5; omega)).trans t1
            obtain ⟨W10, up, mp10, f10⟩ := Hv.update_run (z := .int .i64 0) HF_W9.out Hv.ek_two Try.underlying47 mp e (.agg #[.int .i64 L0, .int .i64 D0])
            have up' : (Instr.mapUpdate 47 (.map (some fb)) (.agg #[.int .i64 mp, .int .i64 e]) (.agg #[.int .i64 L0, .int .i64 D0])).run Try.prog W9 = .ok () W10 := up
            have HF_W10 := Lib.hid mp10
            have HM_W10 := Lib.hid (HM_W9.out.fo f10 (by have := HFB.out; omega) (by have := HFB.out; omega) (by have := HFB.out; omega))
            have HB_W10 : Hid (Below lo w W10) := HB_W9.out.trans (f10.below (fun b hb => by rw [hb]; have := HFB.out; omega) (by have := HF_W9.out.lt; have := HFB.out; omega))
            have HOF2 : Hid (okF false R (Hv.putL F mp e (.agg #[.int .i64 L0, .int .i64 D0]))) := fun a c v hv => by
              rw [Hv.get_put] at hv
              by_cases hk : a = mp ∧ c = e
              · rw [if_pos hk] at hv
                injection hv with hv
                rw [← hv, hk.1, hk.2, HMP.out]
              · rw [if_neg hk] at hv
                exact HOF.out a c v hv
            clear lt7 h57 up mp10 f10
            go_wp2_with fail
            go_roundw
            case rel =>
              have Q : WR lo (rb + 2) rb (rb + 1) fb n2 false R w (.int .i64 ((j : Int) + 1)) W10 := ⟨⟨j + 1, _, _, HX.out.1, by go_num, HM_W10.out, HF_W10.out, HOF2.out, HB_W10.out⟩⟩
              first | exact Q | ((repeat apply Exists.intro); exact ⟨Q, rfl⟩)
            case measure => have := HX.out; simp [intOf]; omega
          · rename_i v0
            have hv0 := HOF.out mp e v0 hg
            rw [HMP.out] at hv0
            subst hv0
            rw [hg] at lk
            have lk' : (Instr.lookup 47 (.map (some fb)) (.agg #[.int .i64 mp, .int .i64 e]) true).run Try.prog W7 = .ok (.tuple #[.agg #[.int .i64 L0, .int .i64 D0], .bool true]) W7 := lk
            clear lk hg
            obtain ⟨Y5, hY_Y5⟩ : ∃ Y, W7.heap.size = Y := ⟨_, rfl⟩
            obtain ⟨Wa, hWa_Y5⟩ : ∃ V, W7.alloc (.cells #[.int .i64 0, .int .i64 0] 40) = V := ⟨_, rfl⟩
            have hz_Y5 : Wa.heap[Y5]? = some (.cells #[.int .i64 0, .int .i64 0] 40 (0, 0)) := by rw [← hWa_Y5, ← hY_Y5]; exact heap_alloc_new _ _
            obtain ⟨W9, hWn_Y5⟩ : ∃ V, ((Wa.setCell ⟨Y5, 0, none⟩ (.int .i64 L0)).setCell ⟨Y5, 1, none⟩ (.int .i64 D0)) = V := ⟨_, rfl⟩
            have hn_Y5 : W9.heap[Y5]? = some (.cells #[.int .i64 L0, .int .i64 D0] 40 (0, 0)) := by rw [← hWn_Y5]; exact set_at (set_at (hz_Y5) 0 _) 1 _
            have HBN_W9 : Hid (Below Y5 W7 W9) := by rw [← hWn_Y5, ← hWa_Y5, ← hY_Y5]; exact (((Below.refl _ _).alloc (Nat.le_refl _) _).setCell (by exact Nat.le_refl _) _).setCell (by exact Nat.le_refl _) _
            have HEQ_Y5 : Hid (W7.heap.size = Y5) := hY_Y5
            have HM_W9 := Lib.hid (HM_W7.out.below (by rw [hY_Y5]; exact HBN_W9.out))
            have HF_W9 := Lib.hid (HF_W7.out.keep (HBN_W9.out.block fb (by have := HF_W7.out.lt; omega)))
            have HYG_Y5 : Hid (fb < Y5) := by have := HF_W7.out.lt; unfold Hid; omega
            have HB_W9 : Hid (Below lo w W9) := HB_W7.out.trans (HBN_W9.out.mono (by have := HYG_Y5.out; have := HFB.out; omega))
            have uz0 : Wa.cell? ⟨Y5, 0, none⟩ = some (.int .i64 0) := by rw [(row_cell hz_Y5 0).1]; rfl
            have uf0 : Wa.frozen? ⟨Y5, 0, none⟩ = false := (row_cell hz_Y5 0).2
            have u0 : W9.cell? ⟨Y5, 0, none⟩ = some (.int .i64 L0) := by rw [(row_cell hn_Y5 0).1]; rfl
            have uz1 : Wa.cell? ⟨Y5, 1, none⟩ = some (.int .i64 0) := by rw [(row_cell hz_Y5 1).1]; rfl
            have uf1 : Wa.frozen? ⟨Y5, 1, none⟩ = false := (row_cell hz_Y5 1).2
            have u1 : W9.cell? ⟨Y5, 1, none⟩ = some (.int .i64 D0) := by rw [(row_cell hn_Y5 1).1]; rfl
            clear hz_Y5 hn_Y5
            have lt7 : Y3 < W7.heap.size ∧ Y4 < W7.heap.size := ⟨World.block_lt_of_cell? _ _ x0', World.block_lt_of_cell? _ _ t0⟩
            have h57 : W7.heap.size = Y5 := HEQ_Y5.out
            have x0'' : W9.cell? ⟨Y3, 0, none⟩ = some (.int .i64 L0) := (HBN_W9.out.cell (by show Y3 < Y5; omega)).trans x0'
            have x1'' : W9.cell? ⟨Y3, 1, none⟩ = some (.int .i64 D0) := (HBN_W9.out.cell (by show Y3 < Y5; omega)).trans x1'
            have t0' : W9.cell? ⟨Y4, 0, none⟩ = some (.int .i64 mp) := (HBN_W9.out.cell (by show Y4 < Y5; omega)).trans t0
            have t1' : W9.cell? ⟨Y4, 1, none⟩ = some (.int .i64 e) := (HBN_W9.out.cell (by show Y4 < Y5; omega)).trans t1
            obtain ⟨W10, up, mp10, f10⟩ := Hv.update_run (z := .int .i64 0) HF_W9.out Hv.ek_two Try.underlying47 mp e (.agg #[.int .i64 L0, .int .i64 D0])
            have up' : (Instr.mapUpdate 47 (.map (some fb)) (.agg #[.int .i64 mp, .int .i64 e]) (.agg #[.int .i64 L0, .int .i64 D0])).run Try.prog W9 = .ok () W10 := up
            have HF_W10 := Lib.hid mp10
            have HM_W10 := Lib.hid (HM_W9.out.fo f10 (by have := HFB.out; omega) (by have := HFB.out; omega) (by have := HFB.out; omega))
            have HB_W10 : Hid (Below lo w W10) := HB_W9.out.trans (f10.below (fun b hb => by rw [hb]; have := HFB.out; omega) (by have := HF_W9.out.lt; have := HFB.out; omega))
            have HOF2 : Hid (okF false R (Hv.putL F mp e (.agg #[.int .i64 L0, .int .i64 D0]))) := fun a c v hv => by
              rw [Hv.get_put] at hv
              by_cases hk : a = mp ∧ c = e
              · rw [if_pos hk] at hv
                injection hv with hv
                rw [← hv, hk.1, hk.2, HMP.out]
              · rw [if_neg hk] at hv
                exact HOF.out a c v hv
            clear lt7 h57 up mp10 f10
            go_wp2_with fail
            go_roundw
            case rel =>
              have Q : WR lo (rb + 2) rb (rb + 1) fb n2 false R w (.int .i64 ((j : Int) + 1)) W10 := ⟨⟨j + 1, _, _, HX.out.1, by go_num, HM_W10.out, HF_W10.out, HOF2.out, HB_W10.out⟩⟩
              first | exact Q | ((repeat apply Exists.intro); exact ⟨Q, rfl⟩)
            case measure => have := HX.out; simp [intOf]; omega
        · have e7 : decide (1 < D0) = false := by have := o2 rfl; simp; omega
          obtain ⟨Y4, hY_Y4⟩ : ∃ Y, W5.heap.size = Y := ⟨_, rfl⟩
          obtain ⟨Wa, hWa_Y4⟩ : ∃ V, W5.alloc (.cells #[.int .i64 0, .int .i64 0] 48) = V := ⟨_, rfl⟩
          have hz_Y4 : Wa.heap[Y4]? = some (.cells #[.int .i64 0, .int .i64 0] 48 (0, 0)) := by rw [← hWa_Y4, ← hY_Y4]; exact heap_alloc_new _ _
          obtain ⟨W7, hWn_Y4⟩ : ∃ V, ((Wa.setCell ⟨Y4, 0, none⟩ (.int .i64 mp)).setCell ⟨Y4, 1, none⟩ (.int .i64 e)) = V := ⟨_, rfl⟩
          have hn_Y4 : W7.heap[Y4]? = some (.cells #[.int .i64 mp, .int .i64 e] 48 (0, 0)) := by rw [← hWn_Y4]; exact set_at (set_at (hz_Y4) 0 _) 1 _
          have HBN_W7 : Hid (Below Y4 W5 W7) := by rw [← hWn_Y4, ← hWa_Y4, ← hY_Y4]; exact (((Below.refl _ _).alloc (Nat.le_refl _) _).setCell (by exact Nat.le_refl _) _).setCell (by exact Nat.le_refl _) _
          have HEQ_Y4 : Hid (W5.heap.size = Y4) := hY_Y4
          have HM_W7 := Lib.hid (HM_W5.out.below (by rw [hY_Y4]; exact HBN_W7.out))
          have HF_W7 := Lib.hid (HF_W5.out.keep (HBN_W7.out.block fb (by have := HF_W5.out.lt; omega)))
          have HYG_Y4 : Hid (fb < Y4) := by have := HF_W5.out.lt; unfold Hid; omega
          have HB_W7 : Hid (Below lo w W7) := HB_W5.out.trans (HBN_W7.out.mono (by have := HYG_Y4.out; have := HFB.out; omega))
          have tz0 : Wa.cell? ⟨Y4, 0, none⟩ = some (.int .i64 0) := by rw [(row_cell hz_Y4 0).1]; rfl
          have tf0 : Wa.frozen? ⟨Y4, 0, none⟩ = false := (row_cell hz_Y4 0).2
          have t0 : W7.cell? ⟨Y4, 0, none⟩ = some (.int .i64 mp) := by rw [(row_cell hn_Y4 0).1]; rfl
          have tz1 : Wa.cell? ⟨Y4, 1, none⟩ = some (.int .i64 0) := by rw [(row_cell hz_Y4 1).1]; rfl
          have tf1 : Wa.frozen? ⟨Y4, 1, none⟩ = false := (row_cell hz_Y4 1).2
          have t1 : W7.cell? ⟨Y4, 1, none⟩ = some (.int .i64 e) := by rw [(row_cell hn_Y4 1).1]; rfl
          clear hz_Y4 hn_Y4
          have x0' : W7.cell? ⟨Y3, 0, none⟩ = some (.int .i64 L0) := (HBN_W7.out.cell (by show Y3 < Y4; have := World.block_lt_of_cell? _ _ x0; have h5 : W5.heap.size = Y4 := HEQ_Y4.out; have h6 : Y3 < W5.heap.size := this; omega)).trans x0
          have x1' : W7.cell? ⟨Y3, 1, none⟩ = some (.int .i64 D0) := (HBN_W7.out.cell (by show Y3 < Y4; have := World.block_lt_of_cell? _ _ x0; have h5 : W5.heap.size = Y4 := HEQ_Y4.out; have h6 : Y3 < W5.heap.size := this; omega)).trans x1
          have lk := Hv.lookup_ok HF_W7.out Hv.ek_two Try.underlying47 (zero_act _) mp e
          cases hg : Hv.getL F mp e
          · rw [hg] at lk
            have lk' : (Instr.lookup 47 (.map (some fb)) (.agg #[.int .i64 mp, .int .i64 e]) true).run Try.prog W7 = .ok (.tuple #[.agg #[.int .i64 0, .int .i64 0], .bool false]) W7 := lk
            clear lk hg
            obtain ⟨Y5, hY_Y5⟩ : ∃ Y, W7.heap.size = Y := ⟨_, rfl⟩
            obtain ⟨Wa, hWa_Y5⟩ : ∃ V, W7.alloc (.cells #[.int .i64 0, .int .i64 0] 40) = V := ⟨_, rfl⟩
            have hz_Y5 : Wa.heap[Y5]? = some (.cells #[.int .i64 0, .int .i64 0] 40 (0, 0)) := by rw [← hWa_Y5, ← hY_Y5]; exact heap_alloc_new _ _
            obtain ⟨W9, hWn_Y5⟩ : ∃ V, ((Wa.setCell ⟨Y5, 0, none⟩ (.int .i64 0)).setCell ⟨Y5, 1, none⟩ (.int .i64 0)) = V := ⟨_, rfl⟩
            have hn_Y5 : W9.heap[Y5]? = some (.cells #[.int .i64 0, .int .i64 0] 40 (0, 0)) := by rw [← hWn_Y5]; exact set_at (set_at (hz_Y5) 0 _) 1 _
            have HBN_W9 : Hid (Below Y5 W7 W9) := by rw [← hWn_Y5, ← hWa_Y5, ← hY_Y5]; exact (((Below.refl _ _).alloc (Nat.le_refl _) _).setCell (by exact Nat.le_refl _) _).setCell (by exact Nat.le_refl _) _
            have HEQ_Y5 : Hid (W7.heap.size = Y5) := hY_Y5
            have HM_W9 := Lib.hid (HM_W7.out.below (by rw [hY_Y5]; exact HBN_W9.out))
            have HF_W9 := Lib.hid (HF_W7.out.keep (HBN_W9.out.block fb (by have := HF_W7.out.lt; omega)))
            have HYG_Y5 : Hid (fb < Y5) := by have := HF_W7.out.lt; unfold Hid; omega
            have HB_W9 : Hid (Below lo w W9) := HB_W7.out.trans (HBN_W9.out.mono (by have := HYG_Y5.out; have := HFB.out; omega))
            have uz0 : Wa.cell? ⟨Y5, 0, none⟩ = some (.int .i64 0) := by rw [(row_cell hz_Y5 0).1]; rfl
            have uf0 : Wa.frozen? ⟨Y5, 0, none⟩ = false := (row_cell hz_Y5 0).2
            have u0 : W9.cell? ⟨Y5, 0, none⟩ = some (.int .i64 0) := by rw [(row_cell hn_Y5 0).1]; rfl
            have uz1 : Wa.cell? ⟨Y5, 1, none⟩ = some (.int .i64 0) := by rw [(row_cell hz_Y5 1).1]; rfl
            have uf1 : Wa.frozen? ⟨Y5, 1, none⟩ = false := (row_cell hz_Y5 1).2
            have u1 : W9.cell? ⟨Y5, 1, none⟩ = some (.int .i64 0) := by rw [(row_cell hn_Y5 1).1]; rfl
            clear hz_Y5 hn_Y5
            have lt7 : Y3 < W7.heap.size ∧ Y4 < W7.heap.size := ⟨World.block_lt_of_cell? _ _ x0', World.block_lt_of_cell? _ _ t0⟩
            have h57 : W7.heap.size = Y5 := HEQ_Y5.out
            have x0'' : W9.cell? ⟨Y3, 0, none⟩ = some (.int .i64 L0) := (HBN_W9.out.cell (by show Y3 < Y5; omega)).trans x0'
            have x1'' : W9.cell? ⟨Y3, 1, none⟩ = some (.int .i64 D0) := (HBN_W9.out.cell (by show Y3 < Y5; omega)).trans x1'
            have t0' : W9.cell? ⟨Y4, 0, none⟩ = some (.int .i64 mp) := (HBN_W9.out.cell (by show Y4 < Y5; omega)).trans t0
            have t1' : W9.cell? ⟨Y4, 1, none⟩ = some (.int .i64 e) := (HBN_W9.out.cell (by show Y4 < Y5; omega)).trans t1
            obtain ⟨W10, up, mp10, f10⟩ := Hv.update_run (z := .int .i64 0) HF_W9.out Hv.ek_two Try.underlying47 mp e (.agg #[.int .i64 L0, .int .i64 D0])
            have up' : (Instr.mapUpdate 47 (.map (some fb)) (.agg #[.int .i64 mp, .int .i64 e]) (.agg #[.int .i64 L0, .int .i64 D0])).run Try.prog W9 = .ok () W10 := up
            have HF_W10 := Lib.hid mp10
            have HM_W10 := Lib.hid (HM_W9.out.fo f10 (by have := HFB.out; omega) (by have := HFB.out; omega) (by have := HFB.out; omega))
            have HB_W10 : Hid (Below lo w W10) := HB_W9.out.trans (f10.below (fun b hb => by rw [hb]; have := HFB.out; omega) (by have := HF_W9.out.lt; have := HFB.out; omega))
            have HOF2 : Hid (okF true R (Hv.putL F mp e (.agg #[.int .i64 L0, .int .i64 D0]))) := fun a c v hv => by
              rw [Hv.get_put] at hv
              by_cases hk : a = mp ∧ c = e
              · rw [if_pos hk] at hv
                injection hv with hv
                rw [← hv, hk.1, hk.2, HMP.out]
              · rw [if_neg hk] at hv
                exact HOF.out a c v hv
            clear lt7 h57 up mp10 f10
            go_wp2_with fail
            go_roundw
            case rel =>
              have Q : WR lo (rb + 2) rb (rb + 1) fb n2 true R w (.int .i64 ((j : Int) + 1)) W10 := ⟨⟨j + 1, _, _, HX.out.1, by go_num, HM_W10.out, HF_W10.out, HOF2.out, HB_W10.out⟩⟩
              first | exact Q | ((repeat apply Exists.intro); exact ⟨Q, rfl⟩)
            case measure => have := HX.out; simp [intOf]; omega
          · rename_i v0
            have hv0 := HOF.out mp e v0 hg
            rw [HMP.out] at hv0
            subst hv0
            rw [hg] at lk
            have lk' : (Instr.lookup 47 (.map (some fb)) (.agg #[.int .i64 mp, .int .i64 e]) true).run Try.prog W7 = .ok (.tuple #[.agg #[.int .i64 L0, .int .i64 D0], .bool true]) W7 := lk
            clear lk hg
            obtain ⟨Y5, hY_Y5⟩ : ∃ Y, W7.heap.size = Y := ⟨_, rfl⟩
            obtain ⟨Wa, hWa_Y5⟩ : ∃ V, W7.alloc (.cells #[.int .i64 0, .int .i64 0] 40) = V := ⟨_, rfl⟩
            have hz_Y5 : Wa.heap[Y5]? = some (.cells #[.int .i64 0, .int .i64 0] 40 (0, 0)) := by rw [← hWa_Y5, ← hY_Y5]; exact heap_alloc_new _ _
            obtain ⟨W9, hWn_Y5⟩ : ∃ V, ((Wa.setCell ⟨Y5, 0, none⟩ (.int .i64 L0)).setCell ⟨Y5, 1, none⟩ (.int .i64 D0)) = V := ⟨_, rfl⟩
            have hn_Y5 : W9.heap[Y5]? = some (.cells #[.int .i64 L0, .int .i64 D0] 40 (0, 0)) := by rw [← hWn_Y5]; exact set_at (set_at (hz_Y5) 0 _) 1 _
            have HBN_W9 : Hid (Below Y5 W7 W9) := by rw [← hWn_Y5, ← hWa_Y5, ← hY_Y5]; exact (((Below.refl _ _).alloc (Nat.le_refl _) _).setCell (by exact Nat.le_refl _) _).setCell (by exact Nat.le_refl _) _
            have HEQ_Y5 : Hid (W7.heap.size = Y5) := hY_Y5
            have HM_W9 := Lib.hid (HM_W7.out.below (by rw [hY_Y5]; exact HBN_W9.out))
            have HF_W9 := Lib.hid (HF_W7.out.keep (HBN_W9.out.block fb (by have := HF_W7.out.lt; omega)))
            have HYG_Y5 : Hid (fb < Y5) := by have := HF_W7.out.lt; unfold Hid; omega
            have HB_W9 : Hid (Below lo w W9) := HB_W7.out.trans (HBN_W9.out.mono (by have := HYG_Y5.out; have := HFB.out; omega))
            have uz0 : Wa.cell? ⟨Y5, 0, none⟩ = some (.int .i64 0) := by rw [(row_cell hz_Y5 0).1]; rfl
            have uf0 : Wa.frozen? ⟨Y5, 0, none⟩ = false := (row_cell hz_Y5 0).2
            have u0 : W9.cell? ⟨Y5, 0, none⟩ = some (.int .i64 L0) := by rw [(row_cell hn_Y5 0).1]; rfl
            have uz1 : Wa.cell? ⟨Y5, 1, none⟩ = some (.int .i64 0) := by rw [(row_cell hz_Y5 1).1]; rfl
            have uf1 : Wa.frozen? ⟨Y5, 1, none⟩ = false := (row_cell hz_Y5 1).2
            have u1 : W9.cell? ⟨Y5, 1, none⟩ = some (.int .i64 D0) := by rw [(row_cell hn_Y5 1).1]; rfl
            clear hz_Y5 hn_Y5
            have lt7 : Y3 < W7.heap.size ∧ Y4 < W7.heap.size := ⟨World.block_lt_of_cell? _ _ x0', World.block_lt_of_cell? _ _ t0⟩
            have h57 : W7.heap.size = Y5 := HEQ_Y5.out
            have x0'' : W9.cell? ⟨Y3, 0, none⟩ = some (.int .i64 L0) := (HBN_W9.out.cell (by show Y3 < Y5; omega)).trans x0'
            have x1'' : W9.cell? ⟨Y3, 1, none⟩ = some (.int .i64 D0) := (HBN_W9.out.cell (by show Y3 < Y5; omega)).trans x1'
            have t0' : W9.cell? ⟨Y4, 0, none⟩ = some (.int .i64 mp) := (HBN_W9.out.cell (by show Y4 < Y5; omega)).trans t0
            have t1' : W9.cell? ⟨Y4, 1, none⟩ = some (.int .i64 e) := (HBN_W9.out.cell (by show Y4 < Y5; omega)).trans t1
            obtain ⟨W10, up, mp10, f10⟩ := Hv.update_run (z := .int .i64 0) HF_W9.out Hv.ek_two Try.underlying47 mp e (.agg #[.int .i64 L0, .int .i64 D0])
            have up' : (Instr.mapUpdate 47 (.map (some fb)) (.agg #[.int .i64 mp, .int .i64 e]) (.agg #[.int .i64 L0, .int .i64 D0])).run Try.prog W9 = .ok () W10 := up
            have HF_W10 := Lib.hid mp10
            have HM_W10 := Lib.hid (HM_W9.out.fo f10 (by have := HFB.out; omega) (by have := HFB.out; omega) (by have := HFB.out; omega))
            have HB_W10 : Hid (Below lo w W10) := HB_W9.out.trans (f10.below (fun b hb => by rw [hb]; have := HFB.out; omega) (by have := HF_W9.out.lt; have := HFB.out; omega))
            have HOF2 : Hid (okF true R (Hv.putL F mp e (.agg #[.int .i64 L0, .int .i64 D0]))) := fun a c v hv => by
              rw [Hv.get_put] at hv
              by_cases hk : a = mp ∧ c = e
              · rw [if_pos hk] at hv
                injection hv with hv
                rw [← hv, hk.1, hk.2, HMP.out]
              · rw [if_neg hk] at hv
                exact HOF.out a c v hv
            clear lt7 h57 up mp10 f10
            go_wp2_with fail
            go_roundw
            case rel =>
              have Q : WR lo (rb + 2) rb (rb + 1) fb n2 true R w (.int .i64 ((j : Int) + 1)) W10 := ⟨⟨j + 1, _, _, HX.out.1, by go_num, HM_W10.out, HF_W10.out, HOF2.out, HB_W10.out⟩⟩
              first | exact Q | ((repeat apply Exists.intro); exact ⟨Q, rfl⟩)
            case measure => have := HX.out; simp [intOf]; omega
  case rest =>
    obtain ⟨w3, hw3⟩ : ∃ w', w' = wc := ⟨_, rfl⟩
    subst hw3
    have HB := Lib.hid hcut
    clear hcut
    go_wp2_with fail
    go_ret
    exact ⟨rfl, HB.out⟩
end Go.Proofs.Ythnlkfcfiieddaa.Hl
