/-
  slices.DeleteFunc with Drop's closure. Each statement bears its own conditions.
-/
import Derived.Test.YtehlgfflbbfjkaaIvC
namespace Go.Proofs.Ytehlgfflbbfjkaa.E
open Go.RowKit Go.Proofs.Ytehlgfflbbfjkaa.I
set_option linter.unusedVariables false
set_option linter.unusedSimpArgs false
theorem set_take {cur : Array Value} {m : Nat} (u : Value) (h : m < cur.size) : (cur.setIfInBounds m u).toList.take (m + 1) = cur.toList.take m ++ [u] := by
  have hl : m < cur.toList.length := by simpa using h
  rw [Array.toList_setIfInBounds, List.take_add_one, List.take_set_of_le (Nat.le_refl _)]
  simp [h]
structure DFRel (L : List Int) (x : Int) (n cap rb : Nat) (w : World) (iv jv : Value) (wr : World) : Prop where
  ex : ∃ (j m : Nat) (cur : Array Value), j ≤ n ∧ m < j ∧ iv = .int .i64 (m : Int) ∧ jv = .int .i64 (j : Int) ∧ m = (outI (L.take j) x).length ∧ wr.heap[rb]? = some (.cells cur 3 (0, 0)) ∧ cur.size = cap ∧
    cur.toList.take m = C (outI (L.take j) x) ∧ (∀ p, j ≤ p → p < n → cur[p]? = some (.int .i64 (L.getD p 0))) ∧ Past rb w wr
theorem past_cell {g : Nat} {w w' : World} {a : Addr} {u : Value} (h : Past g w w') (hg : a.block ≠ g) (hc : w.cell? a = some u) : w'.cell? a = some u :=
  (World.cell?_of_block (h.block a.block (World.block_lt_of_cell? _ _ hc) hg)).trans hc
set_option maxRecDepth 100000 in
set_option maxHeartbeats 2000000 in
theorem deletef_any (v : Value) (rb pb : Nat) (L : List Int) (x : Int) (w : World) (hr : RowV w v rb L) (hL : L.length ≤ 1000) (hp : w.cell? ⟨pb, 0, none⟩ = some (.int .i64 x)) (hpr : pb ≠ rb) :
    Calls Try.prog 26 #[v, cloV pb] w fun e w' => ∃ A c, e = .returned (.slice A (outI L x).length c) ∧ RowV w' (.slice A (outI L x).length c) rb (outI L x) ∧ (v = .slice none 0 0 → A = none ∧ c = 0) ∧ Past rb w w' := by
  have IX := Lib.hid (indexf_any v rb pb L x w hr hL hp)
  by_cases hx : x ∈ L
  · rcases hr.form with ⟨rfl, h0⟩ | ⟨cap, cur0, rfl, hg, h1, h2, h3, h4⟩
    · rw [h0] at hx; cases hx
    obtain ⟨n, hn⟩ : ∃ n, L.length = n := ⟨_, rfl⟩
    have HLT := Lib.hid (outI_lt hx)
    have HN := Lib.hid hn
    have HL : Hid (n ≤ 1000) := by unfold Hid; omega
    have HP := Lib.hid hp
    have HC : Hid (n ≤ cap ∧ cap ≤ maxLen) := by unfold Hid; omega
    have HG : Hid (w.heap[rb]? = some (.cells cur0 3 (0, 0)) ∧ cur0.size = cap ∧ cur0.toList.take n = C L) := ⟨hg, h3, by rw [← hn]; exact h4⟩
    have HX0 := Lib.hid hx
    rw [hn] at IX ⊢
    clear hr hL hp h1 h2 h3 h4 hg hx hn
    unfold cloV at IX ⊢
    go_enter Try.func26, Try.ntmps26
    go_wp2_with fail
    refine IX.out.mono ?_
    rintro e w1 ⟨h, hw⟩
    have hw := hw.symm
    subst hw
    rcases h with ⟨k, hk, hkx, hkn, rfl⟩ | ⟨h, rfl⟩
    · have hki : ((k : Int) == -1) = false := by rw [beq_eq_false_iff_ne]; omega
      have hk2 : (k : Int) < 1000 := by have := HL.out; omega
      have HK : Hid (k < n ∧ L.getD k 0 = x ∧ x ∉ L.take k) := ⟨hk, hkx, hkn⟩
      clear hk hkx hkn IX
      go_wp2_with fail
      go_loopw [5, 6] (fun iv jv wr => DFRel L x n cap rb w iv jv wr) (fun _ j _ => 1001 - (intOf j).toNat)
      case atStart =>
        obtain ⟨a1, a2, a3⟩ := HK.out
        obtain ⟨b1, b2, b3⟩ := HG.out
        have e1 : outI (L.take (k + 1)) x = L.take k := by
          rw [outI_next (by rw [HN.out]; exact a1) a2, if_pos rfl, List.append_nil, outI_same a3]
        refine ⟨⟨k + 1, k, cur0, a1, Nat.lt_succ_self _, rfl, by go_num, ?_, b1, b2, ?_, fun p hp1 hp2 => ?_, Past.refl _ _⟩⟩
        · rw [e1, List.length_take, HN.out]; omega
        · rw [e1, ← C_take, ← b3, List.take_take, Nat.min_eq_left (by omega)]
        · have := C_at L p (by rw [HN.out]; exact hp2)
          rw [← b3, List.getElem?_take_of_lt hp2, Array.getElem?_toList] at this
          exact this
      case round =>
        obtain ⟨⟨j, m, cur, hj, hmj, rfl, rfl, hm, hg, hs, htk, hrd, hpa⟩⟩ := hrel
        have HJ : Hid (j ≤ n ∧ m < j) := ⟨hj, hmj⟩
        have HM := Lib.hid hm
        have HR := Lib.hid hrd
        have HPA := Lib.hid hpa
        have HCU : Hid (wr.heap[rb]? = some (.cells cur 3 (0, 0)) ∧ cur.size = cap ∧ cur.toList.take m = C (outI (L.take j) x)) := ⟨hg, hs, htk⟩
        clear hm hrd hpa hg hs htk
        by_cases hlt : j < n
        · have d0 : wr.cell? ⟨rb, j, none⟩ = some (.int .i64 (L.getD j 0)) := by rw [(row_cell HCU.out.1 _).1]; exact HR.out j (Nat.le_refl _) hlt
          obtain ⟨a, ha⟩ : ∃ a, Hid (L.getD j 0 = a) := ⟨_, rfl⟩
          rw [ha.out] at d0
          have hjI : (j : Int) < (n : Int) := by omega
          have hj2 : (j : Int) < 1000 := by have := HL.out; omega
          have hm2 : (m : Int) < 1000 := by have := HL.out; omega
          have hmn : (m : Int) < (n : Int) := by omega
          have HX : Hid (j < n) := hlt
          have HNX : Hid (outI (L.take (j + 1)) x = outI (L.take j) x ++ if a = x then [] else [a]) := outI_next (by rw [HN.out]; exact hlt) ha.out
          obtain ⟨u0, hu0⟩ : ∃ u0, cur[m]? = some u0 := ⟨_, Array.getElem?_eq_getElem (by have := HCU.out.2.1; have := HC.out.1; omega)⟩
          have d1 : wr.cell? ⟨rb, m, none⟩ = some u0 := by rw [(row_cell HCU.out.1 _).1]; exact hu0
          have f1 : wr.frozen? ⟨rb, m, none⟩ = false := (row_cell HCU.out.1 m).2
          have HPB : Hid (wr.cell? ⟨pb, 0, none⟩ = some (.int .i64 x)) := past_cell HPA.out hpr HP.out
          obtain ⟨t, ht⟩ : ∃ t, (a == x) = t := ⟨_, rfl⟩
          have CL : Hid (Calls Try.prog 27 #[.int .i64 a, .pointer (some ⟨pb, 0, none⟩)] wr fun e w' => e = .returned (.bool t) ∧ w' = wr) := by rw [← ht]; exact clo_any a x pb wr HPB.out
          clear hlt hj hmj hu0
          cases t with
          | true =>
            have hxe : a = x := by simpa using ht
            have HNX2 : Hid (outI (L.take (j + 1)) x = outI (L.take j) x) := by have := HNX.out; rw [if_pos hxe, List.append_nil] at this; exact this
            clear hxe ht
            go_wp2_with (go_at_call 27; refine CL.out.mono ?_; rintro _ w1 ⟨rfl, hw⟩; have hw := hw.symm; subst hw)
            go_roundw
            case rel =>
              have Q : DFRel L x n cap rb w (.int .i64 (m : Int)) (.int .i64 ((j : Int) + 1)) wr := ⟨⟨j + 1, m, cur, HX.out, by have := HJ.out; omega, rfl, by go_num, by rw [HNX2.out]; exact HM.out, HCU.out.1, HCU.out.2.1, by rw [HNX2.out]; exact HCU.out.2.2, fun p h1 h2 => HR.out p (by omega) h2, HPA.out⟩⟩
              first | exact Q | ((repeat apply Exists.intro); exact ⟨Q, rfl⟩)
            case measure => have := HX.out; have := HL.out; simp [intOf]; omega
          | false =>
            have hxe : ¬ a = x := by simpa using ht
            have HNX2 : Hid (outI (L.take (j + 1)) x = outI (L.take j) x ++ [a]) := by have := HNX.out; rw [if_neg hxe] at this; exact this
            clear hxe ht
            go_wp2_with (go_at_call 27; refine CL.out.mono ?_; rintro _ w1 ⟨rfl, hw⟩; have hw := hw.symm; subst hw)
            go_roundw
            case rel =>
              have Q : DFRel L x n cap rb w (.int .i64 ((m : Int) + 1)) (.int .i64 ((j : Int) + 1)) (wr.setCell ⟨rb, m, none⟩ (.int .i64 a)) := by
                have hms : m < cur.size := by have h1 := HCU.out.2.1; have h2 := HC.out.1; have h3 := HX.out; have h4 := HJ.out; omega
                refine ⟨⟨j + 1, m + 1, cur.setIfInBounds m (.int .i64 a), HX.out, by have := HJ.out; omega, by go_num, by go_num, by rw [HNX2.out, List.length_append, HM.out]; rfl, set_at HCU.out.1 _ _, by rw [Array.size_setIfInBounds]; exact HCU.out.2.1, ?_, fun p h1 h2 => ?_, HPA.out.setCell _ _⟩⟩
                · rw [HNX2.out, set_take _ hms, HCU.out.2.2, C_app]; rfl
                · rw [Array.getElem?_setIfInBounds_ne (by have := HJ.out; omega)]
                  exact HR.out p (by omega) h2
              first | exact Q | ((repeat apply Exists.intro); exact ⟨Q, rfl⟩)
            case measure => have := HX.out; have := HL.out; simp [intOf]; omega
        · have hjn : j = n := by omega
          subst hjn
          have hjI : ¬ (j : Int) < (j : Int) := by omega
          have HE : Hid (outI (L.take j) x = outI L x) := by
            unfold Hid
            rw [List.take_of_length_le (by rw [HN.out]; omega)]
          have hmc : ¬ cap = m := by have := HC.out.1; omega
          have hmI : (m : Int) ≤ (j : Int) := by omega
          have hmC : (m : Int) ≤ (cap : Int) := by have := HC.out.1; omega
          have hjC : (j : Int) ≤ (cap : Int) := by have := HC.out.1; omega
          obtain ⟨d, hd⟩ : ∃ d, j - m = d := ⟨_, rfl⟩
          obtain ⟨c2, hcl2, s2, t2⟩ := run_clear_part (P := Try.prog) wr 26 3 0 (.int .i64 0) Try.underlying26 Try.zeroValue3 rb m d (cap - m) cur HCU.out.1 (by omega) (by have hcs1 : (Value.int .i64 0).cells.size = 1 := rfl; have h1 := HCU.out.2.1; have h2 := HC.out.1; rw [hcs1, h1]; omega) (by intro v hv; simp [Value.cells] at hv; subst hv; rfl) (by decide)
          have HRES : Hid (∃ c, RowV (wr.setRow rb c2) (.slice (some ⟨rb, 0, none⟩) m cap) rb (outI L x) ∧ m = (outI L x).length ∧ c = cap ∧ Past rb w (wr.setRow rb c2)) := by
            have hm := HM.out
            rw [HE.out] at hm
            have R := RowV.mk' (w := wr.setRow rb c2) (rb := rb) (cap := cap) (cur := c2) (L := outI L x) (setRow_heap wr rb _ _ 3 _ HCU.out.1) (by have := HC.out.1; omega) HC.out.2 (by rw [s2]; exact HCU.out.2.1) (by rw [← hm, t2, HCU.out.2.2, HE.out])
            rw [← hm] at R
            exact ⟨cap, R, hm, rfl, HPA.out.os, HPA.out.tape, HPA.out.output, by have := HPA.out.size; simpa using this, fun k hk hne => by rw [setRow_other _ rb k _ hne]; exact HPA.out.block k hk hne⟩
          clear s2 t2 hlt hj hmj
          go_wp2_with fail
          go_ret
          obtain ⟨_, r1, r2, _, r3⟩ := HRES.out
          rw [← r2]
          first | exact ⟨_, _, rfl, r1, r3⟩ | exact ⟨_, _, rfl, r1, fun h => (by cases h), r3⟩ | (refine ⟨_, _, rfl, r1, ?_, r3⟩; simp)
    · exact absurd HX0.out h
  · have HS := Lib.hid (outI_same hx)
    have HR := Lib.hid hr
    obtain ⟨A, c, rfl, hc⟩ := hr.slice
    have HX := Lib.hid hx
    unfold cloV at IX ⊢
    clear hr hL hp hx hc
    go_enter Try.func26, Try.ntmps26
    go_wp2_with fail
    refine IX.out.mono ?_
    rintro e w1 ⟨h, hw⟩
    have hw := hw.symm
    subst hw
    rcases h with ⟨k, hk, hkx, hkn, rfl⟩ | ⟨h, rfl⟩
    · exact absurd (by rw [← hkx]; exact getD_in hk) HX.out
    · clear h IX
      go_wp2_with fail
      go_ret
      rw [HS.out]
      first | exact ⟨A, c, rfl, HR.out, fun h => (by injection h with h1 h2 h3; exact ⟨h1, h3⟩), Past.refl _ _⟩ | (refine ⟨A, c, rfl, HR.out, ?_, Past.refl _ _⟩; intros; simp_all)
end Go.Proofs.Ytehlgfflbbfjkaa.E
