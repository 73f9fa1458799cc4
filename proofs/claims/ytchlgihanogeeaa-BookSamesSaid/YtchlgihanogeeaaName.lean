/-
  Names and bounds of numbers. Each statement bears its own conditions.
-/
import Derived.Test.YtchlgihanogeeaaBook
namespace Go.Proofs.Ytchlgihanogeeaa
open Go.RowKit
set_option linter.unusedVariables false
set_option linter.unusedSimpArgs false
def inB (n a b : Int) : Bool := decide (a ≤ n ∧ n ≤ b)
def lowc (c : Nat) : Bool := decide (97 ≤ c ∧ c ≤ 122)
def digc (c : Nat) : Bool := decide (48 ≤ c ∧ c ≤ 57)
def okc (c : Nat) : Bool := lowc c || digc c || decide (c = 95)
def nameB (s : ByteArray) : Bool := decide (1 ≤ s.size) && decide (s.size ≤ 30) && lowc (s.data.toList.getD 0 0).toNat && s.data.toList.all (fun c => okc c.toNat)
theorem nameB_false_low {s : ByteArray} (h : 0 < s.size) (hc : lowc s[0].toNat = false) : nameB s = false := by
  have e : s.data.toList.getD 0 0 = s[0] := by
    rw [List.getD_eq_getElem?_getD, List.getElem?_eq_getElem (by simpa using h)]; rfl
  unfold nameB
  rw [e, hc]; simp
theorem nameB_false_at {s : ByteArray} {k : Nat} (h : k < s.size) (hc : okc s[k].toNat = false) : nameB s = false := by
  have e : s.data.toList.all (fun c => okc c.toNat) = false := by
    refine all_false (i := k) (x := s[k]) ?_ hc
    rw [List.getElem?_eq_getElem (by simpa using h)]; rfl
  unfold nameB
  rw [e]; simp
theorem nameB_true {s : ByteArray} (h1 : 0 < s.size) (h2 : s.size ≤ 30) (hc : lowc s[0].toNat = true) (ha : ∀ (k : Nat) (h : k < s.size), okc s[k].toNat = true) : nameB s = true := by
  have e : s.data.toList.getD 0 0 = s[0] := by
    rw [List.getD_eq_getElem?_getD, List.getElem?_eq_getElem (by simpa using h1)]; rfl
  have e2 : s.data.toList.all (fun c => okc c.toNat) = true := by
    refine all_true fun i x hx => ?_
    obtain ⟨hi, rfl⟩ := List.getElem?_eq_some_iff.1 hx
    exact ha i (by simpa using hi)
  unfold nameB
  rw [e, hc, e2]; simp; omega
theorem okc_low {c : Nat} (h : lowc c = true) : okc c = true := by unfold okc; rw [h]; rfl
theorem okc_dig {c : Nat} (h : digc c = true) : okc c = true := by unfold okc; rw [h]; simp
theorem okc_false {c : Nat} (h1 : lowc c = false) (h2 : digc c = false) (h3 : ¬ c = 95) : okc c = false := by unfold okc; rw [h1, h2]; simpa using h3
structure NmRel (s : ByteArray) (w : World) (v : Value) (wr : World) : Prop where
  ex : ∃ k : Nat, k ≤ s.size ∧ v = .int .i64 (k : Int) ∧ (∀ (j : Nat) (h : j < s.size), j < k → okc s[j].toNat = true) ∧ wr = w
theorem letter_any (c : Nat) (w : World) : Calls Try.prog 26 #[.int .u8 (c : Int)] w fun e w' => e = .returned (.bool (lowc c)) ∧ w' = w := by
  by_cases h1 : 97 ≤ c
  · have h1I : (97 : Int) ≤ (c : Int) := by omega
    by_cases h2 : c ≤ 122
    · have h2I : (c : Int) ≤ 122 := by omega
      have HR : Hid (lowc c = true) := decide_eq_true ⟨h1, h2⟩
      clear h1 h2
      go_enter Try.func26, Try.ntmps26
      go_wp2_with fail
      go_ret
      exact ⟨by rw [HR.out]; rfl, rfl⟩
    · have h2I : ¬ (c : Int) ≤ 122 := by omega
      have HR : Hid (lowc c = false) := decide_eq_false (fun h => h2 h.2)
      clear h1 h2
      go_enter Try.func26, Try.ntmps26
      go_wp2_with fail
      go_ret
      exact ⟨by rw [HR.out]; rfl, rfl⟩
  · have h1I : ¬ (97 : Int) ≤ (c : Int) := by omega
    have HR : Hid (lowc c = false) := decide_eq_false (fun h => h1 h.1)
    clear h1
    go_enter Try.func26, Try.ntmps26
    go_wp2_with fail
    go_ret
    exact ⟨by rw [HR.out]; rfl, rfl⟩
theorem digit_any (c : Nat) (w : World) : Calls Try.prog 27 #[.int .u8 (c : Int)] w fun e w' => e = .returned (.bool (digc c)) ∧ w' = w := by
  by_cases h1 : 48 ≤ c
  · have h1I : (48 : Int) ≤ (c : Int) := by omega
    by_cases h2 : c ≤ 57
    · have h2I : (c : Int) ≤ 57 := by omega
      have HR : Hid (digc c = true) := decide_eq_true ⟨h1, h2⟩
      clear h1 h2
      go_enter Try.func27, Try.ntmps27
      go_wp2_with fail
      go_ret
      exact ⟨by rw [HR.out]; rfl, rfl⟩
    · have h2I : ¬ (c : Int) ≤ 57 := by omega
      have HR : Hid (digc c = false) := decide_eq_false (fun h => h2 h.2)
      clear h1 h2
      go_enter Try.func27, Try.ntmps27
      go_wp2_with fail
      go_ret
      exact ⟨by rw [HR.out]; rfl, rfl⟩
  · have h1I : ¬ (48 : Int) ≤ (c : Int) := by omega
    have HR : Hid (digc c = false) := decide_eq_false (fun h => h1 h.1)
    clear h1
    go_enter Try.func27, Try.ntmps27
    go_wp2_with fail
    go_ret
    exact ⟨by rw [HR.out]; rfl, rfl⟩
theorem within_any (n a b : Int) (w : World) : Calls Try.prog 28 #[.int .i64 n, .int .i64 a, .int .i64 b] w fun e w' => e = .returned (.bool (inB n a b)) ∧ w' = w := by
  by_cases h1 : a ≤ n
  · by_cases h2 : n ≤ b
    · have HR : Hid (inB n a b = true) := decide_eq_true ⟨h1, h2⟩
      go_enter Try.func28, Try.ntmps28
      go_wp2_with fail
      go_ret
      exact ⟨by rw [HR.out]; rfl, rfl⟩
    · have HR : Hid (inB n a b = false) := decide_eq_false (fun h => h2 h.2)
      go_enter Try.func28, Try.ntmps28
      go_wp2_with fail
      go_ret
      exact ⟨by rw [HR.out]; rfl, rfl⟩
  · have HR : Hid (inB n a b = false) := decide_eq_false (fun h => h1 h.1)
    go_enter Try.func28, Try.ntmps28
    go_wp2_with fail
    go_ret
    exact ⟨by rw [HR.out]; rfl, rfl⟩
theorem rin_any (n a b : Int) (w : World) : Calls Try.prog 39 #[.int .i64 n, .int .i64 a, .int .i64 b] w fun e w' => e = .returned (.bool (inB n a b)) ∧ w' = w := by
  by_cases h1 : a ≤ n
  · by_cases h2 : n ≤ b
    · have HR : Hid (inB n a b = true) := decide_eq_true ⟨h1, h2⟩
      go_enter Try.func39, Try.ntmps39
      go_wp2_with fail
      go_ret
      exact ⟨by rw [HR.out]; rfl, rfl⟩
    · have HR : Hid (inB n a b = false) := decide_eq_false (fun h => h2 h.2)
      go_enter Try.func39, Try.ntmps39
      go_wp2_with fail
      go_ret
      exact ⟨by rw [HR.out]; rfl, rfl⟩
  · have HR : Hid (inB n a b = false) := decide_eq_false (fun h => h1 h.1)
    go_enter Try.func39, Try.ntmps39
    go_wp2_with fail
    go_ret
    exact ⟨by rw [HR.out]; rfl, rfl⟩
set_option maxRecDepth 100000 in
set_option maxHeartbeats 2000000 in
theorem name_any (s : ByteArray) (w : World) (hs : s.size ≤ maxLen) : Calls Try.prog 8 #[.string s] w fun e w' => e = .returned (.bool (nameB s)) ∧ w' = w := by
  unfold maxLen at hs
  by_cases h0 : s.size = 0
  · have HR : Hid (nameB s = false) := by unfold Hid nameB; simp [h0]
    have h0B : ((s.size : Int) == 0) = true := by rw [beq_iff_eq]; omega
    go_enter Try.func8, Try.ntmps8
    go_wp2_with fail
    go_ret
    exact ⟨by rw [HR.out]; rfl, rfl⟩
  · have h0B : ((s.size : Int) == 0) = false := by rw [beq_eq_false_iff_ne]; omega
    by_cases h3 : 30 < s.size
    · have HR : Hid (nameB s = false) := by unfold Hid nameB; simp; intro _ h; omega
      have h3I : (30 : Int) < (s.size : Int) := by omega
      clear h0
      go_enter Try.func8, Try.ntmps8
      go_wp2_with fail
      go_ret
      exact ⟨by rw [HR.out]; rfl, rfl⟩
    · have h3I : ¬ (30 : Int) < (s.size : Int) := by omega
      have hp : 0 < s.size := by omega
      have hpI : (0 : Int) < (s.size : Int) := by omega
      have HH : Hid (s.size ≤ 30) := by unfold Hid; omega
      have HP := Lib.hid hp
      obtain ⟨b, hb⟩ : ∃ b, lowc s[0].toNat = b := ⟨_, rfl⟩
      have HB := Lib.hid hb
      clear h0 h3 hb
      cases b with
      | false =>
        have HR : Hid (nameB s = false) := nameB_false_low HP.out HB.out
        go_enter Try.func8, Try.ntmps8
        go_wp2_with fail
        have LC := Lib.hid (letter_any s[0].toNat w)
        rw [HB.out] at LC
        refine LC.out.mono ?_
        rintro e w1 ⟨rfl, rfl⟩
        clear LC
        go_wp2_with fail
        go_ret
        exact ⟨by rw [HR.out]; rfl, rfl⟩
      | true =>
        go_enter Try.func8, Try.ntmps8
        go_wp2_with fail
        have LC := Lib.hid (letter_any s[0].toNat w)
        rw [HB.out] at LC
        refine LC.out.mono ?_
        rintro e w1 ⟨rfl, rfl⟩
        clear LC
        go_wp2_with fail
        go_loopw [21] (fun v wr => NmRel s w1 v wr) (fun v => fun _ => 31 - (intOf v).toNat)
        case atStart => exact ⟨⟨0, Nat.zero_le _, rfl, fun j _ h => by omega, rfl⟩⟩
        case round =>
          obtain ⟨⟨k, hk, rfl, hall, rfl⟩⟩ := hrel
          have HK := Lib.hid hk
          have HA := Lib.hid hall
          clear hk hall
          by_cases hlt : k < s.size
          · have hkI : (k : Int) < (s.size : Int) := by omega
            have HX : Hid (k < s.size) := hlt
            obtain ⟨b1, hb1⟩ : ∃ b, lowc s[k].toNat = b := ⟨_, rfl⟩
            have HB1 := Lib.hid hb1
            obtain ⟨b2, hb2⟩ : ∃ b, digc s[k].toNat = b := ⟨_, rfl⟩
            have HB2 := Lib.hid hb2
            have next : okc s[k].toNat = true → ∀ (j : Nat) (h : j < s.size), j < k + 1 → okc s[j].toNat = true := fun ho j h hj => by
              by_cases e : j = k
              · subst e
                exact ho
              · exact HA.out j h (by omega)
            have NX := Lib.hid next
            have LC := Lib.hid (letter_any s[k].toNat wr)
            rw [hb1] at LC
            have DC := Lib.hid (digit_any s[k].toNat wr)
            rw [hb2] at DC
            clear next hb1 hb2
            go_wp2_with fail
            refine LC.out.mono ?_
            rintro e w2 ⟨rfl, h2⟩
            subst h2
            clear LC
            cases b1 with
            | true =>
              go_wp2_with fail
              go_roundw
              case rel =>
                have Q : NmRel s w2 (.int .i64 ((k : Int) + 1)) w2 := ⟨⟨k + 1, HX.out, by go_num, NX.out (okc_low HB1.out), rfl⟩⟩
                first | exact Q | ((repeat apply Exists.intro); exact ⟨Q, rfl⟩)
              case measure => have := HX.out; have := HH.out; simp [intOf]; omega
            | false =>
              go_wp2_with fail
              refine DC.out.mono ?_
              rintro e w3 ⟨rfl, h3⟩
              subst h3
              clear DC
              cases b2 with
              | true =>
                go_wp2_with fail
                go_roundw
                case rel =>
                  have Q : NmRel s w3 (.int .i64 ((k : Int) + 1)) w3 := ⟨⟨k + 1, HX.out, by go_num, NX.out (okc_dig HB2.out), rfl⟩⟩
                  first | exact Q | ((repeat apply Exists.intro); exact ⟨Q, rfl⟩)
                case measure => have := HX.out; have := HH.out; simp [intOf]; omega
              | false =>
                by_cases h95 : s[k].toNat = 95
                · have hN : ((s[k].toNat : Int) != 95) = false := by simp; omega
                  have HN2 : Hid (okc s[k].toNat = true) := by rw [h95]; exact rfl
                  clear h95
                  go_wp2_with fail
                  go_roundw
                  case rel =>
                    have Q : NmRel s w3 (.int .i64 ((k : Int) + 1)) w3 := ⟨⟨k + 1, HX.out, by go_num, NX.out HN2.out, rfl⟩⟩
                    first | exact Q | ((repeat apply Exists.intro); exact ⟨Q, rfl⟩)
                  case measure => have := HX.out; have := HH.out; simp [intOf]; omega
                · have hN : ((s[k].toNat : Int) != 95) = true := by simp; omega
                  have HR : Hid (nameB s = false) := nameB_false_at HX.out (okc_false HB1.out HB2.out h95)
                  clear h95
                  go_wp2_with fail
                  go_ret
                  exact ⟨by rw [HR.out]; rfl, rfl⟩
          · have hkI : ¬ (k : Int) < (s.size : Int) := by omega
            have HR : Hid (nameB s = true) := nameB_true HP.out HH.out HB.out fun j h => HA.out j h (by have := HK.out; omega)
            go_wp2_with fail
            go_ret
            exact ⟨by rw [HR.out]; rfl, rfl⟩
end Go.Proofs.Ytchlgihanogeeaa
