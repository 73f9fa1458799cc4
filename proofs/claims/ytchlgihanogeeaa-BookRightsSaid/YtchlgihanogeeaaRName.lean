/-
  The reference's Name. Each statement bears its own conditions.
-/
import Derived.Test.YtchlgihanogeeaaName
namespace Go.Proofs.Ytchlgihanogeeaa
open Go.RowKit
set_option linter.unusedVariables false
set_option linter.unusedSimpArgs false
set_option maxRecDepth 100000 in
set_option maxHeartbeats 4000000 in
theorem rname_any (s : ByteArray) (w : World) (hs : s.size ≤ maxLen) : Calls Try.prog 9 #[.string s] w fun e w' => e = .returned (.bool (nameB s)) ∧ w' = w := by
  unfold maxLen at hs
  by_cases h0 : s.size = 0
  · have h0B : (s.size : Int) < 1 := by omega
    have HR : Hid (nameB s = false) := by unfold Hid nameB; simp [h0]
    go_enter Try.func9, Try.ntmps9
    go_wp2_with fail
    go_ret
    exact ⟨by rw [HR.out]; rfl, rfl⟩
  · have h0B : ¬ (s.size : Int) < 1 := by omega
    by_cases h3 : 30 < s.size
    · have h3I : (30 : Int) < (s.size : Int) := by omega
      have HR : Hid (nameB s = false) := by unfold Hid nameB; simp; intro _ h; omega
      go_enter Try.func9, Try.ntmps9
      go_wp2_with fail
      go_ret
      exact ⟨by rw [HR.out]; rfl, rfl⟩
    · have h3I : ¬ (30 : Int) < (s.size : Int) := by omega
      have hp : 0 < s.size := by omega
      have hpI : (0 : Int) < (s.size : Int) := by omega
      have HH : Hid (s.size ≤ 30) := by unfold Hid; omega
      have HP := Lib.hid hp
      clear h0 h3
      by_cases g1 : s[0].toNat < 97
      · have g1I : (s[0].toNat : Int) < 97 := by omega
        have HR : Hid (nameB s = false) := nameB_false_low HP.out (decide_eq_false (by omega))
        go_enter Try.func9, Try.ntmps9
        go_wp2_with fail
        go_ret
        exact ⟨by rw [HR.out]; rfl, rfl⟩
      · have g1I : ¬ (s[0].toNat : Int) < 97 := by omega
        by_cases g2 : 122 < s[0].toNat
        · have g2I : (122 : Int) < (s[0].toNat : Int) := by omega
          have HR : Hid (nameB s = false) := nameB_false_low HP.out (decide_eq_false (by omega))
          go_enter Try.func9, Try.ntmps9
          go_wp2_with fail
          go_ret
          exact ⟨by rw [HR.out]; rfl, rfl⟩
        · have g2I : ¬ (122 : Int) < (s[0].toNat : Int) := by omega
          have HB : Hid (lowc s[0].toNat = true) := decide_eq_true (by omega)
          clear g1 g2
          go_enter Try.func9, Try.ntmps9
          go_wp2_with fail
          go_loopw [3] (fun v wr => NmRel s w v wr) (fun v => fun _ => 31 - (intOf v).toNat)
          case atStart => exact ⟨⟨0, Nat.zero_le _, rfl, fun j _ h => by omega, rfl⟩⟩
          case round =>
            obtain ⟨⟨k, hk, rfl, hall, hwr⟩⟩ := hrel
            have HK := Lib.hid hk
            have HA := Lib.hid hall
            have HWR := Lib.hid hwr
            clear hk hall hwr
            by_cases hlt : k < s.size
            · have hkI : (k : Int) < (s.size : Int) := by omega
              have HX : Hid (k < s.size) := hlt
              have next : okc s[k].toNat = true → ∀ (j : Nat) (h : j < s.size), j < k + 1 → okc s[j].toNat = true := fun ho j h hj => by
                by_cases e : j = k
                · subst e
                  exact ho
                · exact HA.out j h (by omega)
              have NX := Lib.hid next
              clear next
              by_cases c1 : s[k].toNat < 97
              · have c1I : (s[k].toNat : Int) < 97 := by omega
                by_cases c3 : s[k].toNat < 48
                · have c3I : (s[k].toNat : Int) < 48 := by omega
                  have c5 : ((s[k].toNat : Int) != 95) = true := by simp; omega
                  have HBAD : Hid (okc s[k].toNat = false) := okc_false (decide_eq_false (by omega)) (decide_eq_false (by omega)) (by omega)
                  clear c1 c3
                  have HR : Hid (nameB s = false) := nameB_false_at HX.out HBAD.out
                  go_wp2_with fail
                  go_ret
                  exact ⟨by rw [HR.out]; rfl, HWR.out⟩
                · have c3I : ¬ (s[k].toNat : Int) < 48 := by omega
                  by_cases c4 : 57 < s[k].toNat
                  · have c4I : (57 : Int) < (s[k].toNat : Int) := by omega
                    by_cases c5 : s[k].toNat = 95
                    · have c5I : ((s[k].toNat : Int) != 95) = false := by simp; omega
                      have HOK : Hid (okc s[k].toNat = true) := by unfold Hid okc; simp [c5]
                      clear c1 c3 c4 c5
                      go_wp2_with fail
                      · rename_i hA hB
                        exact absurd (hA.2.symm.trans c5I) (by decide)
                      · go_roundw
                        case rel =>
                          have Q : NmRel s w (.int .i64 ((k : Int) + 1)) wr := ⟨⟨k + 1, HX.out, by go_num, NX.out HOK.out, HWR.out⟩⟩
                          first | exact Q | ((repeat apply Exists.intro); exact ⟨Q, rfl⟩)
                        case measure => have := HX.out; have := HH.out; simp [intOf]; omega
                    · have c5I : ((s[k].toNat : Int) != 95) = true := by simp; omega
                      have HBAD : Hid (okc s[k].toNat = false) := okc_false (decide_eq_false (by omega)) (decide_eq_false (by omega)) (by omega)
                      clear c1 c3 c4 c5
                      have HR : Hid (nameB s = false) := nameB_false_at HX.out HBAD.out
                      go_wp2_with fail
                      · go_ret
                        exact ⟨by rw [HR.out]; rfl, HWR.out⟩
                      · exfalso
                        rename_i hA
                        rcases hA with hA | hA
                        · omega
                        · exact absurd (hA.symm.trans c5I) (by decide)
                  · have c4I : ¬ (57 : Int) < (s[k].toNat : Int) := by omega
                    have HOK : Hid (okc s[k].toNat = true) := okc_dig (decide_eq_true (by omega))
                    clear c1 c3 c4
                    go_wp2_with fail
                    go_roundw
                    case rel =>
                      have Q : NmRel s w (.int .i64 ((k : Int) + 1)) wr := ⟨⟨k + 1, HX.out, by go_num, NX.out HOK.out, HWR.out⟩⟩
                      first | exact Q | ((repeat apply Exists.intro); exact ⟨Q, rfl⟩)
                    case measure => have := HX.out; have := HH.out; simp [intOf]; omega
              · have c1I : ¬ (s[k].toNat : Int) < 97 := by omega
                by_cases c2 : 122 < s[k].toNat
                · have c2I : (122 : Int) < (s[k].toNat : Int) := by omega
                  have c3I : ¬ (s[k].toNat : Int) < 48 := by omega
                  have c4I : (57 : Int) < (s[k].toNat : Int) := by omega
                  have c5I : ((s[k].toNat : Int) != 95) = true := by simp; omega
                  have HBAD : Hid (okc s[k].toNat = false) := okc_false (decide_eq_false (by omega)) (decide_eq_false (by omega)) (by omega)
                  clear c1 c2
                  have HR : Hid (nameB s = false) := nameB_false_at HX.out HBAD.out
                  go_wp2_with fail
                  · go_ret
                    exact ⟨by rw [HR.out]; rfl, HWR.out⟩
                  · exfalso
                    rename_i hA
                    rcases hA with hA | hA
                    · omega
                    · exact absurd (hA.symm.trans c5I) (by decide)
                · have c2I : ¬ (122 : Int) < (s[k].toNat : Int) := by omega
                  have HOK : Hid (okc s[k].toNat = true) := okc_low (decide_eq_true (by omega))
                  clear c1 c2
                  go_wp2_with fail
                  go_roundw
                  case rel =>
                    have Q : NmRel s w (.int .i64 ((k : Int) + 1)) wr := ⟨⟨k + 1, HX.out, by go_num, NX.out HOK.out, HWR.out⟩⟩
                    first | exact Q | ((repeat apply Exists.intro); exact ⟨Q, rfl⟩)
                  case measure => have := HX.out; have := HH.out; simp [intOf]; omega
            · have hkI : ¬ (k : Int) < (s.size : Int) := by omega
              have HR : Hid (nameB s = true) := nameB_true HP.out HH.out HB.out fun j h => HA.out j h (by have := HK.out; omega)
              go_wp2_with fail
              go_ret
              exact ⟨by rw [HR.out]; rfl, HWR.out⟩
end Go.Proofs.Ytchlgihanogeeaa
