/-
  The walk of ReadyPlays. Each statement bears its own conditions.
-/
import Derived.Test.YtbkjcjkbicaibaaAlikeR
import Derived.Test.YtbkjcjkbicaibaaApart
namespace Go.Proofs.Ytbkjcjkbicaibaa
open Go.RowKit Go.ChangeShapes Go.WideShapes Go.ChangeAt
set_option linter.unusedVariables false
set_option linter.unusedSimpArgs false
theorem fl_nil : flP (fun _ => []) = [] := by
  rw [List.eq_nil_iff_forall_not_mem]
  intro y hy
  obtain ⟨q, _, _, h⟩ := fl_mem.1 hy
  cases h
theorem pr_fn {X : Nat → List Int} {id p r : Int} {ok : Bool} (h : Pr X id p ok) (f : Fn (flP X) id r) : (ok = true ∧ ∃ k : Nat, r = (k : Int)) ∨ (ok = false ∧ r = -1) := by
  rcases h with ⟨q, h1, h2, _, rfl⟩ | ⟨h1, _, rfl⟩
  · rcases f with ⟨k, _, rfl, _⟩ | ⟨_, hno⟩
    · exact .inl ⟨rfl, k, rfl⟩
    · obtain ⟨k, hk, he⟩ := (found (X := X) (id := id)).2 ⟨q, h1, h2⟩
      exact absurd he (hno k hk)
  · rcases f with ⟨k, hk, rfl, he⟩ | ⟨rfl, _⟩
    · obtain ⟨q, hq, hm⟩ := (found (X := X) (id := id)).1 ⟨k, hk, he⟩
      exact absurd hm (h1 q hq)
    · exact .inr ⟨rfl, rfl⟩
structure PyRel (n : Nat) (w : World) (v5 v6 v7 : Value) (wr : World) : Prop where
  ex : ∃ (j g : Nat) (rb : Nat → Nat) (X : Nat → List Int) (A : Option Addr) (k c : Nat), j ≤ n ∧ v7 = .int .i64 (j : Int) ∧ v5 = .pointer (some ⟨g, 0, none⟩) ∧ v6 = .slice A k c ∧ DS w wr g rb X A k c (flP X) ∧ k ≤ j
set_option maxRecDepth 100000 in
set_option maxHeartbeats 8000000 in
theorem plays_walk (a : Option Addr) (len cap : Nat) (ask : Int) (w : World) (h0 : ActRow w a len) (hlen : len ≤ maxLen) :
    Calls Try.prog 3 #[.slice a len cap, .int .i64 ask] w fun e w' => e = .returned (.bool true) ∧ Below w.heap.size w w' := by
  have H0 := Lib.hid h0
  clear h0 hlen
  have he : ∀ (x : Nat) (w : World), (binOp .eql 23 (.pointer (some ⟨x, 0, none⟩)) (.pointer none)).run Try.prog w = .ok (.bool false) w := fun _ _ => rfl
  go_enter Try.func3, Try.ntmps3
  go_wp2_with fail
  refine (new_any w).mono ?_
  rintro e w1 ⟨rfl, l1, b1⟩
  obtain ⟨g0, hg0⟩ : ∃ g, w.heap.size = g := ⟨_, rfl⟩
  obtain ⟨r1, hr1⟩ : ∃ r1 : Nat → Nat, (fun _ : Nat => w.heap.size) = r1 := ⟨_, rfl⟩
  have D1 : Hid (DS w w1 g0 r1 (fun _ => []) none 0 0 (flP (fun _ => []))) := by
    unfold Hid
    rw [fl_nil, ← hr1, ← hg0]
    exact ⟨l1, Okk.start, ⟨Nat.le_refl _, fun _ _ => Nat.le_refl _⟩, ⟨rfl, fun h => by omega⟩, rfl, Nat.le_refl _, fun ad e => (by cases e), b1⟩
  rw [hg0]
  clear l1 b1 hr1 hg0
  go_wp2_with fail
  obtain ⟨n, hn⟩ : ∃ n : Nat, min len 60 = n := ⟨_, rfl⟩
  have HN : Hid (n ≤ len ∧ n ≤ 60 ∧ (n = len ∨ n = 60)) := by unfold Hid; omega
  clear hn
  go_loopw [5, 6, 7] (fun v5 v6 v7 wr => PyRel n w v5 v6 v7 wr) (fun _ _ v => fun _ => 1001 - (intOf v).toNat)
  case atStart => exact ⟨⟨0, g0, r1, _, none, 0, 0, Nat.zero_le _, rfl, rfl, rfl, D1.out, Nat.le_refl _⟩⟩
  case round =>
    clear D1
    obtain ⟨⟨j, g, rb, X, A, k, c, hj, rfl, rfl, rfl, hd, hk⟩⟩ := hrel
    have HD := Lib.hid hd
    have HK := Lib.hid hk
    have HJ := Lib.hid hj
    clear hd hk hj
    by_cases hlt : j < n
    · obtain ⟨b, off, Kf, Mf, Tf, rfl, hc⟩ := H0.out (by have := HN.out; omega)
      obtain ⟨c0, c1, c2⟩ := hc j (by have := HN.out; omega)
      obtain ⟨K, hK⟩ : ∃ x, Kf j = x := ⟨_, rfl⟩
      obtain ⟨M, hM⟩ : ∃ x, Mf j = x := ⟨_, rfl⟩
      obtain ⟨T, hT⟩ : ∃ x, Tf j = x := ⟨_, rfl⟩
      rw [hK] at c0
      rw [hM] at c1
      rw [hT] at c2
      have d0 := cell_later HD.out.bel c0
      have d1 := cell_later HD.out.bel c1
      have d2 := cell_later HD.out.bel c2
      have hjl : (j : Int) < (len : Int) := by have := HN.out; omega
      have hj60 : (j : Int) < 60 := by have := HN.out; omega
      have hj2 : (j : Int) < 1000 := by omega
      have HX : Hid (j < n) := hlt
      clear hc hK hM hT c0 c1 c2 hlt
      go_wp2_with fail
      refine (do_any g rb X A k c K M T w wr HD.out (by have := HK.out; have := HX.out; have := HN.out; omega)).mono ?_
      rintro e w2 ⟨g2, A2, k2, c2, rb2, X2, rfl, h2, hk2⟩
      have H2 := Lib.hid h2
      have HK2 : Hid (k2 ≤ j + 1) := by unfold Hid; have := HK.out; omega
      clear h2 hk2 HD d0 d1 d2
      go_wp2_with fail
      refine (alike_any g2 rb2 X2 A2 k2 c2 w w2 H2.out (by have := HK2.out; have := HX.out; have := HN.out; omega)).mono ?_
      rintro e w3 ⟨rfl, b3⟩
      have H3 := Lib.hid (H2.out.below b3)
      clear b3 H2
      go_wp2_with fail
      go_roundw
      case rel =>
        have Q : PyRel n w (.pointer (some ⟨g2, 0, none⟩)) (.slice A2 k2 c2) (.int .i64 ((j : Int) + 1)) w3 := ⟨⟨j + 1, g2, rb2, X2, A2, k2, c2, HX.out, by go_num, rfl, rfl, H3.out, HK2.out⟩⟩
        first | exact Q | ((repeat apply Exists.intro); exact ⟨Q, rfl⟩)
      case measure => have := HX.out; have := HN.out; simp [intOf]; omega
    · have hjn : j = n := by have := HJ.out; omega
      subst hjn
      clear hlt
      have SM : Hid (Sm X) := fun p hp => by
        have := line_le X hp
        have := HD.out.len
        have := HK.out
        have := HN.out
        omega
      by_cases hkl : (j : Int) < (len : Int)
      · have hk60 : ¬ (j : Int) < 60 := by have := HN.out; omega
        have hk60B : decide ((j : Int) < 60) = false := by rw [decide_eq_false_iff_not]; exact hk60
        go_wp2_with fail
        refine (prio_any g rb X ask wr HD.out.lf SM.out).mono ?_
        rintro e w2 ⟨pz, ok, rfl, hpr, hw⟩
        have hw := hw.symm
        subst hw
        have HPR := Lib.hid hpr
        clear hpr
        go_wp2_with fail
        refine (known_any wr).mono ?_
        rintro e w3 ⟨rfl, b3⟩
        have H3 := Lib.hid (HD.out.below b3)
        clear b3 HD
        go_wp2_with fail
        refine (rfind_any A k c ask (flP X) w3 _ H3.out.rd H3.out.len (by have := HK.out; have := HN.out; omega)).mono ?_
        rintro e w4 ⟨r, rfl, hf, hw⟩
        have hw := hw.symm
        subst hw
        rcases pr_fn HPR.out hf with ⟨rfl, q, rfl⟩ | ⟨rfl, rfl⟩
        · have hq0 : (0 : Int) ≤ (q : Int) := by omega
          clear hf HPR
          go_wp2_with fail
          go_ret
          exact ⟨rfl, H3.out.bel⟩
        · clear hf HPR
          go_wp2_with fail
          go_ret
          exact ⟨rfl, H3.out.bel⟩
      · have hklB : decide ((j : Int) < (len : Int)) = false := by rw [decide_eq_false_iff_not]; exact hkl
        have hklB2 : decide (j < len) = false := by rw [decide_eq_false_iff_not]; omega
        go_wp2_with fail
        refine (prio_any g rb X ask wr HD.out.lf SM.out).mono ?_
        rintro e w2 ⟨pz, ok, rfl, hpr, hw⟩
        have hw := hw.symm
        subst hw
        have HPR := Lib.hid hpr
        clear hpr
        go_wp2_with fail
        refine (known_any wr).mono ?_
        rintro e w3 ⟨rfl, b3⟩
        have H3 := Lib.hid (HD.out.below b3)
        clear b3 HD
        go_wp2_with fail
        refine (rfind_any A k c ask (flP X) w3 _ H3.out.rd H3.out.len (by have := HK.out; have := HN.out; omega)).mono ?_
        rintro e w4 ⟨r, rfl, hf, hw⟩
        have hw := hw.symm
        subst hw
        rcases pr_fn HPR.out hf with ⟨rfl, q, rfl⟩ | ⟨rfl, rfl⟩
        · have hq0 : (0 : Int) ≤ (q : Int) := by omega
          clear hf HPR
          go_wp2_with fail
          go_ret
          exact ⟨rfl, H3.out.bel⟩
        · clear hf HPR
          go_wp2_with fail
          go_ret
          exact ⟨rfl, H3.out.bel⟩
end Go.Proofs.Ytbkjcjkbicaibaa
