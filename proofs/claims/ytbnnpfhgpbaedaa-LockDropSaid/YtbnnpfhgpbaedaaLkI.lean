/-
  Locks: Raised. Each statement bears its own conditions.
-/
import Derived.Test.YtbnnpfhgpbaedaaLkG
namespace Go.Proofs.Ytbnnpfhgpbaedaa.K
open Go.RowKit Go.Maps
set_option linter.unusedVariables false
set_option linter.unusedSimpArgs false
/-- The greatest of some ceilings. -/
def topP (cs : List Int) (L : List Int) : Int := L.foldl (fun a x => max a (cs.getD x.toNat 0)) 0
theorem topP_snoc (cs : List Int) (L : List Int) (x : Int) : topP cs (L ++ [x]) = max (topP cs L) (cs.getD x.toNat 0) := by simp [topP, List.foldl_append]
structure RsRel (cs L : List Int) (n : Nat) (w : World) (rv iv : Value) (wr : World) : Prop where
  ex : ∃ j : Nat, j ≤ n ∧ iv = .int .i64 (j : Int) ∧ rv = .int .i64 (topP cs (L.take j)) ∧ wr = w
set_option maxRecDepth 100000 in
set_option maxHeartbeats 2000000 in
theorem raised_any (lo g bc bw bm N : Nat) (rb : Nat → Nat) (cs : List Int) (ws : Nat → List (Int × Int)) (os : Int → Option Int) (id : Int) (w : World) (h : LV lo w g bc bw bm N rb cs ws os) (hc : cs.length ≤ 16) :
    Calls Try.prog 27 #[.pointer (some ⟨g, 0, none⟩), .int .i64 id] w fun e w' => e = .returned (.tuple #[.int .i64 (topP cs (heldP os id cs.length)), .bool (decide (0 < topP cs (heldP os id cs.length)))]) ∧ Below w.heap.size w w' := by
  have HE := held_any lo g bc bw bm N rb cs ws os id w h hc
  obtain ⟨L, hL⟩ : ∃ L, heldP os id cs.length = L := ⟨_, rfl⟩
  have HLT : Hid (∀ x ∈ L, ∃ k : Nat, k < cs.length ∧ x = (k : Int)) := by unfold Hid; rw [← hL]; exact heldP_lt _ _ _
  have HLL : Hid (L.length ≤ 16) := by unfold Hid; rw [← hL]; have := heldP_len os id cs.length; omega
  rw [hL] at HE ⊢
  have HE := Lib.hid HE
  clear hL
  have H := Lib.hid h
  have HC := Lib.hid hc
  clear h hc
  go_enter Try.func27, Try.ntmps27
  go_wp2_with fail
  refine HE.out.mono ?_
  rintro e w1 ⟨A, m, c, rb', rfl, hm, r1, r2, b1⟩
  have HM := Lib.hid hm
  have H1 := Lib.hid (H.out.below b1)
  have B1 := Lib.hid b1
  have R1 := Lib.hid r1
  clear HE hm b1 r1 r2
  go_wp2_with fail
  go_loopw [6, 13] (fun rv iv wr => RsRel cs L m w1 rv iv wr) (fun _ i _ => 1001 - (intOf i).toNat)
  case atStart => exact ⟨⟨0, Nat.zero_le _, rfl, rfl, rfl⟩⟩
  case round =>
    obtain ⟨⟨j, hj, rfl, rfl, hw⟩⟩ := hrel
    subst hw
    have HJ := Lib.hid hj
    clear hj
    by_cases hlt : j < m
    · have hjI : (j : Int) < (m : Int) := by omega
      have hj2 : (j : Int) < 16 := by have := HLL.out; have := HM.out; omega
      have HX : Hid (j < m) := hlt
      obtain ⟨⟨c', hv⟩, e0, _⟩ := R1.out.cells j (by rw [← HM.out]; exact hlt)
      injection hv with hv hq hcc
      subst hv hcc
      clear hq
      have hjm : j < L.length := by rw [← HM.out]; exact hlt
      obtain ⟨k, hk, hxk⟩ := HLT.out (L.getD j 0) (by rw [List.getD_eq_getElem?_getD, List.getElem?_eq_getElem hjm]; exact List.getElem_mem hjm)
      rw [hxk] at e0
      obtain ⟨vc, cw, a1, a2, a3⟩ := H1.out.hd
      obtain ⟨⟨cc, hvc⟩, d0, _⟩ := a2.cells k hk
      subst hvc
      have c0 : wr.cell? ⟨g, 0, none⟩ = some (.slice (some ⟨bc, 0, none⟩) cs.length cc) := by rw [(row_cell a1 0).1]; rfl
      have HS : Hid (topP cs (L.take (j + 1)) = max (topP cs (L.take j)) (cs.getD k 0)) := by
        unfold Hid
        rw [I.take_getD hjm, topP_snoc, hxk]; simp
      obtain ⟨y, hy⟩ : ∃ y, cs.getD k 0 = y := ⟨_, rfl⟩
      rw [hy] at d0 HS
      obtain ⟨n, hn⟩ : ∃ n, cs.length = n := ⟨_, rfl⟩
      rw [hn] at c0 hk
      have hk0 : (0 : Int) ≤ (k : Int) := by omega
      have hkI : (k : Int) < (n : Int) := by omega
      obtain ⟨z, hz⟩ : ∃ z, topP cs (L.take j) = z := ⟨_, rfl⟩
      rw [hz] at HS ⊢
      clear hlt hy hxk hk a1 a2 a3 hn hz hjm
      go_wp2_with fail
      go_roundw
      case rel =>
        have Q : RsRel cs L m wr (.int .i64 (max z y)) (.int .i64 ((j : Int) + 1)) wr := ⟨⟨j + 1, HX.out, by go_num, by rw [HS.out], rfl⟩⟩
        first | exact Q | ((repeat apply Exists.intro); exact ⟨Q, rfl⟩)
      case measure => have := HX.out; have := HLL.out; have := HM.out; simp [intOf]; omega
    · have hjI : ¬ (j : Int) < (m : Int) := by omega
      obtain rfl : j = m := by have := HJ.out; omega
      have HT : Hid (L.take j = L) := by unfold Hid; exact List.take_of_length_le (by rw [← HM.out]; omega)
      clear hlt
      rw [HT.out]
      go_wp2_with fail
      go_ret2
      exact ⟨rfl, B1.out⟩
end Go.Proofs.Ytbnnpfhgpbaedaa.K
