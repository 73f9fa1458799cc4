/-
  Locks: Held. Each statement bears its own conditions.
-/
import Derived.Test.YtbnnpfhgpbaedaaLkF
namespace Go.Proofs.Ytbnnpfhgpbaedaa.K
open Go.RowKit Go.Maps Go.Proofs.Ytbnnpfhgpbaedaa.W
set_option linter.unusedVariables false
set_option linter.unusedSimpArgs false
/-- The locks below n that belong to an id. -/
def heldP (os : Int → Option Int) (id : Int) : Nat → List Int
  | 0 => []
  | n + 1 => heldP os id n ++ (if os (n : Int) = some id then [(n : Int)] else [])
theorem heldP_len (os : Int → Option Int) (id : Int) : ∀ n, (heldP os id n).length ≤ n
  | 0 => Nat.le_refl _
  | n + 1 => by
    have := heldP_len os id n
    unfold heldP
    split <;> simp <;> omega
theorem heldP_lt (os : Int → Option Int) (id : Int) : ∀ n, ∀ x ∈ heldP os id n, ∃ k : Nat, k < n ∧ x = (k : Int)
  | 0, x, hx => by simp [heldP] at hx
  | n + 1, x, hx => by
    unfold heldP at hx
    rcases List.mem_append.1 hx with hx | hx
    · obtain ⟨k, hk, e⟩ := heldP_lt os id n x hx
      exact ⟨k, by omega, e⟩
    · split at hx
      · simp at hx; exact ⟨n, by omega, hx⟩
      · simp at hx
structure HdRel (os : Int → Option Int) (id : Int) (n : Nat) (w : World) (ov iv : Value) (wr : World) : Prop where
  ex : ∃ (j c m : Nat) (A : Option Addr), j ≤ n ∧ iv = .int .i64 (j : Int) ∧ ov = .slice A m c ∧ m = (heldP os id j).length ∧ wr.ownsRow w.heap.size 3 1 (.slice A m c) m (Go.Proofs.Ytbnnpfhgpbaedaa.C (heldP os id j)) ∧ Below w.heap.size w wr
set_option maxRecDepth 100000 in
set_option maxHeartbeats 2000000 in
theorem held_any (lo g bc bw bm N : Nat) (rb : Nat → Nat) (cs : List Int) (ws : Nat → List (Int × Int)) (os : Int → Option Int) (id : Int) (w : World) (h : LV lo w g bc bw bm N rb cs ws os) (hc : cs.length ≤ 16) :
    Calls Try.prog 25 #[.pointer (some ⟨g, 0, none⟩), .int .i64 id] w fun e w' => ∃ A m c rb', e = .returned (.slice A m c) ∧ m = (heldP os id cs.length).length ∧ I.RowV w' (.slice A m c) rb' (heldP os id cs.length) ∧ (Value.slice A m c = .slice none 0 0 ∨ (w.heap.size ≤ rb' ∧ rb' < w'.heap.size)) ∧ Below w.heap.size w w' := by
  obtain ⟨i0, hi, hz0, hz1, hz2⟩ := I.info_of I.int_info
  have hz : ∀ w : World, (binOp .eql 24 (.pointer (some ⟨g, 0, none⟩)) (.pointer none)).run Try.prog w = .ok (.bool false) w := fun _ => rfl
  have H := Lib.hid h
  obtain ⟨vc, cw, a1, a2, a3⟩ := h.hd
  obtain ⟨Ac, cc, hvc, _⟩ := a2.slice
  subst hvc
  have c0 : w.cell? ⟨g, 0, none⟩ = some (.slice Ac cs.length cc) := by rw [(row_cell a1 0).1]; rfl
  obtain ⟨n, hn⟩ : ∃ n, cs.length = n := ⟨_, rfl⟩
  have HN := Lib.hid hn
  rw [hn] at c0 hc ⊢
  have HC := Lib.hid hc
  clear a1 a2 a3 h hn hc
  go_enter Try.func25, Try.ntmps25
  go_wp2_with fail
  go_loopw [5, 14] (fun ov iv wr => HdRel os id n w ov iv wr) (fun _ i _ => 1001 - (intOf i).toNat)
  case atStart => exact ⟨⟨0, 0, 0, none, Nat.zero_le _, rfl, rfl, rfl, World.ownsRow_nil _ _ _ _, Below.refl _ _⟩⟩
  case round =>
    obtain ⟨⟨j, c, m, A1, hj, rfl, rfl, hm, ho, hb⟩⟩ := hrel
    have HO := Lib.hid ho
    have HB := Lib.hid hb
    have HJ := Lib.hid hj
    have HM := Lib.hid hm
    clear ho hb hj hm
    by_cases hlt : j < n
    · have hjI : (j : Int) < (n : Int) := by omega
      have hj2 : (j : Int) < 16 := by have := HC.out; omega
      have HX : Hid (j < n) := hlt
      have Hr := H.out.below HB.out
      have hk : (Lit.int .i64 (j : Int)).wf = true := WalkArith.wf_i64 (by omega)
      have OW : Hid (Calls Try.prog 37 #[.pointer (some ⟨g, 0, none⟩), .int .i64 id, .int .i64 (j : Int)] wr fun e w' => e = .returned (.bool (decide (os (j : Int) = some id))) ∧ w' = wr) := by
        obtain ⟨vc, cw, a1, a2, a3⟩ := Hr.hd
        exact owns_any g bm N vc (.slice (some ⟨bw, 0, none⟩) cs.length cw) os id (j : Int) wr hk a1 Hr.mp
      have HML : Hid (m ≤ j) := by unfold Hid; rw [HM.out]; exact heldP_len _ _ _
      clear hlt Hr
      by_cases he : os (j : Int) = some id
      · rw [decide_eq_true he] at OW
        have HS : Hid (heldP os id (j + 1) = heldP os id j ++ [(j : Int)]) := by unfold Hid; simp [heldP, he]
        clear he
        have BX : Below wr.heap.size wr (wr.alloc (.cells #[.int .i64 (j : Int)] 3)) := (Below.refl _ _).alloc (Nat.le_refl _) _
        have HO1 : Hid ((wr.alloc (.cells #[.int .i64 (j : Int)] 3)).ownsRow w.heap.size 3 1 (.slice A1 m c) m (Go.Proofs.Ytbnnpfhgpbaedaa.C (heldP os id j))) := own_below HO.out BX
        have RD : Hid (Reads (wr.alloc (.cells #[.int .i64 (j : Int)] 3)) (wr.heap.size + 1) 1 (some ⟨wr.heap.size, 0, none⟩) 1 [.int .i64 (j : Int)]) := one_row (w := wr) (.int .i64 (j : Int)) 3
        have BX1 := Lib.hid BX
        clear BX
        go_wp2_with fail
        refine OW.out.mono ?_
        rintro e w0 ⟨rfl, hw0⟩
        rw [hw0]
        clear hw0 w0 OW
        go_wp2_with (at_builtin; refine wpList_append_any _ rfl _ _ 22 rfl w.heap.size 3 i0 (.int .i64 0) 1 8 Try.underlying22 hi hz0 hz1 hz2 rfl (by decide) _ _ _ rfl HO1.out (wr.heap.size + 1) (some ⟨wr.heap.size, 0, none⟩) 1 1 [.int .i64 (j : Int)] rfl RD.out ?c2 ?c3 ?c4 ?c5 ?_)
        case c2 => intro u hu; simp at hu; subst hu; rfl
        case c3 => have := HML.out; unfold maxLen; omega
        case c4 => have := HML.out; omega
        case c5 => have := HB.out.size; simp; omega
        intro v' w2 hown hgrow hblk
        obtain ⟨A2, c2, rfl⟩ := slice_form hown
        have HO2 : Hid (w2.ownsRow w.heap.size 3 1 (.slice A2 (m + 1) c2) (m + 1) (Go.Proofs.Ytbnnpfhgpbaedaa.C (heldP os id (j + 1)))) := by
          unfold Hid
          rw [HS.out, Go.Proofs.Ytbnnpfhgpbaedaa.C_app]; exact hown
        have HB2 : Hid (Below w.heap.size w w2) := by
          have h1 := HB.out.trans (BX1.out.mono HB.out.size)
          exact h1.grown hgrow (by have := HB.out.size; simp; omega) (fun k hk => (HO1.out.lt k hk).1)
        clear hown hgrow hblk
        go_wp2_with fail
        go_roundw
        case rel =>
          have Q : HdRel os id n w (.slice A2 (m + 1) c2) (.int .i64 ((j : Int) + 1)) w2 := ⟨⟨j + 1, c2, m + 1, A2, HX.out, by go_num, rfl, by rw [HS.out, HM.out]; simp, HO2.out, HB2.out⟩⟩
          first | exact Q | ((repeat apply Exists.intro); exact ⟨Q, rfl⟩)
        case measure => have := HX.out; have := HC.out; simp [intOf]; omega
      · rw [decide_eq_false he] at OW
        have HS : Hid (heldP os id (j + 1) = heldP os id j) := by unfold Hid; simp [heldP, he]
        clear he
        go_wp2_with fail
        refine OW.out.mono ?_
        rintro e w0 ⟨rfl, hw0⟩
        rw [hw0]
        clear hw0 w0 OW
        go_wp2_with fail
        go_roundw
        case rel =>
          have Q : HdRel os id n w (.slice A1 m c) (.int .i64 ((j : Int) + 1)) wr := ⟨⟨j + 1, c, m, A1, HX.out, by go_num, rfl, by rw [HS.out]; exact HM.out, by rw [HS.out]; exact HO.out, HB.out⟩⟩
          first | exact Q | ((repeat apply Exists.intro); exact ⟨Q, rfl⟩)
        case measure => have := HX.out; have := HC.out; simp [intOf]; omega
    · have hjI : ¬ (j : Int) < (n : Int) := by omega
      obtain rfl : j = n := by have := HJ.out; omega
      clear hlt
      have HF : Hid (∃ rb', I.RowV wr (.slice A1 m c) rb' (heldP os id j) ∧ (Value.slice A1 m c = .slice none 0 0 ∨ (w.heap.size ≤ rb' ∧ rb' < wr.heap.size))) := by
        have h0 := HO.out
        rcases h0.2 with ⟨hv, h1⟩ | ⟨q, cap, cur, hv, hB, hg, r⟩
        · exact ⟨0, ⟨⟨by rw [h0.1, HM.out], .inl ⟨hv, by rw [← HM.out]; exact h1⟩⟩, fun b hb => by rw [hv] at hb; cases hb⟩, .inl hv⟩
        · refine ⟨q, ⟨?_, fun b hb => by rw [hv] at hb; injection hb with hb; exact hb.symm⟩, .inr ⟨hB, (Array.getElem?_eq_some_iff.1 hg).1⟩⟩
          rw [← HM.out]
          exact ⟨h0.1, .inr ⟨q, cap, cur, hv, Nat.zero_le _, hg, r⟩⟩
      go_wp2_with fail
      go_ret
      obtain ⟨rb', r1, r2⟩ := HF.out
      first | exact ⟨A1, m, c, rb', rfl, HM.out, r1, r2, HB.out⟩ | exact ⟨A1, m, c, rfl, HM.out, ⟨rb', r1, r2⟩, HB.out⟩ | (refine ⟨A1, m, c, rfl, HM.out, rb', r1, r2.imp (fun h => by injection h with h1 h2 h3; exact ⟨h1, h2, h3⟩) (fun h => h), HB.out⟩)
end Go.Proofs.Ytbnnpfhgpbaedaa.K
