/-
  Lists of ids in memory; the contract of find. Each statement bears its own conditions.
-/
import Derived.Test.YtbkjcjkbicaibaaWord
namespace Go.Proofs.Ytbkjcjkbicaibaa
open Go.RowKit
set_option linter.unusedVariables false
set_option linter.unusedSimpArgs false
/-- A list: its word and its lines lie in block g, the line of priority p in block rb p. -/
structure LF (w : World) (g : Nat) (rb : Nat → Nat) (Ls : Nat → List Int) : Prop where
  lt : g < w.heap.size
  fz : ∀ o, w.frozen? ⟨g, o, none⟩ = false
  wd : ∃ F : Nat, F < 2 ^ 64 ∧ (∀ p, p < 64 → F.testBit p = !(Ls p).isEmpty) ∧ w.cell? ⟨g, 0, none⟩ = some (.int .u64 (F : Int))
  ln : ∀ p, p < 64 → ∃ v, w.cell? ⟨g, 1 + p, none⟩ = some v ∧ RowV w v (rb p) (Ls p) ∧ ((v = .slice none 0 0 ∧ rb p = g) ∨ (rb p ≠ g ∧ rb p < w.heap.size))
  ap : ∀ p q, p < 64 → q < 64 → p ≠ q → rb p ≠ g → rb p ≠ rb q
theorem LF.rlt {w : World} {g : Nat} {rb : Nat → Nat} {Ls : Nat → List Int} (h : LF w g rb Ls) {p : Nat} (hp : p < 64) : rb p < w.heap.size := by
  obtain ⟨v, _, _, h1⟩ := h.ln p hp
  have := h.lt
  rcases h1 with h1 | h1
  · omega
  · exact h1.2
theorem LF.keep {w w' : World} {g : Nat} {rb : Nat → Nat} {Ls : Nat → List Int} (h : LF w g rb Ls) (hs : w.heap.size ≤ w'.heap.size) (h1 : w'.heap[g]? = w.heap[g]?) (h2 : ∀ p, p < 64 → w'.heap[rb p]? = w.heap[rb p]?) : LF w' g rb Ls := by
  refine ⟨Nat.lt_of_lt_of_le h.lt hs, fun o => (World.frozen?_of_block (a := ⟨g, o, none⟩) h1).trans (h.fz o), ?_, fun p hp => ?_, h.ap⟩
  · obtain ⟨F, a, b, c⟩ := h.wd
    exact ⟨F, a, b, (World.cell?_of_block (a := ⟨g, 0, none⟩) h1).trans c⟩
  · obtain ⟨v, a, b, c⟩ := h.ln p hp
    exact ⟨v, (World.cell?_of_block (a := ⟨g, 1 + p, none⟩) h1).trans a, b.keep (.inr (h2 p hp)), c.imp id (fun c => ⟨c.1, by omega⟩)⟩
theorem LF.below {w w' : World} {g : Nat} {rb : Nat → Nat} {Ls : Nat → List Int} (h : LF w g rb Ls) (hb : Below w.heap.size w w') : LF w' g rb Ls := h.keep hb.size (hb.block g h.lt) (fun p hp => hb.block _ (h.rlt hp))
/-- No line is too long. -/
def Sm (Ls : Nat → List Int) : Prop := ∀ p, p < 64 → (Ls p).length ≤ 1000
def Fnd (Ls : Nat → List Int) (id : Int) (e : Ending) : Prop :=
  (∃ p i, p < 64 ∧ i < (Ls p).length ∧ (Ls p).getD i 0 = id ∧ e = .returned (.tuple #[.int .i64 (p : Int), .int .i64 (i : Int), .bool true])) ∨ ((∀ p, p < 64 → id ∉ Ls p) ∧ e = .returned (.tuple #[.int .i64 0, .int .i64 0, .bool false]))
structure FdRel (Ls : Nat → List Int) (id : Int) (w : World) (v4 v5 v6 v : Value) (wr : World) : Prop where
  ex : ∃ R k : Nat, v4 = .int .i64 0 ∧ v5 = .int .i64 0 ∧ v6 = .bool false ∧ v = .int .u64 (R : Int) ∧ R < 2 ^ 64 ∧ k ≤ 64 ∧ (∀ q, q < 64 → R.testBit q = (decide (q < k) && !(Ls q).isEmpty)) ∧ (∀ q, k ≤ q → q < 64 → id ∉ Ls q) ∧ wr = w
structure FiRel (L : List Int) (id : Int) (w : World) (v4 v5 v6 v : Value) (wr : World) : Prop where
  ex : ∃ i : Nat, v4 = .int .i64 0 ∧ v5 = .int .i64 0 ∧ v6 = .bool false ∧ i ≤ L.length ∧ v = .int .i64 (i : Int) ∧ id ∉ L.take i ∧ wr = w
set_option maxRecDepth 100000 in
set_option maxHeartbeats 4000000 in
theorem find_any (g : Nat) (rb : Nat → Nat) (Ls : Nat → List Int) (id : Int) (w : World) (h : LF w g rb Ls) (hs : Sm Ls) :
    Calls Try.prog 28 #[.pointer (some ⟨g, 0, none⟩), .int .i64 id] w fun e w' => Fnd Ls id e ∧ w' = w := by
  have H := Lib.hid h
  have HS := Lib.hid hs
  obtain ⟨F, hF, hFb, hFc⟩ := h.wd
  have HF := Lib.hid hF
  have HFb := Lib.hid hFb
  clear h hs hF hFb
  have he : ∀ (x : Nat) (w : World), (binOp .eql 23 (.pointer (some ⟨x, 0, none⟩)) (.pointer none)).run Try.prog w = .ok (.bool false) w := fun _ _ => rfl
  go_enter Try.func28, Try.ntmps28
  go_wp2_with fail
  apply wp_scope_straight
  go_wp2_with fail
  apply wp_label
  go_wp2_with fail
  go_loopw [4, 5, 6, 7] (fun v4 v5 v6 v wr => FdRel Ls id w v4 v5 v6 v wr) (fun _ _ _ v => fun _ => (intOf v).toNat)
  case atStart => exact ⟨⟨F, 64, rfl, rfl, rfl, rfl, HF.out, Nat.le_refl _, fun q hq => by rw [HFb.out q hq, decide_eq_true hq]; rfl, fun q h1 h2 => by omega, rfl⟩⟩
  case round =>
    obtain ⟨⟨R, k, rfl, rfl, rfl, rfl, hR, hk, hRb, hno, rfl⟩⟩ := hrel
    have HR := Lib.hid hR
    have HK := Lib.hid hk
    have HRb := Lib.hid hRb
    have HNO := Lib.hid hno
    clear hR hk hRb hno
    by_cases hR0 : R = 0
    · subst hR0
      go_wp2_with fail
      unfold Exit.noGoto
      go_ret3
      refine ⟨.inr ⟨fun q hq hm => ?_, rfl⟩, rfl⟩
      by_cases hqk : q < k
      · have h1 := HRb.out q hq
        rw [Nat.zero_testBit, decide_eq_true hqk, Bool.true_and] at h1
        have h2 : Ls q = [] := by simpa using h1.symm
        rw [h2] at hm; cases hm
      · exact HNO.out q (by omega) hq hm
    · obtain ⟨p, ht⟩ := top_of HR.out hR0
      have hRI : ¬ (R : Int) = 0 := by omega
      have hRB : ((R : Int) == 0) = false := by rw [beq_eq_false_iff_ne]; omega
      have hRB2 : ((R : Int) != 0) = true := by rw [bne_iff_ne]; omega
      have HT := Lib.hid ht
      clear hR0 ht
      go_wp2_with fail
      refine (first_any R p wr HT.out).mono ?_
      rintro e w1 ⟨rfl, rfl⟩
      have hp : p < 64 := HT.out.lt
      obtain ⟨v, hc, hv, _⟩ := H.out.ln p hp
      have HP : Hid (p < 64) := hp
      have hpk : Hid (p < k ∧ Ls p ≠ []) := by
        have h1 := HRb.out p hp
        rw [HT.out.bit] at h1
        unfold Hid
        refine ⟨?_, fun h2 => ?_⟩
        · by_cases h3 : p < k
          · exact h3
          · rw [decide_eq_false h3] at h1; simp at h1
        · rw [h2] at h1; simp at h1
      obtain ⟨n, hn⟩ : ∃ n, (Ls p).length = n := ⟨_, rfl⟩
      have HN : Hid ((Ls p).length = n ∧ n ≤ 1000 ∧ 0 < n) := ⟨hn, by rw [← hn]; exact HS.out p hp, by rw [← hn]; exact List.length_pos_iff.2 hpk.out.2⟩
      have HV := Lib.hid hv
      obtain ⟨⟨c, rfl⟩, _, _⟩ := hv.cells 0 (by have := HN.out; omega)
      rw [hn] at hc
      have hpI : (p : Int) < 64 := by omega
      clear hv hp hn
      go_wp2_with fail
      go_loopw [4, 5, 6, 28] (fun v4 v5 v6 v wr' => FiRel (Ls p) id w1 v4 v5 v6 v wr') (fun _ _ _ v => fun _ => 1001 - (intOf v).toNat)
      case atStart => exact ⟨⟨0, rfl, rfl, rfl, Nat.zero_le _, rfl, by simp, rfl⟩⟩
      case round =>
        obtain ⟨⟨i, rfl, rfl, rfl, hi, rfl, hno2, rfl⟩⟩ := hrel
        have HNO2 := Lib.hid hno2
        have HI := Lib.hid hi
        clear hno2 hi
        by_cases hlt : i < n
        · obtain ⟨_, d0, _⟩ := HV.out.cells i (by have := HN.out; omega)
          obtain ⟨x, hx⟩ : ∃ x, Hid ((Ls p).getD i 0 = x) := ⟨_, rfl⟩
          rw [hx.out] at d0
          have hiI : (i : Int) < (n : Int) := by omega
          have hi2 : (i : Int) < 1000 := by have := HN.out; omega
          have HX : Hid (i < n) := hlt
          clear hlt
          by_cases hxe : x = id
          · subst hxe
            go_wp2_with fail
            unfold Exit.noGoto
            go_ret3
            exact ⟨.inl ⟨p, i, HP.out, by have := HX.out; have := HN.out; omega, hx.out, rfl⟩, rfl⟩
          · have hxB : (x == id) = false := by rw [beq_eq_false_iff_ne]; exact hxe
            go_wp2_with fail
            go_roundw
            case rel =>
              have Q : FiRel (Ls p) id wr (.int .i64 0) (.int .i64 0) (.bool false) (.int .i64 ((i : Int) + 1)) wr := ⟨⟨i + 1, rfl, rfl, rfl, by have := HX.out; have := HN.out; omega, by go_num, by
                rw [take_getD (by have := HX.out; have := HN.out; omega), hx.out, List.mem_append]
                rintro (h | h)
                · exact HNO2.out h
                · exact hxe (List.mem_singleton.1 h).symm, rfl⟩⟩
              first | exact Q | ((repeat apply Exists.intro); exact ⟨Q, rfl⟩)
            case measure => have := HX.out; have := HN.out; simp [intOf]; omega
        · have hiI : ¬ (i : Int) < (n : Int) := by omega
          have hin : Hid (id ∉ Ls p) := by
            have := HNO2.out
            rwa [List.take_of_length_le (by have := HN.out; omega)] at this
          have HCL := Lib.hid (clr_eq HR.out HP.out)
          clear hlt
          go_wp2_with fail
          go_roundw
          case rel =>
            have Q : FdRel Ls id wr (.int .i64 0) (.int .i64 0) (.bool false) (.int .u64 (bits .andNot .u64 (R : Int) (IntKind.u64.wrap (2 ^ p)))) wr := by
             rw [HCL.out]
             exact ⟨⟨clr R p, p, rfl, rfl, rfl, rfl, clr_lt p HR.out, by have := HP.out; omega, fun q hq => by
              rw [clr_bit HR.out HP.out, HRb.out q hq]
              have hpk := hpk.out.1
              rcases Nat.lt_trichotomy q p with h | h | h
              · rw [decide_eq_true (show q < k by omega), decide_eq_true (show q ≠ p by omega), decide_eq_true h]; simp
              · rw [decide_eq_false (show ¬ q ≠ p by omega), decide_eq_false (show ¬ q < p by omega)]; simp
              · have h2 := HT.out.none_ q h
                rw [HRb.out q hq] at h2
                rw [h2, decide_eq_false (show ¬ q < p by omega)]; rfl, fun q h1 h2 hm => by
              rcases Nat.lt_or_ge q k with h3 | h3
              · rcases Nat.lt_or_ge p q with h4 | h4
                · have h5 := HT.out.none_ q h4
                  rw [HRb.out q h2, decide_eq_true h3, Bool.true_and] at h5
                  have h6 : Ls q = [] := by simpa using h5
                  rw [h6] at hm; cases hm
                · have : q = p := by omega
                  subst this; exact hin.out hm
              · exact HNO.out q h3 h2 hm, rfl⟩⟩
            first | exact Q | ((repeat apply Exists.intro); exact ⟨Q, rfl⟩)
          case measure =>
            have h1 : clr R p < R := by
              refine Nat.lt_of_le_of_ne Nat.and_le_left (fun e => ?_)
              have h2 := clr_bit HR.out HP.out p
              rw [e, HT.out.bit] at h2
              simp at h2
            have := HCL.out
            simp [intOf]; omega
end Go.Proofs.Ytbkjcjkbicaibaa
