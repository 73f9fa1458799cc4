/-
  Locks: which there are, and whose they are. Each statement bears its own conditions.
-/
import Derived.Test.YtbnnpfhgpbaedaaLkM
import Derived.Deep.LoopGhost
namespace Go.Proofs.Ytbnnpfhgpbaedaa.K
open Go.RowKit Go.Maps
set_option linter.unusedVariables false
set_option linter.unusedSimpArgs false
theorem lit_i64 {a b : Int} (h : (DataW.lit (.int .i64 a) : DataW Unit) = .lit (.int .i64 b)) : a = b := by injection h with h; injection h
theorem prio_any (x : Int) (w : World) : Calls Try.prog 28 #[.int .i64 x] w fun e w' => e = .returned (.bool (decide (1 ≤ x ∧ x ≤ 63))) ∧ w' = w := by
  go_enter Try.func28, Try.ntmps28
  go_wp2_with fail
  all_goals go_ret
  all_goals refine ⟨?_, rfl⟩
  all_goals congr 2
  all_goals simp_all
  all_goals omega
theorem has_any (g cw n bw : Nat) (vc : Value) (bm : Nat) (rb : Nat) (cs : List Int) (x : Int) (w : World) (hg : w.heap[g]? = some (.cells #[vc, .slice (some ⟨bw, 0, none⟩) cs.length cw, .map (some bm)] 66 (0, 0))) (hr : I.RowV w vc rb cs) :
    Calls Try.prog 35 #[.pointer (some ⟨g, 0, none⟩), .int .i64 x] w fun e w' => e = .returned (.bool (decide (0 ≤ x ∧ x < cs.length))) ∧ w' = w := by
  obtain ⟨A, c, rfl, hc⟩ := hr.slice
  have d0 : w.cell? ⟨g, 0, none⟩ = some (.slice A cs.length c) := by rw [(row_cell hg 0).1]; rfl
  have hn : ∀ w : World, (binOp .neq 24 (.pointer (some ⟨g, 0, none⟩)) (.pointer none)).run Try.prog w = .ok (.bool true) w := fun _ => rfl
  clear hg hr
  go_enter Try.func35, Try.ntmps35
  go_wp2_with fail
  all_goals go_ret
  all_goals refine ⟨?_, rfl⟩
  all_goals congr 2
  all_goals simp_all
  all_goals omega
theorem owner_any (g bm N : Nat) (vc vw : Value) (os : Int → Option Int) (k : Int) (w : World) (hk : (Lit.int .i64 k).wf = true) (hg : w.heap[g]? = some (.cells #[vc, vw, .map (some bm)] 66 (0, 0))) (hm : MapV w bm N os) :
    Calls Try.prog 24 #[.pointer (some ⟨g, 0, none⟩), .int .i64 k] w fun e w' => e = .returned (.tuple #[.int .i64 ((os k).getD 0), .bool (os k).isSome]) ∧ w' = w := by
  have d2 : w.cell? ⟨g, 2, none⟩ = some (.map (some bm)) := by rw [(row_cell hg 2).1]; rfl
  have hn : ∀ w : World, (binOp .eql 24 (.pointer (some ⟨g, 0, none⟩)) (.pointer none)).run Try.prog w = .ok (.bool false) w := fun _ => rfl
  obtain ⟨D, hown, hD⟩ := hm
  obtain ⟨h1, h2⟩ := hD k hk
  have hkey := keyOf_int_mk Try.underlying3 hk
  clear hD hg
  go_enter Try.func24, Try.ntmps24
  go_wp2_with (first
    | (at_lookup; refine wpList_lookup_own_ok_int _ rfl _ _ 64 rfl 3 3 .i64 law3 Try.underlying64 Try.underlying3 (zero3 _) bm N D rfl hown _ _ rfl hkey ?_; intro c hat hwc)
    | fail)
  go_ret2
  have := lit_i64 (hat.symm.trans h2)
  rw [this]
  exact ⟨rfl, rfl⟩
theorem owner_nil (k : Int) (w : World) : Calls Try.prog 24 #[.pointer none, .int .i64 k] w fun e w' => e = .returned (.tuple #[.int .i64 0, .bool false]) ∧ w' = w := by
  have hn : ∀ w : World, (binOp .eql 24 (.pointer none) (.pointer none)).run Try.prog w = .ok (.bool true) w := fun _ => rfl
  go_enter Try.func24, Try.ntmps24
  go_wp2_with fail
  go_ret2
  exact ⟨rfl, rfl⟩
theorem owns_any (g bm N : Nat) (vc vw : Value) (os : Int → Option Int) (id k : Int) (w : World) (hk : (Lit.int .i64 k).wf = true) (hg : w.heap[g]? = some (.cells #[vc, vw, .map (some bm)] 66 (0, 0))) (hm : MapV w bm N os) :
    Calls Try.prog 37 #[.pointer (some ⟨g, 0, none⟩), .int .i64 id, .int .i64 k] w fun e w' => e = .returned (.bool (decide (os k = some id))) ∧ w' = w := by
  have OW := Lib.hid (owner_any g bm N vc vw os k w hk hg hm)
  clear hk hg hm
  go_enter Try.func37, Try.ntmps37
  go_wp2_with fail
  refine OW.out.mono ?_
  rintro e w1 ⟨rfl, rfl⟩
  cases ho : os k with
  | none =>
    go_wp2_with fail
    all_goals go_ret
    all_goals (refine ⟨?_, rfl⟩; congr 2; first | (simp_all; done) | (rw [Bool.eq_iff_iff]; simp_all))
  | some v =>
    go_wp2_with fail
    all_goals go_ret
    have : (v == id) = decide (os k = some id) := by rw [ho, Bool.eq_iff_iff]; simp
    refine ⟨?_, rfl⟩
    rw [← this]
    rfl
/-- Nobody of this id waits for a lock below n. -/
def NoId (ws : Nat → List (Int × Int)) (n : Nat) (id : Int) : Prop := ∀ i, i < n → ∀ x ∈ ws i, x.1 ≠ id
instance (ws : Nat → List (Int × Int)) (n : Nat) (id : Int) : Decidable (NoId ws n id) := by unfold NoId; infer_instance
theorem NoId.succ {ws : Nat → List (Int × Int)} {n : Nat} {id : Int} (h : NoId ws n id) (h1 : ∀ k, k < (ws n).length → ((ws n).getD k (0, 0)).1 ≠ id) : NoId ws (n + 1) id := by
  intro i hi x hx
  by_cases e : i = n
  · subst e
    obtain ⟨k, hk, rfl⟩ := List.getElem_of_mem hx
    have := h1 k hk
    rwa [List.getD_eq_getElem?_getD, List.getElem?_eq_getElem hk] at this
  · exact h i (by omega) x hx
/-- What a search finds: lock i, place j, whether there is one. -/
def FindR (ws : Nat → List (Int × Int)) (n : Nat) (id : Int) (i j : Nat) (b : Bool) : Prop :=
  (b = false ∧ i = 0 ∧ j = 0 ∧ NoId ws n id) ∨ (b = true ∧ i < n ∧ j < (ws i).length ∧ ((ws i).getD j (0, 0)).1 = id ∧ (∀ k, k < j → ((ws i).getD k (0, 0)).1 ≠ id) ∧ NoId ws i id)
theorem FindR.no {ws : Nat → List (Int × Int)} {n : Nat} {id : Int} {i j : Nat} {b : Bool} (h : FindR ws n id i j b) : b = !decide (NoId ws n id) := by
  rcases h with ⟨rfl, _, _, h⟩ | ⟨rfl, h1, h2, h3, _⟩
  · simp [h]
  · have : ¬ NoId ws n id := fun h => by
      have := h i h1 ((ws i).getD j (0, 0)) (by rw [List.getD_eq_getElem?_getD, List.getElem?_eq_getElem h2]; exact List.getElem_mem h2)
      exact this h3
    simp [this]
structure FIn (ws : Nat → List (Int × Int)) (i : Nat) (id : Int) (w wr : World) (j : Nat) : Prop where
  no : ∀ k, k < j → ((ws i).getD k (0, 0)).1 ≠ id
  be : Below w.heap.size w wr
structure FOut (ws : Nat → List (Int × Int)) (i : Nat) (id : Int) (w wr : World) : Prop where
  no : NoId ws i id
  be : Below w.heap.size w wr
set_option maxRecDepth 100000 in
set_option maxHeartbeats 2000000 in
theorem find_any (lo g bc bw bm N : Nat) (rb : Nat → Nat) (cs : List Int) (ws : Nat → List (Int × Int)) (os : Int → Option Int) (id : Int) (w : World) (h : LV lo w g bc bw bm N rb cs ws os) (hn : cs.length ≤ 16) (hl : ∀ i, i < cs.length → (ws i).length ≤ 1000) :
    Calls Try.prog 41 #[.pointer (some ⟨g, 0, none⟩), .int .i64 id] w fun e w' => ∃ (i j : Nat) (b : Bool), e = .returned (.tuple #[.int .i64 (i : Int), .int .i64 (j : Int), .bool b]) ∧ FindR ws cs.length id i j b ∧ Below w.heap.size w w' := by
  have hz : ∀ w : World, (binOp .eql 24 (.pointer (some ⟨g, 0, none⟩)) (.pointer none)).run Try.prog w = .ok (.bool false) w := fun _ => rfl
  obtain ⟨vc, cw, a1, a2, a3⟩ := h.hd
  have d1 : w.cell? ⟨g, 1, none⟩ = some (.slice (some ⟨bw, 0, none⟩) cs.length cw) := by rw [(row_cell a1 1).1]; rfl
  have H := Lib.hid h
  have HL := Lib.hid hl
  obtain ⟨n, hnn⟩ : ∃ n, cs.length = n := ⟨_, rfl⟩
  have HN := Lib.hid hnn
  rw [hnn] at d1 hn ⊢
  have HN16 := Lib.hid hn
  clear a1 a2 a3 h hl hnn hn
  go_enter Try.func41, Try.ntmps41
  go_wp2
  go_step3
  go_wp2
  go_step3
  go_wp2
  go_loopg [4, 5, 6, 18] n (fun k s4 s5 s6 s18 wx => ∃ i : Nat, i + k = n ∧ s18 = .int .i64 (i : Int) ∧ s4 = .int .i64 0 ∧ s5 = .int .i64 0 ∧ s6 = .bool false ∧ FOut ws i id w wx)
  case atStart => exact ⟨0, by omega, rfl, rfl, rfl, rfl, fun i hi => absurd hi (by omega), Below.refl _ _⟩
  case round =>
    obtain ⟨i, hik, rfl, rfl, rfl, rfl, hr⟩ := hrel
    have HR := Lib.hid hr
    have hi16 : (i : Int) ≤ 16 := by have := HN16.out; omega
    clear hr
    cases gk with
    | zero =>
      have hkz : ¬ ((i : Int) < (n : Int)) := by omega
      have HI : Hid (i = n) := by unfold Hid; omega
      go_wp2
      try rw [Exit.noGoto_ret]
      go_ret3
      exact ⟨0, 0, false, rfl, .inl ⟨rfl, rfl, rfl, HI.out ▸ HR.out.no⟩, HR.out.be⟩
    | succ k =>
      have hkz : (i : Int) < (n : Int) := by omega
      have hin : i < n := by omega
      have hi0 : (0 : Int) ≤ (i : Int) := by omega
      have Hw := H.out.below HR.out.be
      obtain ⟨vs, b1, b2, b3⟩ := Hw.ls
      obtain ⟨v, c1, c2, c3⟩ := b3 i (by rw [HN.out]; exact hin)
      obtain ⟨A, c, rfl, hc⟩ := c2.slice
      have e1 : wr.cell? ⟨bw, i, none⟩ = some (.slice A (ws i).length c) := by rw [(row_cell b2 i).1]; exact c1
      obtain ⟨m, hm⟩ : ∃ m, (ws i).length = m := ⟨_, rfl⟩
      have HM := Lib.hid hm
      have HML : Hid (m ≤ 1000) := by have := HL.out i (by rw [HN.out]; exact hin); unfold Hid; omega
      have HC := Lib.hid c2
      have HIN := Lib.hid hin
      rw [hm] at e1 hc HC
      clear Hw b1 b2 b3 c1 c2 c3 hm hin
      go_wp2
      go_loopg [4, 5, 6, 25] m (fun k2 s4 s5 s6 s25 wx => ∃ j : Nat, j + k2 = m ∧ s25 = .int .i64 (j : Int) ∧ s4 = .int .i64 0 ∧ s5 = .int .i64 0 ∧ s6 = .bool false ∧ FIn ws i id wr wx j)
      case atStart => exact ⟨0, by omega, rfl, rfl, rfl, rfl, fun i hi => absurd hi (by omega), Below.refl _ _⟩
      case round =>
        obtain ⟨j, hjk, rfl, rfl, rfl, rfl, hr2⟩ := hrel
        have HR2 := Lib.hid hr2
        have hj16 : (j : Int) ≤ 1000 := by have := HML.out; omega
        clear hr2
        cases gk with
        | zero =>
          have hjz : ¬ ((j : Int) < (m : Int)) := by omega
          have HJ : Hid (j = m) := by unfold Hid; omega
          go_wp2
          go_roundg k
          case measure => omega
          case rel => exact ⟨i + 1, by omega, by go_num, rfl, rfl, rfl, HR.out.no.succ (by rw [HM.out, ← HJ.out]; exact HR2.out.no), HR.out.be.trans (HR2.out.be.mono HR.out.be.size)⟩
        | succ k2 =>
          have hjz : (j : Int) < (m : Int) := by omega
          have hj0 : (0 : Int) ≤ (j : Int) := by omega
          have hlt : j < m := by omega
          obtain ⟨⟨c', hv⟩, d0, d1', hrl⟩ := W.RowV.cells (v := .slice A m c) HC.out j (by rw [HM.out]; exact hlt)
          rw [HM.out] at hv
          injection hv with hv _ hcc
          subst hv hcc
          have d0 := cell_later HR2.out.be d0
          have d2 := cell_later HR2.out.be d1'
          obtain ⟨a, ha⟩ : ∃ a, Hid (((ws i).getD j (0, 0)).1 = a) := ⟨_, rfl⟩
          obtain ⟨b, hb'⟩ : ∃ b, Hid (((ws i).getD j (0, 0)).2 = b) := ⟨_, rfl⟩
          rw [ha.out] at d0
          rw [hb'.out] at d2
          have HJ : Hid (j < m) := hlt
          by_cases he : a = id
          · have HE : Hid (a = id) := he
            have hee : (a == id) = true := by rw [beq_iff_eq]; exact he
            clear he hlt d1'
            go_wp2
            try rw [Exit.noGoto_ret]
            go_ret3
            refine ⟨i, j, true, rfl, .inr ⟨rfl, HIN.out, by rw [HM.out]; exact HJ.out, by rw [ha.out]; exact HE.out, HR2.out.no, HR.out.no⟩, ?_⟩
            have hbe := HR.out.be.trans (HR2.out.be.mono HR.out.be.size)
            first | exact hbe | exact hbe.alloc hbe.size _ | exact (hbe.alloc hbe.size _).setCell _ _ _ hbe.size
          · have HE : Hid (a ≠ id) := he
            have hee : (a == id) = false := by rw [beq_eq_false_iff_ne]; exact he
            clear he hlt d1'
            go_wp2
            go_roundg k2
            case measure => omega
            case rel =>
              refine ⟨j + 1, by omega, by go_num, rfl, rfl, rfl, fun q hq => ?_, ?_⟩
              · by_cases e : q = j
                · subst e; rw [ha.out]; exact HE.out
                · exact HR2.out.no q (by omega)
              · first | exact HR2.out.be | exact HR2.out.be.alloc HR2.out.be.size _ | exact (HR2.out.be.alloc HR2.out.be.size _).setCell _ _ _ HR2.out.be.size
end Go.Proofs.Ytbnnpfhgpbaedaa.K
