/-
  Contracts of equality, Areas, Words, Clone and Same. Each statement bears its own conditions.
-/
import Derived.Test.YtliggejkpmlgfaaSpI
namespace Go.Proofs.Ytliggejkpmlgfaa
open Go.RowKit
set_option linter.unusedVariables false
set_option linter.unusedSimpArgs false
theorem St.of_own' {g size n : Nat} {w : World} {v : Value} {xs : List Value} {B : Nat} {e : TypeId} (h : w.ownsRow B e size v n xs) (hg : ∀ k, v.ownBlock = some k → k ≠ g) : St g w size v n xs := by
  obtain ⟨A, c, hv⟩ := slice_form h
  subst hv
  refine ⟨A, c, rfl, h.1, fun hn => ?_⟩
  obtain ⟨g', cap, hv, hB, hlt⟩ := h.form hn
  have hA : A = some ⟨g', 0, none⟩ := by injection hv
  subst hA
  refine ⟨g', 0, rfl, hlt, hg g' rfl, fun j u hu => ?_⟩
  have := h.cells (g := g') rfl j u hu
  rw [Addr.add_lit] at this
  simpa using this
theorem SP.wst {lo hi g : Nat} {w : World} {p rb : Nat} {l : List MA} {ws : List Int} (h : SP lo hi w p rb l ws) (hg : rb ≠ g) : ∃ A c cap, w.heap[p]? = some (.cells #[.slice A l.length c, .slice (some ⟨rb, 0, none⟩) ws.length cap] 71 (0, 0)) ∧ St rb w 5 (.slice A l.length c) l.length (CA l) ∧ St g w 1 (.slice (some ⟨rb, 0, none⟩) ws.length cap) ws.length (CU ws) := by
  obtain ⟨A, c, cap, h1, h2, h3, h4⟩ := h.st
  exact ⟨A, c, cap, h1, h2, St.of_own' h3 fun k hk => by injection hk with hk; rw [← hk]; exact hg⟩
structure EqRel {α : Type} (n : Nat) (a b : List α) (w : World) (v : Value) (wr : World) : Prop where
  ex : ∃ k : Nat, k ≤ n ∧ v = .int .i64 (k : Int) ∧ (∀ j, j < k → a[j]? = b[j]?) ∧ Below w.heap.size w wr
theorem EqRel.next {α : Type} {n k : Nat} {a b : List α} {w wr : World} (hk : k < n) (h : ∀ j, j < k → a[j]? = b[j]?) (he : a[k]? = b[k]?) (hb : Below w.heap.size w wr) : EqRel n a b w (.int .i64 ((k : Int) + 1)) wr :=
  ⟨⟨k + 1, hk, by go_num, fun j hj => by
    by_cases hjk : j < k
    · exact h j hjk
    · have : j = k := by omega
      subst this; exact he, hb⟩⟩
theorem eq_of_all {α : Type} {a b : List α} {n : Nat} (ha : a.length = n) (hb : b.length = n) (h : ∀ j, j < n → a[j]? = b[j]?) : a = b := by
  apply List.ext_getElem? 
  intro j
  by_cases hj : j < n
  · exact h j hj
  · rw [List.getElem?_eq_none (by omega), List.getElem?_eq_none (by omega)]
set_option maxRecDepth 100000 in
set_option maxHeartbeats 4000000 in
theorem uequal_any (g g' : Nat) (v v' : Value) (a b : List Int) (w : World) (h : St g w 1 v a.length (CU a)) (h' : St g' w 1 v' b.length (CU b)) (hm : a.length ≤ 5000) :
    Calls Try.prog 39 #[v, v'] w fun e w' => e = .returned (.bool (decide (a = b))) ∧ Below w.heap.size w w' := by
  obtain ⟨A, c, rfl⟩ := h.form
  obtain ⟨A', c', rfl⟩ := h'.form
  obtain ⟨n, hn⟩ : ∃ n, a.length = n := ⟨_, rfl⟩
  obtain ⟨m, hn'⟩ : ∃ m, b.length = m := ⟨_, rfl⟩
  obtain ⟨t, ht⟩ : ∃ t, decide (a = b) = t := ⟨_, rfl⟩
  rw [hn] at h hm ⊢
  rw [hn'] at h' ⊢
  rw [ht]
  have HN := Lib.hid hn
  have HN' := Lib.hid hn'
  have HT := Lib.hid ht
  have H := Lib.hid h
  have H' := Lib.hid h'
  clear hn hn' h h' ht
  by_cases hnm : n = m
  · subst hnm
    go_enter Try.func39, Try.ntmps39
    go_wp2_with fail
    go_loopw [13] (fun v wr => EqRel n a b w v wr) (fun v => fun _ => n - (intOf v).toNat)
    case atStart => exact ⟨⟨0, Nat.zero_le _, rfl, fun j hj => by omega, Below.refl _ _⟩⟩
    case round =>
      obtain ⟨⟨k, hk, rfl, hall, hb⟩⟩ := hrel
      have HK := Lib.hid hk
      have HA := Lib.hid hall
      have HB := Lib.hid hb
      clear hk hall hb
      by_cases hlt : k < n
      · have hkI : (k : Int) < (n : Int) := by omega
        have HX : Hid (k < n) := hlt
        obtain ⟨_, q, off, rfl, hbl, hg, hc⟩ := H.out.at_ hlt
        obtain ⟨_, q', off', rfl, hbl', hg', hc'⟩ := H'.out.at_ hlt
        obtain ⟨x, hx⟩ : ∃ x, a[k]? = some x := ⟨_, List.getElem?_eq_getElem (by have := HN.out; omega)⟩
        obtain ⟨y, hy⟩ : ∃ y, b[k]? = some y := ⟨_, List.getElem?_eq_getElem (by have := HN'.out; omega)⟩
        have HXS := Lib.hid hx
        have HYS := Lib.hid hy
        have d0 : wr.cell? ⟨q, off + k, none⟩ = some (.int .u32 x) := cell_later HB.out (hc k _ (CU_at hx))
        have e0 : wr.cell? ⟨q', off' + k, none⟩ = some (.int .u32 y) := cell_later HB.out (hc' k _ (CU_at hy))
        clear hc hc' hbl hbl' hg hg' hx hy hlt
        by_cases hxy : x = y
        · subst hxy
          have HE : Hid (a[k]? = b[k]?) := HXS.out.trans HYS.out.symm
          go_wp2_with fail
          refine wp_region_held_drew (S := (fun w' => Below w.heap.size w w' ∧ w'.cell? ⟨q, off + k, none⟩ = some (.int .u32 x) ∧ w'.cell? ⟨q', off' + k, none⟩ = some (.int .u32 x))) (by kernel_rfl) ?_ (fun hHeld => ?_)
          · exact ⟨below_drewN HB.out 1, d0, e0⟩
          refine takeD (i := 0) (d := some 16) (v := ?_) _ rfl rfl (by kernel_rfl) (by kernel_rfl) (by kernel_rfl) (fun _ _ _ h => h) (by rfl) ?_ (by assumption) ?_
          rotate_left
          · (intro w hSw; (try dsimp only at hSw); go_simp) <;> with_reducible rfl
          try simp only [Act.put, List.setIfInBounds_toArray, List.set_cons_zero, List.set_cons_succ]
          refine takeD (i := 1) (d := some 17) (v := ?_) _ rfl rfl (by kernel_rfl) (by kernel_rfl) (by kernel_rfl) (fun _ _ _ h => h) (by rfl) ?_ (by assumption) ?_
          rotate_left
          · (intro w hSw; (try dsimp only at hSw); go_simp) <;> with_reducible rfl
          try simp only [Act.put, List.setIfInBounds_toArray, List.set_cons_zero, List.set_cons_succ]
          refine takeD (i := 2) (d := some 18) (v := ?_) _ rfl rfl (by kernel_rfl) (by kernel_rfl) (by kernel_rfl) (fun _ _ _ h => h) (by rfl) ?_ (by assumption) ?_
          rotate_left
          · (intro w hSw; (try dsimp only at hSw); go_simp) <;> with_reducible rfl
          try simp only [Act.put, List.setIfInBounds_toArray, List.set_cons_zero, List.set_cons_succ]
          refine takeD (i := 3) (d := some 19) (v := ?_) _ rfl rfl (by kernel_rfl) (by kernel_rfl) (by kernel_rfl) (fun _ _ _ h => h) (by rfl) ?_ (by assumption) ?_
          rotate_left
          · (intro w hSw; (try dsimp only at hSw); go_simp) <;> with_reducible rfl
          try simp only [Act.put, List.setIfInBounds_toArray, List.set_cons_zero, List.set_cons_succ]
          refine takeD (i := 4) (d := some 20) (v := ?_) _ rfl rfl (by kernel_rfl) (by kernel_rfl) (by kernel_rfl) (fun _ _ _ h => h) (by rfl) ?_ (by assumption) ?_
          rotate_left
          · (intro w hSw; (try dsimp only at hSw); go_simp) <;> with_reducible rfl
          try simp only [Act.put, List.setIfInBounds_toArray, List.set_cons_zero, List.set_cons_succ]
          refine takeD (i := 5) (d := some 21) (v := ?_) _ rfl rfl (by kernel_rfl) (by kernel_rfl) (by kernel_rfl) (fun _ _ _ h => h) (by rfl) ?_ (by assumption) ?_
          rotate_left
          · (intro w hSw; (try dsimp only at hSw); go_simp) <;> with_reducible rfl
          try simp only [Act.put, List.setIfInBounds_toArray, List.set_cons_zero, List.set_cons_succ]
          refine takeD (i := 6) (d := some 22) (v := ?_) _ rfl rfl (by kernel_rfl) (by kernel_rfl) (by kernel_rfl) (fun _ _ _ h => h) (by rfl) ?_ (by assumption) ?_
          rotate_left
          · (intro w hSw; (try dsimp only at hSw); go_simp) <;> with_reducible rfl
          try simp only [Act.put, List.setIfInBounds_toArray, List.set_cons_zero, List.set_cons_succ]
          refine takeD (i := 7) (d := some 23) (v := ?_) _ rfl rfl (by kernel_rfl) (by kernel_rfl) (by kernel_rfl) (fun _ _ _ h => h) (by rfl) ?_ (by assumption) ?_
          rotate_left
          · (intro w hSw; (try dsimp only at hSw); go_simp) <;> with_reducible rfl
          try simp only [Act.put, List.setIfInBounds_toArray, List.set_cons_zero, List.set_cons_succ]
          refine takeD (i := 8) (d := some 24) (v := ?_) _ rfl rfl (by kernel_rfl) (by kernel_rfl) (by kernel_rfl) (fun _ _ _ h => h) (by rfl) ?_ (by assumption) ?_
          rotate_left
          · (intro w hSw; (try dsimp only at hSw); go_simp) <;> with_reducible rfl
          try simp only [Act.put, List.setIfInBounds_toArray, List.set_cons_zero, List.set_cons_succ]
          refine wpAnyH_done (by kernel_rfl) ?_ _
          have HB1 := Lib.hid hHeld.1
          clear hHeld d0 e0
          go_wp2_with fail
          go_roundw
          case rel =>
            have Q : EqRel n a b w (.int .i64 ((k : Int) + 1)) wr.drew := EqRel.next HX.out HA.out HE.out HB1.out
            first | exact Q | ((repeat apply Exists.intro); exact ⟨Q, rfl⟩)
          case measure => have := HX.out; simp [intOf]; omega
        · have HF : Hid (t = false) := by
            unfold Hid
            rw [← HT.out, decide_eq_false_iff_not]
            intro hab
            rw [hab, HYS.out] at HXS
            have := HXS.out
            injection this with this
            exact hxy this.symm
          have hxb : (x == y) = false := by simpa using hxy
          have hxc : (x != y) = true := by simpa using hxy
          go_wp2_with fail
          refine wp_region_held_drew (S := (fun w' => Below w.heap.size w w' ∧ w'.cell? ⟨q, off + k, none⟩ = some (.int .u32 x) ∧ w'.cell? ⟨q', off' + k, none⟩ = some (.int .u32 y))) (by kernel_rfl) ?_ (fun hHeld => ?_)
          · exact ⟨below_drewN HB.out 1, d0, e0⟩
          refine takeD (i := 0) (d := some 16) (v := ?_) _ rfl rfl (by kernel_rfl) (by kernel_rfl) (by kernel_rfl) (fun _ _ _ h => h) (by rfl) ?_ (by assumption) ?_
          rotate_left
          · (intro w hSw; (try dsimp only at hSw); go_simp) <;> with_reducible rfl
          try simp only [Act.put, List.setIfInBounds_toArray, List.set_cons_zero, List.set_cons_succ]
          refine takeD (i := 1) (d := some 17) (v := ?_) _ rfl rfl (by kernel_rfl) (by kernel_rfl) (by kernel_rfl) (fun _ _ _ h => h) (by rfl) ?_ (by assumption) ?_
          rotate_left
          · (intro w hSw; (try dsimp only at hSw); go_simp) <;> with_reducible rfl
          try simp only [Act.put, List.setIfInBounds_toArray, List.set_cons_zero, List.set_cons_succ]
          refine takeD (i := 2) (d := some 18) (v := ?_) _ rfl rfl (by kernel_rfl) (by kernel_rfl) (by kernel_rfl) (fun _ _ _ h => h) (by rfl) ?_ (by assumption) ?_
          rotate_left
          · (intro w hSw; (try dsimp only at hSw); go_simp) <;> with_reducible rfl
          try simp only [Act.put, List.setIfInBounds_toArray, List.set_cons_zero, List.set_cons_succ]
          refine takeD (i := 3) (d := some 19) (v := ?_) _ rfl rfl (by kernel_rfl) (by kernel_rfl) (by kernel_rfl) (fun _ _ _ h => h) (by rfl) ?_ (by assumption) ?_
          rotate_left
          · (intro w hSw; (try dsimp only at hSw); go_simp) <;> with_reducible rfl
          try simp only [Act.put, List.setIfInBounds_toArray, List.set_cons_zero, List.set_cons_succ]
          refine takeD (i := 4) (d := some 20) (v := ?_) _ rfl rfl (by kernel_rfl) (by kernel_rfl) (by kernel_rfl) (fun _ _ _ h => h) (by rfl) ?_ (by assumption) ?_
          rotate_left
          · (intro w hSw; (try dsimp only at hSw); go_simp) <;> with_reducible rfl
          try simp only [Act.put, List.setIfInBounds_toArray, List.set_cons_zero, List.set_cons_succ]
          refine takeD (i := 5) (d := some 21) (v := ?_) _ rfl rfl (by kernel_rfl) (by kernel_rfl) (by kernel_rfl) (fun _ _ _ h => h) (by rfl) ?_ (by assumption) ?_
          rotate_left
          · (intro w hSw; (try dsimp only at hSw); go_simp) <;> with_reducible rfl
          try simp only [Act.put, List.setIfInBounds_toArray, List.set_cons_zero, List.set_cons_succ]
          refine takeD (i := 6) (d := some 22) (v := ?_) _ rfl rfl (by kernel_rfl) (by kernel_rfl) (by kernel_rfl) (fun _ _ _ h => h) (by rfl) ?_ (by assumption) ?_
          rotate_left
          · (intro w hSw; (try dsimp only at hSw); go_simp) <;> with_reducible rfl
          try simp only [Act.put, List.setIfInBounds_toArray, List.set_cons_zero, List.set_cons_succ]
          refine takeD (i := 7) (d := some 23) (v := ?_) _ rfl rfl (by kernel_rfl) (by kernel_rfl) (by kernel_rfl) (fun _ _ _ h => h) (by rfl) ?_ (by assumption) ?_
          rotate_left
          · (intro w hSw; (try dsimp only at hSw); go_simp) <;> with_reducible rfl
          try simp only [Act.put, List.setIfInBounds_toArray, List.set_cons_zero, List.set_cons_succ]
          refine takeD (i := 8) (d := some 24) (v := ?_) _ rfl rfl (by kernel_rfl) (by kernel_rfl) (by kernel_rfl) (fun _ _ _ h => h) (by rfl) ?_ (by assumption) ?_
          rotate_left
          · (intro w hSw; (try dsimp only at hSw); go_simp) <;> with_reducible rfl
          try simp only [Act.put, List.setIfInBounds_toArray, List.set_cons_zero, List.set_cons_succ]
          refine wpAnyH_done (by kernel_rfl) ?_ _
          have HB1 := Lib.hid hHeld.1
          clear hHeld d0 e0
          go_wp2_with fail
          go_ret
          exact ⟨by rw [HF.out]; rfl, HB1.out⟩
      · have hkn : k = n := by have := HK.out; omega
        subst hkn
        have HF : Hid (t = true) := by
          unfold Hid
          rw [← HT.out, decide_eq_true_eq]
          exact eq_of_all HN.out HN'.out HA.out
        clear hlt
        go_wp2_with fail
        go_ret
        exact ⟨by rw [HF.out]; rfl, HB.out⟩
  · have HF : Hid (t = false) := by
      unfold Hid
      rw [← HT.out, decide_eq_false_iff_not]
      intro hab
      exact hnm (by rw [← HN.out, ← HN'.out, hab])
    have hnmB : ((n : Int) == (m : Int)) = false := by rw [beq_eq_false_iff_ne]; omega
    have hnmC : ((n : Int) != (m : Int)) = true := by rw [bne_iff_ne]; omega
    go_enter Try.func39, Try.ntmps39
    go_wp2_with fail
    go_ret
    exact ⟨by rw [HF.out]; rfl, Below.refl _ _⟩
set_option maxRecDepth 100000 in
set_option maxHeartbeats 4000000 in
theorem rsame_any (g g' : Nat) (v v' : Value) (a b : List Int) (w : World) (h : St g w 1 v a.length (CU a)) (h' : St g' w 1 v' b.length (CU b)) (hm : a.length ≤ 5000) :
    Calls Try.prog 16 #[v, v'] w fun e w' => e = .returned (.bool (decide (a = b))) ∧ Below w.heap.size w w' := by
  obtain ⟨A, c, rfl⟩ := h.form
  obtain ⟨A', c', rfl⟩ := h'.form
  obtain ⟨n, hn⟩ : ∃ n, a.length = n := ⟨_, rfl⟩
  obtain ⟨m, hn'⟩ : ∃ m, b.length = m := ⟨_, rfl⟩
  obtain ⟨t, ht⟩ : ∃ t, decide (a = b) = t := ⟨_, rfl⟩
  rw [hn] at h hm ⊢
  rw [hn'] at h' ⊢
  rw [ht]
  have HN := Lib.hid hn
  have HN' := Lib.hid hn'
  have HT := Lib.hid ht
  have H := Lib.hid h
  have H' := Lib.hid h'
  clear hn hn' h h' ht
  by_cases hnm : n = m
  · subst hnm
    go_enter Try.func16, Try.ntmps16
    go_wp2_with fail
    go_loopw [5] (fun v wr => EqRel n a b w v wr) (fun v => fun _ => n - (intOf v).toNat)
    case atStart => exact ⟨⟨0, Nat.zero_le _, rfl, fun j hj => by omega, Below.refl _ _⟩⟩
    case round =>
      obtain ⟨⟨k, hk, rfl, hall, hb⟩⟩ := hrel
      have HK := Lib.hid hk
      have HA := Lib.hid hall
      have HB := Lib.hid hb
      clear hk hall hb
      by_cases hlt : k < n
      · have hkI : (k : Int) < (n : Int) := by omega
        have HX : Hid (k < n) := hlt
        obtain ⟨_, q, off, rfl, hbl, hg, hc⟩ := H.out.at_ hlt
        obtain ⟨_, q', off', rfl, hbl', hg', hc'⟩ := H'.out.at_ hlt
        obtain ⟨x, hx⟩ : ∃ x, a[k]? = some x := ⟨_, List.getElem?_eq_getElem (by have := HN.out; omega)⟩
        obtain ⟨y, hy⟩ : ∃ y, b[k]? = some y := ⟨_, List.getElem?_eq_getElem (by have := HN'.out; omega)⟩
        have HXS := Lib.hid hx
        have HYS := Lib.hid hy
        have d0 : wr.cell? ⟨q, off + k, none⟩ = some (.int .u32 x) := cell_later HB.out (hc k _ (CU_at hx))
        have e0 : wr.cell? ⟨q', off' + k, none⟩ = some (.int .u32 y) := cell_later HB.out (hc' k _ (CU_at hy))
        clear hc hc' hbl hbl' hg hg' hx hy hlt
        by_cases hxy : x = y
        · subst hxy
          have HE : Hid (a[k]? = b[k]?) := HXS.out.trans HYS.out.symm
          go_wp2_with fail
          refine wp_region_held_drew (S := (fun w' => Below w.heap.size w w' ∧ w'.cell? ⟨q, off + k, none⟩ = some (.int .u32 x) ∧ w'.cell? ⟨q', off' + k, none⟩ = some (.int .u32 x))) (by kernel_rfl) ?_ (fun hHeld => ?_)
          · exact ⟨below_drewN HB.out 1, d0, e0⟩
          refine takeD (i := 0) (d := some 17) (v := ?_) _ rfl rfl (by kernel_rfl) (by kernel_rfl) (by kernel_rfl) (fun _ _ _ h => h) (by rfl) ?_ (by assumption) ?_
          rotate_left
          · (intro w hSw; (try dsimp only at hSw); go_simp) <;> with_reducible rfl
          try simp only [Act.put, List.setIfInBounds_toArray, List.set_cons_zero, List.set_cons_succ]
          refine takeD (i := 1) (d := some 18) (v := ?_) _ rfl rfl (by kernel_rfl) (by kernel_rfl) (by kernel_rfl) (fun _ _ _ h => h) (by rfl) ?_ (by assumption) ?_
          rotate_left
          · (intro w hSw; (try dsimp only at hSw); go_simp) <;> with_reducible rfl
          try simp only [Act.put, List.setIfInBounds_toArray, List.set_cons_zero, List.set_cons_succ]
          refine takeD (i := 2) (d := some 19) (v := ?_) _ rfl rfl (by kernel_rfl) (by kernel_rfl) (by kernel_rfl) (fun _ _ _ h => h) (by rfl) ?_ (by assumption) ?_
          rotate_left
          · (intro w hSw; (try dsimp only at hSw); go_simp) <;> with_reducible rfl
          try simp only [Act.put, List.setIfInBounds_toArray, List.set_cons_zero, List.set_cons_succ]
          refine takeD (i := 3) (d := some 20) (v := ?_) _ rfl rfl (by kernel_rfl) (by kernel_rfl) (by kernel_rfl) (fun _ _ _ h => h) (by rfl) ?_ (by assumption) ?_
          rotate_left
          · (intro w hSw; (try dsimp only at hSw); go_simp) <;> with_reducible rfl
          try simp only [Act.put, List.setIfInBounds_toArray, List.set_cons_zero, List.set_cons_succ]
          refine takeD (i := 4) (d := some 21) (v := ?_) _ rfl rfl (by kernel_rfl) (by kernel_rfl) (by kernel_rfl) (fun _ _ _ h => h) (by rfl) ?_ (by assumption) ?_
          rotate_left
          · (intro w hSw; (try dsimp only at hSw); go_simp) <;> with_reducible rfl
          try simp only [Act.put, List.setIfInBounds_toArray, List.set_cons_zero, List.set_cons_succ]
          refine takeD (i := 5) (d := some 22) (v := ?_) _ rfl rfl (by kernel_rfl) (by kernel_rfl) (by kernel_rfl) (fun _ _ _ h => h) (by rfl) ?_ (by assumption) ?_
          rotate_left
          · (intro w hSw; (try dsimp only at hSw); go_simp) <;> with_reducible rfl
          try simp only [Act.put, List.setIfInBounds_toArray, List.set_cons_zero, List.set_cons_succ]
          refine takeD (i := 6) (d := some 23) (v := ?_) _ rfl rfl (by kernel_rfl) (by kernel_rfl) (by kernel_rfl) (fun _ _ _ h => h) (by rfl) ?_ (by assumption) ?_
          rotate_left
          · (intro w hSw; (try dsimp only at hSw); go_simp) <;> with_reducible rfl
          try simp only [Act.put, List.setIfInBounds_toArray, List.set_cons_zero, List.set_cons_succ]
          refine takeD (i := 7) (d := some 24) (v := ?_) _ rfl rfl (by kernel_rfl) (by kernel_rfl) (by kernel_rfl) (fun _ _ _ h => h) (by rfl) ?_ (by assumption) ?_
          rotate_left
          · (intro w hSw; (try dsimp only at hSw); go_simp) <;> with_reducible rfl
          try simp only [Act.put, List.setIfInBounds_toArray, List.set_cons_zero, List.set_cons_succ]
          refine takeD (i := 8) (d := some 25) (v := ?_) _ rfl rfl (by kernel_rfl) (by kernel_rfl) (by kernel_rfl) (fun _ _ _ h => h) (by rfl) ?_ (by assumption) ?_
          rotate_left
          · (intro w hSw; (try dsimp only at hSw); go_simp) <;> with_reducible rfl
          try simp only [Act.put, List.setIfInBounds_toArray, List.set_cons_zero, List.set_cons_succ]
          refine wpAnyH_done (by kernel_rfl) ?_ _
          have HB1 := Lib.hid hHeld.1
          clear hHeld d0 e0
          go_wp2_with fail
          go_roundw
          case rel =>
            have Q : EqRel n a b w (.int .i64 ((k : Int) + 1)) wr.drew := EqRel.next HX.out HA.out HE.out HB1.out
            first | exact Q | ((repeat apply Exists.intro); exact ⟨Q, rfl⟩)
          case measure => have := HX.out; simp [intOf]; omega
        · have HF : Hid (t = false) := by
            unfold Hid
            rw [← HT.out, decide_eq_false_iff_not]
            intro hab
            rw [hab, HYS.out] at HXS
            have := HXS.out
            injection this with this
            exact hxy this.symm
          have hxb : (x == y) = false := by simpa using hxy
          have hxc : (x != y) = true := by simpa using hxy
          go_wp2_with fail
          refine wp_region_held_drew (S := (fun w' => Below w.heap.size w w' ∧ w'.cell? ⟨q, off + k, none⟩ = some (.int .u32 x) ∧ w'.cell? ⟨q', off' + k, none⟩ = some (.int .u32 y))) (by kernel_rfl) ?_ (fun hHeld => ?_)
          · exact ⟨below_drewN HB.out 1, d0, e0⟩
          refine takeD (i := 0) (d := some 17) (v := ?_) _ rfl rfl (by kernel_rfl) (by kernel_rfl) (by kernel_rfl) (fun _ _ _ h => h) (by rfl) ?_ (by assumption) ?_
          rotate_left
          · (intro w hSw; (try dsimp only at hSw); go_simp) <;> with_reducible rfl
          try simp only [Act.put, List.setIfInBounds_toArray, List.set_cons_zero, List.set_cons_succ]
          refine takeD (i := 1) (d := some 18) (v := ?_) _ rfl rfl (by kernel_rfl) (by kernel_rfl) (by kernel_rfl) (fun _ _ _ h => h) (by rfl) ?_ (by assumption) ?_
          rotate_left
          · (intro w hSw; (try dsimp only at hSw); go_simp) <;> with_reducible rfl
          try simp only [Act.put, List.setIfInBounds_toArray, List.set_cons_zero, List.set_cons_succ]
          refine takeD (i := 2) (d := some 19) (v := ?_) _ rfl rfl (by kernel_rfl) (by kernel_rfl) (by kernel_rfl) (fun _ _ _ h => h) (by rfl) ?_ (by assumption) ?_
          rotate_left
          · (intro w hSw; (try dsimp only at hSw); go_simp) <;> with_reducible rfl
          try simp only [Act.put, List.setIfInBounds_toArray, List.set_cons_zero, List.set_cons_succ]
          refine takeD (i := 3) (d := some 20) (v := ?_) _ rfl rfl (by kernel_rfl) (by kernel_rfl) (by kernel_rfl) (fun _ _ _ h => h) (by rfl) ?_ (by assumption) ?_
          rotate_left
          · (intro w hSw; (try dsimp only at hSw); go_simp) <;> with_reducible rfl
          try simp only [Act.put, List.setIfInBounds_toArray, List.set_cons_zero, List.set_cons_succ]
          refine takeD (i := 4) (d := some 21) (v := ?_) _ rfl rfl (by kernel_rfl) (by kernel_rfl) (by kernel_rfl) (fun _ _ _ h => h) (by rfl) ?_ (by assumption) ?_
          rotate_left
          · (intro w hSw; (try dsimp only at hSw); go_simp) <;> with_reducible rfl
          try simp only [Act.put, List.setIfInBounds_toArray, List.set_cons_zero, List.set_cons_succ]
          refine takeD (i := 5) (d := some 22) (v := ?_) _ rfl rfl (by kernel_rfl) (by kernel_rfl) (by kernel_rfl) (fun _ _ _ h => h) (by rfl) ?_ (by assumption) ?_
          rotate_left
          · (intro w hSw; (try dsimp only at hSw); go_simp) <;> with_reducible rfl
          try simp only [Act.put, List.setIfInBounds_toArray, List.set_cons_zero, List.set_cons_succ]
          refine takeD (i := 6) (d := some 23) (v := ?_) _ rfl rfl (by kernel_rfl) (by kernel_rfl) (by kernel_rfl) (fun _ _ _ h => h) (by rfl) ?_ (by assumption) ?_
          rotate_left
          · (intro w hSw; (try dsimp only at hSw); go_simp) <;> with_reducible rfl
          try simp only [Act.put, List.setIfInBounds_toArray, List.set_cons_zero, List.set_cons_succ]
          refine takeD (i := 7) (d := some 24) (v := ?_) _ rfl rfl (by kernel_rfl) (by kernel_rfl) (by kernel_rfl) (fun _ _ _ h => h) (by rfl) ?_ (by assumption) ?_
          rotate_left
          · (intro w hSw; (try dsimp only at hSw); go_simp) <;> with_reducible rfl
          try simp only [Act.put, List.setIfInBounds_toArray, List.set_cons_zero, List.set_cons_succ]
          refine takeD (i := 8) (d := some 25) (v := ?_) _ rfl rfl (by kernel_rfl) (by kernel_rfl) (by kernel_rfl) (fun _ _ _ h => h) (by rfl) ?_ (by assumption) ?_
          rotate_left
          · (intro w hSw; (try dsimp only at hSw); go_simp) <;> with_reducible rfl
          try simp only [Act.put, List.setIfInBounds_toArray, List.set_cons_zero, List.set_cons_succ]
          refine wpAnyH_done (by kernel_rfl) ?_ _
          have HB1 := Lib.hid hHeld.1
          clear hHeld d0 e0
          go_wp2_with fail
          go_ret
          exact ⟨by rw [HF.out]; rfl, HB1.out⟩
      · have hkn : k = n := by have := HK.out; omega
        subst hkn
        have HF : Hid (t = true) := by
          unfold Hid
          rw [← HT.out, decide_eq_true_eq]
          exact eq_of_all HN.out HN'.out HA.out
        clear hlt
        go_wp2_with fail
        go_ret
        exact ⟨by rw [HF.out]; rfl, HB.out⟩
  · have HF : Hid (t = false) := by
      unfold Hid
      rw [← HT.out, decide_eq_false_iff_not]
      intro hab
      exact hnm (by rw [← HN.out, ← HN'.out, hab])
    have hnmB : ((n : Int) == (m : Int)) = false := by rw [beq_eq_false_iff_ne]; omega
    have hnmC : ((n : Int) != (m : Int)) = true := by rw [bne_iff_ne]; omega
    go_enter Try.func16, Try.ntmps16
    go_wp2_with fail
    go_ret
    exact ⟨by rw [HF.out]; rfl, Below.refl _ _⟩
set_option maxRecDepth 100000 in
set_option maxHeartbeats 4000000 in
theorem aequal_same (g g' : Nat) (v v' : Value) (a : List MA) (w : World) (h : St g w 5 v a.length (CA a)) (h' : St g' w 5 v' a.length (CA a)) (hm : a.length ≤ 5000) :
    Calls Try.prog 38 #[v, v'] w fun e w' => e = .returned (.bool true) ∧ Below w.heap.size w w' := by
  obtain ⟨A, c, rfl⟩ := h.form
  obtain ⟨A', c', rfl⟩ := h'.form
  obtain ⟨n, hn⟩ : ∃ n, a.length = n := ⟨_, rfl⟩
  rw [hn] at h hm h' ⊢
  have HN := Lib.hid hn
  have H := Lib.hid h
  have H' := Lib.hid h'
  clear hn h h'
  go_enter Try.func38, Try.ntmps38
  go_wp2_with fail
  go_loopw [13] (fun v wr => EqRel n a a w v wr) (fun v => fun _ => n - (intOf v).toNat)
  case atStart => exact ⟨⟨0, Nat.zero_le _, rfl, fun j hj => by omega, Below.refl _ _⟩⟩
  case round =>
    obtain ⟨⟨k, hk, rfl, hall, hb⟩⟩ := hrel
    have HK := Lib.hid hk
    have HB := Lib.hid hb
    clear hk hall hb
    by_cases hlt : k < n
    · have hkI : (k : Int) < (n : Int) := by omega
      have HX : Hid (k < n) := hlt
      obtain ⟨_, q, off, rfl, hbl, hg, hc⟩ := H.out.at_ hlt
      obtain ⟨_, q', off', rfl, hbl', hg', hc'⟩ := H'.out.at_ hlt
      obtain ⟨⟨xf, xw, xx, xr, xk⟩, hx⟩ : ∃ x, a[k]? = some x := ⟨_, List.getElem?_eq_getElem (by have := HN.out; omega)⟩
      have hca := CA_at hx
      have d0 : wr.cell? ⟨q, off + k * 5, none⟩ = some (.int .i64 xf) := by have := hc _ _ (hca 0 _ rfl); exact cell_later HB.out (by simpa [Nat.add_assoc] using this)
      have e0 : wr.cell? ⟨q', off' + k * 5, none⟩ = some (.int .i64 xf) := by have := hc' _ _ (hca 0 _ rfl); exact cell_later HB.out (by simpa [Nat.add_assoc] using this)
      have d1 : wr.cell? ⟨q, off + k * 5 + 1, none⟩ = some (.int .i64 xw) := by have := hc _ _ (hca 1 _ rfl); exact cell_later HB.out (by simpa [Nat.add_assoc] using this)
      have e1 : wr.cell? ⟨q', off' + k * 5 + 1, none⟩ = some (.int .i64 xw) := by have := hc' _ _ (hca 1 _ rfl); exact cell_later HB.out (by simpa [Nat.add_assoc] using this)
      have d2 : wr.cell? ⟨q, off + k * 5 + 2, none⟩ = some (.bool xx) := by have := hc _ _ (hca 2 _ rfl); exact cell_later HB.out (by simpa [Nat.add_assoc] using this)
      have e2 : wr.cell? ⟨q', off' + k * 5 + 2, none⟩ = some (.bool xx) := by have := hc' _ _ (hca 2 _ rfl); exact cell_later HB.out (by simpa [Nat.add_assoc] using this)
      have d3 : wr.cell? ⟨q, off + k * 5 + 3, none⟩ = some (.bool xr) := by have := hc _ _ (hca 3 _ rfl); exact cell_later HB.out (by simpa [Nat.add_assoc] using this)
      have e3 : wr.cell? ⟨q', off' + k * 5 + 3, none⟩ = some (.bool xr) := by have := hc' _ _ (hca 3 _ rfl); exact cell_later HB.out (by simpa [Nat.add_assoc] using this)
      have d4 : wr.cell? ⟨q, off + k * 5 + 4, none⟩ = some (.bool xk) := by have := hc _ _ (hca 4 _ rfl); exact cell_later HB.out (by simpa [Nat.add_assoc] using this)
      have e4 : wr.cell? ⟨q', off' + k * 5 + 4, none⟩ = some (.bool xk) := by have := hc' _ _ (hca 4 _ rfl); exact cell_later HB.out (by simpa [Nat.add_assoc] using this)
      clear hc hc' hca hbl hbl' hg hg' hx hlt
      go_wp2_with fail
      refine wp_region_held_drew (S := (fun w' => Below w.heap.size w w' ∧ w'.cell? ⟨q, off + k * 5, none⟩ = some (.int .i64 xf) ∧ w'.cell? ⟨q', off' + k * 5, none⟩ = some (.int .i64 xf) ∧ w'.cell? ⟨q, off + k * 5 + 1, none⟩ = some (.int .i64 xw) ∧ w'.cell? ⟨q', off' + k * 5 + 1, none⟩ = some (.int .i64 xw) ∧ w'.cell? ⟨q, off + k * 5 + 2, none⟩ = some (.bool xx) ∧ w'.cell? ⟨q', off' + k * 5 + 2, none⟩ = some (.bool xx) ∧ w'.cell? ⟨q, off + k * 5 + 3, none⟩ = some (.bool xr) ∧ w'.cell? ⟨q', off' + k * 5 + 3, none⟩ = some (.bool xr) ∧ w'.cell? ⟨q, off + k * 5 + 4, none⟩ = some (.bool xk) ∧ w'.cell? ⟨q', off' + k * 5 + 4, none⟩ = some (.bool xk))) (by kernel_rfl) ?_ (fun hHeld => ?_)
      · exact ⟨below_drewN HB.out 1, d0, e0, d1, e1, d2, e2, d3, e3, d4, e4⟩
      refine takeD (i := 0) (d := some 16) (v := ?_) _ rfl rfl (by kernel_rfl) (by kernel_rfl) (by kernel_rfl) (fun _ _ _ h => h) (by rfl) ?_ (by assumption) ?_
      rotate_left
      · (intro w hSw; (try dsimp only at hSw); go_simp) <;> with_reducible rfl
      try simp only [Act.put, List.setIfInBounds_toArray, List.set_cons_zero, List.set_cons_succ]
      refine takeD (i := 1) (d := some 17) (v := ?_) _ rfl rfl (by kernel_rfl) (by kernel_rfl) (by kernel_rfl) (fun _ _ _ h => h) (by rfl) ?_ (by assumption) ?_
      rotate_left
      · (intro w hSw; (try dsimp only at hSw); go_simp) <;> with_reducible rfl
      try simp only [Act.put, List.setIfInBounds_toArray, List.set_cons_zero, List.set_cons_succ]
      refine takeD (i := 2) (d := some 18) (v := ?_) _ rfl rfl (by kernel_rfl) (by kernel_rfl) (by kernel_rfl) (fun _ _ _ h => h) (by rfl) ?_ (by assumption) ?_
      rotate_left
      · (intro w hSw; (try dsimp only at hSw); go_simp) <;> with_reducible rfl
      try simp only [Act.put, List.setIfInBounds_toArray, List.set_cons_zero, List.set_cons_succ]
      refine takeD (i := 3) (d := some 19) (v := ?_) _ rfl rfl (by kernel_rfl) (by kernel_rfl) (by kernel_rfl) (fun _ _ _ h => h) (by rfl) ?_ (by assumption) ?_
      rotate_left
      · (intro w hSw; (try dsimp only at hSw); go_simp) <;> with_reducible rfl
      try simp only [Act.put, List.setIfInBounds_toArray, List.set_cons_zero, List.set_cons_succ]
      refine takeD (i := 4) (d := some 20) (v := ?_) _ rfl rfl (by kernel_rfl) (by kernel_rfl) (by kernel_rfl) (fun _ _ _ h => h) (by rfl) ?_ (by assumption) ?_
      rotate_left
      · (intro w hSw; (try dsimp only at hSw); go_simp) <;> with_reducible rfl
      try simp only [Act.put, List.setIfInBounds_toArray, List.set_cons_zero, List.set_cons_succ]
      refine takeD (i := 5) (d := some 21) (v := ?_) _ rfl rfl (by kernel_rfl) (by kernel_rfl) (by kernel_rfl) (fun _ _ _ h => h) (by rfl) ?_ (by assumption) ?_
      rotate_left
      · (intro w hSw; (try dsimp only at hSw); go_simp) <;> with_reducible rfl
      try simp only [Act.put, List.setIfInBounds_toArray, List.set_cons_zero, List.set_cons_succ]
      refine takeD (i := 6) (d := some 22) (v := ?_) _ rfl rfl (by kernel_rfl) (by kernel_rfl) (by kernel_rfl) (fun _ _ _ h => h) (by rfl) ?_ (by assumption) ?_
      rotate_left
      · (intro w hSw; (try dsimp only at hSw); go_simp) <;> with_reducible rfl
      try simp only [Act.put, List.setIfInBounds_toArray, List.set_cons_zero, List.set_cons_succ]
      refine takeD (i := 7) (d := some 23) (v := ?_) _ rfl rfl (by kernel_rfl) (by kernel_rfl) (by kernel_rfl) (fun _ _ _ h => h) (by rfl) ?_ (by assumption) ?_
      rotate_left
      · (intro w hSw; (try dsimp only at hSw); go_simp) <;> with_reducible rfl
      try simp only [Act.put, List.setIfInBounds_toArray, List.set_cons_zero, List.set_cons_succ]
      refine takeD (i := 8) (d := some 24) (v := ?_) _ rfl rfl (by kernel_rfl) (by kernel_rfl) (by kernel_rfl) (fun _ _ _ h => h) (by rfl) ?_ (by assumption) ?_
      rotate_left
      · (intro w hSw; (try dsimp only at hSw); go_simp) <;> with_reducible rfl
      try simp only [Act.put, List.setIfInBounds_toArray, List.set_cons_zero, List.set_cons_succ]
      refine wpAnyH_done (by kernel_rfl) ?_ _
      have HB1 := Lib.hid hHeld.1
      clear hHeld d0 e0 d1 e1 d2 e2 d3 e3 d4 e4
      go_wp2_with fail
      go_roundw
      case rel =>
        have Q : EqRel n a a w (.int .i64 ((k : Int) + 1)) wr.drew := EqRel.next HX.out (fun _ _ => rfl) rfl HB1.out
        first | exact Q | ((repeat apply Exists.intro); exact ⟨Q, rfl⟩)
      case measure => have := HX.out; simp [intOf]; omega
    · have hkn : k = n := by have := HK.out; omega
      subst hkn
      clear hlt
      go_wp2_with fail
      go_ret
      exact ⟨rfl, HB.out⟩
set_option maxRecDepth 100000 in
set_option maxHeartbeats 4000000 in
theorem rsameA_same (g g' : Nat) (v v' : Value) (a : List MA) (w : World) (h : St g w 5 v a.length (CA a)) (h' : St g' w 5 v' a.length (CA a)) (hm : a.length ≤ 5000) :
    Calls Try.prog 13 #[v, v'] w fun e w' => e = .returned (.bool true) ∧ Below w.heap.size w w' := by
  obtain ⟨A, c, rfl⟩ := h.form
  obtain ⟨A', c', rfl⟩ := h'.form
  obtain ⟨n, hn⟩ : ∃ n, a.length = n := ⟨_, rfl⟩
  rw [hn] at h hm h' ⊢
  have HN := Lib.hid hn
  have H := Lib.hid h
  have H' := Lib.hid h'
  clear hn h h'
  go_enter Try.func13, Try.ntmps13
  go_wp2_with fail
  go_loopw [5] (fun v wr => EqRel n a a w v wr) (fun v => fun _ => n - (intOf v).toNat)
  case atStart => exact ⟨⟨0, Nat.zero_le _, rfl, fun j hj => by omega, Below.refl _ _⟩⟩
  case round =>
    obtain ⟨⟨k, hk, rfl, hall, hb⟩⟩ := hrel
    have HK := Lib.hid hk
    have HB := Lib.hid hb
    clear hk hall hb
    by_cases hlt : k < n
    · have hkI : (k : Int) < (n : Int) := by omega
      have HX : Hid (k < n) := hlt
      obtain ⟨_, q, off, rfl, hbl, hg, hc⟩ := H.out.at_ hlt
      obtain ⟨_, q', off', rfl, hbl', hg', hc'⟩ := H'.out.at_ hlt
      obtain ⟨⟨xf, xw, xx, xr, xk⟩, hx⟩ : ∃ x, a[k]? = some x := ⟨_, List.getElem?_eq_getElem (by have := HN.out; omega)⟩
      have hca := CA_at hx
      have d0 : wr.cell? ⟨q, off + k * 5, none⟩ = some (.int .i64 xf) := by have := hc _ _ (hca 0 _ rfl); exact cell_later HB.out (by simpa [Nat.add_assoc] using this)
      have e0 : wr.cell? ⟨q', off' + k * 5, none⟩ = some (.int .i64 xf) := by have := hc' _ _ (hca 0 _ rfl); exact cell_later HB.out (by simpa [Nat.add_assoc] using this)
      have d1 : wr.cell? ⟨q, off + k * 5 + 1, none⟩ = some (.int .i64 xw) := by have := hc _ _ (hca 1 _ rfl); exact cell_later HB.out (by simpa [Nat.add_assoc] using this)
      have e1 : wr.cell? ⟨q', off' + k * 5 + 1, none⟩ = some (.int .i64 xw) := by have := hc' _ _ (hca 1 _ rfl); exact cell_later HB.out (by simpa [Nat.add_assoc] using this)
      have d2 : wr.cell? ⟨q, off + k * 5 + 2, none⟩ = some (.bool xx) := by have := hc _ _ (hca 2 _ rfl); exact cell_later HB.out (by simpa [Nat.add_assoc] using this)
      have e2 : wr.cell? ⟨q', off' + k * 5 + 2, none⟩ = some (.bool xx) := by have := hc' _ _ (hca 2 _ rfl); exact cell_later HB.out (by simpa [Nat.add_assoc] using this)
      have d3 : wr.cell? ⟨q, off + k * 5 + 3, none⟩ = some (.bool xr) := by have := hc _ _ (hca 3 _ rfl); exact cell_later HB.out (by simpa [Nat.add_assoc] using this)
      have e3 : wr.cell? ⟨q', off' + k * 5 + 3, none⟩ = some (.bool xr) := by have := hc' _ _ (hca 3 _ rfl); exact cell_later HB.out (by simpa [Nat.add_assoc] using this)
      have d4 : wr.cell? ⟨q, off + k * 5 + 4, none⟩ = some (.bool xk) := by have := hc _ _ (hca 4 _ rfl); exact cell_later HB.out (by simpa [Nat.add_assoc] using this)
      have e4 : wr.cell? ⟨q', off' + k * 5 + 4, none⟩ = some (.bool xk) := by have := hc' _ _ (hca 4 _ rfl); exact cell_later HB.out (by simpa [Nat.add_assoc] using this)
      clear hc hc' hca hbl hbl' hg hg' hx hlt
      go_wp2_with fail
      refine wp_region_held_drew (S := (fun w' => Below w.heap.size w w' ∧ w'.cell? ⟨q, off + k * 5, none⟩ = some (.int .i64 xf) ∧ w'.cell? ⟨q', off' + k * 5, none⟩ = some (.int .i64 xf) ∧ w'.cell? ⟨q, off + k * 5 + 1, none⟩ = some (.int .i64 xw) ∧ w'.cell? ⟨q', off' + k * 5 + 1, none⟩ = some (.int .i64 xw) ∧ w'.cell? ⟨q, off + k * 5 + 2, none⟩ = some (.bool xx) ∧ w'.cell? ⟨q', off' + k * 5 + 2, none⟩ = some (.bool xx) ∧ w'.cell? ⟨q, off + k * 5 + 3, none⟩ = some (.bool xr) ∧ w'.cell? ⟨q', off' + k * 5 + 3, none⟩ = some (.bool xr) ∧ w'.cell? ⟨q, off + k * 5 + 4, none⟩ = some (.bool xk) ∧ w'.cell? ⟨q', off' + k * 5 + 4, none⟩ = some (.bool xk))) (by kernel_rfl) ?_ (fun hHeld => ?_)
      · exact ⟨below_drewN HB.out 1, d0, e0, d1, e1, d2, e2, d3, e3, d4, e4⟩
      refine takeD (i := 0) (d := some 17) (v := ?_) _ rfl rfl (by kernel_rfl) (by kernel_rfl) (by kernel_rfl) (fun _ _ _ h => h) (by rfl) ?_ (by assumption) ?_
      rotate_left
      · (intro w hSw; (try dsimp only at hSw); go_simp) <;> with_reducible rfl
      try simp only [Act.put, List.setIfInBounds_toArray, List.set_cons_zero, List.set_cons_succ]
      refine takeD (i := 1) (d := some 18) (v := ?_) _ rfl rfl (by kernel_rfl) (by kernel_rfl) (by kernel_rfl) (fun _ _ _ h => h) (by rfl) ?_ (by assumption) ?_
      rotate_left
      · (intro w hSw; (try dsimp only at hSw); go_simp) <;> with_reducible rfl
      try simp only [Act.put, List.setIfInBounds_toArray, List.set_cons_zero, List.set_cons_succ]
      refine takeD (i := 2) (d := some 19) (v := ?_) _ rfl rfl (by kernel_rfl) (by kernel_rfl) (by kernel_rfl) (fun _ _ _ h => h) (by rfl) ?_ (by assumption) ?_
      rotate_left
      · (intro w hSw; (try dsimp only at hSw); go_simp) <;> with_reducible rfl
      try simp only [Act.put, List.setIfInBounds_toArray, List.set_cons_zero, List.set_cons_succ]
      refine takeD (i := 3) (d := some 20) (v := ?_) _ rfl rfl (by kernel_rfl) (by kernel_rfl) (by kernel_rfl) (fun _ _ _ h => h) (by rfl) ?_ (by assumption) ?_
      rotate_left
      · (intro w hSw; (try dsimp only at hSw); go_simp) <;> with_reducible rfl
      try simp only [Act.put, List.setIfInBounds_toArray, List.set_cons_zero, List.set_cons_succ]
      refine takeD (i := 4) (d := some 21) (v := ?_) _ rfl rfl (by kernel_rfl) (by kernel_rfl) (by kernel_rfl) (fun _ _ _ h => h) (by rfl) ?_ (by assumption) ?_
      rotate_left
      · (intro w hSw; (try dsimp only at hSw); go_simp) <;> with_reducible rfl
      try simp only [Act.put, List.setIfInBounds_toArray, List.set_cons_zero, List.set_cons_succ]
      refine takeD (i := 5) (d := some 22) (v := ?_) _ rfl rfl (by kernel_rfl) (by kernel_rfl) (by kernel_rfl) (fun _ _ _ h => h) (by rfl) ?_ (by assumption) ?_
      rotate_left
      · (intro w hSw; (try dsimp only at hSw); go_simp) <;> with_reducible rfl
      try simp only [Act.put, List.setIfInBounds_toArray, List.set_cons_zero, List.set_cons_succ]
      refine takeD (i := 6) (d := some 23) (v := ?_) _ rfl rfl (by kernel_rfl) (by kernel_rfl) (by kernel_rfl) (fun _ _ _ h => h) (by rfl) ?_ (by assumption) ?_
      rotate_left
      · (intro w hSw; (try dsimp only at hSw); go_simp) <;> with_reducible rfl
      try simp only [Act.put, List.setIfInBounds_toArray, List.set_cons_zero, List.set_cons_succ]
      refine takeD (i := 7) (d := some 24) (v := ?_) _ rfl rfl (by kernel_rfl) (by kernel_rfl) (by kernel_rfl) (fun _ _ _ h => h) (by rfl) ?_ (by assumption) ?_
      rotate_left
      · (intro w hSw; (try dsimp only at hSw); go_simp) <;> with_reducible rfl
      try simp only [Act.put, List.setIfInBounds_toArray, List.set_cons_zero, List.set_cons_succ]
      refine takeD (i := 8) (d := some 25) (v := ?_) _ rfl rfl (by kernel_rfl) (by kernel_rfl) (by kernel_rfl) (fun _ _ _ h => h) (by rfl) ?_ (by assumption) ?_
      rotate_left
      · (intro w hSw; (try dsimp only at hSw); go_simp) <;> with_reducible rfl
      try simp only [Act.put, List.setIfInBounds_toArray, List.set_cons_zero, List.set_cons_succ]
      refine wpAnyH_done (by kernel_rfl) ?_ _
      have HB1 := Lib.hid hHeld.1
      clear hHeld d0 e0 d1 e1 d2 e2 d3 e3 d4 e4
      go_wp2_with fail
      go_roundw
      case rel =>
        have Q : EqRel n a a w (.int .i64 ((k : Int) + 1)) wr.drew := EqRel.next HX.out (fun _ _ => rfl) rfl HB1.out
        first | exact Q | ((repeat apply Exists.intro); exact ⟨Q, rfl⟩)
      case measure => have := HX.out; simp [intOf]; omega
    · have hkn : k = n := by have := HK.out; omega
      subst hkn
      clear hlt
      go_wp2_with fail
      go_ret
      exact ⟨rfl, HB.out⟩
end Go.Proofs.Ytliggejkpmlgfaa
