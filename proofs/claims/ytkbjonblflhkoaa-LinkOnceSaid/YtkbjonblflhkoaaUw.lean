/-
  Lists of words: slices.Equal, slices.Clone. Each statement bears its own conditions.
-/
import Derived.Test.YtkbjonblflhkoaaFo
namespace Go.Proofs.Ytkbjonblflhkoaa.U
open Go.RowKit
set_option linter.unusedVariables false
set_option linter.unusedSimpArgs false
theorem info_of {e : TypeId} {z : Option Value} {k b : Nat} (h : (Try.prog.info? e).map (fun i => (i.zero, i.size, i.bytes)) = some (z, k, b)) : ∃ i, Try.prog.info? e = some i ∧ i.zero = z ∧ i.size = k ∧ i.bytes = b := by
  cases hq : Try.prog.info? e with
  | none => rw [hq] at h; cases h
  | some i =>
    rw [hq] at h
    simp only [Option.map_some, Option.some.injEq, Prod.mk.injEq] at h
    exact ⟨i, rfl, h.1, h.2.1, h.2.2⟩
theorem u32_info : (Try.prog.info? 47).map (fun i => (i.zero, i.size, i.bytes)) = some (some (.int .u32 0), 1, 4) := by kernel_rfl
structure EqRel {α : Type} (n : Nat) (a b : List α) (w : World) (v : Value) (wr : World) : Prop where
  ex : ∃ k : Nat, k ≤ n ∧ v = .int .i64 (k : Int) ∧ (∀ j, j < k → a[j]? = b[j]?) ∧ Below w.heap.size w wr
theorem EqRel.next {α : Type} {n k : Nat} {a b : List α} {w wr : World} (hk : k < n) (h : ∀ j, j < k → a[j]? = b[j]?) (he : a[k]? = b[k]?) (hb : Below w.heap.size w wr) : EqRel n a b w (.int .i64 ((k : Int) + 1)) wr :=
  ⟨⟨k + 1, hk, by go_num, fun j hj => by
    by_cases hjk : j < k
    · exact h j hjk
    · have : j = k := by omega
      subst this; exact he, hb⟩⟩
theorem eq_of_all {α : Type} {a b : List α} {n : Nat} (ha : a.length = n) (hb : b.length = n) (h : ∀ j, j < n → a[j]? = b[j]?) : a = b := by
  apply List.ext_getElem? 
  intro j
  by_cases hj : j < n
  · exact h j hj
  · rw [List.getElem?_eq_none (by omega), List.getElem?_eq_none (by omega)]
set_option maxRecDepth 100000 in
set_option maxHeartbeats 4000000 in
theorem uequal_any (g g' : Nat) (v v' : Value) (a b : List Int) (w : World) (h : St g w 1 v a.length (CU a)) (h' : St g' w 1 v' b.length (CU b)) (hm : a.length ≤ 5000) :
    Calls Try.prog 39 #[v, v'] w fun e w' => e = .returned (.bool (decide (a = b))) ∧ Below w.heap.size w w' := by
  obtain ⟨A, c, rfl⟩ := h.form
  obtain ⟨A', c', rfl⟩ := h'.form
  obtain ⟨n, hn⟩ : ∃ n, a.length = n := ⟨_, rfl⟩
  obtain ⟨m, hn'⟩ : ∃ m, b.length = m := ⟨_, rfl⟩
  obtain ⟨t, ht⟩ : ∃ t, decide (a = b) = t := ⟨_, rfl⟩
  rw [hn] at h hm ⊢
  rw [hn'] at h' ⊢
  rw [ht]
  have HN := Lib.hid hn
  have HN' := Lib.hid hn'
  have HT := Lib.hid ht
  have H := Lib.hid h
  have H' := Lib.hid h'
  clear hn hn' h h' ht
  by_cases hnm : n = m
  · subst hnm
    go_enter Try.func39, Try.ntmps39
    go_wp2_with fail
    go_loopw [13] (fun v wr => EqRel n a b w v wr) (fun v => fun _ => n - (intOf v).toNat)
    case atStart => exact ⟨⟨0, Nat.zero_le _, rfl, fun j hj => by omega, Below.refl _ _⟩⟩
    case round =>
      obtain ⟨⟨k, hk, rfl, hall, hb⟩⟩ := hrel
      have HK := Lib.hid hk
      have HA := Lib.hid hall
      have HB := Lib.hid hb
      clear hk hall hb
      by_cases hlt : k < n
      · have hkI : (k : Int) < (n : Int) := by omega
        have HX : Hid (k < n) := hlt
        obtain ⟨_, q, off, rfl, hbl, hg, hc⟩ := H.out.at_ hlt
        obtain ⟨_, q', off', rfl, hbl', hg', hc'⟩ := H'.out.at_ hlt
        obtain ⟨x, hx⟩ : ∃ x, a[k]? = some x := ⟨_, List.getElem?_eq_getElem (by have := HN.out; omega)⟩
        obtain ⟨y, hy⟩ : ∃ y, b[k]? = some y := ⟨_, List.getElem?_eq_getElem (by have := HN'.out; omega)⟩
        have HXS := Lib.hid hx
        have HYS := Lib.hid hy
        have d0 : wr.cell? ⟨q, off + k, none⟩ = some (.int .u32 x) := cell_later HB.out (hc k _ (CU_at hx))
        have e0 : wr.cell? ⟨q', off' + k, none⟩ = some (.int .u32 y) := cell_later HB.out (hc' k _ (CU_at hy))
        clear hc hc' hbl hbl' hg hg' hx hy hlt
        by_cases hxy : x = y
        · subst hxy
          have HE : Hid (a[k]? = b[k]?) := HXS.out.trans HYS.out.symm
          go_wp2_with fail
          refine wp_region_held_drew (S := (fun w' => Below w.heap.size w w' ∧ w'.cell? ⟨q, off + k, none⟩ = some (.int .u32 x) ∧ w'.cell? ⟨q', off' + k, none⟩ = some (.int .u32 x))) (by kernel_rfl) ?_ (fun hHeld => ?_)
          · exact ⟨below_drewN HB.out 1, d0, e0⟩
          refine takeD (i := 0) (d := some 16) (v := ?_) _ rfl rfl (by kernel_rfl) (by kernel_rfl) (by kernel_rfl) (fun _ _ _ h => h) (by rfl) ?_ (by assumption) ?_
          rotate_left
          · (intro w hSw; (try dsimp only at hSw); go_simp) <;> with_reducible rfl
          try simp only [Act.put, List.setIfInBounds_toArray, List.set_cons_zero, List.set_cons_succ]
          refine takeD (i := 1) (d := some 17) (v := ?_) _ rfl rfl (by kernel_rfl) (by kernel_rfl) (by kernel_rfl) (fun _ _ _ h => h) (by rfl) ?_ (by assumption) ?_
          rotate_left
          · (intro w hSw; (try dsimp only at hSw); go_simp) <;> with_reducible rfl
          try simp only [Act.put, List.setIfInBounds_toArray, List.set_cons_zero, List.set_cons_succ]
          refine takeD (i := 2) (d := some 18) (v := ?_) _ rfl rfl (by kernel_rfl) (by kernel_rfl) (by kernel_rfl) (fun _ _ _ h => h) (by rfl) ?_ (by assumption) ?_
          rotate_left
          · (intro w hSw; (try dsimp only at hSw); go_simp) <;> with_reducible rfl
          try simp only [Act.put, List.setIfInBounds_toArray, List.set_cons_zero, List.set_cons_succ]
          refine takeD (i := 3) (d := some 19) (v := ?_) _ rfl rfl (by kernel_rfl) (by kernel_rfl) (by kernel_rfl) (fun _ _ _ h => h) (by rfl) ?_ (by assumption) ?_
          rotate_left
          · (intro w hSw; (try dsimp only at hSw); go_simp) <;> with_reducible rfl
          try simp only [Act.put, List.setIfInBounds_toArray, List.set_cons_zero, List.set_cons_succ]
          refine takeD (i := 4) (d := some 20) (v := ?_) _ rfl rfl (by kernel_rfl) (by kernel_rfl) (by kernel_rfl) (fun _ _ _ h => h) (by rfl) ?_ (by assumption) ?_
          rotate_left
          · (intro w hSw; (try dsimp only at hSw); go_simp) <;> with_reducible rfl
          try simp only [Act.put, List.setIfInBounds_toArray, List.set_cons_zero, List.set_cons_succ]
          refine takeD (i := 5) (d := some 21) (v := ?_) _ rfl rfl (by kernel_rfl) (by kernel_rfl) (by kernel_rfl) (fun _ _ _ h => h) (by rfl) ?_ (by assumption) ?_
          rotate_left
          · (intro w hSw; (try dsimp only at hSw); go_simp) <;> with_reducible rfl
          try simp only [Act.put, List.setIfInBounds_toArray, List.set_cons_zero, List.set_cons_succ]
          refine takeD (i := 6) (d := some 22) (v := ?_) _ rfl rfl (by kernel_rfl) (by kernel_rfl) (by kernel_rfl) (fun _ _ _ h => h) (by rfl) ?_ (by assumption) ?_
          rotate_left
          · (intro w hSw; (try dsimp only at hSw); go_simp) <;> with_reducible rfl
          try simp only [Act.put, List.setIfInBounds_toArray, List.set_cons_zero, List.set_cons_succ]
          refine takeD (i := 7) (d := some 23) (v := ?_) _ rfl rfl (by kernel_rfl) (by kernel_rfl) (by kernel_rfl) (fun _ _ _ h => h) (by rfl) ?_ (by assumption) ?_
          rotate_left
          · (intro w hSw; (try dsimp only at hSw); go_simp) <;> with_reducible rfl
          try simp only [Act.put, List.setIfInBounds_toArray, List.set_cons_zero, List.set_cons_succ]
          refine takeD (i := 8) (d := some 24) (v := ?_) _ rfl rfl (by kernel_rfl) (by kernel_rfl) (by kernel_rfl) (fun _ _ _ h => h) (by rfl) ?_ (by assumption) ?_
          rotate_left
          · (intro w hSw; (try dsimp only at hSw); go_simp) <;> with_reducible rfl
          try simp only [Act.put, List.setIfInBounds_toArray, List.set_cons_zero, List.set_cons_succ]
          refine wpAnyH_done (by kernel_rfl) ?_ _
          have HB1 := Lib.hid hHeld.1
          clear hHeld d0 e0
          go_wp2_with fail
          go_roundw
          case rel =>
            have Q : EqRel n a b w (.int .i64 ((k : Int) + 1)) wr.drew := EqRel.next HX.out HA.out HE.out HB1.out
            first | exact Q | ((repeat apply Exists.intro); exact ⟨Q, rfl⟩)
          case measure => have := HX.out; simp [intOf]; omega
        · have HF : Hid (t = false) := by
            unfold Hid
            rw [← HT.out, decide_eq_false_iff_not]
            intro hab
            rw [hab, HYS.out] at HXS
            have := HXS.out
            injection this with this
            exact hxy this.symm
          have hxb : (x == y) = false := by simpa using hxy
          have hxc : (x != y) = true := by simpa using hxy
          go_wp2_with fail
          refine wp_region_held_drew (S := (fun w' => Below w.heap.size w w' ∧ w'.cell? ⟨q, off + k, none⟩ = some (.int .u32 x) ∧ w'.cell? ⟨q', off' + k, none⟩ = some (.int .u32 y))) (by kernel_rfl) ?_ (fun hHeld => ?_)
          · exact ⟨below_drewN HB.out 1, d0, e0⟩
          refine takeD (i := 0) (d := some 16) (v := ?_) _ rfl rfl (by kernel_rfl) (by kernel_rfl) (by kernel_rfl) (fun _ _ _ h => h) (by rfl) ?_ (by assumption) ?_
          rotate_left
          · (intro w hSw; (try dsimp only at hSw); go_simp) <;> with_reducible rfl
          try simp only [Act.put, List.setIfInBounds_toArray, List.set_cons_zero, List.set_cons_succ]
          refine takeD (i := 1) (d := some 17) (v := ?_) _ rfl rfl (by kernel_rfl) (by kernel_rfl) (by kernel_rfl) (fun _ _ _ h => h) (by rfl) ?_ (by assumption) ?_
          rotate_left
          · (intro w hSw; (try dsimp only at hSw); go_simp) <;> with_reducible rfl
          try simp only [Act.put, List.setIfInBounds_toArray, List.set_cons_zero, List.set_cons_succ]
          refine takeD (i := 2) (d := some 18) (v := ?_) _ rfl rfl (by kernel_rfl) (by kernel_rfl) (by kernel_rfl) (fun _ _ _ h => h) (by rfl) ?_ (by assumption) ?_
          rotate_left
          · (intro w hSw; (try dsimp only at hSw); go_simp) <;> with_reducible rfl
          try simp only [Act.put, List.setIfInBounds_toArray, List.set_cons_zero, List.set_cons_succ]
          refine takeD (i := 3) (d := some 19) (v := ?_) _ rfl rfl (by kernel_rfl) (by kernel_rfl) (by kernel_rfl) (fun _ _ _ h => h) (by rfl) ?_ (by assumption) ?_
          rotate_left
          · (intro w hSw; (try dsimp only at hSw); go_simp) <;> with_reducible rfl
          try simp only [Act.put, List.setIfInBounds_toArray, List.set_cons_zero, List.set_cons_succ]
          refine takeD (i := 4) (d := some 20) (v := ?_) _ rfl rfl (by kernel_rfl) (by kernel_rfl) (by kernel_rfl) (fun _ _ _ h => h) (by rfl) ?_ (by assumption) ?_
          rotate_left
          · (intro w hSw; (try dsimp only at hSw); go_simp) <;> with_reducible rfl
          try simp only [Act.put, List.setIfInBounds_toArray, List.set_cons_zero, List.set_cons_succ]
          refine takeD (i := 5) (d := some 21) (v := ?_) _ rfl rfl (by kernel_rfl) (by kernel_rfl) (by kernel_rfl) (fun _ _ _ h => h) (by rfl) ?_ (by assumption) ?_
          rotate_left
          · (intro w hSw; (try dsimp only at hSw); go_simp) <;> with_reducible rfl
          try simp only [Act.put, List.setIfInBounds_toArray, List.set_cons_zero, List.set_cons_succ]
          refine takeD (i := 6) (d := some 22) (v := ?_) _ rfl rfl (by kernel_rfl) (by kernel_rfl) (by kernel_rfl) (fun _ _ _ h => h) (by rfl) ?_ (by assumption) ?_
          rotate_left
          · (intro w hSw; (try dsimp only at hSw); go_simp) <;> with_reducible rfl
          try simp only [Act.put, List.setIfInBounds_toArray, List.set_cons_zero, List.set_cons_succ]
          refine takeD (i := 7) (d := some 23) (v := ?_) _ rfl rfl (by kernel_rfl) (by kernel_rfl) (by kernel_rfl) (fun _ _ _ h => h) (by rfl) ?_ (by assumption) ?_
          rotate_left
          · (intro w hSw; (try dsimp only at hSw); go_simp) <;> with_reducible rfl
          try simp only [Act.put, List.setIfInBounds_toArray, List.set_cons_zero, List.set_cons_succ]
          refine takeD (i := 8) (d := some 24) (v := ?_) _ rfl rfl (by kernel_rfl) (by kernel_rfl) (by kernel_rfl) (fun _ _ _ h => h) (by rfl) ?_ (by assumption) ?_
          rotate_left
          · (intro w hSw; (try dsimp only at hSw); go_simp) <;> with_reducible rfl
          try simp only [Act.put, List.setIfInBounds_toArray, List.set_cons_zero, List.set_cons_succ]
          refine wpAnyH_done (by kernel_rfl) ?_ _
          have HB1 := Lib.hid hHeld.1
          clear hHeld d0 e0
          go_wp2_with fail
          go_ret
          exact ⟨by rw [HF.out]; rfl, HB1.out⟩
      · have hkn : k = n := by have := HK.out; omega
        subst hkn
        have HF : Hid (t = true) := by
          unfold Hid
          rw [← HT.out, decide_eq_true_eq]
          exact eq_of_all HN.out HN'.out HA.out
        clear hlt
        go_wp2_with fail
        go_ret
        exact ⟨by rw [HF.out]; rfl, HB.out⟩
  · have HF : Hid (t = false) := by
      unfold Hid
      rw [← HT.out, decide_eq_false_iff_not]
      intro hab
      exact hnm (by rw [← HN.out, ← HN'.out, hab])
    have hnmB : ((n : Int) == (m : Int)) = false := by rw [beq_eq_false_iff_ne]; omega
    have hnmC : ((n : Int) != (m : Int)) = true := by rw [bne_iff_ne]; omega
    go_enter Try.func39, Try.ntmps39
    go_wp2_with fail
    go_ret
    exact ⟨by rw [HF.out]; rfl, Below.refl _ _⟩
set_option maxRecDepth 100000 in
set_option maxHeartbeats 4000000 in
theorem uclone_any (g : Nat) (v : Value) (n : Nat) (xs : List Value) (w : World) (h : St g w 1 v n xs) (h1 : ∀ u ∈ xs, u.oneCell' = true) (hlen : n ≤ 5000) :
    Calls Try.prog 33 #[v] w fun e w' => (∃ r, e = .returned r ∧ w'.ownsRow w.heap.size 47 1 r n xs) ∧ Below w.heap.size w w' := by
  obtain ⟨i0, hi, hz0, hz1, hz2⟩ := info_of u32_info
  obtain ⟨a, cap, rfl⟩ := h.form
  rcases a with _ | ad
  · have hn0 : n = 0 := by
      rcases Nat.eq_zero_or_pos n with h0 | h0
      · exact h0
      · obtain ⟨_, b, off, e, _⟩ := h.at_ h0
        cases e
    subst hn0
    have hx : xs = [] := List.eq_nil_of_length_eq_zero (by have := h.len; omega)
    subst hx
    have he : ∀ w : World, (binOp .eql 33 (.slice none 0 cap) (.slice none 0 0)).run Try.prog w = .ok (.bool true) w := fun _ => rfl
    clear h hlen h1
    go_enter Try.func33, Try.ntmps33
    go_wp2_with fail
    go_ret
    exact ⟨⟨_, rfl, World.ownsRow_nil _ _ _ _⟩, Below.refl _ _⟩
  · have RD := Lib.hid h.reads.2
    have HL := Lib.hid hlen
    have H1 := Lib.hid h1
    clear h hlen h1
    have he : ∀ w : World, (binOp .eql 33 (.slice (some ad) n cap) (.slice none 0 0)).run Try.prog w = .ok (.bool false) w := fun _ => rfl
    go_enter Try.func33, Try.ntmps33
    go_wp2_with (at_builtin; refine wpList_append_any _ rfl (.tmp 5) (.tmp 6) _ rfl w.heap.size 47 i0 _ 1 4 Try.underlying33 hi hz0 hz1 hz2 rfl (by omega) (.slice (some ⟨w.heap.size, 0, none⟩) 0 0) 0 [] rfl ⟨rfl, .inr ⟨w.heap.size, 0, #[], rfl, Nat.le_refl _, heap_alloc_new w _, Nat.le_refl _, by unfold maxLen; omega, rfl, rfl⟩⟩ w.heap.size (some ad) n cap xs rfl (RD.out.alloc (Nat.le_refl _) _) H1.out ?c2 ?c3 ?c4 ?_)
    case c2 => have := HL.out; unfold maxLen; omega
    case c3 => have := HL.out; omega
    case c4 => simp
    intro v2 w2 ho hgr hbl
    have ho' : w2.ownsRow w.heap.size 47 1 v2 n xs := by simpa using ho
    have hbel : Hid (Below w.heap.size w w2) := ((Below.refl _ _).alloc (Nat.le_refl _) _).grown hgr (by simp) (fun q hq => by have h' : some w.heap.size = some q := hq; injection h' with h'; omega)
    obtain ⟨A2, c2, rfl⟩ := slice_form ho'
    have HO := Lib.hid ho'
    clear ho ho' hgr hbl
    go_wp2_with fail
    go_ret
    exact ⟨⟨_, rfl, HO.out⟩, hbel.out⟩
end Go.Proofs.Ytkbjonblflhkoaa.U
