/-
  Contracts of Areas, Words, Clone and Same, and of spaces that aren't there. Each statement bears its own conditions.
-/
import Derived.Test.YtliggejkpmlgfaaSpJ
namespace Go.Proofs.Ytliggejkpmlgfaa
open Go.RowKit
set_option linter.unusedVariables false
set_option linter.unusedSimpArgs false
set_option maxRecDepth 100000 in
set_option maxHeartbeats 4000000 in
theorem uclone_some (g : Nat) (ad : Addr) (n cap : Nat) (xs : List Value) (w : World) (h : St g w 1 (.slice (some ad) n cap) n xs) (h1 : ∀ u ∈ xs, u.oneCell' = true) (hlen : n ≤ 5000) :
    Calls Try.prog 36 #[.slice (some ad) n cap] w fun e w' => (∃ k c, e = .returned (.slice (some ⟨k, 0, none⟩) n c) ∧ w'.ownsRow w.heap.size 39 1 (.slice (some ⟨k, 0, none⟩) n c) n xs) ∧ Below w.heap.size w w' := by
  obtain ⟨i0, hi, hz0, hz1, hz2⟩ := info_of u32_info
  have RD := Lib.hid h.reads.2
  have HL := Lib.hid hlen
  have H1 := Lib.hid h1
  clear h hlen h1
  have he : ∀ w : World, (binOp .eql 40 (.slice (some ad) n cap) (.slice none 0 0)).run Try.prog w = .ok (.bool false) w := fun _ => rfl
  go_enter Try.func36, Try.ntmps36
  go_wp2_with (at_builtin; refine wpList_append_any _ rfl (.tmp 5) (.tmp 6) _ rfl w.heap.size 39 i0 _ 1 4 Try.underlying40 hi hz0 hz1 hz2 rfl (by omega) (.slice (some ⟨w.heap.size, 0, none⟩) 0 0) 0 [] rfl ⟨rfl, .inr ⟨w.heap.size, 0, #[], rfl, Nat.le_refl _, heap_alloc_new w _, Nat.le_refl _, by unfold maxLen; omega, rfl, rfl⟩⟩ w.heap.size (some ad) n cap xs rfl (RD.out.alloc (Nat.le_refl _) _) H1.out ?c2 ?c3 ?c4 ?_)
  case c2 => have := HL.out; unfold maxLen; omega
  case c3 => have := HL.out; omega
  case c4 => simp
  intro v2 w2 ho hgr hbl
  have ho' : w2.ownsRow w.heap.size 39 1 v2 n xs := by simpa using ho
  have hbel : Hid (Below w.heap.size w w2) := ((Below.refl _ _).alloc (Nat.le_refl _) _).grown hgr (by simp) (fun q hq => by have h' : some w.heap.size = some q := hq; injection h' with h'; omega)
  obtain ⟨k, c, rfl⟩ : ∃ k c, v2 = .slice (some ⟨k, 0, none⟩) n c := by
    rcases ho'.2 with ⟨rfl, _⟩ | ⟨g', cap', cur, hv, _⟩
    · rcases hbl with h | h <;> cases h
    · exact ⟨g', cap', hv⟩
  have HO := Lib.hid ho'
  clear ho ho' hgr hbl
  go_wp2_with fail
  go_ret
  exact ⟨⟨k, c, rfl, HO.out⟩, hbel.out⟩
set_option maxRecDepth 100000 in
set_option maxHeartbeats 4000000 in
theorem areas_any (lo hi p rb : Nat) (l : List MA) (ws : List Int) (w : World) (h : SP lo hi w p rb l ws) (hf : l.length ≤ 16) :
    Calls Try.prog 14 #[.pointer (some ⟨p, 0, none⟩)] w fun e w' => (∃ r, e = .returned r ∧ w'.ownsRow w.heap.size 57 5 r l.length (CA l)) ∧ Below w.heap.size w w' := by
  obtain ⟨A, c, cap, hp, hst, _, _⟩ := h.st
  have C := Lib.hid (aclone_any rb _ _ _ w hst (CA_one l) (by omega))
  have c0 := (row_cell hp 0).1
  simp at c0
  have hep : ∀ w : World, (binOp .eql 25 (.pointer (some ⟨p, 0, none⟩)) (.pointer none)).run Try.prog w = .ok (.bool false) w := fun _ => rfl
  clear h hp hst hf
  go_enter Try.func14, Try.ntmps14
  go_wp2_with fail
  refine C.out.mono ?_
  rintro e W1 ⟨⟨r, rfl, ho⟩, b1⟩
  obtain ⟨A', c', rfl⟩ := slice_form ho
  go_wp2_with fail
  go_ret
  exact ⟨⟨_, rfl, ho⟩, b1⟩
set_option maxRecDepth 100000 in
set_option maxHeartbeats 4000000 in
theorem words_any (lo hi p rb : Nat) (l : List MA) (ws : List Int) (w : World) (h : SP lo hi w p rb l ws) (hf : ws.length ≤ 5000) :
    Calls Try.prog 17 #[.pointer (some ⟨p, 0, none⟩)] w fun e w' => (∃ k c, e = .returned (.slice (some ⟨k, 0, none⟩) ws.length c) ∧ w'.ownsRow w.heap.size 39 1 (.slice (some ⟨k, 0, none⟩) ws.length c) ws.length (CU ws)) ∧ Below w.heap.size w w' := by
  obtain ⟨A, c, cap, hp, _, hst⟩ := h.wst (g := p) h.ne.symm
  have C := Lib.hid (uclone_some p _ _ _ _ w hst (CU_one _) hf)
  have c1 := (row_cell hp 1).1
  obtain ⟨m, hm⟩ : ∃ m, ws.length = m := ⟨_, rfl⟩
  rw [hm] at c1 C ⊢
  simp at c1
  have hep : ∀ w : World, (binOp .eql 25 (.pointer (some ⟨p, 0, none⟩)) (.pointer none)).run Try.prog w = .ok (.bool false) w := fun _ => rfl
  clear h hp hst hf hm
  go_enter Try.func17, Try.ntmps17
  go_wp2_with fail
  refine C.out.mono ?_
  rintro e W1 ⟨⟨k, c', rfl, ho⟩, b1⟩
  go_wp2_with fail
  go_ret
  exact ⟨⟨_, _, rfl, ho⟩, b1⟩
theorem SP.mk' {B : Nat} {l : List MA} {ws : List Int} {W3 : World} {p rb cap : Nat} {va : Value} (hB : B ≤ p) (h1 : W3.heap[p]? = some (.cells #[va, .slice (some ⟨rb, 0, none⟩) ws.length cap] 71 (0, 0))) (h2 : W3.ownsRow B 57 5 va l.length (CA l)) (h3 : ∀ k, va.ownBlock = some k → k ≠ rb)
    (h4 : W3.ownsRow B 39 1 (.slice (some ⟨rb, 0, none⟩) ws.length cap) ws.length (CU ws)) (hne : p ≠ rb) : SP B W3.heap.size W3 p rb l ws :=
  ⟨Nat.le_refl _, ⟨hB, (Array.getElem?_eq_some_iff.1 h1).1⟩, h4.lt rb rfl, hne, va, cap, h1, h2, fun k hk => ⟨h3 k hk, (h2.lt k hk).2⟩, h4⟩
set_option maxRecDepth 100000 in
set_option maxHeartbeats 4000000 in
theorem clone_any (lo hi p rb : Nat) (l : List MA) (ws : List Int) (w : World) (h : SP lo hi w p rb l ws) (hf : l.length ≤ 16) (hw : ws.length ≤ 5000) :
    Calls Try.prog 24 #[.pointer (some ⟨p, 0, none⟩)] w fun e w' => (∃ p' rb', e = .returned (.pointer (some ⟨p', 0, none⟩)) ∧ SP w.heap.size w'.heap.size w' p' rb' l ws) ∧ Below w.heap.size w w' := by
  have CA_ := Lib.hid (areas_any lo hi p rb l ws w h hf)
  have CW := Lib.hid fun (W : World) (hb : Below w.heap.size w W) => words_any lo hi p rb l ws W (h.below hb) hw
  have hep : ∀ w : World, (binOp .eql 25 (.pointer (some ⟨p, 0, none⟩)) (.pointer none)).run Try.prog w = .ok (.bool false) w := fun _ => rfl
  clear h hf hw
  go_enter Try.func24, Try.ntmps24
  go_wp2_with fail
  refine CA_.out.mono ?_
  rintro e W1 ⟨⟨r, rfl, ho⟩, b1⟩
  obtain ⟨A', c', rfl⟩ := slice_form ho
  have HB1 := Lib.hid b1
  have HO := Lib.hid ho
  clear b1 ho CA_
  go_wp2_with fail
  refine (CW.out W1 HB1.out).mono ?_
  rintro e W2 ⟨⟨k, c2, rfl, ho2⟩, b2⟩
  have HB2 : Hid (Below w.heap.size w W2) := HB1.out.trans (b2.mono HB1.out.size)
  have HO1 := Lib.hid (own_below HO.out b2)
  have HO2 := Lib.hid ho2
  have HLT := Lib.hid fun k hk => (HO.out.lt k hk).2
  clear b2 ho2 CW HO
  go_wp2_with fail
  go_ret
  have bz : Below W2.heap.size W2 (W2.alloc (.cells #[.slice A' l.length c', .slice (some ⟨k, 0, none⟩) ws.length c2] 71)) := (Below.refl _ _).alloc (Nat.le_refl _) _
  have hk := HO2.out.lt k rfl
  exact ⟨⟨W2.heap.size, k, rfl, SP.mk' (va := .slice A' l.length c') HB2.out.size (heap_alloc_new _ _) (own_below HO1.out bz) (fun q hq => by have := HLT.out q hq; omega) (own_below (own_base HO2.out HB1.out.size) bz) (by omega)⟩, HB2.out.alloc HB2.out.size _⟩
set_option maxRecDepth 100000 in
set_option maxHeartbeats 8000000 in
theorem same_any (lo hi p rb lo' hi' p' rb' : Nat) (l : List MA) (ws ws' : List Int) (w : World) (h : SP lo hi w p rb l ws) (h' : SP lo' hi' w p' rb' l ws') (hf : l.length ≤ 16) (hw : ws.length ≤ 5000) :
    Calls Try.prog 25 #[.pointer (some ⟨p, 0, none⟩), .pointer (some ⟨p', 0, none⟩)] w fun e w' => e = .returned (.bool (decide (ws = ws'))) ∧ Below w.heap.size w w' := by
  obtain ⟨A, c, cap, hp, hst, hwt⟩ := h.wst (g := p) h.ne.symm
  obtain ⟨A', c', cap', hp', hst', hwt'⟩ := h'.wst (g := p') h'.ne.symm
  have C1 := Lib.hid fun (W : World) (hb : Below w.heap.size w W) => aequal_same rb rb' _ _ l W (hst.below hb) (hst'.below hb) (by omega)
  have C2 := Lib.hid fun (W : World) (hb : Below w.heap.size w W) => uequal_any p p' _ _ ws ws' W (hwt.below hb) (hwt'.below hb) hw
  have c0 := (row_cell hp 0).1
  have c1 := (row_cell hp 1).1
  have e0 := (row_cell hp' 0).1
  have e1 := (row_cell hp' 1).1
  obtain ⟨n, hn⟩ : ∃ n, l.length = n := ⟨_, rfl⟩
  obtain ⟨m, hm⟩ : ∃ m, ws.length = m := ⟨_, rfl⟩
  obtain ⟨m', hm'⟩ : ∃ m', ws'.length = m' := ⟨_, rfl⟩
  obtain ⟨t, ht⟩ : ∃ t, decide (ws = ws') = t := ⟨_, rfl⟩
  rw [hn] at c0 e0 C1
  rw [hm] at c1 C2
  rw [hm'] at e1 C2
  rw [ht] at C2 ⊢
  simp at c0 c1 e0 e1
  have hep : ∀ w : World, (binOp .eql 25 (.pointer (some ⟨p, 0, none⟩)) (.pointer none)).run Try.prog w = .ok (.bool false) w := fun _ => rfl
  have hq : ∀ w : World, (binOp .eql 25 (.pointer (some ⟨p', 0, none⟩)) (.pointer none)).run Try.prog w = .ok (.bool false) w := fun _ => rfl
  clear h h' hp hp' hst hst' hwt hwt' hf hw hn hm hm' ht
  go_enter Try.func25, Try.ntmps25
  go_wp2_with fail
  refine wp_region_held_drew (S := (fun w' => Below w.heap.size w w' ∧ w'.cell? ⟨p, 0, none⟩ = some (.slice A n c) ∧ w'.cell? ⟨p, 1, none⟩ = some (.slice (some ⟨rb, 0, none⟩) m cap) ∧ w'.cell? ⟨p', 0, none⟩ = some (.slice A' n c') ∧ w'.cell? ⟨p', 1, none⟩ = some (.slice (some ⟨rb', 0, none⟩) m' cap'))) (by kernel_rfl) ?_ (fun hHeld => ?_)
  · exact ⟨below_drewN (Below.refl _ _) 1, c0, c1, e0, e1⟩
  refine takeD (i := 0) (d := some 14) (v := ?_) _ rfl rfl (by kernel_rfl) (by kernel_rfl) (by kernel_rfl) (fun _ _ _ h => h) (by rfl) ?_ (by assumption) ?_
  rotate_left
  · (intro w hSw; (try dsimp only at hSw); go_simp) <;> with_reducible rfl
  try simp only [Act.put, List.setIfInBounds_toArray, List.set_cons_zero, List.set_cons_succ]
  refine takeD (i := 1) (d := some 15) (v := ?_) _ rfl rfl (by kernel_rfl) (by kernel_rfl) (by kernel_rfl) (fun _ _ _ h => h) (by rfl) ?_ (by assumption) ?_
  rotate_left
  · (intro w hSw; (try dsimp only at hSw); go_simp) <;> with_reducible rfl
  try simp only [Act.put, List.setIfInBounds_toArray, List.set_cons_zero, List.set_cons_succ]
  refine takeD (i := 2) (d := some 16) (v := ?_) _ rfl rfl (by kernel_rfl) (by kernel_rfl) (by kernel_rfl) (fun _ _ _ h => h) (by rfl) ?_ (by assumption) ?_
  rotate_left
  · (intro w hSw; (try dsimp only at hSw); go_simp) <;> with_reducible rfl
  try simp only [Act.put, List.setIfInBounds_toArray, List.set_cons_zero, List.set_cons_succ]
  refine takeD (i := 3) (d := some 17) (v := ?_) _ rfl rfl (by kernel_rfl) (by kernel_rfl) (by kernel_rfl) (fun _ _ _ h => h) (by rfl) ?_ (by assumption) ?_
  rotate_left
  · (intro w hSw; (try dsimp only at hSw); go_simp) <;> with_reducible rfl
  try simp only [Act.put, List.setIfInBounds_toArray, List.set_cons_zero, List.set_cons_succ]
  refine takeD (i := 4) (d := some 18) (v := ?_) _ rfl rfl (by kernel_rfl) (by kernel_rfl) (by kernel_rfl) (fun _ _ _ h => h) (by rfl) ?_ (by assumption) ?_
  rotate_left
  · (intro w hSw; (try dsimp only at hSw); go_simp) <;> with_reducible rfl
  try simp only [Act.put, List.setIfInBounds_toArray, List.set_cons_zero, List.set_cons_succ]
  refine takeD (i := 5) (d := some 19) (v := ?_) _ rfl rfl (by kernel_rfl) (by kernel_rfl) (by kernel_rfl) (fun _ _ _ h => h) (by rfl) ?_ (by assumption) ?_
  rotate_left
  · (intro w hSw; (try dsimp only at hSw); go_simp) <;> with_reducible rfl
  try simp only [Act.put, List.setIfInBounds_toArray, List.set_cons_zero, List.set_cons_succ]
  refine takeD (i := 6) (d := some 20) (v := ?_) _ rfl rfl (by kernel_rfl) (by kernel_rfl) (by kernel_rfl) (fun _ _ _ h => h) (by rfl) ?_ (by assumption) ?_
  rotate_left
  · (intro w hSw; (try dsimp only at hSw); go_simp) <;> with_reducible rfl
  try simp only [Act.put, List.setIfInBounds_toArray, List.set_cons_zero, List.set_cons_succ]
  refine takeD (i := 7) (d := some 21) (v := ?_) _ rfl rfl (by kernel_rfl) (by kernel_rfl) (by kernel_rfl) (fun _ _ _ h => h) (by rfl) ?_ (by assumption) ?_
  rotate_left
  · (intro w hSw; (try dsimp only at hSw); go_simp) <;> with_reducible rfl
  try simp only [Act.put, List.setIfInBounds_toArray, List.set_cons_zero, List.set_cons_succ]
  refine wpAnyH_ready (rs := [8]) (by kernel_rfl) (by simp) ?_
  refine AllReadyH.cons rfl (fun K hK => ?_) AllReadyH.nil
  (go_simp; go_at_call 38; refine (C1.out _ hHeld.1).mono ?_; rintro e wt ⟨rfl, hbt⟩; try go_wp2_with fail)
  refine hK.out _ _ ?_ (fun hHeld => ?_)
  · exact ⟨hHeld.1.trans (hbt.mono hHeld.1.size), cell_later hbt hHeld.2.1, cell_later hbt hHeld.2.2.1, cell_later hbt hHeld.2.2.2.1, cell_later hbt hHeld.2.2.2.2⟩
  clear hK K
  try simp only [Act.put, List.setIfInBounds_toArray, List.set_cons_zero, List.set_cons_succ]
  refine takeD (i := 9) (d := some 23) (v := ?_) _ rfl rfl (by kernel_rfl) (by kernel_rfl) (by kernel_rfl) (fun _ _ _ h => h) (by rfl) ?_ (by assumption) ?_
  rotate_left
  · (intro w hSw; (try dsimp only at hSw); go_simp) <;> with_reducible rfl
  try simp only [Act.put, List.setIfInBounds_toArray, List.set_cons_zero, List.set_cons_succ]
  refine takeD (i := 10) (d := some 24) (v := ?_) _ rfl rfl (by kernel_rfl) (by kernel_rfl) (by kernel_rfl) (fun _ _ _ h => h) (by rfl) ?_ (by assumption) ?_
  rotate_left
  · (intro w hSw; (try dsimp only at hSw); go_simp) <;> with_reducible rfl
  try simp only [Act.put, List.setIfInBounds_toArray, List.set_cons_zero, List.set_cons_succ]
  refine takeD (i := 11) (d := some 25) (v := ?_) _ rfl rfl (by kernel_rfl) (by kernel_rfl) (by kernel_rfl) (fun _ _ _ h => h) (by rfl) ?_ (by assumption) ?_
  rotate_left
  · (intro w hSw; (try dsimp only at hSw); go_simp) <;> with_reducible rfl
  try simp only [Act.put, List.setIfInBounds_toArray, List.set_cons_zero, List.set_cons_succ]
  refine takeD (i := 12) (d := some 26) (v := ?_) _ rfl rfl (by kernel_rfl) (by kernel_rfl) (by kernel_rfl) (fun _ _ _ h => h) (by rfl) ?_ (by assumption) ?_
  rotate_left
  · (intro w hSw; (try dsimp only at hSw); go_simp) <;> with_reducible rfl
  try simp only [Act.put, List.setIfInBounds_toArray, List.set_cons_zero, List.set_cons_succ]
  refine takeD (i := 13) (d := some 27) (v := ?_) _ rfl rfl (by kernel_rfl) (by kernel_rfl) (by kernel_rfl) (fun _ _ _ h => h) (by rfl) ?_ (by assumption) ?_
  rotate_left
  · (intro w hSw; (try dsimp only at hSw); go_simp) <;> with_reducible rfl
  try simp only [Act.put, List.setIfInBounds_toArray, List.set_cons_zero, List.set_cons_succ]
  refine takeD (i := 14) (d := some 28) (v := ?_) _ rfl rfl (by kernel_rfl) (by kernel_rfl) (by kernel_rfl) (fun _ _ _ h => h) (by rfl) ?_ (by assumption) ?_
  rotate_left
  · (intro w hSw; (try dsimp only at hSw); go_simp) <;> with_reducible rfl
  try simp only [Act.put, List.setIfInBounds_toArray, List.set_cons_zero, List.set_cons_succ]
  refine takeD (i := 15) (d := some 29) (v := ?_) _ rfl rfl (by kernel_rfl) (by kernel_rfl) (by kernel_rfl) (fun _ _ _ h => h) (by rfl) ?_ (by assumption) ?_
  rotate_left
  · (intro w hSw; (try dsimp only at hSw); go_simp) <;> with_reducible rfl
  try simp only [Act.put, List.setIfInBounds_toArray, List.set_cons_zero, List.set_cons_succ]
  refine takeD (i := 16) (d := some 30) (v := ?_) _ rfl rfl (by kernel_rfl) (by kernel_rfl) (by kernel_rfl) (fun _ _ _ h => h) (by rfl) ?_ (by assumption) ?_
  rotate_left
  · (intro w hSw; (try dsimp only at hSw); go_simp) <;> with_reducible rfl
  try simp only [Act.put, List.setIfInBounds_toArray, List.set_cons_zero, List.set_cons_succ]
  refine takeD (i := 17) (d := some 31) (v := ?_) _ rfl rfl (by kernel_rfl) (by kernel_rfl) (by kernel_rfl) (fun _ _ _ h => h) (by rfl) ?_ (by assumption) ?_
  rotate_left
  · (intro w hSw; (try dsimp only at hSw); go_simp) <;> with_reducible rfl
  try simp only [Act.put, List.setIfInBounds_toArray, List.set_cons_zero, List.set_cons_succ]
  refine wpAnyH_ready (rs := [18]) (by kernel_rfl) (by simp) ?_
  refine AllReadyH.cons rfl (fun K hK => ?_) AllReadyH.nil
  (go_simp; go_at_call 39; refine (C2.out _ hHeld.1).mono ?_; rintro e wt ⟨rfl, hbt⟩; try go_wp2_with fail)
  refine hK.out _ _ ?_ (fun hHeld => ?_)
  · exact ⟨hHeld.1.trans (hbt.mono hHeld.1.size), cell_later hbt hHeld.2.1, cell_later hbt hHeld.2.2.1, cell_later hbt hHeld.2.2.2.1, cell_later hbt hHeld.2.2.2.2⟩
  clear hK K
  try simp only [Act.put, List.setIfInBounds_toArray, List.set_cons_zero, List.set_cons_succ]
  refine takeD (i := 19) (d := some 33) (v := ?_) _ rfl rfl (by kernel_rfl) (by kernel_rfl) (by kernel_rfl) (fun _ _ _ h => h) (by rfl) ?_ (by assumption) ?_
  rotate_left
  · (intro w hSw; (try dsimp only at hSw); go_simp) <;> with_reducible rfl
  try simp only [Act.put, List.setIfInBounds_toArray, List.set_cons_zero, List.set_cons_succ]
  refine takeD (i := 20) (d := some 4) (v := ?_) _ rfl rfl (by kernel_rfl) (by kernel_rfl) (by kernel_rfl) (fun _ _ _ h => h) (by rfl) ?_ (by assumption) ?_
  rotate_left
  · (intro w hSw; (try dsimp only at hSw); go_simp) <;> with_reducible rfl
  try simp only [Act.put, List.setIfInBounds_toArray, List.set_cons_zero, List.set_cons_succ]
  refine wpAnyH_done (by kernel_rfl) ?_ _
  have BF := hHeld.1
  clear hHeld
  go_wp2_with fail
  go_ret
  exact ⟨by simp, BF⟩
set_option maxRecDepth 100000 in
theorem areas_nil (w : World) : Calls Try.prog 14 #[.pointer none] w fun e w' => e = .returned (.slice none 0 0) ∧ Below w.heap.size w w' := by
  have hn0 : ∀ w : World, (binOp .eql 25 (.pointer none) (.pointer none)).run Try.prog w = .ok (.bool true) w := fun _ => rfl
  go_enter Try.func14, Try.ntmps14
  go_wp2_with fail
  go_ret
  exact ⟨rfl, Below.refl _ _⟩
set_option maxRecDepth 100000 in
theorem words_nil (w : World) : Calls Try.prog 17 #[.pointer none] w fun e w' => e = .returned (.slice none 0 0) ∧ Below w.heap.size w w' := by
  have hn0 : ∀ w : World, (binOp .eql 25 (.pointer none) (.pointer none)).run Try.prog w = .ok (.bool true) w := fun _ => rfl
  go_enter Try.func17, Try.ntmps17
  go_wp2_with fail
  go_ret
  exact ⟨rfl, Below.refl _ _⟩
set_option maxRecDepth 100000 in
theorem clone_nil (w : World) : Calls Try.prog 24 #[.pointer none] w fun e w' => e = .returned (.pointer none) ∧ Below w.heap.size w w' := by
  have hn0 : ∀ w : World, (binOp .eql 25 (.pointer none) (.pointer none)).run Try.prog w = .ok (.bool true) w := fun _ => rfl
  go_enter Try.func24, Try.ntmps24
  go_wp2_with fail
  go_ret
  exact ⟨rfl, Below.refl _ _⟩
set_option maxRecDepth 100000 in
theorem fill_nil (w : World) : Calls Try.prog 23 #[.pointer none, .int .u32 0, .slice none 0 0] w fun e w' => e = .returned (.int .i64 2) ∧ Below w.heap.size w w' := by
  have hn0 : ∀ w : World, (binOp .eql 25 (.pointer none) (.pointer none)).run Try.prog w = .ok (.bool true) w := fun _ => rfl
  go_enter Try.func23, Try.ntmps23
  go_wp2_with fail
  go_ret
  exact ⟨rfl, Below.refl _ _⟩
set_option maxRecDepth 100000 in
theorem fresh_nil (w : World) : Calls Try.prog 19 #[.pointer none, .bool true] w fun e w' => e = .returned (.tuple #[]) ∧ Below w.heap.size w w' := by
  have hn0 : ∀ w : World, (binOp .eql 25 (.pointer none) (.pointer none)).run Try.prog w = .ok (.bool true) w := fun _ => rfl
  go_enter Try.func19, Try.ntmps19
  go_wp2_with fail
  refine bodyPost_ret (results_none (by rfl) _ _ _) rfl ?_
  exact ⟨rfl, Below.refl _ _⟩
set_option maxRecDepth 100000 in
theorem same_nil (w : World) : Calls Try.prog 25 #[.pointer none, .pointer none] w fun e w' => e = .returned (.bool true) ∧ Below w.heap.size w w' := by
  have hn0 : ∀ w : World, (binOp .eql 25 (.pointer none) (.pointer none)).run Try.prog w = .ok (.bool true) w := fun _ => rfl
  go_enter Try.func25, Try.ntmps25
  go_wp2_with fail
  go_ret
  exact ⟨rfl, Below.refl _ _⟩
set_option maxRecDepth 100000 in
theorem same_nil_some (p : Nat) (w : World) : Calls Try.prog 25 #[.pointer none, .pointer (some ⟨p, 0, none⟩)] w fun e w' => e = .returned (.bool false) ∧ Below w.heap.size w w' := by
  have hn0 : ∀ w : World, (binOp .eql 25 (.pointer none) (.pointer none)).run Try.prog w = .ok (.bool true) w := fun _ => rfl
  have hep : ∀ w : World, (binOp .eql 25 (.pointer (some ⟨p, 0, none⟩)) (.pointer none)).run Try.prog w = .ok (.bool false) w := fun _ => rfl
  have hz : ∀ w : World, (binOp .eql 25 (.pointer none) (.pointer (some ⟨p, 0, none⟩))).run Try.prog w = .ok (.bool false) w := fun _ => rfl
  go_enter Try.func25, Try.ntmps25
  go_wp2_with fail
  go_ret
  exact ⟨rfl, Below.refl _ _⟩
set_option maxRecDepth 100000 in
theorem same_some_nil (p : Nat) (w : World) : Calls Try.prog 25 #[.pointer (some ⟨p, 0, none⟩), .pointer none] w fun e w' => e = .returned (.bool false) ∧ Below w.heap.size w w' := by
  have hn0 : ∀ w : World, (binOp .eql 25 (.pointer none) (.pointer none)).run Try.prog w = .ok (.bool true) w := fun _ => rfl
  have hep : ∀ w : World, (binOp .eql 25 (.pointer (some ⟨p, 0, none⟩)) (.pointer none)).run Try.prog w = .ok (.bool false) w := fun _ => rfl
  have hz : ∀ w : World, (binOp .eql 25 (.pointer none) (.pointer (some ⟨p, 0, none⟩))).run Try.prog w = .ok (.bool false) w := fun _ => rfl
  go_enter Try.func25, Try.ntmps25
  go_wp2_with fail
  go_ret
  exact ⟨rfl, Below.refl _ _⟩
end Go.Proofs.Ytliggejkpmlgfaa
