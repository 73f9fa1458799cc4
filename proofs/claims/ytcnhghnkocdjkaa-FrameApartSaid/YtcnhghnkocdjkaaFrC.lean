/-
  Clones of windows and of tables. Each statement bears its own conditions.
-/
import Derived.Test.YtcnhghnkocdjkaaFrL
namespace Go.Proofs.Ytcnhghnkocdjkaa
open Go.RowKit
set_option linter.unusedVariables false
set_option linter.unusedSimpArgs false
theorem flat_inv {α : Type} {k : Nat} {f : α → List Value} (hk : 0 < k) (hf : ∀ x, (f x).length = k) : ∀ {xs : List α} {j : Nat} {u : Value}, (xs.flatMap f)[j]? = some u → ∃ (i r : Nat) (x : α), xs[i]? = some x ∧ (f x)[r]? = some u ∧ j = i * k + r
  | [], j, u, h => by simp at h
  | y :: ys, j, u, h => by
    rw [List.flatMap_cons] at h
    by_cases hj : j < k
    · rw [List.getElem?_append_left (by rw [hf]; exact hj)] at h
      exact ⟨0, j, y, rfl, h, by omega⟩
    · rw [List.getElem?_append_right (by rw [hf]; omega), hf] at h
      obtain ⟨i, r, x, h1, h2, h3⟩ := flat_inv hk hf h
      exact ⟨i + 1, r, x, by simpa using h1, h2, by rw [Nat.add_mul]; omega⟩
theorem row_reads {w : World} {a : Option Addr} {n cap : Nat} {ws : List MW} (h : Row w 3 RW (.slice a n cap) ws) : Reads w w.heap.size 3 a n (cellsW ws) := by
  obtain ⟨a', cap', e, hm, hc⟩ := h.ex
  injection e with e1 e2 e3
  subst e1 e2 e3
  refine ⟨by unfold cellsW; rw [flat_len (k := 3) (fun _ => rfl)], fun hp => ?_⟩
  obtain ⟨b, off, e1, hlt, h1⟩ := hc hp
  refine ⟨_, e1, hlt, fun j u hu => ?_⟩
  obtain ⟨i, r, x, g1, g2, g3⟩ := flat_inv (k := 3) (by decide) (fun _ => rfl) hu
  obtain ⟨cs, g4, _, g5⟩ := h1 i x g1
  obtain ⟨g6, _⟩ := g4
  subst g6
  have := g5 r u g2
  rw [Addr.add_lit, g3]
  rw [Nat.add_assoc] at this
  exact this
theorem own_base {w : World} {b0 b1 e size n : Nat} {v : Value} {xs : List Value} (h : w.ownsRow b1 e size v n xs) (hb : b0 ≤ b1) : w.ownsRow b0 e size v n xs := by
  refine ⟨h.1, ?_⟩
  rcases h.2 with h1 | ⟨g, cap, cur, hv, hbg, r⟩
  · exact .inl h1
  · exact .inr ⟨g, cap, cur, hv, Nat.le_trans hb hbg, r⟩
theorem own_same {w w' : World} {b e size n : Nat} {v : Value} {xs : List Value} (h : w.ownsRow b e size v n xs) (hs : ∀ g, v.ownBlock = some g → w'.heap[g]? = w.heap[g]?) : w'.ownsRow b e size v n xs := by
  refine ⟨h.1, ?_⟩
  rcases h.2 with h1 | ⟨g, cap, cur, hv, hbg, hg, r⟩
  · exact .inl h1
  · refine .inr ⟨g, cap, cur, hv, hbg, ?_, r⟩
    subst hv
    rw [hs g rfl]; exact hg
/-- Windows in a row that was made. -/
def FreshW (B : Nat) (w : World) (r : Value) (ws : List MW) : Prop := ∃ n, w.ownsRow B 40 3 r n (cellsW ws) ∧ (∀ x ∈ ws, I64 x.who ∧ I64 x.frm ∧ I64 x.len) ∧ n ≤ rowMax
theorem FreshW.row {B : Nat} {w : World} {r : Value} {ws : List MW} (h : FreshW B w r ws) : Row w 3 RW r ws := by
  obtain ⟨n, h1, h2, h3⟩ := h
  exact own_rowW h2 h1 h3
theorem FreshW.form {B : Nat} {w : World} {r : Value} {ws : List MW} (h : FreshW B w r ws) : ∃ a n c, r = .slice a n c := by
  obtain ⟨n, h1, _⟩ := h
  obtain ⟨A, c, e⟩ := slice_form h1
  exact ⟨A, n, c, e⟩
theorem FreshW.same {B : Nat} {w w' : World} {r : Value} {ws : List MW} (h : FreshW B w r ws) (hs : ∀ g, r.ownBlock = some g → w'.heap[g]? = w.heap[g]?) : FreshW B w' r ws := by
  obtain ⟨n, h1, h2, h3⟩ := h
  exact ⟨n, own_same h1 hs, h2, h3⟩
theorem FreshW.lt {B : Nat} {w : World} {r : Value} {ws : List MW} (h : FreshW B w r ws) : ∀ g, r.ownBlock = some g → B ≤ g ∧ g < w.heap.size := by
  obtain ⟨n, h1, _⟩ := h
  exact fun g hg => h1.lt g hg
theorem FreshW.below {B : Nat} {w w' : World} {r : Value} {ws : List MW} (h : FreshW B w r ws) (hb : Below w.heap.size w w') : FreshW B w' r ws := h.same fun g hg => hb.block g (h.lt g hg).2
theorem FreshW.base {B B' : Nat} {w : World} {r : Value} {ws : List MW} (h : FreshW B w r ws) (hb : B' ≤ B) : FreshW B' w r ws := by
  obtain ⟨n, h1, h2⟩ := h
  exact ⟨n, own_base h1 hb, h2⟩
theorem row_newW (w : World) : (w.alloc (.cells #[] 40)).ownsRow w.heap.size 40 3 (.slice (some ⟨w.heap.size, 0, none⟩) 0 0) 0 (cellsW []) :=
  ⟨rfl, .inr ⟨w.heap.size, 0, #[], rfl, Nat.le_refl _, heap_alloc_new w _, Nat.le_refl _, by unfold maxLen; omega, rfl, rfl⟩⟩
theorem cellsW_one (ws : List MW) : ∀ u ∈ cellsW ws, u.oneCell' = true := by
  intro u hu
  obtain ⟨x, _, hx⟩ := List.mem_flatMap.1 hu
  simp [MW.cells] at hx
  rcases hx with rfl | rfl | rfl <;> rfl
set_option maxRecDepth 100000 in
set_option maxHeartbeats 4000000 in
theorem wclone_any (v : Value) (ws : List MW) (w : World) (h : Row w 3 RW v ws) (hlen : ws.length ≤ 70) :
    Calls Try.prog 43 #[v] w fun e w' => (∃ r, e = .returned r ∧ FreshW w.heap.size w' r ws) ∧ Below w.heap.size w w' := by
  obtain ⟨i0, hi, hz0, hz1, hz2⟩ := frinfo_of win_info
  obtain ⟨a, cap, rfl, hm⟩ := h.form
  obtain ⟨n, hn⟩ : ∃ n, ws.length = n := ⟨_, rfl⟩
  have HG := Lib.hid (row_good h)
  rw [hn] at h hlen ⊢
  rcases a with _ | ad
  · have hn0 : n = 0 := by
      rcases Nat.eq_zero_or_pos n with h0 | h0
      · exact h0
      · obtain ⟨_, b, off, x, cs, e, _⟩ := h.at_ 0 h0
        cases e
    have hws : ws = [] := List.eq_nil_of_length_eq_zero (by omega)
    subst hws
    subst hn0
    have he : ∀ w : World, (binOp .eql 22 (.slice none 0 cap) (.slice none 0 0)).run Try.prog w = .ok (.bool true) w := fun _ => rfl
    clear h hn hm hlen
    go_enter Try.func43, Try.ntmps43
    go_wp2_with fail
    go_ret
    exact ⟨⟨_, rfl, 0, World.ownsRow_nil _ _ _ _, by simp, by simp⟩, Below.refl _ _⟩
  · have RD := Lib.hid (row_reads h)
    have HN := Lib.hid hn
    have HL := Lib.hid hlen
    clear h hn hm hlen
    have he : ∀ w : World, (binOp .eql 22 (.slice (some ad) n cap) (.slice none 0 0)).run Try.prog w = .ok (.bool false) w := fun _ => rfl
    go_enter Try.func43, Try.ntmps43
    go_wp2_with (at_builtin; refine wpList_append_any _ rfl (.tmp 5) (.tmp 6) _ rfl w.heap.size 40 i0 _ 3 24 Try.underlying22 hi hz0 hz1 hz2 rfl (by omega) (.slice (some ⟨w.heap.size, 0, none⟩) 0 0) 0 (cellsW []) rfl (row_newW w) w.heap.size (some ad) n cap (cellsW ws) rfl (RD.out.alloc (Nat.le_refl _) _) (cellsW_one _) ?c2 ?c3 ?c4 ?_)
    case c2 => have := HL.out; unfold maxLen; omega
    case c3 => have := HL.out; omega
    case c4 => simp
    intro v2 w2 ho hgr hbl
    have ho' : w2.ownsRow w.heap.size 40 3 v2 n (cellsW ws) := by simpa [cellsW] using ho
    have hbel : Hid (Below w.heap.size w w2) := ((Below.refl _ _).alloc (Nat.le_refl _) _).grown hgr (by simp) (fun q hq => by have h' : some w.heap.size = some q := hq; injection h' with h'; omega)
    obtain ⟨A2, c2, rfl⟩ := slice_form ho'
    have HO := Lib.hid ho'
    clear ho ho' hgr hbl
    go_wp2_with fail
    go_ret
    exact ⟨⟨_, rfl, n, HO.out, HG.out, by have := HL.out; unfold rowMax; omega⟩, hbel.out⟩
set_option maxRecDepth 100000 in
set_option maxHeartbeats 4000000 in
theorem tclone_any (fr : Int) (v : Value) (ws : List MW) (w : World) (h : Row w 3 RW v ws) (hlen : ws.length ≤ 70) :
    Calls Try.prog 41 #[.agg #[.int .i64 fr, v]] w fun e w' => (∃ r, e = .returned (.agg #[.int .i64 fr, r]) ∧ FreshW w.heap.size w' r ws) ∧ Below w.heap.size w w' := by
  obtain ⟨a, cap, rfl, hm⟩ := h.form
  have CL := Lib.hid fun W (hb : Below w.heap.size w W) => wclone_any (.slice a ws.length cap) ws W (h.below hb) hlen
  obtain ⟨n, hn⟩ : ∃ n, ws.length = n := ⟨_, rfl⟩
  rw [hn] at CL ⊢
  clear h hm hlen hn
  go_enter Try.func41, Try.ntmps41
  go_wp2_with fail
  obtain ⟨W0, hW0⟩ : ∃ W0, (w.alloc (.cells #[.int .i64 fr, .slice a n cap] 24)).alloc (.cells #[.int .i64 0, .slice none 0 0] 24) = W0 := ⟨_, rfl⟩
  have BW : Hid (Below w.heap.size w W0) := by rw [← hW0]; exact ((Below.refl _ _).alloc (Nat.le_refl _) _).alloc (by simp) _
  have HS : Hid (W0.heap.size = w.heap.size + 2) := by rw [← hW0]; unfold Hid; simp
  have HH : Hid (W0.heap[w.heap.size + 1]? = some (.cells #[.int .i64 0, .slice none 0 0] 24 (0, 0))) := by rw [← hW0]; unfold Hid; have := heap_alloc_new (w.alloc (.cells #[.int .i64 fr, .slice a n cap] 24)) (.cells #[.int .i64 0, .slice none 0 0] 24); simpa using this
  have d0 : W0.cell? ⟨w.heap.size, 0, none⟩ = some (.int .i64 fr) := by rw [← hW0]; exact cell_al _ (by simp)
  have d1 : W0.cell? ⟨w.heap.size, 1, none⟩ = some (.slice a n cap) := by rw [← hW0]; exact cell_al _ (by simp)
  simp only [hW0]
  clear hW0
  refine wp_region_held_drew (S := (fun w' => Below w.heap.size w w' ∧ w'.cell? ⟨w.heap.size, 0, none⟩ = some (.int .i64 fr) ∧ w'.cell? ⟨w.heap.size, 1, none⟩ = some (.slice a n cap))) (by kernel_rfl) ?_ (fun hHeld => ?_)
  · exact ⟨below_drewN BW.out 1, d0, d1⟩
  refine takeD (i := 0) (d := some 3) (v := ?_) _ rfl rfl (by kernel_rfl) (by kernel_rfl) (by kernel_rfl) (fun _ _ _ h => h) (by rfl) ?_ (by assumption) ?_
  rotate_left
  · (intro w hSw; (try dsimp only at hSw); go_simp) <;> with_reducible rfl
  try simp only [Act.put, List.setIfInBounds_toArray, List.set_cons_zero, List.set_cons_succ]
  refine takeD (i := 2) (d := some 5) (v := ?_) _ rfl rfl (by kernel_rfl) (by kernel_rfl) (by kernel_rfl) (fun _ _ _ h => h) (by rfl) ?_ (by assumption) ?_
  rotate_left
  · (intro w hSw; (try dsimp only at hSw); go_simp) <;> with_reducible rfl
  try simp only [Act.put, List.setIfInBounds_toArray, List.set_cons_zero, List.set_cons_succ]
  refine takeD (i := 1) (d := some 4) (v := ?_) _ rfl rfl (by kernel_rfl) (by kernel_rfl) (by kernel_rfl) (fun _ _ _ h => h) (by rfl) ?_ (by assumption) ?_
  rotate_left
  · (intro w hSw; (try dsimp only at hSw); go_simp) <;> with_reducible rfl
  try simp only [Act.put, List.setIfInBounds_toArray, List.set_cons_zero, List.set_cons_succ]
  refine takeD (i := 3) (d := some 6) (v := ?_) _ rfl rfl (by kernel_rfl) (by kernel_rfl) (by kernel_rfl) (fun _ _ _ h => h) (by rfl) ?_ (by assumption) ?_
  rotate_left
  · (intro w hSw; (try dsimp only at hSw); go_simp) <;> with_reducible rfl
  try simp only [Act.put, List.setIfInBounds_toArray, List.set_cons_zero, List.set_cons_succ]
  clear hHeld
  refine wpAnyH_ready (rs := [4]) (by kernel_rfl) (by simp) ?_
  refine AllReadyH.cons rfl (fun K hK => ?_) AllReadyH.nil
  go_simp
  go_at_call 43
  refine (CL.out _ (below_drewN BW.out 1)).mono ?_
  rintro e W1 ⟨⟨r, rfl, hr⟩, b⟩
  obtain ⟨ra, rn, rc, rfl⟩ := hr.form
  try go_wp2_with fail
  have B1 : Hid (Below w.heap.size w W1) := (below_drewN BW.out 1).trans (b.mono BW.out.size)
  have e0 : W1.cell? ⟨w.heap.size, 0, none⟩ = some (.int .i64 fr) := cell_later b d0
  have e1 : W1.cell? ⟨w.heap.size, 1, none⟩ = some (.slice a n cap) := cell_later b d1
  have hh : W1.heap[w.heap.size + 1]? = some (.cells #[.int .i64 0, .slice none 0 0] 24 (0, 0)) := (b.block _ (by show w.heap.size + 1 < W0.heap.size; rw [HS.out]; omega)).trans HH.out
  have HHH := Lib.hid hh
  have HR : Hid (FreshW (w.heap.size + 2) W1 (.slice ra rn rc) ws) := by have := HS.out; rw [← this]; exact hr
  refine hK.out _ _ ⟨B1.out, e0, e1⟩ (fun hHeld => ?_)
  clear hK K b hr d0 d1
  try simp only [Act.put, List.setIfInBounds_toArray, List.set_cons_zero, List.set_cons_succ]
  refine takeD (i := 5) (d := some 8) (v := ?_) _ rfl rfl (by kernel_rfl) (by kernel_rfl) (by kernel_rfl) (fun _ _ _ h => h) (by rfl) ?_ (by assumption) ?_
  rotate_left
  · (intro w hSw; (try dsimp only at hSw); go_simp) <;> with_reducible rfl
  try simp only [Act.put, List.setIfInBounds_toArray, List.set_cons_zero, List.set_cons_succ]
  refine wpAnyH_ready (rs := [6]) (by kernel_rfl) (by simp) ?_
  refine AllReadyH.cons rfl (fun K hK => ?_) AllReadyH.nil
  have g0 := (row_cell hh 0).2
  have g1 := (row_cell hh 1).2
  have k0 := (row_cell hh 0).1
  have k1 := (row_cell hh 1).1
  simp at k0 k1
  clear hh
  go_simp
  clear g0 g1 k0 k1
  refine hK.out _ _ ⟨(B1.out.setCell (p := ⟨w.heap.size + 1, 0, none⟩) (by simp) _).setCell (p := ⟨w.heap.size + 1, 1, none⟩) (by simp) _, by rw [World.cell?_setCell_far _ _ _ _ (by simp), World.cell?_setCell_far _ _ _ _ (by simp)]; exact e0, by rw [World.cell?_setCell_far _ _ _ _ (by simp), World.cell?_setCell_far _ _ _ _ (by simp)]; exact e1⟩ (fun hHeld => ?_)
  clear hK K
  try simp only [Act.put, List.setIfInBounds_toArray, List.set_cons_zero, List.set_cons_succ]
  refine wpAnyH_done (by kernel_rfl) ?_ _
  have BF := Lib.hid hHeld.1
  go_wp2_with fail
  refine bodyPost_ret (results_cell_mid rfl _ _ (w.heap.size + 1) _ _ rfl (set_two HHH.out _ _) Try.underlying24 rfl (by kernel_rfl)) rfl ?_
  obtain ⟨n', o1, o2, o3⟩ := HR.out
  exact ⟨⟨_, rfl, n', own_base (ownsRow_setCell_below (ownsRow_setCell_below o1 (by simp) _) (by simp) _) (by omega), o2, o3⟩, BF.out⟩
end Go.Proofs.Ytcnhghnkocdjkaa
