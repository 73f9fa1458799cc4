/-
  Queues as plain things, and how they read in memory. Each statement bears its own conditions.
-/
import Derived.Test.YtejambofnffopaaQuE
namespace Go.Proofs.Ytejambofnffopaa.Q
open Go.RowKit Go.Proofs.Ytejambofnffopaa.F Go.Proofs.Ytejambofnffopaa.U
set_option linter.unusedVariables false
set_option linter.unusedSimpArgs false
theorem ne_sq : (33 : TypeId) ≠ 61 := by decide
theorem ne_us : (52 : TypeId) ≠ 33 := by decide
theorem ne_uq : (52 : TypeId) ≠ 61 := by decide
/-- Messages that are read. -/
structure Mr (w : World) (r : Nat → Prop) (S : List Sl) (LL : List (List Int)) : Prop where
  len : S.length = LL.length
  at_ : ∀ (i : Nat) (s : Sl) (L : List Int), S[i]? = some s → LL[i]? = some L → Sq w r (slv s) L.length (CU L)
/-- Messages that are owned. -/
structure Ms (w : World) (r : Nat → Prop) (S : List Sl) (LL : List (List Int)) : Prop where
  len : S.length = LL.length
  at_ : ∀ (i : Nat) (s : Sl) (L : List Int), S[i]? = some s → LL[i]? = some L → Ow 52 w r (slv s) L.length (CU L)
/-- Blocks of a kind of their own. -/
def Ty (w : World) (p : Nat → Prop) : Prop := ∀ b, p b → b < w.heap.size → ∃ c t fr, w.heap[b]? = some (.cells c t fr) ∧ t ≠ 52
theorem _root_.Go.Proofs.Ytejambofnffopaa.F.Ow.off {w : World} {r p : Nat → Prop} {v : Value} {n : Nat} {xs : List Value} (h : Ow 52 w r v n xs) (hp : Ty w p) : Ow 52 w (fun b => r b ∧ ¬ p b) v n xs := by
  refine ⟨h.own, fun b hb => ⟨⟨(h.at_ b hb).1, fun hq => ?_⟩, (h.at_ b hb).2⟩⟩
  obtain ⟨c, t, fr, hc, ht⟩ := hp b hq (h.at_ b hb).2
  rcases h.form with ⟨rfl, _⟩ | ⟨b1, cap, cur, rfl, _, _, hg1, _⟩
  · cases hb
  · injection hb with hb
    have hb : b1 = b := hb
    subst hb
    rw [hg1] at hc
    injection hc with hc
    injection hc with _ h2
    exact ht h2.symm
section
variable {w w' : World} {r q : Nat → Prop} {S : List Sl} {LL : List (List Int)}
theorem Ms.mr (h : Ms w r S LL) : Mr w r S LL := ⟨h.len, fun i s L h1 h2 => (h.at_ i s L h1 h2).sq⟩
theorem Ms.imp (h : Ms w r S LL) (hi : ∀ b, b < w.heap.size → r b → q b) : Ms w q S LL := ⟨h.len, fun i s L h1 h2 => (h.at_ i s L h1 h2).imp hi⟩
theorem Ms.below (h : Ms w r S LL) (hb : Below w.heap.size w w') : Ms w' r S LL := ⟨h.len, fun i s L h1 h2 => (h.at_ i s L h1 h2).below hb⟩
theorem Ms.fo (h : Ms w r S LL) (hf : Fo q w w') (hd : ∀ b, r b → ¬ q b) : Ms w' r S LL := ⟨h.len, fun i s L h1 h2 => (h.at_ i s L h1 h2).fo hf hd⟩
theorem Ms.fot (h : Ms w r S LL) (hf : Fo q w w') (ht : Ty w q) : Ms w' r S LL := ⟨h.len, fun i s L h1 h2 => (((h.at_ i s L h1 h2).off ht).fo hf fun b hb => hb.2).imp fun b _ hb => hb.1⟩
theorem Mr.imp (h : Mr w r S LL) (hi : ∀ b, b < w.heap.size → r b → q b) : Mr w q S LL := ⟨h.len, fun i s L h1 h2 => (h.at_ i s L h1 h2).imp hi⟩
theorem Mr.below (h : Mr w r S LL) (hb : Below w.heap.size w w') : Mr w' r S LL := ⟨h.len, fun i s L h1 h2 => (h.at_ i s L h1 h2).belowP hb⟩
theorem Ms.nil (w : World) (r : Nat → Prop) : Ms w r [] [] := ⟨rfl, fun i s L h1 _ => by simp at h1⟩
theorem Ms.app {S' : List Sl} {LL' : List (List Int)} (h : Ms w r S LL) (h' : Ms w r S' LL') : Ms w r (S ++ S') (LL ++ LL') := by
  refine ⟨by rw [List.length_append, List.length_append, h.len, h'.len], fun i s L h1 h2 => ?_⟩
  by_cases hi : i < S.length
  · rw [List.getElem?_append_left hi] at h1
    rw [List.getElem?_append_left (by rw [← h.len]; exact hi)] at h2
    exact h.at_ i s L h1 h2
  · rw [List.getElem?_append_right (by omega)] at h1
    rw [List.getElem?_append_right (by rw [← h.len]; omega), ← h.len] at h2
    exact h'.at_ _ s L h1 h2
theorem Ms.one {s : Sl} {L : List Int} (h : Ow 52 w r (slv s) L.length (CU L)) : Ms w r [s] [L] := by
  refine ⟨rfl, fun i s' L' h1 h2 => ?_⟩
  match i with
  | 0 => simp at h1 h2; subst h1 h2; exact h
  | i + 1 => simp at h1
theorem Ms.drop (h : Ms w r S LL) (j : Nat) : Ms w r (S.drop j) (LL.drop j) :=
  ⟨by rw [List.length_drop, List.length_drop, h.len], fun i s L h1 h2 => by
    rw [List.getElem?_drop] at h1 h2
    exact h.at_ _ s L h1 h2⟩
theorem Ms.take (h : Ms w r S LL) (j : Nat) : Ms w r (S.take j) (LL.take j) :=
  ⟨by rw [List.length_take, List.length_take, h.len], fun i s L h1 h2 => by
    have hi : i < j := by
      by_cases hi : i < j
      · exact hi
      · rw [List.getElem?_eq_none (by rw [List.length_take]; omega)] at h1; cases h1
    rw [List.getElem?_take_of_lt hi] at h1 h2
    exact h.at_ _ s L h1 h2⟩
theorem Mr.drop (h : Mr w r S LL) (j : Nat) : Mr w r (S.drop j) (LL.drop j) :=
  ⟨by rw [List.length_drop, List.length_drop, h.len], fun i s L h1 h2 => by
    rw [List.getElem?_drop] at h1 h2
    exact h.at_ _ s L h1 h2⟩
theorem Mr.take (h : Mr w r S LL) (j : Nat) : Mr w r (S.take j) (LL.take j) :=
  ⟨by rw [List.length_take, List.length_take, h.len], fun i s L h1 h2 => by
    have hi : i < j := by
      by_cases hi : i < j
      · exact hi
      · rw [List.getElem?_eq_none (by rw [List.length_take]; omega)] at h1; cases h1
    rw [List.getElem?_take_of_lt hi] at h1 h2
    exact h.at_ _ s L h1 h2⟩
theorem Mr.n {i : Nat} {s : Sl} {L : List Int} (h : Mr w r S LL) (h1 : S[i]? = some s) (h2 : LL[i]? = some L) : s.2.1 = L.length := by
  obtain ⟨A, c, e⟩ := (h.at_ i s L h1 h2).form
  unfold slv at e
  injection e
theorem Mr.len2 (h : Mr w r S LL) : (CS S).length = LL.length := by rw [CS_len]; exact h.len
/-- One message, and its slice. -/
theorem Mr.get (h : Mr w r S LL) {i : Nat} (hi : i < LL.length) : ∃ (A : Option Addr) (c : Nat) (L : List Int), S[i]? = some (A, L.length, c) ∧ LL[i]? = some L ∧ Sq w r (.slice A L.length c) L.length (CU L) := by
  have h1 : i < S.length := by rw [h.len]; exact hi
  have e1 := List.getElem?_eq_getElem h1
  have e2 := List.getElem?_eq_getElem hi
  have hn := h.n e1 e2
  have hs := h.at_ i _ _ e1 e2
  obtain ⟨⟨A, m, c⟩, hsx⟩ : ∃ s, S[i] = s := ⟨_, rfl⟩
  rw [hsx] at e1 hn hs
  simp only at hn
  subst hn
  exact ⟨A, c, _, e1, e2, hs⟩
end
/-- A queue lies in block g; the blocks that change are those of which p holds, none below lo; messages lie in blocks of which r holds. -/
structure QV (lo : Nat) (w : World) (p r : Nat → Prop) (g : Nat) (n k : Int) (LL : List (List Int)) (lost : Bool) : Prop where
  low : ∀ b, p b → lo ≤ b ∧ b < w.heap.size
  ty : Ty w p
  pg : p g
  ex : ∃ vm S, w.heap[g]? = some (.cells #[.int .i64 n, .int .i64 k, vm, .bool lost] 61 (0, 0)) ∧ Ow 33 w p vm LL.length (CS S) ∧ Ms w r S LL
  bd : 1 ≤ n ∧ n ≤ 32 ∧ 1 ≤ k ∧ k ≤ 32 ∧ (LL.length : Int) ≤ k ∧ ∀ L ∈ LL, (L.length : Int) ≤ n
section
variable {lo : Nat} {w w' : World} {p r q : Nat → Prop} {g : Nat} {n k : Int} {LL : List (List Int)} {lost : Bool}
theorem QV.lt (h : QV lo w p r g n k LL lost) : g < w.heap.size := (h.low g h.pg).2
theorem QV.nil (h : QV lo w p r g n k LL lost) : lo ≤ w.heap.size := by have := h.low g h.pg; omega
theorem Ty.keep {p : Nat → Prop} (h : Ty w p) (hk : ∀ b, b < w.heap.size → p b → w'.heap[b]? = w.heap[b]?) (hl : ∀ b, p b → b < w.heap.size) : Ty w' p := fun b hb _ => by
  obtain ⟨c, t, fr, h1, h2⟩ := h b hb (hl b hb)
  exact ⟨c, t, fr, (hk b (hl b hb) hb).trans h1, h2⟩
theorem QV.keep (h : QV lo w p r g n k LL lost) (hs : w.heap.size ≤ w'.heap.size) (hk : ∀ b, b < w.heap.size → p b → w'.heap[b]? = w.heap[b]?) (hm : ∀ S, Ms w r S LL → Ms w' r S LL) : QV lo w' p r g n k LL lost := by
  obtain ⟨vm, S, a, b, c⟩ := h.ex
  exact ⟨fun b hb => ⟨(h.low b hb).1, Nat.lt_of_lt_of_le (h.low b hb).2 hs⟩, h.ty.keep hk fun b hb => (h.low b hb).2, h.pg, ⟨vm, S, (hk g h.lt h.pg).trans a, (b.keep hs hk).imp fun _ _ h => h.2, hm S c⟩, h.bd⟩
theorem QV.below (h : QV lo w p r g n k LL lost) (hb : Below w.heap.size w w') : QV lo w' p r g n k LL lost := h.keep hb.size (fun b h1 _ => hb.block b h1) fun S m => m.below hb
theorem QV.fo (h : QV lo w p r g n k LL lost) (hf : Fo q w w') (hd : ∀ b, p b → ¬ q b) (hr : ∀ b, r b → ¬ q b) : QV lo w' p r g n k LL lost := h.keep hf.size (fun b h1 h2 => hf.block b h1 (hd b h2)) fun S m => m.fo hf hr
theorem QV.fot (h : QV lo w p r g n k LL lost) (hf : Fo q w w') (hd : ∀ b, p b → ¬ q b) (ht : Ty w q) : QV lo w' p r g n k LL lost := h.keep hf.size (fun b h1 h2 => hf.block b h1 (hd b h2)) fun S m => m.fot hf ht
theorem QV.less {lo' : Nat} (h : QV lo w p r g n k LL lost) (hl : lo' ≤ lo) : QV lo' w p r g n k LL lost := ⟨fun b hb => ⟨Nat.le_trans hl (h.low b hb).1, (h.low b hb).2⟩, h.ty, h.pg, h.ex, h.bd⟩
theorem QV.nx (h : QV lo w p r g n k LL lost) (x : Nx p q w w') : Below lo w w' := x.fo.below (fun b hb => (h.low b hb).1) h.nil
/-- The cells of a queue. -/
theorem QV.four (h : QV lo w p r g n k LL lost) : ∃ Am cm S, w.heap[g]? = some (.cells #[.int .i64 n, .int .i64 k, .slice Am LL.length cm, .bool lost] 61 (0, 0)) ∧ Ow 33 w p (.slice Am LL.length cm) LL.length (CS S) ∧ Ms w r S LL := by
  obtain ⟨vm, S, a, b, c⟩ := h.ex
  obtain ⟨Am, cm, rfl⟩ := b.sl
  exact ⟨Am, cm, S, a, b, c⟩
end
theorem new_any (r : Nat → Prop) (n k : Int) (w : World) (h1 : 1 ≤ n) (h2 : n ≤ 32) (h3 : 1 ≤ k) (h4 : k ≤ 32) : Calls Try.prog 9 #[.int .i64 n, .int .i64 k] w fun e w' => e = .returned (.tuple #[.pointer (some ⟨w.heap.size, 0, none⟩), .int .i64 0]) ∧ QV w.heap.size w' (fun b => b = w.heap.size) r w.heap.size n k [] false ∧ Below w.heap.size w w' := by
  have HN : Hid (1 ≤ n ∧ n ≤ 32 ∧ 1 ≤ k ∧ k ≤ 32) := ⟨h1, h2, h3, h4⟩
  have h1'' : decide (n < 1) = false := by simpa using h1
  have h2'' : decide (32 < n) = false := by simpa using h2
  have h3'' : decide (k < 1) = false := by simpa using h3
  have h4'' : decide (32 < k) = false := by simpa using h4
  clear h1 h2 h3 h4
  go_enter Try.func9, Try.ntmps9
  go_wp2_with fail
  go_ret2
  exact ⟨rfl, ⟨fun b hb => by subst hb; simp, fun b hb _ => by subst hb; exact ⟨_, _, _, heap_alloc_new w _, fun e => ne_uq e.symm⟩, rfl, ⟨_, [], heap_alloc_new w _, Ow.nil _ _ _, Ms.nil _ _⟩, by have := HN.out; simp; omega⟩, (Below.refl _ _).alloc (Nat.le_refl _) _⟩
theorem new_bad (n k : Int) (w : World) (h : ¬ (1 ≤ n ∧ n ≤ 32 ∧ 1 ≤ k ∧ k ≤ 32)) : Calls Try.prog 9 #[.int .i64 n, .int .i64 k] w fun e w' => e = .returned (.tuple #[.pointer none, .int .i64 2]) ∧ w' = w := by
  by_cases h0 : n < 1
  · have g0 : decide (n < 1) = true := by simpa using h0
    clear h
    go_enter Try.func9, Try.ntmps9
    go_wp2_with fail
    go_ret2
    exact ⟨rfl, rfl⟩
  have g0 : decide (n < 1) = false := by simpa using h0
  by_cases h1 : 32 < n
  · have g1 : decide (32 < n) = true := by simpa using h1
    clear h
    go_enter Try.func9, Try.ntmps9
    go_wp2_with fail
    go_ret2
    exact ⟨rfl, rfl⟩
  have g1 : decide (32 < n) = false := by simpa using h1
  by_cases h2 : k < 1
  · have g2 : decide (k < 1) = true := by simpa using h2
    clear h
    go_enter Try.func9, Try.ntmps9
    go_wp2_with fail
    go_ret2
    exact ⟨rfl, rfl⟩
  have g2 : decide (k < 1) = false := by simpa using h2
  have h3 : 32 < k := by omega
  have g3 : decide (32 < k) = true := by simpa using h3
  clear h
  go_enter Try.func9, Try.ntmps9
  go_wp2_with fail
  go_ret2
  exact ⟨rfl, rfl⟩
set_option maxRecDepth 100000 in
set_option maxHeartbeats 4000000 in
theorem free_any (lo : Nat) (p r : Nat → Prop) (g : Nat) (n k : Int) (LL : List (List Int)) (lost : Bool) (w : World) (h : QV lo w p r g n k LL lost) :
    Calls Try.prog 26 #[.pointer (some ⟨g, 0, none⟩)] w fun e w' => e = .returned (.int .i64 (k - (LL.length : Int))) ∧ Below w.heap.size w w' := by
  obtain ⟨Am, cm, S, a, b, c⟩ := h.four
  have d0 : w.cell? ⟨g, 0, none⟩ = some (.int .i64 n) := by rw [(row_cell a 0).1]; rfl
  have d1 : w.cell? ⟨g, 1, none⟩ = some (.int .i64 k) := by rw [(row_cell a 1).1]; rfl
  have d2 : w.cell? ⟨g, 2, none⟩ = some (.slice Am LL.length cm) := by rw [(row_cell a 2).1]; rfl
  have d3 : w.cell? ⟨g, 3, none⟩ = some (.bool lost) := by rw [(row_cell a 3).1]; rfl
  have HWR : Hid (IntKind.i64.wrap (k - (LL.length : Int)) = k - (LL.length : Int)) := by have := h.bd; unfold Hid; rw [IntKind.wrap_i64]; omega
  obtain ⟨nm, hnm⟩ : ∃ k, LL.length = k := ⟨_, rfl⟩
  rw [hnm] at d2 HWR ⊢
  clear a b c h d0 d3 hnm
  go_enter Try.func26, Try.ntmps26
  go_wp2_with fail
  refine wp_region_held_drew (S := (fun w' => Below w.heap.size w w' ∧ w'.cell? ⟨g, 1, none⟩ = some (.int .i64 k) ∧ w'.cell? ⟨g, 2, none⟩ = some (.slice Am nm cm))) (by kernel_rfl) ?_ (fun hHeld => ?_)
  · exact ⟨(Below.refl _ _).drew, d1, d2⟩
  refine takeD (i := 0) (d := some 5) (v := ?_) _ rfl rfl (by kernel_rfl) (by kernel_rfl) (by kernel_rfl) (fun _ _ _ h => h) (by rfl) ?_ (by assumption) ?_
  rotate_left
  · (intro w hSw; (try dsimp only at hSw); go_simp) <;> with_reducible rfl
  try simp only [Act.put, List.setIfInBounds_toArray, List.set_cons_zero, List.set_cons_succ]
  refine takeD (i := 1) (d := some 6) (v := ?_) _ rfl rfl (by kernel_rfl) (by kernel_rfl) (by kernel_rfl) (fun _ _ _ h => h) (by rfl) ?_ (by assumption) ?_
  rotate_left
  · (intro w hSw; (try dsimp only at hSw); go_simp) <;> with_reducible rfl
  try simp only [Act.put, List.setIfInBounds_toArray, List.set_cons_zero, List.set_cons_succ]
  refine takeD (i := 2) (d := some 7) (v := ?_) _ rfl rfl (by kernel_rfl) (by kernel_rfl) (by kernel_rfl) (fun _ _ _ h => h) (by rfl) ?_ (by assumption) ?_
  rotate_left
  · (intro w hSw; (try dsimp only at hSw); go_simp) <;> with_reducible rfl
  try simp only [Act.put, List.setIfInBounds_toArray, List.set_cons_zero, List.set_cons_succ]
  refine takeD (i := 3) (d := some 8) (v := ?_) _ rfl rfl (by kernel_rfl) (by kernel_rfl) (by kernel_rfl) (fun _ _ _ h => h) (by rfl) ?_ (by assumption) ?_
  rotate_left
  · (intro w hSw; (try dsimp only at hSw); go_simp) <;> with_reducible rfl
  try simp only [Act.put, List.setIfInBounds_toArray, List.set_cons_zero, List.set_cons_succ]
  refine takeD (i := 4) (d := some 9) (v := ?_) _ rfl rfl (by kernel_rfl) (by kernel_rfl) (by kernel_rfl) (fun _ _ _ h => h) (by rfl) ?_ (by assumption) ?_
  rotate_left
  · (intro w hSw; (try dsimp only at hSw); go_simp) <;> with_reducible rfl
  try simp only [Act.put, List.setIfInBounds_toArray, List.set_cons_zero, List.set_cons_succ]
  refine takeD (i := 5) (d := some 10) (v := ?_) _ rfl rfl (by kernel_rfl) (by kernel_rfl) (by kernel_rfl) (fun _ _ _ h => h) (by rfl) ?_ (by assumption) ?_
  rotate_left
  · (intro w hSw; (try dsimp only at hSw); go_simp) <;> with_reducible rfl
  try simp only [Act.put, List.setIfInBounds_toArray, List.set_cons_zero, List.set_cons_succ]
  refine takeD (i := 6) (d := some 11) (v := ?_) _ rfl rfl (by kernel_rfl) (by kernel_rfl) (by kernel_rfl) (fun _ _ _ h => h) (by rfl) ?_ (by assumption) ?_
  rotate_left
  · (intro w hSw; (try dsimp only at hSw); go_simp) <;> with_reducible rfl
  try simp only [Act.put, List.setIfInBounds_toArray, List.set_cons_zero, List.set_cons_succ]
  refine takeD (i := 7) (d := some 12) (v := ?_) _ rfl rfl (by kernel_rfl) (by kernel_rfl) (by kernel_rfl) (fun _ _ _ h => h) (by rfl) ?_ (by assumption) ?_
  rotate_left
  · (intro w hSw; (try dsimp only at hSw); go_simp) <;> with_reducible rfl
  try simp only [Act.put, List.setIfInBounds_toArray, List.set_cons_zero, List.set_cons_succ]
  refine takeD (i := 8) (d := some 13) (v := ?_) _ rfl rfl (by kernel_rfl) (by kernel_rfl) (by kernel_rfl) (fun _ _ _ h => h) (by rfl) ?_ (by assumption) ?_
  rotate_left
  · (intro w hSw; (try dsimp only at hSw); go_simp) <;> with_reducible rfl
  try simp only [Act.put, List.setIfInBounds_toArray, List.set_cons_zero, List.set_cons_succ]
  refine takeD (i := 9) (d := some 14) (v := ?_) _ rfl rfl (by kernel_rfl) (by kernel_rfl) (by kernel_rfl) (fun _ _ _ h => h) (by rfl) ?_ (by assumption) ?_
  rotate_left
  · (intro w hSw; (try dsimp only at hSw); go_simp) <;> with_reducible rfl
  try simp only [Act.put, List.setIfInBounds_toArray, List.set_cons_zero, List.set_cons_succ]
  refine takeD (i := 10) (d := some 15) (v := ?_) _ rfl rfl (by kernel_rfl) (by kernel_rfl) (by kernel_rfl) (fun _ _ _ h => h) (by rfl) ?_ (by assumption) ?_
  rotate_left
  · (intro w hSw; (try dsimp only at hSw); go_simp) <;> with_reducible rfl
  try simp only [Act.put, List.setIfInBounds_toArray, List.set_cons_zero, List.set_cons_succ]
  refine takeD (i := 11) (d := some 2) (v := ?_) _ rfl rfl (by kernel_rfl) (by kernel_rfl) (by kernel_rfl) (fun _ _ _ h => h) (by rfl) ?_ (by assumption) ?_
  rotate_left
  · (intro w hSw; (try dsimp only at hSw); go_simp) <;> with_reducible rfl
  try simp only [Act.put, List.setIfInBounds_toArray, List.set_cons_zero, List.set_cons_succ]
  refine wpAnyH_done (by kernel_rfl) ?_ _
  have HB := Lib.hid hHeld.1
  clear hHeld d1 d2
  go_wp2_with fail
  go_ret
  exact ⟨by first | rfl | (rw [HWR.out]; rfl), HB.out⟩
end Go.Proofs.Ytejambofnffopaa.Q
