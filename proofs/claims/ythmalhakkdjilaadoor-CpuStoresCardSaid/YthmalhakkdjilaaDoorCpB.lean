/-
  The statements' memory of words: how it lies, and contracts of its methods. Each statement bears its own conditions.
-/
import Derived.Test.YthmalhakkdjilaaDoorCpA
namespace Go.Proofs.YthmalhakkdjilaaDoor
open Go.RowKit
set_option linter.unusedVariables false
set_option linter.unusedSimpArgs false
/-- A memory: its words, how many of them are code, how many stores there were. -/
structure MS where
  W : List Int
  code : Nat
  st : Int
/-- What a load answers: the word, the error; what a fetch answers. -/
def ldX (xs : List Int) (a : Int) : Int := if a < xs.length then xs.getD a.toNat 0 else 0
def ldE (xs : List Int) (a : Int) : Int := if a < xs.length then 0 else 2
def ftX (xs : List Int) (code : Nat) (a : Int) : Int := if a < xs.length then (if a < code then xs.getD a.toNat 0 else 0) else 0
def ftE (xs : List Int) (code : Nat) (a : Int) : Int := if a < xs.length then (if a < code then 0 else 11) else 2
def stV (μ : MS) (a x : Int) : MS × Int := if a < μ.W.length then (if a < μ.code then (μ, 11) else (⟨μ.W.set a.toNat x, μ.code, IntKind.i64.wrap (μ.st + 1)⟩, 0)) else (μ, 2)
/-- A slice of words reads as a list, in a block that is none of some. -/
structure SlW (w : World) (v : Value) (xs : List Int) (ng : Nat → Prop) : Prop where
  ex : ∃ A cap, v = .slice A xs.length cap ∧ (0 < xs.length → ∃ rb off, A = some ⟨rb, off, none⟩ ∧ ¬ ng rb ∧ rb < w.heap.size ∧ ∀ i, i < xs.length → w.cell? ⟨rb, off + i, none⟩ = some (.int .u32 (xs.getD i 0)))
theorem SlW.keep {w w' : World} {v : Value} {xs : List Int} {ng ng' : Nat → Prop} (h : SlW w v xs ng) (hs : w.heap.size ≤ w'.heap.size) (hk : ∀ b, b < w.heap.size → ¬ ng b → w'.heap[b]? = w.heap[b]?) (hn : ∀ b, b < w.heap.size → ¬ ng b → ¬ ng' b) : SlW w' v xs ng' := by
  obtain ⟨A, cap, e, h1⟩ := h.ex
  refine ⟨A, cap, e, fun hp => ?_⟩
  obtain ⟨rb, off, e1, h2, h3, h4⟩ := h1 hp
  exact ⟨rb, off, e1, hn rb h3 h2, by omega, fun i hi => (World.cell?_of_block (hk rb h3 h2)).trans (h4 i hi)⟩
/-- The memory behind an interface value, its struct at block gm, apart from some blocks. -/
structure MM (w : World) (gm : Nat) (mv : Value) (μ : MS) (ng : Nat → Prop) : Prop where
  ex : ∃ v, mv = .iface 31 (.pointer (some ⟨gm, 0, none⟩)) ∧ w.heap[gm]? = some (.cells #[v, .int .i64 μ.code, .int .i64 μ.st] 43 (0, 0)) ∧ ¬ ng gm ∧ SlW w v μ.W (fun b => b = gm ∨ ng b)
  len : μ.W.length ≤ 120
  u32 : ∀ x ∈ μ.W, 0 ≤ x ∧ x < 4294967296
  code : μ.code ≤ 60
  st : -9223372036854775808 ≤ μ.st ∧ μ.st ≤ 9223372036854775807
section
variable {w w' : World} {gm : Nat} {mv : Value} {μ : MS} {ng : Nat → Prop}
theorem MM.lt (h : MM w gm mv μ ng) : gm < w.heap.size := by
  obtain ⟨v, _, h1, _⟩ := h.ex
  exact (Array.getElem?_eq_some_iff.1 h1).1
theorem MM.keep (h : MM w gm mv μ ng) (ng' : Nat → Prop) (hs : w.heap.size ≤ w'.heap.size) (hk : ∀ b, b < w.heap.size → ¬ ng b → w'.heap[b]? = w.heap[b]?) (hg : ∀ b, b < w.heap.size → ¬ ng b → ¬ ng' b) : MM w' gm mv μ ng' := by
  have hlt := h.lt
  obtain ⟨v, h0, h1, h2, h3⟩ := h.ex
  refine ⟨⟨v, h0, (hk gm hlt h2).trans h1, hg gm hlt h2, h3.keep hs (fun b hb hn => hk b hb (fun e => hn (Or.inr e))) (fun b hb hn => ?_)⟩, h.len, h.u32, h.code, h.st⟩
  rintro (e | e)
  · exact hn (Or.inl e)
  · exact hg b hb (fun e' => hn (Or.inr e')) e
theorem MM.past {g : Nat} (h : MM w gm mv μ ng) (hp : Past g w w') (hg : ng g) : MM w' gm mv μ ng := h.keep ng hp.size (fun b hb hn => hp.block b hb (fun e => hn (e ▸ hg))) (fun _ _ h => h)
theorem MM.below (h : MM w gm mv μ ng) (hb : Below w.heap.size w w') : MM w' gm mv μ ng := h.keep ng hb.size (fun b hb' _ => hb.block b hb') (fun _ _ h => h)
theorem MM.fresh (h : MM w gm mv μ ng) (hb : Below w.heap.size w w') (ng' : Nat → Prop) (hg : ∀ b, ng' b → w.heap.size ≤ b) : MM w' gm mv μ ng' := h.keep ng' hb.size (fun b hb' _ => hb.block b hb') (fun b hb' _ e => by have := hg b e; omega)
theorem MM.more (h : MM w gm mv μ ng) (hb : Below w.heap.size w w') (N : Nat) : MM w' gm mv μ (fun b => ng b ∨ (w.heap.size ≤ b ∧ b < N)) := h.keep _ hb.size (fun b hb' _ => hb.block b hb') (fun b hb' h e => by
  rcases e with e | e
  · exact h e
  · omega)
theorem MM.less {P : Nat → Prop} (h : MM w gm mv μ (fun b => ng b ∨ P b)) : MM w gm mv μ ng := h.keep _ (Nat.le_refl _) (fun _ _ _ => rfl) (fun _ _ h e => h (Or.inl e))
theorem MM.any (h : MM w gm mv μ ng) : MM w gm mv μ (fun _ => False) := h.keep _ (Nat.le_refl _) (fun _ _ _ => rfl) (fun _ _ _ h => h)
theorem MM.ne (h : MM w gm mv μ ng) : ¬ ng gm := by obtain ⟨v, _, _, h2, _⟩ := h.ex; exact h2
end
set_option maxRecDepth 100000 in
set_option maxHeartbeats 4000000 in
theorem rload_any (v : Value) (xs : List Int) (ng : Nat → Prop) (code a : Int) (w : World) (h : SlW w v xs ng) (hl : xs.length ≤ 120) (ha : 0 ≤ a ∧ a < 4294967296) : Calls Tryd.prog 78 #[.agg #[v, .int .i64 code], .int .u32 a] w fun e w' =>
    e = .returned (.tuple #[.int .u32 (ldX xs a), .int .i64 (ldE xs a)]) ∧ Below w.heap.size w w' := by
  obtain ⟨A, cap, rfl, hc⟩ := h.ex
  obtain ⟨k, rfl⟩ : ∃ k : Nat, a = (k : Int) := ⟨a.toNat, by omega⟩
  unfold ldX ldE
  obtain ⟨n, hn⟩ : ∃ n, xs.length = n := ⟨_, rfl⟩
  rw [hn] at hc hl ⊢
  by_cases hk : k < n
  · obtain ⟨rb, off, rfl, _, hlt, hcc⟩ := hc (by omega)
    have hcell := cell_al (.cells #[.slice (some ⟨rb, off, none⟩) n cap, .int .i64 code] 105) (hcc k hk)
    have hkI : (k : Int) < n := by omega
    rw [if_pos hkI, if_pos hkI]
    simp only [Int.toNat_natCast]
    have hw1 : IntKind.u64.wrap (k : Int) = k := by rw [IntKind.wrap_u64]; omega
    have hw2 : IntKind.u64.wrap (n : Int) = n := by rw [IntKind.wrap_u64]; omega
    have hge : decide ((n : Int) ≤ k) = false := by simp; omega
    have hgn : decide (n ≤ k) = false := by simp; omega
    obtain ⟨x, hx⟩ : ∃ x, xs.getD k 0 = x := ⟨_, rfl⟩
    rw [hx] at hcell ⊢
    have HN := Lib.hid hn
    clear hc hcc hx h hn
    go_enter Tryd.func78, Tryd.ntmps78
    go_wp2_with fail
    go_ret2
    exact ⟨rfl, (Below.refl _ _).alloc (Nat.le_refl _) _⟩
  · have hkI : ¬ ((k : Int) < n) := by omega
    rw [if_neg hkI, if_neg hkI]
    have hw1 : IntKind.u64.wrap (k : Int) = k := by rw [IntKind.wrap_u64]; omega
    have hw2 : IntKind.u64.wrap (n : Int) = n := by rw [IntKind.wrap_u64]; omega
    have hge : decide ((n : Int) ≤ k) = true := by simp; omega
    have hgn : decide (n ≤ k) = true := by simp; omega
    have HN := Lib.hid hn
    clear hc h hn
    go_enter Tryd.func78, Tryd.ntmps78
    go_wp2_with fail
    go_ret2
    exact ⟨rfl, (Below.refl _ _).alloc (Nat.le_refl _) _⟩
set_option maxRecDepth 100000 in
set_option maxHeartbeats 4000000 in
theorem rfetch_any (v : Value) (xs : List Int) (ng : Nat → Prop) (code : Nat) (a : Int) (w : World) (h : SlW w v xs ng) (hl : xs.length ≤ 120) (hcd : code ≤ 60) (ha : 0 ≤ a ∧ a < 4294967296) : Calls Tryd.prog 77 #[.agg #[v, .int .i64 code], .int .u32 a] w fun e w' =>
    e = .returned (.tuple #[.int .u32 (ftX xs code a), .int .i64 (ftE xs code a)]) ∧ Below w.heap.size w w' := by
  obtain ⟨A, cap, rfl, hc⟩ := h.ex
  obtain ⟨k, rfl⟩ : ∃ k : Nat, a = (k : Int) := ⟨a.toNat, by omega⟩
  unfold ftX ftE
  obtain ⟨n, hn⟩ : ∃ n, xs.length = n := ⟨_, rfl⟩
  rw [hn] at hc hl ⊢
  have hw1 : IntKind.u64.wrap (k : Int) = k := by rw [IntKind.wrap_u64]; omega
  have hw2 : IntKind.u64.wrap (n : Int) = n := by rw [IntKind.wrap_u64]; omega
  have hw3 : IntKind.u64.wrap (code : Int) = code := by rw [IntKind.wrap_u64]; omega
  by_cases hk : k < n
  · obtain ⟨rb, off, rfl, _, hlt, hcc⟩ := hc (by omega)
    have hcell := cell_al (.cells #[.slice (some ⟨rb, off, none⟩) n cap, .int .i64 code] 105) (hcc k hk)
    have hkI : (k : Int) < n := by omega
    rw [if_pos hkI, if_pos hkI]
    simp only [Int.toNat_natCast]
    have hge : decide ((n : Int) ≤ k) = false := by simp; omega
    have hgn : decide (n ≤ k) = false := by simp; omega
    obtain ⟨x, hx⟩ : ∃ x, xs.getD k 0 = x := ⟨_, rfl⟩
    rw [hx] at hcell ⊢
    have HN := Lib.hid hn
    clear hc hcc hx h hn
    by_cases hq : k < code
    · have hqI : (k : Int) < code := by omega
      rw [if_pos hqI, if_pos hqI]
      have hce : decide ((code : Int) ≤ k) = false := by simp; omega
      have hcn : decide (code ≤ k) = false := by simp; omega
      go_enter Tryd.func77, Tryd.ntmps77
      go_wp2_with fail
      go_ret2
      exact ⟨rfl, (Below.refl _ _).alloc (Nat.le_refl _) _⟩
    · have hqI : ¬ ((k : Int) < code) := by omega
      rw [if_neg hqI, if_neg hqI]
      have hce : decide ((code : Int) ≤ k) = true := by simp; omega
      have hcn : decide (code ≤ k) = true := by simp; omega
      go_enter Tryd.func77, Tryd.ntmps77
      go_wp2_with fail
      go_ret2
      exact ⟨rfl, (Below.refl _ _).alloc (Nat.le_refl _) _⟩
  · have hkI : ¬ ((k : Int) < n) := by omega
    rw [if_neg hkI, if_neg hkI]
    have hge : decide ((n : Int) ≤ k) = true := by simp; omega
    have hgn : decide (n ≤ k) = true := by simp; omega
    have HN := Lib.hid hn
    clear hc h hn
    go_enter Tryd.func77, Tryd.ntmps77
    go_wp2_with fail
    go_ret2
    exact ⟨rfl, (Below.refl _ _).alloc (Nat.le_refl _) _⟩
set_option maxRecDepth 100000 in
set_option maxHeartbeats 4000000 in
theorem load_any (gm : Nat) (mv : Value) (μ : MS) (ng : Nat → Prop) (a : Int) (w : World) (h : MM w gm mv μ ng) (ha : 0 ≤ a ∧ a < 4294967296) : Calls Tryd.prog 75 #[.pointer (some ⟨gm, 0, none⟩), .int .u32 a] w fun e w' =>
    e = .returned (.tuple #[.int .u32 (ldX μ.W a), .int .i64 (ldE μ.W a)]) ∧ Below w.heap.size w w' := by
  obtain ⟨v, _, h1, _, h3⟩ := h.ex
  have c0 := (row_cell h1 0).1
  have c1 := (row_cell h1 1).1
  simp at c0 c1
  have C := Lib.hid fun (W : World) (hb : Below w.heap.size w W) => rload_any v μ.W (fun b => b = gm ∨ ng b) μ.code a W (h3.keep hb.size (fun b hb' _ => hb.block b hb') (fun _ _ h => h)) h.len ha
  obtain ⟨A, cap, rfl, _⟩ := h3.ex
  obtain ⟨nn, hnn⟩ : ∃ nn, μ.W.length = nn := ⟨_, rfl⟩
  rw [hnn] at c0 C
  clear h h1 h3 hnn
  go_enter Tryd.func75, Tryd.ntmps75
  go_wp2_with fail
  refine wp_region_held_drew (S := fun w' => Below w.heap.size w w' ∧ w'.cell? ⟨gm, 0, none⟩ = some (.slice A nn cap) ∧ w'.cell? ⟨gm, 1, none⟩ = some (.int .i64 μ.code)) (by kernel_rfl) ?_ (fun hHeld => ?_)
  · exact ⟨(Below.refl _ _).drew, c0, c1⟩
  refine takeD (i := 0) (d := some 9) (v := ?_) _ rfl rfl (by kernel_rfl) (by kernel_rfl) (by kernel_rfl) (fun _ _ _ h => h) (by rfl) ?_ (by assumption) ?_
  rotate_left
  · (intro w hSw; (try dsimp only at hSw); go_simp) <;> with_reducible rfl
  try simp only [Act.put, List.setIfInBounds_toArray, List.set_cons_zero, List.set_cons_succ]
  refine takeD (i := 1) (d := some 10) (v := ?_) _ rfl rfl (by kernel_rfl) (by kernel_rfl) (by kernel_rfl) (fun _ _ _ h => h) (by rfl) ?_ (by assumption) ?_
  rotate_left
  · (intro w hSw; (try dsimp only at hSw); go_simp) <;> with_reducible rfl
  try simp only [Act.put, List.setIfInBounds_toArray, List.set_cons_zero, List.set_cons_succ]
  refine takeD (i := 2) (d := some 11) (v := ?_) _ rfl rfl (by kernel_rfl) (by kernel_rfl) (by kernel_rfl) (fun _ _ _ h => h) (by rfl) ?_ (by assumption) ?_
  rotate_left
  · (intro w hSw; (try dsimp only at hSw); go_simp) <;> with_reducible rfl
  try simp only [Act.put, List.setIfInBounds_toArray, List.set_cons_zero, List.set_cons_succ]
  refine takeD (i := 3) (d := some 12) (v := ?_) _ rfl rfl (by kernel_rfl) (by kernel_rfl) (by kernel_rfl) (fun _ _ _ h => h) (by rfl) ?_ (by assumption) ?_
  rotate_left
  · (intro w hSw; (try dsimp only at hSw); go_simp) <;> with_reducible rfl
  try simp only [Act.put, List.setIfInBounds_toArray, List.set_cons_zero, List.set_cons_succ]
  refine takeD (i := 4) (d := some 13) (v := ?_) _ rfl rfl (by kernel_rfl) (by kernel_rfl) (by kernel_rfl) (fun _ _ _ h => h) (by rfl) ?_ (by assumption) ?_
  rotate_left
  · (intro w hSw; (try dsimp only at hSw); go_simp) <;> with_reducible rfl
  try simp only [Act.put, List.setIfInBounds_toArray, List.set_cons_zero, List.set_cons_succ]
  refine takeD (i := 5) (d := some 14) (v := ?_) _ rfl rfl (by kernel_rfl) (by kernel_rfl) (by kernel_rfl) (fun _ _ _ h => h) (by rfl) ?_ (by assumption) ?_
  rotate_left
  · (intro w hSw; (try dsimp only at hSw); go_simp) <;> with_reducible rfl
  try simp only [Act.put, List.setIfInBounds_toArray, List.set_cons_zero, List.set_cons_succ]
  refine takeD (i := 6) (d := some 15) (v := ?_) _ rfl rfl (by kernel_rfl) (by kernel_rfl) (by kernel_rfl) (fun _ _ _ h => h) (by rfl) ?_ (by assumption) ?_
  rotate_left
  · (intro w hSw; (try dsimp only at hSw); go_simp) <;> with_reducible rfl
  try simp only [Act.put, List.setIfInBounds_toArray, List.set_cons_zero, List.set_cons_succ]
  refine takeD (i := 7) (d := some 16) (v := ?_) _ rfl rfl (by kernel_rfl) (by kernel_rfl) (by kernel_rfl) (fun _ _ _ h => h) (by rfl) ?_ (by assumption) ?_
  rotate_left
  · (intro w hSw; (try dsimp only at hSw); go_simp) <;> with_reducible rfl
  try simp only [Act.put, List.setIfInBounds_toArray, List.set_cons_zero, List.set_cons_succ]
  refine takeD (i := 8) (d := some 17) (v := ?_) _ rfl rfl (by kernel_rfl) (by kernel_rfl) (by kernel_rfl) (fun _ _ _ h => h) (by rfl) ?_ (by assumption) ?_
  rotate_left
  · (intro w hSw; (try dsimp only at hSw); go_simp) <;> with_reducible rfl
  try simp only [Act.put, List.setIfInBounds_toArray, List.set_cons_zero, List.set_cons_succ]
  refine takeD (i := 9) (d := some 18) (v := ?_) _ rfl rfl (by kernel_rfl) (by kernel_rfl) (by kernel_rfl) (fun _ _ _ h => h) (by rfl) ?_ (by assumption) ?_
  rotate_left
  · (intro w hSw; (try dsimp only at hSw); go_simp) <;> with_reducible rfl
  try simp only [Act.put, List.setIfInBounds_toArray, List.set_cons_zero, List.set_cons_succ]
  refine wpAnyH_ready (rs := [10]) (by kernel_rfl) (by simp) ?_
  refine AllReadyH.cons rfl (fun K hK => ?_) AllReadyH.nil
  (go_simp; go_at_call 78; refine (C.out _ hHeld.1).mono ?_; rintro e wt ⟨rfl, hbt⟩; try go_wp2_with fail)
  refine hK.out _ _ ?_ (fun hHeld => ?_)
  · exact ⟨hHeld.1.trans (hbt.mono hHeld.1.size), cell_later hbt hHeld.2.1, cell_later hbt hHeld.2.2⟩
  clear hK K
  try simp only [Act.put, List.setIfInBounds_toArray, List.set_cons_zero, List.set_cons_succ]
  refine takeD (i := 11) (d := some 8) (v := ?_) _ rfl rfl (by kernel_rfl) (by kernel_rfl) (by kernel_rfl) (fun _ _ _ h => h) (by rfl) ?_ (by assumption) ?_
  rotate_left
  · (intro w hSw; (try dsimp only at hSw); go_simp) <;> with_reducible rfl
  try simp only [Act.put, List.setIfInBounds_toArray, List.set_cons_zero, List.set_cons_succ]
  refine takeD (i := 12) (d := some 20) (v := ?_) _ rfl rfl (by kernel_rfl) (by kernel_rfl) (by kernel_rfl) (fun _ _ _ h => h) (by rfl) ?_ (by assumption) ?_
  rotate_left
  · (intro w hSw; (try dsimp only at hSw); go_simp) <;> with_reducible rfl
  try simp only [Act.put, List.setIfInBounds_toArray, List.set_cons_zero, List.set_cons_succ]
  refine takeD (i := 13) (d := some 21) (v := ?_) _ rfl rfl (by kernel_rfl) (by kernel_rfl) (by kernel_rfl) (fun _ _ _ h => h) (by rfl) ?_ (by assumption) ?_
  rotate_left
  · (intro w hSw; (try dsimp only at hSw); go_simp) <;> with_reducible rfl
  try simp only [Act.put, List.setIfInBounds_toArray, List.set_cons_zero, List.set_cons_succ]
  refine takeD (i := 14) (d := some 6) (v := ?_) _ rfl rfl (by kernel_rfl) (by kernel_rfl) (by kernel_rfl) (fun _ _ _ h => h) (by rfl) ?_ (by assumption) ?_
  rotate_left
  · (intro w hSw; (try dsimp only at hSw); go_simp) <;> with_reducible rfl
  try simp only [Act.put, List.setIfInBounds_toArray, List.set_cons_zero, List.set_cons_succ]
  refine takeD (i := 15) (d := some 7) (v := ?_) _ rfl rfl (by kernel_rfl) (by kernel_rfl) (by kernel_rfl) (fun _ _ _ h => h) (by rfl) ?_ (by assumption) ?_
  rotate_left
  · (intro w hSw; (try dsimp only at hSw); go_simp) <;> with_reducible rfl
  try simp only [Act.put, List.setIfInBounds_toArray, List.set_cons_zero, List.set_cons_succ]
  refine wpAnyH_done (by kernel_rfl) ?_ _
  have HB := Lib.hid hHeld.1
  clear hHeld
  go_wp2_with fail
  go_ret2
  exact ⟨rfl, HB.out⟩
set_option maxRecDepth 100000 in
set_option maxHeartbeats 4000000 in
theorem fetch_any (gm : Nat) (mv : Value) (μ : MS) (ng : Nat → Prop) (a : Int) (w : World) (h : MM w gm mv μ ng) (ha : 0 ≤ a ∧ a < 4294967296) : Calls Tryd.prog 74 #[.pointer (some ⟨gm, 0, none⟩), .int .u32 a] w fun e w' =>
    e = .returned (.tuple #[.int .u32 (ftX μ.W μ.code a), .int .i64 (ftE μ.W μ.code a)]) ∧ Below w.heap.size w w' := by
  obtain ⟨v, _, h1, _, h3⟩ := h.ex
  have c0 := (row_cell h1 0).1
  have c1 := (row_cell h1 1).1
  simp at c0 c1
  have C := Lib.hid fun (W : World) (hb : Below w.heap.size w W) => rfetch_any v μ.W (fun b => b = gm ∨ ng b) μ.code a W (h3.keep hb.size (fun b hb' _ => hb.block b hb') (fun _ _ h => h)) h.len h.code ha
  obtain ⟨A, cap, rfl, _⟩ := h3.ex
  obtain ⟨nn, hnn⟩ : ∃ nn, μ.W.length = nn := ⟨_, rfl⟩
  rw [hnn] at c0 C
  clear h h1 h3 hnn
  go_enter Tryd.func74, Tryd.ntmps74
  go_wp2_with fail
  refine wp_region_held_drew (S := fun w' => Below w.heap.size w w' ∧ w'.cell? ⟨gm, 0, none⟩ = some (.slice A nn cap) ∧ w'.cell? ⟨gm, 1, none⟩ = some (.int .i64 μ.code)) (by kernel_rfl) ?_ (fun hHeld => ?_)
  · exact ⟨(Below.refl _ _).drew, c0, c1⟩
  refine takeD (i := 0) (d := some 9) (v := ?_) _ rfl rfl (by kernel_rfl) (by kernel_rfl) (by kernel_rfl) (fun _ _ _ h => h) (by rfl) ?_ (by assumption) ?_
  rotate_left
  · (intro w hSw; (try dsimp only at hSw); go_simp) <;> with_reducible rfl
  try simp only [Act.put, List.setIfInBounds_toArray, List.set_cons_zero, List.set_cons_succ]
  refine takeD (i := 1) (d := some 10) (v := ?_) _ rfl rfl (by kernel_rfl) (by kernel_rfl) (by kernel_rfl) (fun _ _ _ h => h) (by rfl) ?_ (by assumption) ?_
  rotate_left
  · (intro w hSw; (try dsimp only at hSw); go_simp) <;> with_reducible rfl
  try simp only [Act.put, List.setIfInBounds_toArray, List.set_cons_zero, List.set_cons_succ]
  refine takeD (i := 2) (d := some 11) (v := ?_) _ rfl rfl (by kernel_rfl) (by kernel_rfl) (by kernel_rfl) (fun _ _ _ h => h) (by rfl) ?_ (by assumption) ?_
  rotate_left
  · (intro w hSw; (try dsimp only at hSw); go_simp) <;> with_reducible rfl
  try simp only [Act.put, List.setIfInBounds_toArray, List.set_cons_zero, List.set_cons_succ]
  refine takeD (i := 3) (d := some 12) (v := ?_) _ rfl rfl (by kernel_rfl) (by kernel_rfl) (by kernel_rfl) (fun _ _ _ h => h) (by rfl) ?_ (by assumption) ?_
  rotate_left
  · (intro w hSw; (try dsimp only at hSw); go_simp) <;> with_reducible rfl
  try simp only [Act.put, List.setIfInBounds_toArray, List.set_cons_zero, List.set_cons_succ]
  refine takeD (i := 4) (d := some 13) (v := ?_) _ rfl rfl (by kernel_rfl) (by kernel_rfl) (by kernel_rfl) (fun _ _ _ h => h) (by rfl) ?_ (by assumption) ?_
  rotate_left
  · (intro w hSw; (try dsimp only at hSw); go_simp) <;> with_reducible rfl
  try simp only [Act.put, List.setIfInBounds_toArray, List.set_cons_zero, List.set_cons_succ]
  refine takeD (i := 5) (d := some 14) (v := ?_) _ rfl rfl (by kernel_rfl) (by kernel_rfl) (by kernel_rfl) (fun _ _ _ h => h) (by rfl) ?_ (by assumption) ?_
  rotate_left
  · (intro w hSw; (try dsimp only at hSw); go_simp) <;> with_reducible rfl
  try simp only [Act.put, List.setIfInBounds_toArray, List.set_cons_zero, List.set_cons_succ]
  refine takeD (i := 6) (d := some 15) (v := ?_) _ rfl rfl (by kernel_rfl) (by kernel_rfl) (by kernel_rfl) (fun _ _ _ h => h) (by rfl) ?_ (by assumption) ?_
  rotate_left
  · (intro w hSw; (try dsimp only at hSw); go_simp) <;> with_reducible rfl
  try simp only [Act.put, List.setIfInBounds_toArray, List.set_cons_zero, List.set_cons_succ]
  refine takeD (i := 7) (d := some 16) (v := ?_) _ rfl rfl (by kernel_rfl) (by kernel_rfl) (by kernel_rfl) (fun _ _ _ h => h) (by rfl) ?_ (by assumption) ?_
  rotate_left
  · (intro w hSw; (try dsimp only at hSw); go_simp) <;> with_reducible rfl
  try simp only [Act.put, List.setIfInBounds_toArray, List.set_cons_zero, List.set_cons_succ]
  refine takeD (i := 8) (d := some 17) (v := ?_) _ rfl rfl (by kernel_rfl) (by kernel_rfl) (by kernel_rfl) (fun _ _ _ h => h) (by rfl) ?_ (by assumption) ?_
  rotate_left
  · (intro w hSw; (try dsimp only at hSw); go_simp) <;> with_reducible rfl
  try simp only [Act.put, List.setIfInBounds_toArray, List.set_cons_zero, List.set_cons_succ]
  refine takeD (i := 9) (d := some 18) (v := ?_) _ rfl rfl (by kernel_rfl) (by kernel_rfl) (by kernel_rfl) (fun _ _ _ h => h) (by rfl) ?_ (by assumption) ?_
  rotate_left
  · (intro w hSw; (try dsimp only at hSw); go_simp) <;> with_reducible rfl
  try simp only [Act.put, List.setIfInBounds_toArray, List.set_cons_zero, List.set_cons_succ]
  refine wpAnyH_ready (rs := [10]) (by kernel_rfl) (by simp) ?_
  refine AllReadyH.cons rfl (fun K hK => ?_) AllReadyH.nil
  (go_simp; go_at_call 77; refine (C.out _ hHeld.1).mono ?_; rintro e wt ⟨rfl, hbt⟩; try go_wp2_with fail)
  refine hK.out _ _ ?_ (fun hHeld => ?_)
  · exact ⟨hHeld.1.trans (hbt.mono hHeld.1.size), cell_later hbt hHeld.2.1, cell_later hbt hHeld.2.2⟩
  clear hK K
  try simp only [Act.put, List.setIfInBounds_toArray, List.set_cons_zero, List.set_cons_succ]
  refine takeD (i := 11) (d := some 8) (v := ?_) _ rfl rfl (by kernel_rfl) (by kernel_rfl) (by kernel_rfl) (fun _ _ _ h => h) (by rfl) ?_ (by assumption) ?_
  rotate_left
  · (intro w hSw; (try dsimp only at hSw); go_simp) <;> with_reducible rfl
  try simp only [Act.put, List.setIfInBounds_toArray, List.set_cons_zero, List.set_cons_succ]
  refine takeD (i := 12) (d := some 20) (v := ?_) _ rfl rfl (by kernel_rfl) (by kernel_rfl) (by kernel_rfl) (fun _ _ _ h => h) (by rfl) ?_ (by assumption) ?_
  rotate_left
  · (intro w hSw; (try dsimp only at hSw); go_simp) <;> with_reducible rfl
  try simp only [Act.put, List.setIfInBounds_toArray, List.set_cons_zero, List.set_cons_succ]
  refine takeD (i := 13) (d := some 21) (v := ?_) _ rfl rfl (by kernel_rfl) (by kernel_rfl) (by kernel_rfl) (fun _ _ _ h => h) (by rfl) ?_ (by assumption) ?_
  rotate_left
  · (intro w hSw; (try dsimp only at hSw); go_simp) <;> with_reducible rfl
  try simp only [Act.put, List.setIfInBounds_toArray, List.set_cons_zero, List.set_cons_succ]
  refine takeD (i := 14) (d := some 6) (v := ?_) _ rfl rfl (by kernel_rfl) (by kernel_rfl) (by kernel_rfl) (fun _ _ _ h => h) (by rfl) ?_ (by assumption) ?_
  rotate_left
  · (intro w hSw; (try dsimp only at hSw); go_simp) <;> with_reducible rfl
  try simp only [Act.put, List.setIfInBounds_toArray, List.set_cons_zero, List.set_cons_succ]
  refine takeD (i := 15) (d := some 7) (v := ?_) _ rfl rfl (by kernel_rfl) (by kernel_rfl) (by kernel_rfl) (fun _ _ _ h => h) (by rfl) ?_ (by assumption) ?_
  rotate_left
  · (intro w hSw; (try dsimp only at hSw); go_simp) <;> with_reducible rfl
  try simp only [Act.put, List.setIfInBounds_toArray, List.set_cons_zero, List.set_cons_succ]
  refine wpAnyH_done (by kernel_rfl) ?_ _
  have HB := Lib.hid hHeld.1
  clear hHeld
  go_wp2_with fail
  go_ret2
  exact ⟨rfl, HB.out⟩
end Go.Proofs.YthmalhakkdjilaaDoor
