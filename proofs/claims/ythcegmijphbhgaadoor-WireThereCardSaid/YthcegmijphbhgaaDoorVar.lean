/-
  The Reader's Var. Each statement bears its own conditions.
-/
import Derived.Test.YthcegmijphbhgaaDoorNumber
namespace Go.Proofs.YthcegmijphbhgaaDoor
open Go.RowKit
set_option linter.unusedSimpArgs false
set_option linter.unusedVariables false
theorem numK_le (L : List Int) : numK L ≤ L.length := by
  have h := lead_le L
  unfold numK
  split
  · omega
  · next hh =>
    have : lead L ≠ L.length := fun e => hh (.inr (.inl e))
    omega
theorem num_zero (L : List Int) (h : numR L ≠ 0) : numV L = 0 ∧ numK L = 0 := by
  have c : 10 ≤ lead L ∨ lead L = L.length ∨ L.headD 0 = 128 ∨ (lead L = 9 ∧ 129 < L.headD 0) := by
    by_cases h1 : lead L < 10 ∧ lead L = L.length
    · exact .inr (.inl h1.2)
    · rw [numR, if_neg h1] at h
      by_cases h2 : 10 ≤ lead L ∨ L.headD 0 = 128 ∨ (lead L = 9 ∧ 129 < L.headD 0)
      · rcases h2 with h2 | h2
        · exact .inl h2
        · exact .inr (.inr h2)
      · rw [if_neg h2] at h; exact absurd rfl h
  exact ⟨if_pos c, if_pos c⟩
theorem boundK_le (m : Int) (L : List Int) : boundK m L ≤ L.length := by
  unfold boundK
  split
  · omega
  · exact numK_le L
theorem bound_zero (m : Int) (L : List Int) (h : boundR m L ≠ 0) : boundV m L = 0 ∧ boundK m L = 0 := by
  by_cases c : numR L = 0 ∧ m < numV L
  · exact ⟨if_pos c, if_pos c⟩
  · rw [boundR, if_neg c] at h
    rw [boundV, boundK, if_neg c, if_neg c]
    exact num_zero L h
theorem take_var (A : Option Addr) (n c : Nat) (L : List Int) (q : Nat) (m : Int) (w : World) (hq : w.cell? ⟨q, 0, none⟩ = some (.int .u64 m)) (h : Reads w w.heap.size 1 A n (U L)) (hl : L.length = n) (hy : Bytes L) (hn : n ≤ 1048576) :
    Calls Tryd.prog 45 #[.slice A n c, .pointer (some ⟨q, 0, none⟩)] w fun e w' => e = .returned (.tuple #[.int .u64 (boundV m L), .int .i64 (boundK m L : Int), .int .i64 (boundR m L)]) ∧ Below w.heap.size w w' := by
  have TB := Lib.hid (toBounded_any A n c m L w h hl hy hn)
  obtain ⟨v, hv⟩ : ∃ v, boundV m L = v := ⟨_, rfl⟩
  obtain ⟨k, hk⟩ : ∃ k, boundK m L = k := ⟨_, rfl⟩
  obtain ⟨r, hr⟩ : ∃ r, boundR m L = r := ⟨_, rfl⟩
  rw [hv, hk, hr] at TB ⊢
  clear h hl hy hn hv hk hr
  go_enter Tryd.func45, Tryd.ntmps45
  go_wp2_with fail
  refine TB.out.mono ?_
  rintro e w1 ⟨rfl, b1⟩
  clear TB
  go_wp2_with fail
  go_ret3
  exact ⟨rfl, b1⟩
theorem read_var_err (w : World) (r at_ : Nat) (er : Int) (l : List Int) (f : Value) (h : RdF w r at_ er l) (he : er ≠ 0) :
    Calls Tryd.prog 44 #[.pointer (some ⟨r, 0, none⟩), f] w fun e w' => e = .returned (.int .u64 0) ∧ RdF w' r at_ er l ∧ Below w.heap.size w w' := by
  have HH := Lib.hid h
  obtain ⟨A, c, h1, h2, h3, h4, h5, h6, h7, h8, h9, h10⟩ := h.ex
  clear h h2 h3 h4 h5 h6
  go_enter Tryd.func44, Tryd.ntmps44
  go_wp2_with fail
  go_ret
  exact ⟨rfl, HH.out, Below.refl _ _⟩
theorem read_var_ok (w : World) (r at_ : Nat) (l : List Int) (q : Nat) (m : Int) (hq : w.cell? ⟨q, 0, none⟩ = some (.int .u64 m)) (h : RdF w r at_ 0 l) :
    Calls Tryd.prog 44 #[.pointer (some ⟨r, 0, none⟩), .func (.func 45) #[] #[.pointer (some ⟨q, 0, none⟩)]] w fun e w' => e = .returned (.int .u64 (boundV m (l.drop at_))) ∧ RdF w' r (at_ + boundK m (l.drop at_)) (boundR m (l.drop at_)) l ∧ Past r w w' := by
  have HH := Lib.hid h
  obtain ⟨v, hv⟩ : ∃ v, boundV m (l.drop at_) = v := ⟨_, rfl⟩
  obtain ⟨k, hk⟩ : ∃ k, boundK m (l.drop at_) = k := ⟨_, rfl⟩
  obtain ⟨er, her⟩ : ∃ er, boundR m (l.drop at_) = er := ⟨_, rfl⟩
  have hak : Hid (at_ + k ≤ l.length) := by
    obtain ⟨_, _, _, h2, _⟩ := h.ex
    unfold Hid
    rw [← hk]
    have := boundK_le m (l.drop at_)
    rw [List.length_drop] at this; omega
  have hz : Hid (er ≠ 0 → v = 0 ∧ k = 0) := by
    unfold Hid
    rw [← her, ← hv, ← hk]
    exact bound_zero m _
  obtain ⟨A, c, h1, h2, h3, h4, h5, h6, h7, h8, h9, h10⟩ := h.ex
  obtain ⟨n, hn⟩ : ∃ n, l.length = n := ⟨_, rfl⟩
  rw [hn] at h2 h3 h7 h4 h6
  have TK := Lib.hid fun (W : World) (hb : Below w.heap.size w W) => take_var _ _ (c - at_) (l.drop at_) q m W (cell_later hb hq) ((by have := (h6.more (Nat.le_of_lt h1)).cut (k := at_) (cap := c) h2 (by omega); simp only [Nat.mul_one, U, ← List.map_drop] at this; exact (this.below hb).more hb.size) : Reads W W.heap.size 1 (if c = at_ then A else A.map (fun x => x.add at_)) (n - at_) (U (l.drop at_))) (by rw [List.length_drop, hn]) (bytes_drop h5 at_) (by omega)
  rw [hv, hk, her] at TK ⊢
  have HN := Lib.hid hn
  have h9' : Hid ((at_ : Int) + (k : Int) ≤ 1048576) := by have := hak.out; rw [hn] at this; unfold Hid; omega
  have HHC := h10
  clear h h5 h6 hn hv hk her hq
  go_enter Tryd.func44, Tryd.ntmps44
  go_wp2_with fail
  refine wp_region_held_drew (S := (fun w' => Below w.heap.size w w' ∧ w'.cell? ⟨r, 0, none⟩ = some (.slice A n c) ∧ w'.cell? ⟨r, 1, none⟩ = some (.int .i64 (at_ : Int)) ∧ w'.cell? ⟨r, 2, none⟩ = some (.int .i64 0))) (by kernel_rfl) ?_ (fun hHeld => ?_)
  · exact ⟨(Below.refl _ _).drew, h7, h8, h9⟩
  refine takeD (i := 0) (d := some 20) (v := ?_) _ rfl rfl (by kernel_rfl) (by kernel_rfl) (by kernel_rfl) (fun _ _ _ h => h) (by rfl) ?_ (by assumption) ?_
  rotate_left
  · (intro w hSw; (try dsimp only at hSw); go_simp) <;> with_reducible rfl
  try simp only [Act.put, List.setIfInBounds_toArray, List.set_cons_zero, List.set_cons_succ]
  refine takeD (i := 1) (d := some 21) (v := ?_) _ rfl rfl (by kernel_rfl) (by kernel_rfl) (by kernel_rfl) (fun _ _ _ h => h) (by rfl) ?_ (by assumption) ?_
  rotate_left
  · (intro w hSw; (try dsimp only at hSw); go_simp) <;> with_reducible rfl
  try simp only [Act.put, List.setIfInBounds_toArray, List.set_cons_zero, List.set_cons_succ]
  refine takeD (i := 2) (d := some 22) (v := ?_) _ rfl rfl (by kernel_rfl) (by kernel_rfl) (by kernel_rfl) (fun _ _ _ h => h) (by rfl) ?_ (by assumption) ?_
  rotate_left
  · (intro w hSw; (try dsimp only at hSw); go_simp) <;> with_reducible rfl
  try simp only [Act.put, List.setIfInBounds_toArray, List.set_cons_zero, List.set_cons_succ]
  refine takeD (i := 3) (d := some 23) (v := ?_) _ rfl rfl (by kernel_rfl) (by kernel_rfl) (by kernel_rfl) (fun _ _ _ h => h) (by rfl) ?_ (by assumption) ?_
  rotate_left
  · (intro w hSw; (try dsimp only at hSw); go_simp) <;> with_reducible rfl
  try simp only [Act.put, List.setIfInBounds_toArray, List.set_cons_zero, List.set_cons_succ]
  refine takeD (i := 4) (d := some 24) (v := ?_) _ rfl rfl (by kernel_rfl) (by kernel_rfl) (by kernel_rfl) (fun _ _ _ h => h) (by rfl) ?_ (by assumption) ?_
  rotate_left
  · (intro w hSw; (try dsimp only at hSw); go_simp) <;> with_reducible rfl
  try simp only [Act.put, List.setIfInBounds_toArray, List.set_cons_zero, List.set_cons_succ]
  refine takeD (i := 5) (d := some 25) (v := ?_) _ rfl rfl (by kernel_rfl) (by kernel_rfl) (by kernel_rfl) (fun _ _ _ h => h) (by rfl) ?_ (by assumption) ?_
  rotate_left
  · (intro w hSw; (try dsimp only at hSw); go_simp) <;> with_reducible rfl
  try simp only [Act.put, List.setIfInBounds_toArray, List.set_cons_zero, List.set_cons_succ]
  refine takeD (i := 6) (d := some 26) (v := ?_) _ rfl rfl (by kernel_rfl) (by kernel_rfl) (by kernel_rfl) (fun _ _ _ h => h) (by rfl) ?_ (by assumption) ?_
  rotate_left
  · (intro w hSw; (try dsimp only at hSw); go_simp) <;> with_reducible rfl
  try simp only [Act.put, List.setIfInBounds_toArray, List.set_cons_zero, List.set_cons_succ]
  refine takeD (i := 7) (d := some 27) (v := ?_) _ rfl rfl (by kernel_rfl) (by kernel_rfl) (by kernel_rfl) (fun _ _ _ h => h) (by rfl) ?_ (by assumption) ?_
  rotate_left
  · (intro w hSw; (try dsimp only at hSw); go_simp) <;> with_reducible rfl
  try simp only [Act.put, List.setIfInBounds_toArray, List.set_cons_zero, List.set_cons_succ]
  refine takeD (i := 8) (d := some 28) (v := ?_) _ rfl rfl (by kernel_rfl) (by kernel_rfl) (by kernel_rfl) (fun _ _ _ h => h) (by rfl) ?_ (by assumption) ?_
  rotate_left
  · (intro w hSw; (try dsimp only at hSw); go_simp) <;> with_reducible rfl
  try simp only [Act.put, List.setIfInBounds_toArray, List.set_cons_zero, List.set_cons_succ]
  refine takeD (i := 9) (d := some 29) (v := ?_) _ rfl rfl (by kernel_rfl) (by kernel_rfl) (by kernel_rfl) (fun _ _ _ h => h) (by rfl) ?_ (by assumption) ?_
  rotate_left
  · (intro w hSw; (try dsimp only at hSw); go_simp) <;> with_reducible rfl
  try simp only [Act.put, List.setIfInBounds_toArray, List.set_cons_zero, List.set_cons_succ]
  generalize (if c = at_ then A else A.map (fun x => x.add at_)) = A1 at TK ⊢
  refine wpAnyH_ready (rs := [10]) (by kernel_rfl) (by simp) ?_
  refine AllReadyH.cons rfl (fun K hK => ?_) AllReadyH.nil
  (go_simp; go_at_call 45; refine (TK.out _ hHeld.1).mono ?_; rintro e wt ⟨rfl, hbt⟩; try go_wp2_with fail)
  refine hK.out _ _ ?_ (fun hHeld => ?_)
  · exact ⟨hHeld.1.trans (hbt.mono hHeld.1.size), cell_later hbt hHeld.2.1, cell_later hbt hHeld.2.2.1, cell_later hbt hHeld.2.2.2⟩
  clear hK K
  try simp only [Act.put, List.setIfInBounds_toArray, List.set_cons_zero, List.set_cons_succ]
  refine takeD (i := 11) (d := some 19) (v := ?_) _ rfl rfl (by kernel_rfl) (by kernel_rfl) (by kernel_rfl) (fun _ _ _ h => h) (by rfl) ?_ (by assumption) ?_
  rotate_left
  · (intro w hSw; (try dsimp only at hSw); go_simp) <;> with_reducible rfl
  try simp only [Act.put, List.setIfInBounds_toArray, List.set_cons_zero, List.set_cons_succ]
  refine takeD (i := 12) (d := some 31) (v := ?_) _ rfl rfl (by kernel_rfl) (by kernel_rfl) (by kernel_rfl) (fun _ _ _ h => h) (by rfl) ?_ (by assumption) ?_
  rotate_left
  · (intro w hSw; (try dsimp only at hSw); go_simp) <;> with_reducible rfl
  try simp only [Act.put, List.setIfInBounds_toArray, List.set_cons_zero, List.set_cons_succ]
  refine takeD (i := 13) (d := some 32) (v := ?_) _ rfl rfl (by kernel_rfl) (by kernel_rfl) (by kernel_rfl) (fun _ _ _ h => h) (by rfl) ?_ (by assumption) ?_
  rotate_left
  · (intro w hSw; (try dsimp only at hSw); go_simp) <;> with_reducible rfl
  try simp only [Act.put, List.setIfInBounds_toArray, List.set_cons_zero, List.set_cons_succ]
  refine takeD (i := 14) (d := some 33) (v := ?_) _ rfl rfl (by kernel_rfl) (by kernel_rfl) (by kernel_rfl) (fun _ _ _ h => h) (by rfl) ?_ (by assumption) ?_
  rotate_left
  · (intro w hSw; (try dsimp only at hSw); go_simp) <;> with_reducible rfl
  try simp only [Act.put, List.setIfInBounds_toArray, List.set_cons_zero, List.set_cons_succ]
  refine takeD (i := 15) (d := some 6) (v := ?_) _ rfl rfl (by kernel_rfl) (by kernel_rfl) (by kernel_rfl) (fun _ _ _ h => h) (by rfl) ?_ (by assumption) ?_
  rotate_left
  · (intro w hSw; (try dsimp only at hSw); go_simp) <;> with_reducible rfl
  try simp only [Act.put, List.setIfInBounds_toArray, List.set_cons_zero, List.set_cons_succ]
  refine takeD (i := 16) (d := some 7) (v := ?_) _ rfl rfl (by kernel_rfl) (by kernel_rfl) (by kernel_rfl) (fun _ _ _ h => h) (by rfl) ?_ (by assumption) ?_
  rotate_left
  · (intro w hSw; (try dsimp only at hSw); go_simp) <;> with_reducible rfl
  try simp only [Act.put, List.setIfInBounds_toArray, List.set_cons_zero, List.set_cons_succ]
  refine takeD (i := 17) (d := some 8) (v := ?_) _ rfl rfl (by kernel_rfl) (by kernel_rfl) (by kernel_rfl) (fun _ _ _ h => h) (by rfl) ?_ (by assumption) ?_
  rotate_left
  · (intro w hSw; (try dsimp only at hSw); go_simp) <;> with_reducible rfl
  try simp only [Act.put, List.setIfInBounds_toArray, List.set_cons_zero, List.set_cons_succ]
  refine wpAnyH_done (by kernel_rfl) ?_ _
  have BF := hHeld.1
  have g7 := hHeld.2.1
  have g8 := hHeld.2.2.1
  have g9 := hHeld.2.2.2
  have RB := Lib.hid (HH.out.below BF)
  have gf : ∀ o, wt.frozen? ⟨r, o, none⟩ = false := fun o => by obtain ⟨_, _, _, _, _, _, _, _, _, _, _, hz⟩ := RB.out.ex; exact hz o
  by_cases he : er = 0
  · subst he
    have hwr : IntKind.i64.wrap ((at_ : Int) + (k : Int)) = (at_ : Int) + (k : Int) := by have := h9'.out; rw [IntKind.wrap_i64]; omega
    clear hHeld
    go_wp2_with fail
    go_ret
    refine ⟨rfl, ?_, ?_⟩
    · have := RB.out.setAt (at_ + k) hak.out; simpa using this
    · exact (Past.of_below BF).set _ _
  · obtain ⟨rfl, rfl⟩ := hz.out he
    clear hHeld
    go_wp2_with fail
    go_ret
    exact ⟨rfl, RB.out.setErr er, (Past.of_below BF).set _ _⟩
theorem Past.after {w w1 w2 : World} {x B : Nat} (h : Below w.heap.size w w1) (p : Past x w1 w2) : Past x w w2 :=
  ⟨p.os.trans h.os, p.tape.trans h.tape, p.output.trans h.output, Nat.le_trans h.size p.size, fun k hk hx => (p.block k (Nat.lt_of_lt_of_le hk h.size) hx).trans (h.block k hk)⟩
theorem var_any (w : World) (r at_ : Nat) (er : Int) (l : List Int) (m : Int) (h : RdF w r at_ er l) :
    Calls Tryd.prog 23 #[.pointer (some ⟨r, 0, none⟩), .int .u64 m] w fun e w' => e = .returned (.int .u64 (if er = 0 then boundV m (l.drop at_) else 0)) ∧ RdF w' r (if er = 0 then at_ + boundK m (l.drop at_) else at_) (if er = 0 then boundR m (l.drop at_) else er) l ∧ Past r w w' := by
  have hmf : ∀ (fn : Fn) (first cap : Array Value) (w : World), (Instr.makeFunc fn first cap).run Tryd.prog w = .ok (.func fn first cap) w := fun _ _ _ _ => rfl
  have BA : Below w.heap.size w (w.alloc (.cells #[.int .u64 m] 23)) := (Below.refl _ _).alloc (Nat.le_refl _) _
  have hq : (w.alloc (.cells #[.int .u64 m] 23)).cell? ⟨w.heap.size, 0, none⟩ = some (.int .u64 m) := by rw [World.cell?_alloc_new]; rfl
  have RB : Hid (Calls Tryd.prog 44 #[.pointer (some ⟨r, 0, none⟩), .func (.func 45) #[] #[.pointer (some ⟨w.heap.size, 0, none⟩)]] (w.alloc (.cells #[.int .u64 m] 23)) fun e w' => e = .returned (.int .u64 (if er = 0 then boundV m (l.drop at_) else 0)) ∧ RdF w' r (if er = 0 then at_ + boundK m (l.drop at_) else at_) (if er = 0 then boundR m (l.drop at_) else er) l ∧ Past r w w') := by
    unfold Hid
    by_cases he : er = 0
    · subst he
      have := (read_var_ok (w.alloc (.cells #[.int .u64 m] 23)) r at_ l w.heap.size m hq (h.below BA)).mono (R' := fun e w' => e = .returned (.int .u64 (boundV m (l.drop at_))) ∧ RdF w' r (at_ + boundK m (l.drop at_)) (boundR m (l.drop at_)) l ∧ Past r w w') fun e w' hh => ⟨hh.1, hh.2.1, Past.after (B := 0) BA hh.2.2⟩
      simpa using this
    · simp only [if_neg he]
      exact (read_var_err _ r at_ er l _ (h.below BA) he).mono fun e w' hh => ⟨hh.1, hh.2.1, Past.after (B := 0) BA (Past.of_below hh.2.2)⟩
  obtain ⟨v, hv⟩ : ∃ v, (if er = 0 then boundV m (l.drop at_) else 0) = v := ⟨_, rfl⟩
  obtain ⟨at', ha⟩ : ∃ at', (if er = 0 then at_ + boundK m (l.drop at_) else at_) = at' := ⟨_, rfl⟩
  obtain ⟨er', her⟩ : ∃ er', (if er = 0 then boundR m (l.drop at_) else er) = er' := ⟨_, rfl⟩
  rw [hv, ha, her] at RB ⊢
  clear h hv ha her hq BA
  go_enter Tryd.func23, Tryd.ntmps23
  go_wp2_with fail
  refine RB.out.mono ?_
  rintro e w1 ⟨rfl, h1, h2⟩
  clear RB
  go_wp2_with fail
  go_ret
  exact ⟨rfl, h1, h2⟩
end Go.Proofs.YthcegmijphbhgaaDoor
