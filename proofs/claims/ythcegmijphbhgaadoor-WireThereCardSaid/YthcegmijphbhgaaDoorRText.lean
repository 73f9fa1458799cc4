/-
  The Reader's Text. Each statement bears its own conditions.
-/
import Derived.Test.YthcegmijphbhgaaDoorRNum
import Derived.Laws.BytesArg
namespace Go.Proofs.YthcegmijphbhgaaDoor
open Go.RowKit
set_option linter.unusedSimpArgs false
set_option linter.unusedVariables false
/-- What a text's bound is: none below 0. -/
def mostM (m : Int) : Int := max m 0
def textR (m : Int) (L : List Int) : Int := if boundR (mostM m) L ≠ 0 then boundR (mostM m) L else if (L.length : Int) - (boundK (mostM m) L : Int) < boundV (mostM m) L then 4 else 0
def textK (m : Int) (L : List Int) : Nat := if textR m L = 0 then boundK (mostM m) L + (boundV (mostM m) L).toNat else 0
def textL (m : Int) (L : List Int) : List Int := if textR m L = 0 then (L.drop (boundK (mostM m) L)).take (boundV (mostM m) L).toNat else []
def textV (m : Int) (L : List Int) : ByteArray := strOfNums (textL m L)
theorem numV_pos (L : List Int) : 0 ≤ numV L := by
  unfold numV; split
  · omega
  · exact (accW_bd _).1
theorem boundV_pos (m : Int) (L : List Int) : 0 ≤ boundV m L := by
  unfold boundV; split
  · omega
  · exact numV_pos L
theorem textK_le (m : Int) (L : List Int) : textK m L ≤ L.length := by
  unfold textK
  split
  · next h =>
    have h1 := boundK_le (mostM m) L
    have h2 := boundV_pos (mostM m) L
    unfold textR at h
    split at h
    · next h0 => exact absurd h h0
    · split at h
      · cases h
      · omega
  · omega
theorem text_zero (m : Int) (L : List Int) (h : textR m L ≠ 0) : textV m L = ⟨#[]⟩ ∧ textK m L = 0 := by
  refine ⟨?_, if_neg h⟩
  unfold textV textL
  rw [if_neg h]; rfl
theorem run_str (A : Option Addr) (n c : Nat) (xs : List Int) (W : World) (B : Nat) (h : Reads W B 1 A n (U xs)) (hl : xs.length = n) : (convert 22 9 (.slice A n c)).run Tryd.prog W = .ok (.string (strOfNums xs)) W := by
  rcases A with _ | ad
  · have hn : n = 0 := by
      rcases Nat.eq_zero_or_pos n with h0 | h0
      · exact h0
      · obtain ⟨ad, h1, _⟩ := h.2 h0; cases h1
    subst hn
    have : xs = [] := List.eq_nil_of_length_eq_zero hl
    subst this
    exact run_convert_bytes_nil W 22 5 Tryd.underlying22 Tryd.underlying5 0 c 9 Tryd.underlying9
  · have hld : (loadCells ad n).run Tryd.prog W = .ok (xs.map (Value.int .u8)).toArray W := by
      have := run_loadCells_list (P := Tryd.prog) W ad (xs.map (Value.int .u8)) (fun j v hj => by
        have hjl : j < xs.length := by
          rcases Nat.lt_or_ge j xs.length with h0 | h0
          · exact h0
          · rw [List.getElem?_eq_none (by simpa using h0)] at hj; cases hj
        obtain ⟨ad', he, _, hcc⟩ := h.2 (by omega)
        obtain rfl : ad = ad' := by injection he
        exact hcc j v (by simpa [U] using hj))
      simpa [hl] using this
    rw [run_convert_bytes_string W 22 9 5 _ n c Tryd.underlying22 Tryd.underlying5 Tryd.underlying9, run_bytesToString W ad n c xs hld, foldl_push_bytes]
    simp [strOfNums, ByteArray.empty, ByteArray.emptyWithCapacity]
    rfl
theorem take_text (A : Option Addr) (n c : Nat) (L : List Int) (q : Nat) (m : Int) (w : World) (hm : m ≤ 9223372036854775807) (hq : w.cell? ⟨q, 0, none⟩ = some (.int .i64 m)) (h : Reads w w.heap.size 1 A n (U L)) (hl : L.length = n) (hy : Bytes L) (hn : n ≤ 1048576) (hc : n ≤ c) :
    Calls Tryd.prog 49 #[.slice A n c, .pointer (some ⟨q, 0, none⟩)] w fun e w' => e = .returned (.tuple #[.string (textV m L), .int .i64 (textK m L : Int), .int .i64 (textR m L)]) ∧ Below w.heap.size w w' := by
  have TB := Lib.hid (toBounded_any A n c (mostM m) L w h hl hy hn)
  obtain ⟨v, hv⟩ : ∃ v, boundV (mostM m) L = v := ⟨_, rfl⟩
  obtain ⟨k, hk⟩ : ∃ k, boundK (mostM m) L = k := ⟨_, rfl⟩
  obtain ⟨r, hr⟩ : ∃ r, boundR (mostM m) L = r := ⟨_, rfl⟩
  have hv0 := boundV_pos (mostM m) L
  have hkl := boundK_le (mostM m) L
  rw [hl] at hkl
  rw [hv, hk, hr] at TB
  rw [hv] at hv0
  rw [hk] at hkl
  have Hh := Lib.hid h
  have HLL := Lib.hid hl
  obtain ⟨v, rfl⟩ := Int.eq_ofNat_of_zero_le hv0
  obtain ⟨d, hd⟩ : ∃ d, n - k = d := ⟨_, rfl⟩
  obtain ⟨g, hg⟩ : ∃ g, c - k = g := ⟨_, rfl⟩
  obtain ⟨A1, hA1⟩ : ∃ A1, (if c = k then A else A.map (fun x => x.add k)) = A1 := ⟨_, rfl⟩
  have RD : Hid (Reads w w.heap.size 1 A1 d (U (L.drop k))) := by
    have := h.cut (k := k) (cap := c) hkl hc
    simp only [Nat.mul_one, U, ← List.map_drop] at this
    rw [hA1, hd] at this; exact this
  have HLD : Hid ((L.drop k).length = d) := by unfold Hid; rw [List.length_drop, hl, hd]
  have wd : IntKind.u64.wrap (d : Int) = (d : Int) := by rw [IntKind.wrap_u64]; omega
  have hkc : (k : Int) ≤ (n : Int) := by omega
  have hdg : d ≤ g := by omega
  by_cases hr0 : r = 0
  · subst hr0
    by_cases hsh : (n : Int) - (k : Int) < (v : Int)
    · have V : textV m L = ⟨#[]⟩ ∧ textK m L = 0 ∧ textR m L = 4 := by
        have h4 : textR m L = 4 := by unfold textR; rw [hr, hk, hv, hl]; simp [hsh]
        obtain ⟨a1, a2⟩ := text_zero m L (by rw [h4]; omega)
        exact ⟨a1, a2, h4⟩
      have HV := Lib.hid V
      have hdv : (d : Int) < (v : Int) := by omega
      unfold mostM at TB
      clear V h hl hy hn hv hk hr hsh hv0
      go_enter Tryd.func49, Tryd.ntmps49
      go_wp2_with fail
      refine TB.out.mono ?_
      rintro e w1 ⟨rfl, b1⟩
      clear TB
      go_wp2_with fail
      go_ret3
      exact ⟨by rw [HV.out.1, HV.out.2.1, HV.out.2.2]; rfl, b1⟩
    · have V : textV m L = strOfNums ((L.drop k).take v) ∧ textK m L = k + v ∧ textR m L = 0 := by
        have h4 : textR m L = 0 := by unfold textR; rw [hr, hk, hv, hl]; simp [hsh]
        refine ⟨?_, ?_, h4⟩
        · unfold textV textL; rw [if_pos h4, hk, hv]; rfl
        · unfold textK; rw [if_pos h4, hk, hv]; rfl
      have HV := Lib.hid V
      have hdv : ¬ (d : Int) < (v : Int) := by omega
      have hvd : v ≤ d := by omega
      have hvg : (v : Int) ≤ (g : Int) := by omega
      have v0 : (0 : Int) ≤ (v : Int) := by omega
      have wv : IntKind.i64.wrap (v : Int) = (v : Int) := by rw [IntKind.wrap_i64]; omega
      have wkv : IntKind.i64.wrap ((k : Int) + (v : Int)) = (k : Int) + (v : Int) := by rw [IntKind.wrap_i64]; omega
      have CV := Lib.hid fun (W : World) (hb : Below w.heap.size w W) => run_str A1 v g ((L.drop k).take v) W w.heap.size (by have := (RD.out.below hb).pre (k := v) hvd; simpa [U, List.map_take] using this) (by rw [List.length_take, HLD.out]; omega)
      unfold mostM at TB
      clear V h hl hy hn hv hk hr hsh hv0
      go_enter Tryd.func49, Tryd.ntmps49
      go_wp2_with fail
      refine TB.out.mono ?_
      rintro e w1 ⟨rfl, b1⟩
      have cv := CV.out w1 b1
      obtain ⟨S, hS⟩ : ∃ S, strOfNums ((L.drop k).take v) = S := ⟨_, rfl⟩
      rw [hS] at cv HV
      clear TB CV hS
      go_wp2_with fail
      go_ret3
      exact ⟨by rw [HV.out.1, HV.out.2.1, HV.out.2.2]; simp, b1⟩
  · have V : textV m L = ⟨#[]⟩ ∧ textK m L = 0 ∧ textR m L = r := by
      have h4 : textR m L = r := by unfold textR; rw [hr]; simp [hr0]
      obtain ⟨a1, a2⟩ := text_zero m L (by rw [h4]; exact hr0)
      exact ⟨a1, a2, h4⟩
    have HV := Lib.hid V
    unfold mostM at TB
    clear V h hl hy hn hv hk hr
    go_enter Tryd.func49, Tryd.ntmps49
    go_wp2_with fail
    refine TB.out.mono ?_
    rintro e w1 ⟨rfl, b1⟩
    clear TB
    go_wp2_with fail
    go_ret3
    exact ⟨by rw [HV.out.1, HV.out.2.1, HV.out.2.2]; rfl, b1⟩
theorem read_text_err (w : World) (r at_ : Nat) (er : Int) (l : List Int) (f : Value) (h : RdF w r at_ er l) (he : er ≠ 0) :
    Calls Tryd.prog 48 #[.pointer (some ⟨r, 0, none⟩), f] w fun e w' => e = .returned (.string ⟨#[]⟩) ∧ RdF w' r at_ er l ∧ Below w.heap.size w w' := by
  have HH := Lib.hid h
  obtain ⟨A, c, h1, h2, h3, h4, h5, h6, h7, h8, h9, h10⟩ := h.ex
  clear h h2 h3 h4 h5 h6
  go_enter Tryd.func48, Tryd.ntmps48
  go_wp2_with fail
  go_ret
  exact ⟨rfl, HH.out, Below.refl _ _⟩
theorem read_text_ok (w : World) (r at_ : Nat) (l : List Int) (q : Nat) (m : Int) (hm : m ≤ 9223372036854775807) (hq : w.cell? ⟨q, 0, none⟩ = some (.int .i64 m)) (h : RdF w r at_ 0 l) :
    Calls Tryd.prog 48 #[.pointer (some ⟨r, 0, none⟩), .func (.func 49) #[] #[.pointer (some ⟨q, 0, none⟩)]] w fun e w' => e = .returned (.string (textV m (l.drop at_))) ∧ RdF w' r (at_ + textK m (l.drop at_)) (textR m (l.drop at_)) l ∧ Past r w w' := by
  have HH := Lib.hid h
  obtain ⟨v, hv⟩ : ∃ v, textV m (l.drop at_) = v := ⟨_, rfl⟩
  obtain ⟨k, hk⟩ : ∃ k, textK m (l.drop at_) = k := ⟨_, rfl⟩
  obtain ⟨er, her⟩ : ∃ er, textR m (l.drop at_) = er := ⟨_, rfl⟩
  have hak : Hid (at_ + k ≤ l.length) := by
    obtain ⟨_, _, _, h2, _⟩ := h.ex
    unfold Hid
    rw [← hk]
    have := textK_le m (l.drop at_)
    rw [List.length_drop] at this; omega
  have hz : Hid (er ≠ 0 → v = ⟨#[]⟩ ∧ k = 0) := by
    unfold Hid
    rw [← her, ← hv, ← hk]
    exact text_zero m _
  obtain ⟨A, c, h1, h2, h3, h4, h5, h6, h7, h8, h9, h10⟩ := h.ex
  obtain ⟨n, hn⟩ : ∃ n, l.length = n := ⟨_, rfl⟩
  rw [hn] at h2 h3 h7 h4 h6
  have TK := Lib.hid fun (W : World) (hb : Below w.heap.size w W) => take_text _ _ (c - at_) (l.drop at_) q m W hm (cell_later hb hq) ((by have := (h6.more (Nat.le_of_lt h1)).cut (k := at_) (cap := c) h2 (by omega); simp only [Nat.mul_one, U, ← List.map_drop] at this; exact (this.below hb).more hb.size) : Reads W W.heap.size 1 (if c = at_ then A else A.map (fun x => x.add at_)) (n - at_) (U (l.drop at_))) (by rw [List.length_drop, hn]) (bytes_drop h5 at_) (by omega) (by omega)
  rw [hv, hk, her] at TK ⊢
  have HN := Lib.hid hn
  have h9' : Hid ((at_ : Int) + (k : Int) ≤ 1048576) := by have := hak.out; rw [hn] at this; unfold Hid; omega
  have HHC := h10
  clear h h5 h6 hn hv hk her hq
  go_enter Tryd.func48, Tryd.ntmps48
  go_wp2_with fail
  refine wp_region_held_drew (S := (fun w' => Below w.heap.size w w' ∧ w'.cell? ⟨r, 0, none⟩ = some (.slice A n c) ∧ w'.cell? ⟨r, 1, none⟩ = some (.int .i64 (at_ : Int)) ∧ w'.cell? ⟨r, 2, none⟩ = some (.int .i64 0))) (by kernel_rfl) ?_ (fun hHeld => ?_)
  · exact ⟨(Below.refl _ _).drew, h7, h8, h9⟩
  refine takeD (i := 0) (d := some 20) (v := ?_) _ rfl rfl (by kernel_rfl) (by kernel_rfl) (by kernel_rfl) (fun _ _ _ h => h) (by rfl) ?_ (by assumption) ?_
  rotate_left
  · (intro w hSw; (try dsimp only at hSw); go_simp) <;> with_reducible rfl
  try simp only [Act.put, List.setIfInBounds_toArray, List.set_cons_zero, List.set_cons_succ]
  refine takeD (i := 1) (d := some 21) (v := ?_) _ rfl rfl (by kernel_rfl) (by kernel_rfl) (by kernel_rfl) (fun _ _ _ h => h) (by rfl) ?_ (by assumption) ?_
  rotate_left
  · (intro w hSw; (try dsimp only at hSw); go_simp) <;> with_reducible rfl
  try simp only [Act.put, List.setIfInBounds_toArray, List.set_cons_zero, List.set_cons_succ]
  refine takeD (i := 2) (d := some 22) (v := ?_) _ rfl rfl (by kernel_rfl) (by kernel_rfl) (by kernel_rfl) (fun _ _ _ h => h) (by rfl) ?_ (by assumption) ?_
  rotate_left
  · (intro w hSw; (try dsimp only at hSw); go_simp) <;> with_reducible rfl
  try simp only [Act.put, List.setIfInBounds_toArray, List.set_cons_zero, List.set_cons_succ]
  refine takeD (i := 3) (d := some 23) (v := ?_) _ rfl rfl (by kernel_rfl) (by kernel_rfl) (by kernel_rfl) (fun _ _ _ h => h) (by rfl) ?_ (by assumption) ?_
  rotate_left
  · (intro w hSw; (try dsimp only at hSw); go_simp) <;> with_reducible rfl
  try simp only [Act.put, List.setIfInBounds_toArray, List.set_cons_zero, List.set_cons_succ]
  refine takeD (i := 4) (d := some 24) (v := ?_) _ rfl rfl (by kernel_rfl) (by kernel_rfl) (by kernel_rfl) (fun _ _ _ h => h) (by rfl) ?_ (by assumption) ?_
  rotate_left
  · (intro w hSw; (try dsimp only at hSw); go_simp) <;> with_reducible rfl
  try simp only [Act.put, List.setIfInBounds_toArray, List.set_cons_zero, List.set_cons_succ]
  refine takeD (i := 5) (d := some 25) (v := ?_) _ rfl rfl (by kernel_rfl) (by kernel_rfl) (by kernel_rfl) (fun _ _ _ h => h) (by rfl) ?_ (by assumption) ?_
  rotate_left
  · (intro w hSw; (try dsimp only at hSw); go_simp) <;> with_reducible rfl
  try simp only [Act.put, List.setIfInBounds_toArray, List.set_cons_zero, List.set_cons_succ]
  refine takeD (i := 6) (d := some 26) (v := ?_) _ rfl rfl (by kernel_rfl) (by kernel_rfl) (by kernel_rfl) (fun _ _ _ h => h) (by rfl) ?_ (by assumption) ?_
  rotate_left
  · (intro w hSw; (try dsimp only at hSw); go_simp) <;> with_reducible rfl
  try simp only [Act.put, List.setIfInBounds_toArray, List.set_cons_zero, List.set_cons_succ]
  refine takeD (i := 7) (d := some 27) (v := ?_) _ rfl rfl (by kernel_rfl) (by kernel_rfl) (by kernel_rfl) (fun _ _ _ h => h) (by rfl) ?_ (by assumption) ?_
  rotate_left
  · (intro w hSw; (try dsimp only at hSw); go_simp) <;> with_reducible rfl
  try simp only [Act.put, List.setIfInBounds_toArray, List.set_cons_zero, List.set_cons_succ]
  refine takeD (i := 8) (d := some 28) (v := ?_) _ rfl rfl (by kernel_rfl) (by kernel_rfl) (by kernel_rfl) (fun _ _ _ h => h) (by rfl) ?_ (by assumption) ?_
  rotate_left
  · (intro w hSw; (try dsimp only at hSw); go_simp) <;> with_reducible rfl
  try simp only [Act.put, List.setIfInBounds_toArray, List.set_cons_zero, List.set_cons_succ]
  refine takeD (i := 9) (d := some 29) (v := ?_) _ rfl rfl (by kernel_rfl) (by kernel_rfl) (by kernel_rfl) (fun _ _ _ h => h) (by rfl) ?_ (by assumption) ?_
  rotate_left
  · (intro w hSw; (try dsimp only at hSw); go_simp) <;> with_reducible rfl
  try simp only [Act.put, List.setIfInBounds_toArray, List.set_cons_zero, List.set_cons_succ]
  generalize (if c = at_ then A else A.map (fun x => x.add at_)) = A1 at TK ⊢
  refine wpAnyH_ready (rs := [10]) (by kernel_rfl) (by simp) ?_
  refine AllReadyH.cons rfl (fun K hK => ?_) AllReadyH.nil
  (go_simp; go_at_call 49; refine (TK.out _ hHeld.1).mono ?_; rintro e wt ⟨rfl, hbt⟩; try go_wp2_with fail)
  refine hK.out _ _ ?_ (fun hHeld => ?_)
  · exact ⟨hHeld.1.trans (hbt.mono hHeld.1.size), cell_later hbt hHeld.2.1, cell_later hbt hHeld.2.2.1, cell_later hbt hHeld.2.2.2⟩
  clear hK K
  try simp only [Act.put, List.setIfInBounds_toArray, List.set_cons_zero, List.set_cons_succ]
  refine takeD (i := 11) (d := some 19) (v := ?_) _ rfl rfl (by kernel_rfl) (by kernel_rfl) (by kernel_rfl) (fun _ _ _ h => h) (by rfl) ?_ (by assumption) ?_
  rotate_left
  · (intro w hSw; (try dsimp only at hSw); go_simp) <;> with_reducible rfl
  try simp only [Act.put, List.setIfInBounds_toArray, List.set_cons_zero, List.set_cons_succ]
  refine takeD (i := 12) (d := some 31) (v := ?_) _ rfl rfl (by kernel_rfl) (by kernel_rfl) (by kernel_rfl) (fun _ _ _ h => h) (by rfl) ?_ (by assumption) ?_
  rotate_left
  · (intro w hSw; (try dsimp only at hSw); go_simp) <;> with_reducible rfl
  try simp only [Act.put, List.setIfInBounds_toArray, List.set_cons_zero, List.set_cons_succ]
  refine takeD (i := 13) (d := some 32) (v := ?_) _ rfl rfl (by kernel_rfl) (by kernel_rfl) (by kernel_rfl) (fun _ _ _ h => h) (by rfl) ?_ (by assumption) ?_
  rotate_left
  · (intro w hSw; (try dsimp only at hSw); go_simp) <;> with_reducible rfl
  try simp only [Act.put, List.setIfInBounds_toArray, List.set_cons_zero, List.set_cons_succ]
  refine takeD (i := 14) (d := some 33) (v := ?_) _ rfl rfl (by kernel_rfl) (by kernel_rfl) (by kernel_rfl) (fun _ _ _ h => h) (by rfl) ?_ (by assumption) ?_
  rotate_left
  · (intro w hSw; (try dsimp only at hSw); go_simp) <;> with_reducible rfl
  try simp only [Act.put, List.setIfInBounds_toArray, List.set_cons_zero, List.set_cons_succ]
  refine takeD (i := 15) (d := some 6) (v := ?_) _ rfl rfl (by kernel_rfl) (by kernel_rfl) (by kernel_rfl) (fun _ _ _ h => h) (by rfl) ?_ (by assumption) ?_
  rotate_left
  · (intro w hSw; (try dsimp only at hSw); go_simp) <;> with_reducible rfl
  try simp only [Act.put, List.setIfInBounds_toArray, List.set_cons_zero, List.set_cons_succ]
  refine takeD (i := 16) (d := some 7) (v := ?_) _ rfl rfl (by kernel_rfl) (by kernel_rfl) (by kernel_rfl) (fun _ _ _ h => h) (by rfl) ?_ (by assumption) ?_
  rotate_left
  · (intro w hSw; (try dsimp only at hSw); go_simp) <;> with_reducible rfl
  try simp only [Act.put, List.setIfInBounds_toArray, List.set_cons_zero, List.set_cons_succ]
  refine takeD (i := 17) (d := some 8) (v := ?_) _ rfl rfl (by kernel_rfl) (by kernel_rfl) (by kernel_rfl) (fun _ _ _ h => h) (by rfl) ?_ (by assumption) ?_
  rotate_left
  · (intro w hSw; (try dsimp only at hSw); go_simp) <;> with_reducible rfl
  try simp only [Act.put, List.setIfInBounds_toArray, List.set_cons_zero, List.set_cons_succ]
  refine wpAnyH_done (by kernel_rfl) ?_ _
  have BF := hHeld.1
  have g7 := hHeld.2.1
  have g8 := hHeld.2.2.1
  have g9 := hHeld.2.2.2
  have RB := Lib.hid (HH.out.below BF)
  have gf : ∀ o, wt.frozen? ⟨r, o, none⟩ = false := fun o => by obtain ⟨_, _, _, _, _, _, _, _, _, _, _, hz⟩ := RB.out.ex; exact hz o
  by_cases he : er = 0
  · subst he
    have hwr : IntKind.i64.wrap ((at_ : Int) + (k : Int)) = (at_ : Int) + (k : Int) := by have := h9'.out; rw [IntKind.wrap_i64]; omega
    clear hHeld
    go_wp2_with fail
    go_ret
    refine ⟨rfl, ?_, ?_⟩
    · have := RB.out.setAt (at_ + k) hak.out; simpa using this
    · exact (Past.of_below BF).set _ _
  · obtain ⟨rfl, rfl⟩ := hz.out he
    clear hHeld
    go_wp2_with fail
    go_ret
    exact ⟨rfl, RB.out.setErr er, (Past.of_below BF).set _ _⟩
theorem text_any (w : World) (r at_ : Nat) (er : Int) (l : List Int) (m : Int) (hm : m ≤ 9223372036854775807) (h : RdF w r at_ er l) :
    Calls Tryd.prog 25 #[.pointer (some ⟨r, 0, none⟩), .int .i64 m] w fun e w' => e = .returned (.string (if er = 0 then textV m (l.drop at_) else ⟨#[]⟩)) ∧ RdF w' r (if er = 0 then at_ + textK m (l.drop at_) else at_) (if er = 0 then textR m (l.drop at_) else er) l ∧ Past r w w' := by
  have hmf : ∀ (fn : Fn) (first cap : Array Value) (w : World), (Instr.makeFunc fn first cap).run Tryd.prog w = .ok (.func fn first cap) w := fun _ _ _ _ => rfl
  have BA : Below w.heap.size w (w.alloc (.cells #[.int .i64 m] 3)) := (Below.refl _ _).alloc (Nat.le_refl _) _
  have hq : (w.alloc (.cells #[.int .i64 m] 3)).cell? ⟨w.heap.size, 0, none⟩ = some (.int .i64 m) := by rw [World.cell?_alloc_new]; rfl
  have RB : Hid (Calls Tryd.prog 48 #[.pointer (some ⟨r, 0, none⟩), .func (.func 49) #[] #[.pointer (some ⟨w.heap.size, 0, none⟩)]] (w.alloc (.cells #[.int .i64 m] 3)) fun e w' => e = .returned (.string (if er = 0 then textV m (l.drop at_) else ⟨#[]⟩)) ∧ RdF w' r (if er = 0 then at_ + textK m (l.drop at_) else at_) (if er = 0 then textR m (l.drop at_) else er) l ∧ Past r w w') := by
    unfold Hid
    by_cases he : er = 0
    · subst he
      have := (read_text_ok (w.alloc (.cells #[.int .i64 m] 3)) r at_ l w.heap.size m hm hq (h.below BA)).mono (R' := fun e w' => e = .returned (.string (textV m (l.drop at_))) ∧ RdF w' r (at_ + textK m (l.drop at_)) (textR m (l.drop at_)) l ∧ Past r w w') fun e w' hh => ⟨hh.1, hh.2.1, Past.after (B := 0) BA hh.2.2⟩
      simpa using this
    · simp only [if_neg he]
      exact (read_text_err _ r at_ er l _ (h.below BA) he).mono fun e w' hh => ⟨hh.1, hh.2.1, Past.after (B := 0) BA (Past.of_below hh.2.2)⟩
  obtain ⟨v, hv⟩ : ∃ v, (if er = 0 then textV m (l.drop at_) else ⟨#[]⟩) = v := ⟨_, rfl⟩
  obtain ⟨at', ha⟩ : ∃ at', (if er = 0 then at_ + textK m (l.drop at_) else at_) = at' := ⟨_, rfl⟩
  obtain ⟨er', her⟩ : ∃ er', (if er = 0 then textR m (l.drop at_) else er) = er' := ⟨_, rfl⟩
  rw [hv, ha, her] at RB ⊢
  clear h hv ha her hq BA
  go_enter Tryd.func25, Tryd.ntmps25
  go_wp2_with fail
  refine RB.out.mono ?_
  rintro e w1 ⟨rfl, h1, h2⟩
  clear RB
  go_wp2_with fail
  go_ret
  exact ⟨rfl, h1, h2⟩
end Go.Proofs.YthcegmijphbhgaaDoor
