/-
  What a sender does: Offer, Step. Each statement bears its own conditions.
-/
import Derived.Test.YtkbjonblflhkoaaLnM
namespace Go.Proofs.Ytkbjonblflhkoaa.Ln
open Go.RowKit Go.Proofs.Ytkbjonblflhkoaa.F Go.Proofs.Ytkbjonblflhkoaa.U Go.Proofs.Ytkbjonblflhkoaa.Q
set_option linter.unusedVariables false
set_option linter.unusedSimpArgs false
theorem results_cell_tmp {P : Program} {fn : Func} {p q : Tmp} {ty : TypeId} (h : fn.results = #[.cell p ty, .tmp q]) (tmps : Array Value) (w : World) (g : Nat) (cs : List Value) (d : TypeDesc)
    (hp : tmps.getD p undef = .pointer (some ⟨g, 0, none⟩)) (hc : w.rangeAt g 0 cs)
    (hu : P.underlying ty = some d) (hd : d.isRow = true) (hi : (P.info? ty).map (·.size) = some cs.length) :
    (results fn tmps).run P w = .ok (.tuple #[.agg cs.toArray, tmps.getD q undef]) w := by
  have hp' : tmps[p]?.getD undef = .pointer (some ⟨g, 0, none⟩) := by simpa using hp
  simp [results, h, hp', asAddr, run_loadVar_mid w g 0 ty cs d hc hu hd hi]
theorem results_cell_two {P : Program} {fn : Func} {p q s : Tmp} {ty : TypeId} (h : fn.results = #[.cell p ty, .tmp q, .tmp s]) (tmps : Array Value) (w : World) (g : Nat) (cs : List Value) (d : TypeDesc)
    (hp : tmps.getD p undef = .pointer (some ⟨g, 0, none⟩)) (hc : w.rangeAt g 0 cs)
    (hu : P.underlying ty = some d) (hd : d.isRow = true) (hi : (P.info? ty).map (·.size) = some cs.length) :
    (results fn tmps).run P w = .ok (.tuple #[.agg cs.toArray, tmps.getD q undef, tmps.getD s undef]) w := by
  have hp' : tmps[p]?.getD undef = .pointer (some ⟨g, 0, none⟩) := by simpa using hp
  simp [results, h, hp', asAddr, run_loadVar_mid w g 0 ty cs d hc hu hd hi]
theorem results_cell_one {P : Program} {fn : Func} {p : Tmp} {ty : TypeId} (h : fn.results = #[.cell p ty]) (tmps : Array Value) (w : World) (g : Nat) (cs : List Value) (d : TypeDesc)
    (hp : tmps.getD p undef = .pointer (some ⟨g, 0, none⟩)) (hc : w.rangeAt g 0 cs)
    (hu : P.underlying ty = some d) (hd : d.isRow = true) (hi : (P.info? ty).map (·.size) = some cs.length) :
    (results fn tmps).run P w = .ok (.agg cs.toArray) w := by
  have hp' : tmps[p]?.getD undef = .pointer (some ⟨g, 0, none⟩) := by simpa using hp
  simp [results, h, hp', asAddr, run_loadVar_mid w g 0 ty cs d hc hu hd hi]
/-- May a frame go out now? -/
def mayV (gap : Int) (sent : Bool) (last now : Int) : Bool := decide (0 ≤ now) && (decide (now ≤ 1099511627776) && (!sent || decide (last + max gap 1 ≤ now)))
set_option maxRecDepth 100000 in
set_option maxHeartbeats 8000000 in
theorem may_any (gap words room next : Int) (sent : Bool) (last now : Int) (w : World) (hg : 0 ≤ gap ∧ gap ≤ 1048576) (hl : 0 ≤ last ∧ last ≤ 1099511627776) :
    Calls Try.prog 34 #[.agg #[.int .i64 gap, .int .i64 words, .int .i64 room, .int .i64 next, .bool sent, .int .i64 last], .int .i64 now] w fun e w' => e = .returned (.bool (mayV gap sent last now)) ∧ Below w.heap.size w w' := by
  obtain ⟨m, hm⟩ : ∃ m, max gap 1 = m := ⟨_, rfl⟩
  have hW : IntKind.i64.wrap (last + m) = last + m := by rw [IntKind.wrap_i64]; omega
  have HM := Lib.hid hm
  have BX : Hid (Below w.heap.size w (w.alloc (.cells #[.int .i64 gap, .int .i64 words, .int .i64 room, .int .i64 next, .bool sent, .int .i64 last] 85))) := (Below.refl _ _).alloc (Nat.le_refl _) _
  clear hg hl
  by_cases h1 : 0 ≤ now
  rotate_left
  · have e1 : decide (0 ≤ now) = false := by simpa using h1
    have HF : Hid (mayV gap sent last now = false) := by unfold Hid mayV; rw [e1]; rfl
    clear h1 hm
    go_enter Try.func34, Try.ntmps34
    go_wp2_with fail
    go_ret
    exact ⟨by rw [HF.out]; rfl, BX.out⟩
  by_cases h2 : now ≤ 1099511627776
  rotate_left
  · have e1 : decide (0 ≤ now) = true := by simpa using h1
    have e2 : decide (now ≤ 1099511627776) = false := by simpa using h2
    have HF : Hid (mayV gap sent last now = false) := by unfold Hid mayV; rw [e1, e2]; rfl
    clear h1 h2 hm
    go_enter Try.func34, Try.ntmps34
    go_wp2_with fail
    go_ret
    exact ⟨by rw [HF.out]; rfl, BX.out⟩
  have e1 : decide (0 ≤ now) = true := by simpa using h1
  have e2 : decide (now ≤ 1099511627776) = true := by simpa using h2
  clear h1 h2
  cases hs : sent with
  | false =>
    have HF : Hid (mayV gap false last now = true) := by unfold Hid mayV; rw [e1, e2]; rfl
    rw [hs] at BX
    clear hs hm
    go_enter Try.func34, Try.ntmps34
    go_wp2_with fail
    go_ret
    exact ⟨by rw [HF.out]; rfl, BX.out⟩
  | true =>
    rw [hs] at BX
    clear hs
    by_cases h3 : last + m ≤ now
    · have e3 : decide (last + m ≤ now) = true := by simpa using h3
      have HF : Hid (mayV gap true last now = true) := by unfold Hid mayV; rw [e1, e2, HM.out, e3]; rfl
      clear h3
      go_enter Try.func34, Try.ntmps34
      go_wp2_with fail
      go_ret
      exact ⟨by rw [HF.out]; rfl, BX.out⟩
    · have e3 : decide (last + m ≤ now) = false := by simpa using h3
      have HF : Hid (mayV gap true last now = false) := by unfold Hid mayV; rw [e1, e2, HM.out, e3]; rfl
      clear h3
      go_enter Try.func34, Try.ntmps34
      go_wp2_with fail
      go_ret
      exact ⟨by rw [HF.out]; rfl, BX.out⟩
theorem offer_nil (v : Value) (w : World) : Calls Try.prog 14 #[.pointer none, v] w fun e w' => e = .returned (.int .i64 1) ∧ w' = w := by
  go_enter Try.func14, Try.ntmps14
  go_wp2_with fail
  go_ret
  exact ⟨rfl, rfl⟩
set_option maxRecDepth 100000 in
set_option maxHeartbeats 8000000 in
theorem offer_range (lo : Nat) (p r : Nat → Prop) (g : Nat) (s : SS) (LL : List (List Int)) (A : Option Addr) (nk c : Nat) (w : World) (h : SV lo w p r g s LL) (hk : s.words < (nk : Int)) : Calls Try.prog 14 #[.pointer (some ⟨g, 0, none⟩), .slice A nk c] w fun e w' => e = .returned (.int .i64 2) ∧ w' = w := by
  obtain ⟨Am, cm, S, a, b, c⟩ := h.seven
  have d0 : w.cell? ⟨g, 0, none⟩ = some (.int .i64 s.gap) := by rw [(row_cell a 0).1]; rfl
  have d1 : w.cell? ⟨g, 1, none⟩ = some (.int .i64 s.words) := by rw [(row_cell a 1).1]; rfl
  have d2 : w.cell? ⟨g, 2, none⟩ = some (.int .i64 s.room) := by rw [(row_cell a 2).1]; rfl
  have d3 : w.cell? ⟨g, 3, none⟩ = some (.int .i64 s.next) := by rw [(row_cell a 3).1]; rfl
  have d4 : w.cell? ⟨g, 4, none⟩ = some (.bool s.sent) := by rw [(row_cell a 4).1]; rfl
  have d5 : w.cell? ⟨g, 5, none⟩ = some (.int .i64 s.last) := by rw [(row_cell a 5).1]; rfl
  have d6 : w.cell? ⟨g, 6, none⟩ = some (.slice Am LL.length cm) := by rw [(row_cell a 6).1]; rfl
  have hkb : decide (s.words < (nk : Int)) = true := by simpa using hk
  clear a b h d0 d2 d3 d4 d5 d6
  go_enter Try.func14, Try.ntmps14
  go_wp2_with fail
  go_ret
  exact ⟨rfl, rfl⟩
set_option maxRecDepth 100000 in
set_option maxHeartbeats 8000000 in
theorem offer_full (lo : Nat) (p r : Nat → Prop) (g : Nat) (s : SS) (LL : List (List Int)) (A : Option Addr) (nk c : Nat) (w : World) (h : SV lo w p r g s LL) (hk : (nk : Int) ≤ s.words) (hr : (LL.length : Int) = s.room) : Calls Try.prog 14 #[.pointer (some ⟨g, 0, none⟩), .slice A nk c] w fun e w' => e = .returned (.int .i64 8) ∧ Below w.heap.size w w' := by
  obtain ⟨Am, cm, S, a, b, c⟩ := h.seven
  have d0 : w.cell? ⟨g, 0, none⟩ = some (.int .i64 s.gap) := by rw [(row_cell a 0).1]; rfl
  have d1 : w.cell? ⟨g, 1, none⟩ = some (.int .i64 s.words) := by rw [(row_cell a 1).1]; rfl
  have d2 : w.cell? ⟨g, 2, none⟩ = some (.int .i64 s.room) := by rw [(row_cell a 2).1]; rfl
  have d3 : w.cell? ⟨g, 3, none⟩ = some (.int .i64 s.next) := by rw [(row_cell a 3).1]; rfl
  have d4 : w.cell? ⟨g, 4, none⟩ = some (.bool s.sent) := by rw [(row_cell a 4).1]; rfl
  have d5 : w.cell? ⟨g, 5, none⟩ = some (.int .i64 s.last) := by rw [(row_cell a 5).1]; rfl
  have d6 : w.cell? ⟨g, 6, none⟩ = some (.slice Am LL.length cm) := by rw [(row_cell a 6).1]; rfl
  have hkb : decide (s.words < (nk : Int)) = false := by simpa using hk
  obtain ⟨nm, hnm⟩ : ∃ k, LL.length = k := ⟨_, rfl⟩
  rw [hnm] at d6
  have hrb : ((nm : Int) == s.room) = true := by rw [beq_iff_eq, ← hnm]; exact hr
  clear a b h d0 d3 d4 d5 hnm hr hk
  go_enter Try.func14, Try.ntmps14
  go_wp2_with fail
  refine wp_region_held_drew (S := (fun w' => Below w.heap.size w w' ∧ w'.cell? ⟨g, 2, none⟩ = some (.int .i64 s.room) ∧ w'.cell? ⟨g, 6, none⟩ = some (.slice Am nm cm))) (by kernel_rfl) ?_ (fun hHeld => ?_)
  · exact ⟨(Below.refl _ _).drew, d2, d6⟩
  refine takeD (i := 0) (d := some 18) (v := ?_) _ rfl rfl (by kernel_rfl) (by kernel_rfl) (by kernel_rfl) (fun _ _ _ h => h) (by rfl) ?_ (by assumption) ?_
  rotate_left
  · (intro w hSw; (try dsimp only at hSw); go_simp) <;> with_reducible rfl
  try simp only [Act.put, List.setIfInBounds_toArray, List.set_cons_zero, List.set_cons_succ]
  refine takeD (i := 1) (d := some 19) (v := ?_) _ rfl rfl (by kernel_rfl) (by kernel_rfl) (by kernel_rfl) (fun _ _ _ h => h) (by rfl) ?_ (by assumption) ?_
  rotate_left
  · (intro w hSw; (try dsimp only at hSw); go_simp) <;> with_reducible rfl
  try simp only [Act.put, List.setIfInBounds_toArray, List.set_cons_zero, List.set_cons_succ]
  refine takeD (i := 2) (d := some 20) (v := ?_) _ rfl rfl (by kernel_rfl) (by kernel_rfl) (by kernel_rfl) (fun _ _ _ h => h) (by rfl) ?_ (by assumption) ?_
  rotate_left
  · (intro w hSw; (try dsimp only at hSw); go_simp) <;> with_reducible rfl
  try simp only [Act.put, List.setIfInBounds_toArray, List.set_cons_zero, List.set_cons_succ]
  refine takeD (i := 3) (d := some 21) (v := ?_) _ rfl rfl (by kernel_rfl) (by kernel_rfl) (by kernel_rfl) (fun _ _ _ h => h) (by rfl) ?_ (by assumption) ?_
  rotate_left
  · (intro w hSw; (try dsimp only at hSw); go_simp) <;> with_reducible rfl
  try simp only [Act.put, List.setIfInBounds_toArray, List.set_cons_zero, List.set_cons_succ]
  refine takeD (i := 4) (d := some 22) (v := ?_) _ rfl rfl (by kernel_rfl) (by kernel_rfl) (by kernel_rfl) (fun _ _ _ h => h) (by rfl) ?_ (by assumption) ?_
  rotate_left
  · (intro w hSw; (try dsimp only at hSw); go_simp) <;> with_reducible rfl
  try simp only [Act.put, List.setIfInBounds_toArray, List.set_cons_zero, List.set_cons_succ]
  refine takeD (i := 5) (d := some 23) (v := ?_) _ rfl rfl (by kernel_rfl) (by kernel_rfl) (by kernel_rfl) (fun _ _ _ h => h) (by rfl) ?_ (by assumption) ?_
  rotate_left
  · (intro w hSw; (try dsimp only at hSw); go_simp) <;> with_reducible rfl
  try simp only [Act.put, List.setIfInBounds_toArray, List.set_cons_zero, List.set_cons_succ]
  refine takeD (i := 6) (d := some 24) (v := ?_) _ rfl rfl (by kernel_rfl) (by kernel_rfl) (by kernel_rfl) (fun _ _ _ h => h) (by rfl) ?_ (by assumption) ?_
  rotate_left
  · (intro w hSw; (try dsimp only at hSw); go_simp) <;> with_reducible rfl
  try simp only [Act.put, List.setIfInBounds_toArray, List.set_cons_zero, List.set_cons_succ]
  refine takeD (i := 7) (d := some 25) (v := ?_) _ rfl rfl (by kernel_rfl) (by kernel_rfl) (by kernel_rfl) (fun _ _ _ h => h) (by rfl) ?_ (by assumption) ?_
  rotate_left
  · (intro w hSw; (try dsimp only at hSw); go_simp) <;> with_reducible rfl
  try simp only [Act.put, List.setIfInBounds_toArray, List.set_cons_zero, List.set_cons_succ]
  refine takeD (i := 8) (d := some 26) (v := ?_) _ rfl rfl (by kernel_rfl) (by kernel_rfl) (by kernel_rfl) (fun _ _ _ h => h) (by rfl) ?_ (by assumption) ?_
  rotate_left
  · (intro w hSw; (try dsimp only at hSw); go_simp) <;> with_reducible rfl
  try simp only [Act.put, List.setIfInBounds_toArray, List.set_cons_zero, List.set_cons_succ]
  refine takeD (i := 9) (d := some 27) (v := ?_) _ rfl rfl (by kernel_rfl) (by kernel_rfl) (by kernel_rfl) (fun _ _ _ h => h) (by rfl) ?_ (by assumption) ?_
  rotate_left
  · (intro w hSw; (try dsimp only at hSw); go_simp) <;> with_reducible rfl
  try simp only [Act.put, List.setIfInBounds_toArray, List.set_cons_zero, List.set_cons_succ]
  refine takeD (i := 10) (d := some 28) (v := ?_) _ rfl rfl (by kernel_rfl) (by kernel_rfl) (by kernel_rfl) (fun _ _ _ h => h) (by rfl) ?_ (by assumption) ?_
  rotate_left
  · (intro w hSw; (try dsimp only at hSw); go_simp) <;> with_reducible rfl
  try simp only [Act.put, List.setIfInBounds_toArray, List.set_cons_zero, List.set_cons_succ]
  refine takeD (i := 11) (d := some 17) (v := ?_) _ rfl rfl (by kernel_rfl) (by kernel_rfl) (by kernel_rfl) (fun _ _ _ h => h) (by rfl) ?_ (by assumption) ?_
  rotate_left
  · (intro w hSw; (try dsimp only at hSw); go_simp) <;> with_reducible rfl
  try simp only [Act.put, List.setIfInBounds_toArray, List.set_cons_zero, List.set_cons_succ]
  refine wpAnyH_done (by kernel_rfl) ?_ _
  have HB := Lib.hid hHeld.1
  clear hHeld d1 d2 d6
  go_wp2_with fail
  go_ret
  exact ⟨rfl, HB.out⟩
set_option maxRecDepth 100000 in
set_option maxHeartbeats 8000000 in
theorem offer_ok (lo : Nat) (p r : Nat → Prop) (g : Nat) (s : SS) (LL : List (List Int)) (P : Nat → Prop) (A : Option Addr) (nk c : Nat) (K : List Int) (w : World) (h : SV lo w p r g s LL) (hv : Sq w P (.slice A nk c) nk (CU K)) (hk : (nk : Int) ≤ s.words) (hlt : (LL.length : Int) < s.room) (hr : ∀ b, w.heap.size ≤ b → r b) :
    Calls Try.prog 14 #[.pointer (some ⟨g, 0, none⟩), .slice A nk c] w fun e w' => ∃ q, e = .returned (.int .i64 0) ∧ SV lo w' q r g s (LL ++ [K]) ∧ Nx p q w w' := by
  obtain ⟨i0, hi, hz0, hz1, hz2⟩ := info_of sl_info
  have hkn : K.length = nk := by have := hv.len; simpa [CU] using this
  have HBD : Hid (((LL ++ [K]).length : Int) ≤ s.room ∧ ∀ L ∈ LL ++ [K], (L.length : Int) ≤ s.words) := by
    refine ⟨by simp; omega, fun L hL => ?_⟩
    rcases List.mem_append.1 hL with hL | hL
    · exact h.bd.2 L hL
    · simp at hL; subst hL; omega
  obtain ⟨Am, cm, S, a, b, c0⟩ := h.seven
  have d0 : w.cell? ⟨g, 0, none⟩ = some (.int .i64 s.gap) := by rw [(row_cell a 0).1]; rfl
  have d1 : w.cell? ⟨g, 1, none⟩ = some (.int .i64 s.words) := by rw [(row_cell a 1).1]; rfl
  have d2 : w.cell? ⟨g, 2, none⟩ = some (.int .i64 s.room) := by rw [(row_cell a 2).1]; rfl
  have d3 : w.cell? ⟨g, 3, none⟩ = some (.int .i64 s.next) := by rw [(row_cell a 3).1]; rfl
  have d4 : w.cell? ⟨g, 4, none⟩ = some (.bool s.sent) := by rw [(row_cell a 4).1]; rfl
  have d5 : w.cell? ⟨g, 5, none⟩ = some (.int .i64 s.last) := by rw [(row_cell a 5).1]; rfl
  have d6 : w.cell? ⟨g, 6, none⟩ = some (.slice Am LL.length cm) := by rw [(row_cell a 6).1]; rfl
  have hkb : decide (s.words < (nk : Int)) = false := by simpa using hk
  obtain ⟨nm, hnm⟩ : ∃ k, LL.length = k := ⟨_, rfl⟩
  rw [hnm] at d6
  have hrb : ((nm : Int) == s.room) = false := by rw [beq_eq_false_iff_ne, ← hnm]; omega
  have HK : Hid (K.length = nk ∧ nm ≤ 32 ∧ nk ≤ 32) := ⟨hkn, by have := h.few; omega, by have := h.ok.w; omega⟩
  have HR := Lib.hid hr
  have HH0 := Lib.hid h
  have HV := Lib.hid hv
  have HA : Hid (w.heap[g]? = some (.cells #[.int .i64 s.gap, .int .i64 s.words, .int .i64 s.room, .int .i64 s.next, .bool s.sent, .int .i64 s.last, .slice Am nm cm] 87 (0, 0)) ∧ Ow 33 w p (.slice Am nm cm) nm (CS S) ∧ Ms w r S LL) := by rw [← hnm]; exact ⟨a, b, c0⟩
  clear a b c0 h d0 d3 d4 d5 hnm hr hk hv hkn hlt
  go_enter Try.func14, Try.ntmps14
  go_wp2_with fail
  refine wp_region_held_drew (S := (fun w' => Below w.heap.size w w' ∧ w'.cell? ⟨g, 2, none⟩ = some (.int .i64 s.room) ∧ w'.cell? ⟨g, 6, none⟩ = some (.slice Am nm cm))) (by kernel_rfl) ?_ (fun hHeld => ?_)
  · exact ⟨(Below.refl _ _).drew, d2, d6⟩
  refine takeD (i := 0) (d := some 18) (v := ?_) _ rfl rfl (by kernel_rfl) (by kernel_rfl) (by kernel_rfl) (fun _ _ _ h => h) (by rfl) ?_ (by assumption) ?_
  rotate_left
  · (intro w hSw; (try dsimp only at hSw); go_simp) <;> with_reducible rfl
  try simp only [Act.put, List.setIfInBounds_toArray, List.set_cons_zero, List.set_cons_succ]
  refine takeD (i := 1) (d := some 19) (v := ?_) _ rfl rfl (by kernel_rfl) (by kernel_rfl) (by kernel_rfl) (fun _ _ _ h => h) (by rfl) ?_ (by assumption) ?_
  rotate_left
  · (intro w hSw; (try dsimp only at hSw); go_simp) <;> with_reducible rfl
  try simp only [Act.put, List.setIfInBounds_toArray, List.set_cons_zero, List.set_cons_succ]
  refine takeD (i := 2) (d := some 20) (v := ?_) _ rfl rfl (by kernel_rfl) (by kernel_rfl) (by kernel_rfl) (fun _ _ _ h => h) (by rfl) ?_ (by assumption) ?_
  rotate_left
  · (intro w hSw; (try dsimp only at hSw); go_simp) <;> with_reducible rfl
  try simp only [Act.put, List.setIfInBounds_toArray, List.set_cons_zero, List.set_cons_succ]
  refine takeD (i := 3) (d := some 21) (v := ?_) _ rfl rfl (by kernel_rfl) (by kernel_rfl) (by kernel_rfl) (fun _ _ _ h => h) (by rfl) ?_ (by assumption) ?_
  rotate_left
  · (intro w hSw; (try dsimp only at hSw); go_simp) <;> with_reducible rfl
  try simp only [Act.put, List.setIfInBounds_toArray, List.set_cons_zero, List.set_cons_succ]
  refine takeD (i := 4) (d := some 22) (v := ?_) _ rfl rfl (by kernel_rfl) (by kernel_rfl) (by kernel_rfl) (fun _ _ _ h => h) (by rfl) ?_ (by assumption) ?_
  rotate_left
  · (intro w hSw; (try dsimp only at hSw); go_simp) <;> with_reducible rfl
  try simp only [Act.put, List.setIfInBounds_toArray, List.set_cons_zero, List.set_cons_succ]
  refine takeD (i := 5) (d := some 23) (v := ?_) _ rfl rfl (by kernel_rfl) (by kernel_rfl) (by kernel_rfl) (fun _ _ _ h => h) (by rfl) ?_ (by assumption) ?_
  rotate_left
  · (intro w hSw; (try dsimp only at hSw); go_simp) <;> with_reducible rfl
  try simp only [Act.put, List.setIfInBounds_toArray, List.set_cons_zero, List.set_cons_succ]
  refine takeD (i := 6) (d := some 24) (v := ?_) _ rfl rfl (by kernel_rfl) (by kernel_rfl) (by kernel_rfl) (fun _ _ _ h => h) (by rfl) ?_ (by assumption) ?_
  rotate_left
  · (intro w hSw; (try dsimp only at hSw); go_simp) <;> with_reducible rfl
  try simp only [Act.put, List.setIfInBounds_toArray, List.set_cons_zero, List.set_cons_succ]
  refine takeD (i := 7) (d := some 25) (v := ?_) _ rfl rfl (by kernel_rfl) (by kernel_rfl) (by kernel_rfl) (fun _ _ _ h => h) (by rfl) ?_ (by assumption) ?_
  rotate_left
  · (intro w hSw; (try dsimp only at hSw); go_simp) <;> with_reducible rfl
  try simp only [Act.put, List.setIfInBounds_toArray, List.set_cons_zero, List.set_cons_succ]
  refine takeD (i := 8) (d := some 26) (v := ?_) _ rfl rfl (by kernel_rfl) (by kernel_rfl) (by kernel_rfl) (fun _ _ _ h => h) (by rfl) ?_ (by assumption) ?_
  rotate_left
  · (intro w hSw; (try dsimp only at hSw); go_simp) <;> with_reducible rfl
  try simp only [Act.put, List.setIfInBounds_toArray, List.set_cons_zero, List.set_cons_succ]
  refine takeD (i := 9) (d := some 27) (v := ?_) _ rfl rfl (by kernel_rfl) (by kernel_rfl) (by kernel_rfl) (fun _ _ _ h => h) (by rfl) ?_ (by assumption) ?_
  rotate_left
  · (intro w hSw; (try dsimp only at hSw); go_simp) <;> with_reducible rfl
  try simp only [Act.put, List.setIfInBounds_toArray, List.set_cons_zero, List.set_cons_succ]
  refine takeD (i := 10) (d := some 28) (v := ?_) _ rfl rfl (by kernel_rfl) (by kernel_rfl) (by kernel_rfl) (fun _ _ _ h => h) (by rfl) ?_ (by assumption) ?_
  rotate_left
  · (intro w hSw; (try dsimp only at hSw); go_simp) <;> with_reducible rfl
  try simp only [Act.put, List.setIfInBounds_toArray, List.set_cons_zero, List.set_cons_succ]
  refine takeD (i := 11) (d := some 17) (v := ?_) _ rfl rfl (by kernel_rfl) (by kernel_rfl) (by kernel_rfl) (fun _ _ _ h => h) (by rfl) ?_ (by assumption) ?_
  rotate_left
  · (intro w hSw; (try dsimp only at hSw); go_simp) <;> with_reducible rfl
  try simp only [Act.put, List.setIfInBounds_toArray, List.set_cons_zero, List.set_cons_succ]
  refine wpAnyH_done (by kernel_rfl) ?_ _
  obtain ⟨w3, hw3⟩ : ∃ w3, w.drew = w3 := ⟨_, rfl⟩
  have HB3 : Hid (Below w.heap.size w w3) := by rw [← hw3]; exact (Below.refl _ _).drew
  clear hHeld d1 d2 d6
  go_wp2_with fail
  rw [hw3]
  clear hw3
  have HSZ : Hid (w.heap.size ≤ w3.heap.size) := HB3.out.size
  have HV3 := Lib.hid (HV.out.belowP HB3.out)
  have HH := Lib.hid (HH0.out.below HB3.out)
  have HA3 : Hid (w3.heap[g]? = some (.cells #[.int .i64 s.gap, .int .i64 s.words, .int .i64 s.room, .int .i64 s.next, .bool s.sent, .int .i64 s.last, .slice Am nm cm] 87 (0, 0)) ∧ Ow 33 w3 p (.slice Am nm cm) nm (CS S) ∧ Ms w3 r S LL) := ⟨(HB3.out.block g HH0.out.lt).trans HA.out.1, HA.out.2.1.below HB3.out, HA.out.2.2.below HB3.out⟩
  have CE : Hid (∀ W (hb : Below w3.heap.size w3 W), Calls Try.prog 33 #[.slice A nk c] W fun e w' => (∃ r, e = .returned r ∧ w'.ownsRow W.heap.size 47 1 r nk (CU K)) ∧ Below W.heap.size W w') := fun W hb => U.uclone_any _ _ _ _ W (HV3.out.belowP hb).st (CU_one _) (by have := HK.out; omega)
  have HQ : Hid (∀ W, Below w3.heap.size w3 W → W.heap[g]? = some (.cells #[.int .i64 s.gap, .int .i64 s.words, .int .i64 s.room, .int .i64 s.next, .bool s.sent, .int .i64 s.last, .slice Am nm cm] 87 (0, 0)) ∧ ∃ S, Ow 33 W p (.slice Am nm cm) nm (CS S) ∧ Ms W r S LL) := fun W hb => ⟨(hb.block g HH.out.lt).trans HA3.out.1, S, HA3.out.2.1.below hb, HA3.out.2.2.below hb⟩
  have H6 : Hid (∀ W, Below w3.heap.size w3 W → W.cell? ⟨g, 6, none⟩ = some (.slice Am nm cm)) := fun W hb => by rw [(row_cell (HQ.out W hb).1 6).1]; rfl
  refine wp_region_held_drew (S := (fun _ => True)) (by kernel_rfl) trivial (fun hHeld => ?_)
  clear hHeld
  refine takeD (i := 0) (d := some 29) (v := ?_) _ rfl rfl (by kernel_rfl) (by kernel_rfl) (by kernel_rfl) (fun _ _ _ h => h) (by rfl) ?_ trivial ?_
  rotate_left
  · (intro w hSw; (try dsimp only at hSw); go_simp) <;> with_reducible rfl
  try simp only [Act.put, List.setIfInBounds_toArray, List.set_cons_zero, List.set_cons_succ]
  refine takeD (i := 1) (d := some 30) (v := ?_) _ rfl rfl (by kernel_rfl) (by kernel_rfl) (by kernel_rfl) (fun _ _ _ h => h) (by rfl) ?_ trivial ?_
  rotate_left
  · (intro w hSw; (try dsimp only at hSw); go_simp) <;> with_reducible rfl
  try simp only [Act.put, List.setIfInBounds_toArray, List.set_cons_zero, List.set_cons_succ]
  refine takeD (i := 2) (d := some 31) (v := ?_) _ rfl rfl (by kernel_rfl) (by kernel_rfl) (by kernel_rfl) (fun _ _ _ h => h) (by rfl) ?_ trivial ?_
  rotate_left
  · (intro w hSw; (try dsimp only at hSw); go_simp) <;> with_reducible rfl
  try simp only [Act.put, List.setIfInBounds_toArray, List.set_cons_zero, List.set_cons_succ]
  refine takeD (i := 3) (d := some 32) (v := ?_) _ rfl rfl (by kernel_rfl) (by kernel_rfl) (by kernel_rfl) (fun _ _ _ h => h) (by rfl) ?_ trivial ?_
  rotate_left
  · (intro w hSw; (try dsimp only at hSw); go_simp) <;> with_reducible rfl
  try simp only [Act.put, List.setIfInBounds_toArray, List.set_cons_zero, List.set_cons_succ]
  refine takeD (i := 5) (d := some 34) (v := ?_) _ rfl rfl (by kernel_rfl) (by kernel_rfl) (by kernel_rfl) (fun _ _ _ h => h) (by rfl) ?_ trivial ?_
  rotate_left
  · (intro w hSw; (try dsimp only at hSw); go_simp) <;> with_reducible rfl
  try simp only [Act.put, List.setIfInBounds_toArray, List.set_cons_zero, List.set_cons_succ]
  obtain ⟨V, hV⟩ : ∃ V, w3.drew = V := ⟨_, rfl⟩
  have B_V : Hid (Below w3.heap.size w3 V) := by rw [← hV]; exact (Below.refl _ _).drew
  simp only [hV]
  clear hV
  refine wpAnyH_ready (rs := [4, 6]) (by kernel_rfl) (by simp) ?_
  refine AllReadyH.cons rfl (fun K0 hK => ?_) (AllReadyH.cons rfl (fun K0 hK => ?_) (AllReadyH.nil))
  · have l0 := H6.out V B_V.out
    try go_simp
    refine hK.out _ _ trivial (fun _ => ?_)
    clear l0
    clear hK K0
    try simp only [Act.put, List.getElem_toArray, List.getElem_cons_succ, List.getElem_cons_zero, List.setIfInBounds_toArray, List.set_cons_zero, List.set_cons_succ]
    refine wpAnyH_ready (rs := [6]) (by kernel_rfl) (by simp) ?_
    refine AllReadyH.cons rfl (fun K0 hK => ?_) (AllReadyH.nil)
    try go_simp
    go_at_call 33
    refine (CE.out V B_V.out).mono ?_
    rintro e Vb ⟨⟨rv, rfl, r1⟩, b_Vb⟩
    obtain ⟨Ar, cr, rfl⟩ := slice_form r1
    have NM : Hid (Ow 47 Vb (fun b => w.heap.size ≤ b) (.slice Ar nk cr) nk (CU K)) := (Ow.of_own r1).imp fun b _ hb => by have := B_V.out.size; have := HSZ.out; omega
    have B_Vb : Hid (Below w3.heap.size w3 Vb) := B_V.out.trans (b_Vb.mono B_V.out.size)
    clear r1 b_Vb
    try go_wp2_with fail
    refine hK.out _ _ trivial (fun _ => ?_)
    clear hK K0
    try simp only [Act.put, List.getElem_toArray, List.getElem_cons_succ, List.getElem_cons_zero, List.setIfInBounds_toArray, List.set_cons_zero, List.set_cons_succ]
    refine wpAnyH_ready (rs := [7]) (by kernel_rfl) (by simp) ?_
    refine AllReadyH.cons rfl (fun K0 hK => ?_) (AllReadyH.nil)
    have hx : Below Vb.heap.size Vb (Vb.alloc (.cells #[.slice Ar nk cr] 33)) := (Below.refl _ _).alloc (Nat.le_refl _) _
    have RD := Lib.hid (one_row (w := Vb) (.slice Ar nk cr) 33)
    obtain ⟨Vba, h_Vba⟩ : ∃ W, Vb.alloc (.cells #[.slice Ar nk cr] 33) = W := ⟨_, rfl⟩
    obtain ⟨bz, h_bz⟩ : ∃ vb, Vb.heap.size = vb := ⟨_, rfl⟩
    rw [h_Vba] at hx RD
    have NM := Lib.hid (NM.out.below hx)
    have B_Vba : Hid (Below w3.heap.size w3 Vba) := B_Vb.out.trans (hx.mono B_Vb.out.size)
    rw [h_bz] at RD
    try go_simp
    try rw [h_Vba]
    try rw [h_bz]
    refine hK.out _ _ trivial (fun _ => ?_)
    clear h_Vba h_bz hx
    clear hK K0
    try simp only [Act.put, List.getElem_toArray, List.getElem_cons_succ, List.getElem_cons_zero, List.setIfInBounds_toArray, List.set_cons_zero, List.set_cons_succ]
    refine wpAnyH_ready (rs := [8]) (by kernel_rfl) (by simp) ?_
    refine AllReadyH.cons rfl (fun K0 hK => ?_) (AllReadyH.nil)
    obtain ⟨hg8, S8, ho8, hm8⟩ := HQ.out Vba B_Vba.out
    have HG8 := Lib.hid hg8
    have HO8 := Lib.hid ho8
    have HM8 := Lib.hid hm8
    clear hg8 ho8 hm8
    refine wp_append_any Vba (.tmp 33) (.tmp 36) 25 rfl 0 33 i0 (.slice none 0 0) 1 24 Try.underlying25 hi hz0 hz1 hz2 rfl (by decide) (.slice Am nm cm) nm (CS S8) rfl HO8.out.own (bz + 1) (some ⟨bz, 0, none⟩) 1 1 [.slice Ar nk cr] rfl RD.out (fun u hu => by simp at hu; subst hu; rfl) (by have := HK.out; unfold maxLen; omega) (by have := HK.out; omega) (Nat.zero_le _) ?_
    intro v2 w5 hown hgrow hblk
    obtain ⟨A2, c2, rfl⟩ := slice_form hown
    have G := HO8.out.grow hown hgrow (by
      rcases hblk with h | h
      · exact .inl h
      · exact .inr h)
    have hng : (Value.slice Am nm cm).ownBlock ≠ some g := fun e => ((HO8.out.not HG8.out ne_sq).at_ g e).1.2 rfl
    have hg5 : w5.heap[g]? = some (.cells #[.int .i64 s.gap, .int .i64 s.words, .int .i64 s.room, .int .i64 s.next, .bool s.sent, .int .i64 s.last, .slice Am nm cm] 87 (0, 0)) := (hgrow.block g (Array.getElem?_eq_some_iff.1 HG8.out).1 (fun e => hng e.symm)).trans HG8.out
    have hm5 : Ms w5 r (S8 ++ [(Ar, nk, cr)]) (LL ++ [K]) := by
      have hty : Ty Vba (fun b => (Value.slice Am nm cm).ownBlock = some b) := fun b hb hl => by
        rcases HO8.out.form with ⟨h0, _⟩ | ⟨b1, cap, cur, hv, _, _, hg1, _⟩
        · rw [h0] at hb; cases hb
        · rw [hv] at hb
          injection hb with hb
          have hb : b1 = b := hb
          subst hb
          exact ⟨_, _, _, hg1, fun e => ne_us e.symm⟩
      have hfo : Fo (fun b => (Value.slice Am nm cm).ownBlock = some b) Vba w5 := ⟨hgrow.os, hgrow.tape, hgrow.output, hgrow.size, fun k hk hn => hgrow.block k hk (fun e => hn e.symm)⟩
      have hn : Ow 47 Vba r (slv (Ar, nk, cr)) K.length (CU K) := by rw [HK.out.1]; exact NM.out.imp fun b _ hb => HR.out b hb
      exact (HM8.out.app (Ms.one hn)).fot hfo hty
    have hf5 : Fo p w3 w5 := (Fo.of_below B_Vba.out).trans G.2 fun i hi => .inl hi
    have g5 : w5.cell? ⟨g, 6, none⟩ = some (.slice Am nm cm) := by rw [(row_cell hg5 6).1]; rfl
    have gf : w5.frozen? ⟨g, 6, none⟩ = false := (row_cell hg5 6).2
    have Q : Hid (∃ q, SV lo (w5.setCell ⟨g, 6, none⟩ (.slice A2 (nm + 1) c2)) q r g s (LL ++ [K]) ∧ Nx p q w3 (w5.setCell ⟨g, 6, none⟩ (.slice A2 (nm + 1) c2))) := by
      have ho5 : Ow 33 w5 (fun b => p b ∨ (Vba.heap.size ≤ b ∧ b < w5.heap.size)) (.slice A2 (nm + 1) c2) (nm + 1) (CS (S8 ++ [(Ar, nk, cr)])) := by rw [CS_app]; exact G.1
      refine HH.out.lay hg5 ho5 hm5 hf5 (fun b hb => ?_) HH.out.ok HBD.out (set_at hg5 6 _) ((Fo.refl (fun b => b = g) w5).setCell (.inl rfl) 6 _)
      rcases (ho5.at_ b hb).1 with h | h
      · exact .inl h
      · exact .inr (by have := B_Vba.out.size; omega)
    clear hown hgrow hblk G hng hg5 hm5 hf5
    refine hK.out _ _ trivial (fun _ => ?_)
    clear hK K0
    try simp only [Act.put, List.getElem_toArray, List.getElem_cons_succ, List.getElem_cons_zero, List.setIfInBounds_toArray, List.set_cons_zero, List.set_cons_succ]
    refine takeD (i := 9) (d := some 38) (v := ?_) _ rfl rfl (by kernel_rfl) (by kernel_rfl) (by kernel_rfl) (fun _ _ _ h => h) (by rfl) ?_ trivial ?_
    rotate_left
    · (intro w hSw; (try dsimp only at hSw); go_simp) <;> with_reducible rfl
    try simp only [Act.put, List.setIfInBounds_toArray, List.set_cons_zero, List.set_cons_succ]
    refine takeD (i := 10) (d := some 39) (v := ?_) _ rfl rfl (by kernel_rfl) (by kernel_rfl) (by kernel_rfl) (fun _ _ _ h => h) (by rfl) ?_ trivial ?_
    rotate_left
    · (intro w hSw; (try dsimp only at hSw); go_simp) <;> with_reducible rfl
    try simp only [Act.put, List.setIfInBounds_toArray, List.set_cons_zero, List.set_cons_succ]
    refine wpAnyH_ready (rs := [11]) (by kernel_rfl) (by simp) ?_
    refine AllReadyH.cons rfl (fun K0 hK => ?_) (AllReadyH.nil)
    try go_simp
    refine hK.out _ _ trivial (fun _ => ?_)
    clear hK K0
    try simp only [Act.put, List.getElem_toArray, List.getElem_cons_succ, List.getElem_cons_zero, List.setIfInBounds_toArray, List.set_cons_zero, List.set_cons_succ]
    refine wpAnyH_done (by kernel_rfl) ?_ _
    go_wp2_with fail
    go_ret
    obtain ⟨q, q1, q2⟩ := Q.out
    first | exact ⟨q, rfl, q1, (Nx.of_below HB3.out).trans q2⟩ | exact ⟨_, rfl, q1, (Nx.of_below HB3.out).trans q2⟩
  · try go_simp
    go_at_call 33
    refine (CE.out V B_V.out).mono ?_
    rintro e Vb ⟨⟨rv, rfl, r1⟩, b_Vb⟩
    obtain ⟨Ar, cr, rfl⟩ := slice_form r1
    have NM : Hid (Ow 47 Vb (fun b => w.heap.size ≤ b) (.slice Ar nk cr) nk (CU K)) := (Ow.of_own r1).imp fun b _ hb => by have := B_V.out.size; have := HSZ.out; omega
    have B_Vb : Hid (Below w3.heap.size w3 Vb) := B_V.out.trans (b_Vb.mono B_V.out.size)
    clear r1 b_Vb
    try go_wp2_with fail
    refine hK.out _ _ trivial (fun _ => ?_)
    clear hK K0
    try simp only [Act.put, List.getElem_toArray, List.getElem_cons_succ, List.getElem_cons_zero, List.setIfInBounds_toArray, List.set_cons_zero, List.set_cons_succ]
    refine wpAnyH_ready (rs := [4, 7]) (by kernel_rfl) (by simp) ?_
    refine AllReadyH.cons rfl (fun K0 hK => ?_) (AllReadyH.cons rfl (fun K0 hK => ?_) (AllReadyH.nil))
    · have l0 := H6.out Vb B_Vb.out
      try go_simp
      refine hK.out _ _ trivial (fun _ => ?_)
      clear l0
      clear hK K0
      try simp only [Act.put, List.getElem_toArray, List.getElem_cons_succ, List.getElem_cons_zero, List.setIfInBounds_toArray, List.set_cons_zero, List.set_cons_succ]
      refine wpAnyH_ready (rs := [7]) (by kernel_rfl) (by simp) ?_
      refine AllReadyH.cons rfl (fun K0 hK => ?_) (AllReadyH.nil)
      have hx : Below Vb.heap.size Vb (Vb.alloc (.cells #[.slice Ar nk cr] 33)) := (Below.refl _ _).alloc (Nat.le_refl _) _
      have RD := Lib.hid (one_row (w := Vb) (.slice Ar nk cr) 33)
      obtain ⟨Vba, h_Vba⟩ : ∃ W, Vb.alloc (.cells #[.slice Ar nk cr] 33) = W := ⟨_, rfl⟩
      obtain ⟨bz, h_bz⟩ : ∃ vb, Vb.heap.size = vb := ⟨_, rfl⟩
      rw [h_Vba] at hx RD
      have NM := Lib.hid (NM.out.below hx)
      have B_Vba : Hid (Below w3.heap.size w3 Vba) := B_Vb.out.trans (hx.mono B_Vb.out.size)
      rw [h_bz] at RD
      try go_simp
      try rw [h_Vba]
      try rw [h_bz]
      refine hK.out _ _ trivial (fun _ => ?_)
      clear h_Vba h_bz hx
      clear hK K0
      try simp only [Act.put, List.getElem_toArray, List.getElem_cons_succ, List.getElem_cons_zero, List.setIfInBounds_toArray, List.set_cons_zero, List.set_cons_succ]
      refine wpAnyH_ready (rs := [8]) (by kernel_rfl) (by simp) ?_
      refine AllReadyH.cons rfl (fun K0 hK => ?_) (AllReadyH.nil)
      obtain ⟨hg8, S8, ho8, hm8⟩ := HQ.out Vba B_Vba.out
      have HG8 := Lib.hid hg8
      have HO8 := Lib.hid ho8
      have HM8 := Lib.hid hm8
      clear hg8 ho8 hm8
      refine wp_append_any Vba (.tmp 33) (.tmp 36) 25 rfl 0 33 i0 (.slice none 0 0) 1 24 Try.underlying25 hi hz0 hz1 hz2 rfl (by decide) (.slice Am nm cm) nm (CS S8) rfl HO8.out.own (bz + 1) (some ⟨bz, 0, none⟩) 1 1 [.slice Ar nk cr] rfl RD.out (fun u hu => by simp at hu; subst hu; rfl) (by have := HK.out; unfold maxLen; omega) (by have := HK.out; omega) (Nat.zero_le _) ?_
      intro v2 w5 hown hgrow hblk
      obtain ⟨A2, c2, rfl⟩ := slice_form hown
      have G := HO8.out.grow hown hgrow (by
        rcases hblk with h | h
        · exact .inl h
        · exact .inr h)
      have hng : (Value.slice Am nm cm).ownBlock ≠ some g := fun e => ((HO8.out.not HG8.out ne_sq).at_ g e).1.2 rfl
      have hg5 : w5.heap[g]? = some (.cells #[.int .i64 s.gap, .int .i64 s.words, .int .i64 s.room, .int .i64 s.next, .bool s.sent, .int .i64 s.last, .slice Am nm cm] 87 (0, 0)) := (hgrow.block g (Array.getElem?_eq_some_iff.1 HG8.out).1 (fun e => hng e.symm)).trans HG8.out
      have hm5 : Ms w5 r (S8 ++ [(Ar, nk, cr)]) (LL ++ [K]) := by
        have hty : Ty Vba (fun b => (Value.slice Am nm cm).ownBlock = some b) := fun b hb hl => by
          rcases HO8.out.form with ⟨h0, _⟩ | ⟨b1, cap, cur, hv, _, _, hg1, _⟩
          · rw [h0] at hb; cases hb
          · rw [hv] at hb
            injection hb with hb
            have hb : b1 = b := hb
            subst hb
            exact ⟨_, _, _, hg1, fun e => ne_us e.symm⟩
        have hfo : Fo (fun b => (Value.slice Am nm cm).ownBlock = some b) Vba w5 := ⟨hgrow.os, hgrow.tape, hgrow.output, hgrow.size, fun k hk hn => hgrow.block k hk (fun e => hn e.symm)⟩
        have hn : Ow 47 Vba r (slv (Ar, nk, cr)) K.length (CU K) := by rw [HK.out.1]; exact NM.out.imp fun b _ hb => HR.out b hb
        exact (HM8.out.app (Ms.one hn)).fot hfo hty
      have hf5 : Fo p w3 w5 := (Fo.of_below B_Vba.out).trans G.2 fun i hi => .inl hi
      have g5 : w5.cell? ⟨g, 6, none⟩ = some (.slice Am nm cm) := by rw [(row_cell hg5 6).1]; rfl
      have gf : w5.frozen? ⟨g, 6, none⟩ = false := (row_cell hg5 6).2
      have Q : Hid (∃ q, SV lo (w5.setCell ⟨g, 6, none⟩ (.slice A2 (nm + 1) c2)) q r g s (LL ++ [K]) ∧ Nx p q w3 (w5.setCell ⟨g, 6, none⟩ (.slice A2 (nm + 1) c2))) := by
        have ho5 : Ow 33 w5 (fun b => p b ∨ (Vba.heap.size ≤ b ∧ b < w5.heap.size)) (.slice A2 (nm + 1) c2) (nm + 1) (CS (S8 ++ [(Ar, nk, cr)])) := by rw [CS_app]; exact G.1
        refine HH.out.lay hg5 ho5 hm5 hf5 (fun b hb => ?_) HH.out.ok HBD.out (set_at hg5 6 _) ((Fo.refl (fun b => b = g) w5).setCell (.inl rfl) 6 _)
        rcases (ho5.at_ b hb).1 with h | h
        · exact .inl h
        · exact .inr (by have := B_Vba.out.size; omega)
      clear hown hgrow hblk G hng hg5 hm5 hf5
      refine hK.out _ _ trivial (fun _ => ?_)
      clear hK K0
      try simp only [Act.put, List.getElem_toArray, List.getElem_cons_succ, List.getElem_cons_zero, List.setIfInBounds_toArray, List.set_cons_zero, List.set_cons_succ]
      refine takeD (i := 9) (d := some 38) (v := ?_) _ rfl rfl (by kernel_rfl) (by kernel_rfl) (by kernel_rfl) (fun _ _ _ h => h) (by rfl) ?_ trivial ?_
      rotate_left
      · (intro w hSw; (try dsimp only at hSw); go_simp) <;> with_reducible rfl
      try simp only [Act.put, List.setIfInBounds_toArray, List.set_cons_zero, List.set_cons_succ]
      refine takeD (i := 10) (d := some 39) (v := ?_) _ rfl rfl (by kernel_rfl) (by kernel_rfl) (by kernel_rfl) (fun _ _ _ h => h) (by rfl) ?_ trivial ?_
      rotate_left
      · (intro w hSw; (try dsimp only at hSw); go_simp) <;> with_reducible rfl
      try simp only [Act.put, List.setIfInBounds_toArray, List.set_cons_zero, List.set_cons_succ]
      refine wpAnyH_ready (rs := [11]) (by kernel_rfl) (by simp) ?_
      refine AllReadyH.cons rfl (fun K0 hK => ?_) (AllReadyH.nil)
      try go_simp
      refine hK.out _ _ trivial (fun _ => ?_)
      clear hK K0
      try simp only [Act.put, List.getElem_toArray, List.getElem_cons_succ, List.getElem_cons_zero, List.setIfInBounds_toArray, List.set_cons_zero, List.set_cons_succ]
      refine wpAnyH_done (by kernel_rfl) ?_ _
      go_wp2_with fail
      go_ret
      obtain ⟨q, q1, q2⟩ := Q.out
      first | exact ⟨q, rfl, q1, (Nx.of_below HB3.out).trans q2⟩ | exact ⟨_, rfl, q1, (Nx.of_below HB3.out).trans q2⟩
    · have hx : Below Vb.heap.size Vb (Vb.alloc (.cells #[.slice Ar nk cr] 33)) := (Below.refl _ _).alloc (Nat.le_refl _) _
      have RD := Lib.hid (one_row (w := Vb) (.slice Ar nk cr) 33)
      obtain ⟨Vba, h_Vba⟩ : ∃ W, Vb.alloc (.cells #[.slice Ar nk cr] 33) = W := ⟨_, rfl⟩
      obtain ⟨bz, h_bz⟩ : ∃ vb, Vb.heap.size = vb := ⟨_, rfl⟩
      rw [h_Vba] at hx RD
      have NM := Lib.hid (NM.out.below hx)
      have B_Vba : Hid (Below w3.heap.size w3 Vba) := B_Vb.out.trans (hx.mono B_Vb.out.size)
      rw [h_bz] at RD
      try go_simp
      try rw [h_Vba]
      try rw [h_bz]
      refine hK.out _ _ trivial (fun _ => ?_)
      clear h_Vba h_bz hx
      clear hK K0
      try simp only [Act.put, List.getElem_toArray, List.getElem_cons_succ, List.getElem_cons_zero, List.setIfInBounds_toArray, List.set_cons_zero, List.set_cons_succ]
      refine wpAnyH_ready (rs := [4]) (by kernel_rfl) (by simp) ?_
      refine AllReadyH.cons rfl (fun K0 hK => ?_) (AllReadyH.nil)
      have l0 := H6.out Vba B_Vba.out
      try go_simp
      refine hK.out _ _ trivial (fun _ => ?_)
      clear l0
      clear hK K0
      try simp only [Act.put, List.getElem_toArray, List.getElem_cons_succ, List.getElem_cons_zero, List.setIfInBounds_toArray, List.set_cons_zero, List.set_cons_succ]
      refine wpAnyH_ready (rs := [8]) (by kernel_rfl) (by simp) ?_
      refine AllReadyH.cons rfl (fun K0 hK => ?_) (AllReadyH.nil)
      obtain ⟨hg8, S8, ho8, hm8⟩ := HQ.out Vba B_Vba.out
      have HG8 := Lib.hid hg8
      have HO8 := Lib.hid ho8
      have HM8 := Lib.hid hm8
      clear hg8 ho8 hm8
      refine wp_append_any Vba (.tmp 33) (.tmp 36) 25 rfl 0 33 i0 (.slice none 0 0) 1 24 Try.underlying25 hi hz0 hz1 hz2 rfl (by decide) (.slice Am nm cm) nm (CS S8) rfl HO8.out.own (bz + 1) (some ⟨bz, 0, none⟩) 1 1 [.slice Ar nk cr] rfl RD.out (fun u hu => by simp at hu; subst hu; rfl) (by have := HK.out; unfold maxLen; omega) (by have := HK.out; omega) (Nat.zero_le _) ?_
      intro v2 w5 hown hgrow hblk
      obtain ⟨A2, c2, rfl⟩ := slice_form hown
      have G := HO8.out.grow hown hgrow (by
        rcases hblk with h | h
        · exact .inl h
        · exact .inr h)
      have hng : (Value.slice Am nm cm).ownBlock ≠ some g := fun e => ((HO8.out.not HG8.out ne_sq).at_ g e).1.2 rfl
      have hg5 : w5.heap[g]? = some (.cells #[.int .i64 s.gap, .int .i64 s.words, .int .i64 s.room, .int .i64 s.next, .bool s.sent, .int .i64 s.last, .slice Am nm cm] 87 (0, 0)) := (hgrow.block g (Array.getElem?_eq_some_iff.1 HG8.out).1 (fun e => hng e.symm)).trans HG8.out
      have hm5 : Ms w5 r (S8 ++ [(Ar, nk, cr)]) (LL ++ [K]) := by
        have hty : Ty Vba (fun b => (Value.slice Am nm cm).ownBlock = some b) := fun b hb hl => by
          rcases HO8.out.form with ⟨h0, _⟩ | ⟨b1, cap, cur, hv, _, _, hg1, _⟩
          · rw [h0] at hb; cases hb
          · rw [hv] at hb
            injection hb with hb
            have hb : b1 = b := hb
            subst hb
            exact ⟨_, _, _, hg1, fun e => ne_us e.symm⟩
        have hfo : Fo (fun b => (Value.slice Am nm cm).ownBlock = some b) Vba w5 := ⟨hgrow.os, hgrow.tape, hgrow.output, hgrow.size, fun k hk hn => hgrow.block k hk (fun e => hn e.symm)⟩
        have hn : Ow 47 Vba r (slv (Ar, nk, cr)) K.length (CU K) := by rw [HK.out.1]; exact NM.out.imp fun b _ hb => HR.out b hb
        exact (HM8.out.app (Ms.one hn)).fot hfo hty
      have hf5 : Fo p w3 w5 := (Fo.of_below B_Vba.out).trans G.2 fun i hi => .inl hi
      have g5 : w5.cell? ⟨g, 6, none⟩ = some (.slice Am nm cm) := by rw [(row_cell hg5 6).1]; rfl
      have gf : w5.frozen? ⟨g, 6, none⟩ = false := (row_cell hg5 6).2
      have Q : Hid (∃ q, SV lo (w5.setCell ⟨g, 6, none⟩ (.slice A2 (nm + 1) c2)) q r g s (LL ++ [K]) ∧ Nx p q w3 (w5.setCell ⟨g, 6, none⟩ (.slice A2 (nm + 1) c2))) := by
        have ho5 : Ow 33 w5 (fun b => p b ∨ (Vba.heap.size ≤ b ∧ b < w5.heap.size)) (.slice A2 (nm + 1) c2) (nm + 1) (CS (S8 ++ [(Ar, nk, cr)])) := by rw [CS_app]; exact G.1
        refine HH.out.lay hg5 ho5 hm5 hf5 (fun b hb => ?_) HH.out.ok HBD.out (set_at hg5 6 _) ((Fo.refl (fun b => b = g) w5).setCell (.inl rfl) 6 _)
        rcases (ho5.at_ b hb).1 with h | h
        · exact .inl h
        · exact .inr (by have := B_Vba.out.size; omega)
      clear hown hgrow hblk G hng hg5 hm5 hf5
      refine hK.out _ _ trivial (fun _ => ?_)
      clear hK K0
      try simp only [Act.put, List.getElem_toArray, List.getElem_cons_succ, List.getElem_cons_zero, List.setIfInBounds_toArray, List.set_cons_zero, List.set_cons_succ]
      refine takeD (i := 9) (d := some 38) (v := ?_) _ rfl rfl (by kernel_rfl) (by kernel_rfl) (by kernel_rfl) (fun _ _ _ h => h) (by rfl) ?_ trivial ?_
      rotate_left
      · (intro w hSw; (try dsimp only at hSw); go_simp) <;> with_reducible rfl
      try simp only [Act.put, List.setIfInBounds_toArray, List.set_cons_zero, List.set_cons_succ]
      refine takeD (i := 10) (d := some 39) (v := ?_) _ rfl rfl (by kernel_rfl) (by kernel_rfl) (by kernel_rfl) (fun _ _ _ h => h) (by rfl) ?_ trivial ?_
      rotate_left
      · (intro w hSw; (try dsimp only at hSw); go_simp) <;> with_reducible rfl
      try simp only [Act.put, List.setIfInBounds_toArray, List.set_cons_zero, List.set_cons_succ]
      refine wpAnyH_ready (rs := [11]) (by kernel_rfl) (by simp) ?_
      refine AllReadyH.cons rfl (fun K0 hK => ?_) (AllReadyH.nil)
      try go_simp
      refine hK.out _ _ trivial (fun _ => ?_)
      clear hK K0
      try simp only [Act.put, List.getElem_toArray, List.getElem_cons_succ, List.getElem_cons_zero, List.setIfInBounds_toArray, List.set_cons_zero, List.set_cons_succ]
      refine wpAnyH_done (by kernel_rfl) ?_ _
      go_wp2_with fail
      go_ret
      obtain ⟨q, q1, q2⟩ := Q.out
      first | exact ⟨q, rfl, q1, (Nx.of_below HB3.out).trans q2⟩ | exact ⟨_, rfl, q1, (Nx.of_below HB3.out).trans q2⟩
end Go.Proofs.Ytkbjonblflhkoaa.Ln
