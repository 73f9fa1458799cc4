/-
  One tick of a plan. Each statement bears its own conditions.
-/
import Derived.Test.YtcnhghnkocdjkaaFrP
namespace Go.Proofs.Ytcnhghnkocdjkaa
open Go.RowKit
set_option linter.unusedVariables false
set_option linter.unusedSimpArgs false
theorem set_at {w : World} {g : Nat} {C : Array Value} {t : TypeId} {fr : Nat × Nat} (h : w.heap[g]? = some (.cells C t fr)) (o : Nat) (v : Value) : (w.setCell ⟨g, o, none⟩ v).heap[g]? = some (.cells (C.setIfInBounds o v) t fr) := by
  have hl : g < w.heap.size := by
    by_cases hlt : g < w.heap.size
    · exact hlt
    · rw [Array.getElem?_eq_none (by omega)] at h; cases h
  simp [World.setCell, h, Array.getElem?_modify]
theorem set_far {w : World} {g k : Nat} (o : Nat) (v : Value) (h : k ≠ g) : (w.setCell ⟨g, o, none⟩ v).heap[k]? = w.heap[k]? := Below.heap_setCell _ _ _ _ h
structure Cut4 (xw xf xl : Int) (W3 : World) (s4 : Value) (wx : World) : Prop where
  ex : ∃ bw, s4 = .pointer (some ⟨bw, 0, none⟩) ∧ W3.heap.size ≤ bw ∧ wx.cell? ⟨bw, 0, none⟩ = some (.int .i64 xw) ∧ wx.cell? ⟨bw, 1, none⟩ = some (.int .i64 xf) ∧ wx.cell? ⟨bw, 2, none⟩ = some (.int .i64 xl) ∧ Below W3.heap.size W3 wx
structure Cut5 (u : List Value) (W4 : World) (s5 : Value) (wx : World) : Prop where
  ex : ∃ bt, s5 = .pointer (some ⟨bt, 0, none⟩) ∧ W4.heap.size ≤ bt ∧ bt < wx.heap.size ∧ wx.heap[bt]? = some (.cells u.toArray 63 (0, 0)) ∧ Below W4.heap.size W4 wx
theorem Past.setNew {g : Nat} {a w : World} (h : Past g a w) {R : Nat} (hR : a.heap.size ≤ R) (o : Nat) (u : Value) : Past g a (w.setCell ⟨R, o, none⟩ u) :=
  ⟨h.os, h.tape, h.output, by have := h.size; simpa [World.setCell] using this, fun k hk hg => (Below.heap_setCell _ _ _ _ (by show k ≠ R; omega)).trans (h.block k hk hg)⟩
theorem range_heap {w : World} {g : Nat} {L : List Value} {t : TypeId} (h : w.heap[g]? = some (.cells L.toArray t (0, 0))) : w.rangeAt g 0 L := by
  intro j v hv
  rw [Nat.zero_add, (row_cell h j).1]
  simpa using hv
/-- What a turn tells. -/
structure MU where
  tick : Int
  mode : Int
  who : Int
  left : Int
  begins : Bool
  ends : Bool
  frame : Bool
def MU.cells (u : MU) : List Value := [.int .i64 u.tick, .int .i64 u.mode, .int .i64 u.who, .int .i64 u.left, .bool u.begins, .bool u.ends, .bool u.frame]
/-- The turn of a plan's next tick, its table being t. -/
def turnOf (p : MP) (t : MT) : MU :=
  let x := arndL t.fr p.tick t.ws
  let left := x.frm + x.len - p.tick
  ⟨p.now, p.mode, x.who, left, (x.who != -1) && (p.tick == x.frm), (x.who != -1) && (left == 1), p.tick == 0⟩
/-- A plan behind its next tick, its table being t. -/
def stepOf (p : MP) (t : MT) : MP := if p.tick + 1 = t.fr then ⟨p.ts, p.next, p.next, p.now + 1, 0⟩ else ⟨p.ts, p.mode, p.next, p.now + 1, p.tick + 1⟩
/-- What all plans keep. -/
structure PI (p : MP) (t : MT) : Prop where
  len : p.ts.length ≤ 8
  good : ∀ t ∈ p.ts, chk t.fr t.ws = 0
  here : p.ts[p.mode.toNat]? = some t
  mode0 : 0 ≤ p.mode
  next : 0 ≤ p.next ∧ p.next < p.ts.length
  tick : 0 ≤ p.tick ∧ p.tick < t.fr
  now : 0 ≤ p.now ∧ p.now < 1099511627776
set_option maxRecDepth 100000 in
set_option maxHeartbeats 8000000 in
theorem tick_any (lo hi g : Nat) (p : MP) (t : MT) (w : World) (h : PF lo hi g w p) (hp : PI p t) :
    Calls Try.prog 27 #[.pointer (some ⟨g, 0, none⟩)] w fun e w' => e = .returned (.agg (turnOf p t).cells.toArray) ∧ PF lo hi g w' (stepOf p t) ∧ Past g w w' := by
  obtain ⟨ts, mode, next, now, tick⟩ := p
  obtain ⟨fr, ws⟩ := t
  obtain ⟨i1, i2, i3, i4, ⟨i5, i6⟩, ⟨i7, i8⟩, ⟨i9, i10⟩⟩ := hp
  dsimp only at i1 i2 i3 i4 i5 i6 i7 i8 i9 i10
  obtain ⟨m, rfl⟩ : ∃ m : Nat, mode = (m : Int) := ⟨mode.toNat, by omega⟩
  rw [Int.toNat_natCast] at i3
  have hmn : m < ts.length := (List.getElem?_eq_some_iff.1 i3).1
  have hck := i2 _ (List.mem_of_getElem? i3)
  obtain ⟨f1, f2, f3, f4⟩ := chk_zero hck
  dsimp only at f1 f2 f3 f4
  have hin : 0 ≤ (arndL fr tick ws).frm ∧ (arndL fr tick ws).frm ≤ fr ∧ tick < (arndL fr tick ws).frm + (arndL fr tick ws).len ∧ (arndL fr tick ws).frm + (arndL fr tick ws).len ≤ fr := by
    rcases arnd_cases (tick := tick) (k := 0) f4 with ⟨_, e, k⟩ | ⟨i, _, e, k1, k2⟩
    · have := k i8
      rw [e]; dsimp only; omega
    · have := f4.mem _ (List.mem_of_getElem? e)
      omega
  obtain ⟨a, c, hc1, hrow, htab, hm⟩ := h.open_
  have hlt := h.lt
  dsimp only at hc1 hrow htab hm
  obtain ⟨hnx, b, off, x, cs, rfl, hbl, hx, hR, _, hcx⟩ := hrow.at_ m hmn
  rw [i3] at hx
  injection hx with hx
  subst hx
  obtain ⟨v, rfl, hvi, hvr⟩ := hR
  obtain ⟨va, vc, rfl, hvm⟩ := hvr.form
  dsimp only at hvr hvi hvm
  have HHAS := Lib.hid fun W (hb : Below w.heap.size w W) => has_any lo hi g _ (m : Int) W (h.below hb)
  dsimp only at HHAS
  have HARR := Lib.hid fun W (hb : Below w.heap.size w W) => around_any fr tick (.slice va ws.length vc) ws W (hvr.below hb) ⟨f1, f2⟩ f4 ⟨i7, i8⟩
  obtain ⟨xw, xf, xl, hX⟩ : ∃ xw xf xl, arndL fr tick ws = ⟨xw, xf, xl⟩ := ⟨_, _, _, rfl⟩
  rw [hX] at hin HARR
  dsimp only at hin HARR
  have hturn : turnOf ⟨ts, (m : Int), next, now, tick⟩ ⟨fr, ws⟩ = ⟨now, (m : Int), xw, xf + xl - tick, (xw != -1) && (tick == xf), (xw != -1) && (xf + xl - tick == 1), tick == 0⟩ := by
    unfold turnOf; rw [show arndL (MT.fr ⟨fr, ws⟩) (MP.tick ⟨ts, (m : Int), next, now, tick⟩) (MT.ws ⟨fr, ws⟩) = ⟨xw, xf, xl⟩ from hX]
  rw [hturn]
  obtain ⟨n, hn⟩ : ∃ n, ts.length = n := ⟨_, rfl⟩
  obtain ⟨vn, hvn⟩ : ∃ vn, ws.length = vn := ⟨_, rfl⟩
  rw [hn] at hc1 hmn HHAS i6 htab
  rw [hvn] at hcx HARR
  have d0 : w.cell? ⟨b, off + m * 2, none⟩ = some (.int .i64 fr) := hcx 0 _ rfl
  have d1 : w.cell? ⟨b, off + m * 2 + 1, none⟩ = some (.slice va vn vc) := hcx 1 _ rfl
  have D0 := Lib.hid d0
  have D1 := Lib.hid d1
  have HG := Lib.hid hc1
  have HN := Lib.hid hn
  have HT := Lib.hid htab
  have HLT := Lib.hid hlt
  have HIN : Hid (1 ≤ fr ∧ fr ≤ 1048576 ∧ 0 ≤ tick ∧ tick < fr ∧ 0 ≤ xf ∧ xf ≤ fr ∧ tick < xf + xl ∧ xf + xl ≤ fr ∧ 0 ≤ now ∧ now < 1099511627776) := ⟨f1, f2, i7, i8, hin.1, hin.2.1, hin.2.2.1, hin.2.2.2, i9, i10⟩
  have hw1 : IntKind.i64.wrap (xf + xl) = xf + xl := wrap_ok (by omega) (by omega)
  have hw2 : IntKind.i64.wrap (xf + xl - tick) = xf + xl - tick := wrap_ok (by omega) (by omega)
  have hw3 : IntKind.i64.wrap (now + 1) = now + 1 := wrap_ok (by omega) (by omega)
  have hw4 : IntKind.i64.wrap (tick + 1) = tick + 1 := wrap_ok (by omega) (by omega)
  have HE := Lib.hid fun W => end_any xw xf xl W hw1
  have hmI : (m : Int) < (n : Int) := by omega
  have HHS : Hid (∀ W, Below w.heap.size w W → Calls Try.prog 40 #[.pointer (some ⟨g, 0, none⟩), .int .i64 (m : Int)] W fun e w' => e = .returned (.bool true) ∧ Below W.heap.size W w') := fun W hb => by
    have h := HHAS.out W hb
    rw [show (decide ((0 : Int) ≤ (m : Int)) && decide ((m : Int) < (n : Int))) = true by simp; omega] at h
    exact h
  have g0 := (row_cell hc1 0).1
  have g1 := (row_cell hc1 1).1
  have g2 := (row_cell hc1 2).1
  have g3 := (row_cell hc1 3).1
  have g4 := (row_cell hc1 4).1
  simp at g0 g1 g2 g3 g4
  have G0 := Lib.hid g0
  have G1 := Lib.hid g1
  have G2 := Lib.hid g2
  have G3 := Lib.hid g3
  have G4 := Lib.hid g4
  clear h hrow htab hm hnx hvr hvi hvm hcx hn hvn i1 i2 i3 i4 i5 i6 i7 i8 i9 i10 f1 f2 f3 f4 hin hturn hX hck HHAS hlt hmn hbl d0 d1 g0 g2 g3 g4 hc1
  obtain ⟨W0, hW0⟩ : ∃ W0, w.alloc (.cells #[.int .i64 0, .int .i64 0, .int .i64 0, .int .i64 0, .bool false, .bool false, .bool false] 63) = W0 := ⟨_, rfl⟩
  have B0 : Hid (Below w.heap.size w W0) := by rw [← hW0]; exact (Below.refl _ _).alloc (Nat.le_refl _) _
  have HS0 : Hid (W0.heap.size = w.heap.size + 1) := by rw [← hW0]; unfold Hid; simp
  have HR0 : Hid (W0.heap[w.heap.size]? = some (.cells #[.int .i64 0, .int .i64 0, .int .i64 0, .int .i64 0, .bool false, .bool false, .bool false] 63 (0, 0))) := by rw [← hW0]; exact heap_alloc_new _ _
  have g1 := cell_later B0.out G1.out
  go_enter Try.func27, Try.ntmps27
  go_wp2_with fail
  clear hW0
  refine (HHS.out _ B0.out).mono ?_
  rintro e W1 ⟨rfl, b1⟩
  have B1 : Hid (Below w.heap.size w W1) := B0.out.trans (b1.mono B0.out.size)
  have HR1 : Hid (W1.heap[w.heap.size]? = some (.cells #[.int .i64 0, .int .i64 0, .int .i64 0, .int .i64 0, .bool false, .bool false, .bool false] 63 (0, 0))) := (b1.block _ (by rw [HS0.out]; omega)).trans HR0.out
  have HS1 : Hid (w.heap.size < W1.heap.size) := by have := b1.size; have := HS0.out; unfold Hid; omega
  clear b1 g1 HHS
  have g0 := cell_later B1.out G0.out
  have g1 := cell_later B1.out G1.out
  have d0 := cell_later B1.out D0.out
  have d1 := cell_later B1.out D1.out
  go_wp2_with fail
  refine wp_region_held_drew (S := (fun w' => Below W1.heap.size W1 w' ∧ w'.cell? ⟨g, 0, none⟩ = some (.slice (some ⟨b, off, none⟩) n c) ∧ w'.cell? ⟨g, 1, none⟩ = some (.int .i64 (m : Int)) ∧ w'.cell? ⟨b, off + m * 2, none⟩ = some (.int .i64 fr) ∧ w'.cell? ⟨b, off + m * 2 + 1, none⟩ = some (.slice va vn vc))) (by kernel_rfl) ?_ (fun hHeld => ?_)
  · exact ⟨below_drewN (Below.refl _ _) 1, g0, g1, d0, d1⟩
  refine takeD (i := 0) (d := some 18) (v := ?_) _ rfl rfl (by kernel_rfl) (by kernel_rfl) (by kernel_rfl) (fun _ _ _ h => h) (by rfl) ?_ (by assumption) ?_
  rotate_left
  · (intro w hSw; (try dsimp only at hSw); go_simp) <;> with_reducible rfl
  try simp only [Act.put, List.setIfInBounds_toArray, List.set_cons_zero, List.set_cons_succ]
  refine takeD (i := 1) (d := some 19) (v := ?_) _ rfl rfl (by kernel_rfl) (by kernel_rfl) (by kernel_rfl) (fun _ _ _ h => h) (by rfl) ?_ (by assumption) ?_
  rotate_left
  · (intro w hSw; (try dsimp only at hSw); go_simp) <;> with_reducible rfl
  try simp only [Act.put, List.setIfInBounds_toArray, List.set_cons_zero, List.set_cons_succ]
  refine takeD (i := 2) (d := some 20) (v := ?_) _ rfl rfl (by kernel_rfl) (by kernel_rfl) (by kernel_rfl) (fun _ _ _ h => h) (by rfl) ?_ (by assumption) ?_
  rotate_left
  · (intro w hSw; (try dsimp only at hSw); go_simp) <;> with_reducible rfl
  try simp only [Act.put, List.setIfInBounds_toArray, List.set_cons_zero, List.set_cons_succ]
  refine takeD (i := 3) (d := some 21) (v := ?_) _ rfl rfl (by kernel_rfl) (by kernel_rfl) (by kernel_rfl) (fun _ _ _ h => h) (by rfl) ?_ (by assumption) ?_
  rotate_left
  · (intro w hSw; (try dsimp only at hSw); go_simp) <;> with_reducible rfl
  try simp only [Act.put, List.setIfInBounds_toArray, List.set_cons_zero, List.set_cons_succ]
  refine takeD (i := 4) (d := some 22) (v := ?_) _ rfl rfl (by kernel_rfl) (by kernel_rfl) (by kernel_rfl) (fun _ _ _ h => h) (by rfl) ?_ (by assumption) ?_
  rotate_left
  · (intro w hSw; (try dsimp only at hSw); go_simp) <;> with_reducible rfl
  try simp only [Act.put, List.setIfInBounds_toArray, List.set_cons_zero, List.set_cons_succ]
  refine takeD (i := 5) (d := some 23) (v := ?_) _ rfl rfl (by kernel_rfl) (by kernel_rfl) (by kernel_rfl) (fun _ _ _ h => h) (by rfl) ?_ (by assumption) ?_
  rotate_left
  · (intro w hSw; (try dsimp only at hSw); go_simp) <;> with_reducible rfl
  try simp only [Act.put, List.setIfInBounds_toArray, List.set_cons_zero, List.set_cons_succ]
  refine takeD (i := 6) (d := some 24) (v := ?_) _ rfl rfl (by kernel_rfl) (by kernel_rfl) (by kernel_rfl) (fun _ _ _ h => h) (by rfl) ?_ (by assumption) ?_
  rotate_left
  · (intro w hSw; (try dsimp only at hSw); go_simp) <;> with_reducible rfl
  try simp only [Act.put, List.setIfInBounds_toArray, List.set_cons_zero, List.set_cons_succ]
  refine takeD (i := 7) (d := some 25) (v := ?_) _ rfl rfl (by kernel_rfl) (by kernel_rfl) (by kernel_rfl) (fun _ _ _ h => h) (by rfl) ?_ (by assumption) ?_
  rotate_left
  · (intro w hSw; (try dsimp only at hSw); go_simp) <;> with_reducible rfl
  try simp only [Act.put, List.setIfInBounds_toArray, List.set_cons_zero, List.set_cons_succ]
  refine takeD (i := 8) (d := some 26) (v := ?_) _ rfl rfl (by kernel_rfl) (by kernel_rfl) (by kernel_rfl) (fun _ _ _ h => h) (by rfl) ?_ (by assumption) ?_
  rotate_left
  · (intro w hSw; (try dsimp only at hSw); go_simp) <;> with_reducible rfl
  try simp only [Act.put, List.setIfInBounds_toArray, List.set_cons_zero, List.set_cons_succ]
  refine takeD (i := 9) (d := some 27) (v := ?_) _ rfl rfl (by kernel_rfl) (by kernel_rfl) (by kernel_rfl) (fun _ _ _ h => h) (by rfl) ?_ (by assumption) ?_
  rotate_left
  · (intro w hSw; (try dsimp only at hSw); go_simp) <;> with_reducible rfl
  try simp only [Act.put, List.setIfInBounds_toArray, List.set_cons_zero, List.set_cons_succ]
  have HH3 := hHeld
  clear hHeld
  refine wpAnyH_ready (rs := [10]) (by kernel_rfl) (by simp) ?_
  refine AllReadyH.cons rfl (fun K hK => ?_) AllReadyH.nil
  go_simp
  refine hK.out _ _ ?_ (fun hHeld => ?_)
  · exact ⟨below_drewN ((Below.refl _ _).alloc (Nat.le_refl _) _) 1, cell_al _ g0, cell_al _ g1, cell_al _ d0, cell_al _ d1⟩
  clear hK K
  try simp only [Act.put, List.setIfInBounds_toArray, List.set_cons_zero, List.set_cons_succ]
  refine wpAnyH_ready (rs := [11]) (by kernel_rfl) (by simp) ?_
  refine AllReadyH.cons rfl (fun K hK => ?_) AllReadyH.nil
  go_simp
  refine hK.out _ _ ?_ (fun hHeld => ?_)
  · exact ⟨below_drewN ((Below.refl _ _).alloc (Nat.le_refl _) _) 1, cell_al _ g0, cell_al _ g1, cell_al _ d0, cell_al _ d1⟩
  clear hK K
  try simp only [Act.put, List.setIfInBounds_toArray, List.set_cons_zero, List.set_cons_succ]
  refine wpAnyH_done (by kernel_rfl) ?_ _
  clear hHeld HH3
  obtain ⟨W3, hW3⟩ : ∃ W3, (W1.alloc (.cells #[.int .i64 fr, .slice va vn vc] 24)).drew = W3 := ⟨_, rfl⟩
  have B13 : Hid (Below W1.heap.size W1 W3) := by rw [← hW3]; exact below_drewN ((Below.refl _ _).alloc (Nat.le_refl _) _) 1
  have B3 : Hid (Below w.heap.size w W3) := B1.out.trans (B13.out.mono B1.out.size)
  have t0 : W3.cell? ⟨W1.heap.size, 0, none⟩ = some (.int .i64 fr) := by rw [← hW3]; simp
  have t1 : W3.cell? ⟨W1.heap.size, 1, none⟩ = some (.slice va vn vc) := by rw [← hW3]; simp
  have T0 := Lib.hid t0
  have T1 := Lib.hid t1
  simp only [hW3]
  clear hW3 g0 g1 d0 d1
  obtain ⟨T, hT⟩ : ∃ T, W1.heap.size = T := ⟨_, rfl⟩
  have HTL : Hid (w.heap.size < T ∧ T < W3.heap.size) := ⟨by rw [← hT]; exact HS1.out, by have := World.block_lt_of_cell? _ _ t0; rw [← hT]; exact this⟩
  have HRB : Hid (W3.heap[w.heap.size]? = some (.cells #[.int .i64 0, .int .i64 0, .int .i64 0, .int .i64 0, .bool false, .bool false, .bool false] 63 (0, 0))) := (B13.out.block _ HS1.out).trans HR1.out
  rw [hT] at t0 t1 T0 T1
  simp only [hT]
  clear hT B13 HR1
  have g4 := cell_later B3.out G4.out
  go_upto_region 4 with fail
  go_cut [4] (fun s4 wx => Cut4 xw xf xl W3 s4 wx)
  case first =>
    refine wp_region_held_drew (S := (fun w' => Below W3.heap.size W3 w' ∧ w'.cell? ⟨T, 0, none⟩ = some (.int .i64 fr) ∧ w'.cell? ⟨T, 1, none⟩ = some (.slice va vn vc) ∧ w'.cell? ⟨g, 4, none⟩ = some (.int .i64 tick))) (by kernel_rfl) ?_ (fun hHeld => ?_)
    · exact ⟨below_drewN (Below.refl _ _) 1, t0, t1, g4⟩
    refine takeD (i := 0) (d := some 28) (v := ?_) _ rfl rfl (by kernel_rfl) (by kernel_rfl) (by kernel_rfl) (fun _ _ _ h => h) (by rfl) ?_ (by assumption) ?_
    rotate_left
    · (intro w hSw; (try dsimp only at hSw); go_simp) <;> with_reducible rfl
    try simp only [Act.put, List.setIfInBounds_toArray, List.set_cons_zero, List.set_cons_succ]
    refine takeD (i := 1) (d := some 29) (v := ?_) _ rfl rfl (by kernel_rfl) (by kernel_rfl) (by kernel_rfl) (fun _ _ _ h => h) (by rfl) ?_ (by assumption) ?_
    rotate_left
    · (intro w hSw; (try dsimp only at hSw); go_simp) <;> with_reducible rfl
    try simp only [Act.put, List.setIfInBounds_toArray, List.set_cons_zero, List.set_cons_succ]
    refine takeD (i := 2) (d := some 30) (v := ?_) _ rfl rfl (by kernel_rfl) (by kernel_rfl) (by kernel_rfl) (fun _ _ _ h => h) (by rfl) ?_ (by assumption) ?_
    rotate_left
    · (intro w hSw; (try dsimp only at hSw); go_simp) <;> with_reducible rfl
    try simp only [Act.put, List.setIfInBounds_toArray, List.set_cons_zero, List.set_cons_succ]
    refine takeD (i := 3) (d := some 31) (v := ?_) _ rfl rfl (by kernel_rfl) (by kernel_rfl) (by kernel_rfl) (fun _ _ _ h => h) (by rfl) ?_ (by assumption) ?_
    rotate_left
    · (intro w hSw; (try dsimp only at hSw); go_simp) <;> with_reducible rfl
    try simp only [Act.put, List.setIfInBounds_toArray, List.set_cons_zero, List.set_cons_succ]
    refine takeD (i := 4) (d := some 32) (v := ?_) _ rfl rfl (by kernel_rfl) (by kernel_rfl) (by kernel_rfl) (fun _ _ _ h => h) (by rfl) ?_ (by assumption) ?_
    rotate_left
    · (intro w hSw; (try dsimp only at hSw); go_simp) <;> with_reducible rfl
    try simp only [Act.put, List.setIfInBounds_toArray, List.set_cons_zero, List.set_cons_succ]
    refine wpAnyH_ready (rs := [5, 6]) (by kernel_rfl) (by simp) ?_
    refine AllReadyH.cons rfl (fun K hK => ?_) (AllReadyH.cons rfl (fun K hK => ?_) AllReadyH.nil)
    · (go_simp; go_at_call 32; refine (HARR.out _ (B3.out.trans (hHeld.1.mono B3.out.size))).mono ?_; rintro e W4 ⟨rfl, b4⟩; try go_wp2_with fail)
      refine hK.out _ _ ?_ (fun hHeld2 => ?_)
      · exact ⟨hHeld.1.trans (b4.mono hHeld.1.size), cell_later b4 hHeld.2.1, cell_later b4 hHeld.2.2.1, cell_later b4 hHeld.2.2.2⟩
      clear hK K hHeld b4
      try simp only [Act.put, List.setIfInBounds_toArray, List.set_cons_zero, List.set_cons_succ]
      refine wpAnyH_ready (rs := [6]) (by kernel_rfl) (by simp) ?_
      refine AllReadyH.cons rfl (fun K hK => ?_) AllReadyH.nil
      go_simp
      refine hK.out _ _ ?_ (fun hHeld4 => ?_)
      · exact ⟨hHeld2.1.alloc hHeld2.1.size _, cell_al _ hHeld2.2.1, cell_al _ hHeld2.2.2.1, cell_al _ hHeld2.2.2.2⟩
      clear hK K
      try simp only [Act.put, List.setIfInBounds_toArray, List.set_cons_zero, List.set_cons_succ]
      refine wpAnyH_ready (rs := [7]) (by kernel_rfl) (by simp) ?_
      refine AllReadyH.cons rfl (fun K hK => ?_) AllReadyH.nil
      go_simp
      refine hK.out _ _ ?_ (fun hHeld3 => ?_)
      · exact ⟨hHeld2.1.alloc hHeld2.1.size _, cell_al _ hHeld2.2.1, cell_al _ hHeld2.2.2.1, cell_al _ hHeld2.2.2.2⟩
      clear hK K
      try simp only [Act.put, List.setIfInBounds_toArray, List.set_cons_zero, List.set_cons_succ]
      refine wpAnyH_done (by kernel_rfl) ?_ _
      have HF := Lib.hid hHeld2.1
      clear hHeld2 hHeld3
      go_wp2_with fail
      go_meet
      exact ⟨W4.heap.size, rfl, HF.out.size, by simp, by simp, by simp, HF.out.alloc HF.out.size _⟩
    · go_simp
      refine hK.out _ _ ?_ (fun hHeld2 => ?_)
      · exact ⟨hHeld.1.alloc hHeld.1.size _, cell_al _ hHeld.2.1, cell_al _ hHeld.2.2.1, cell_al _ hHeld.2.2.2⟩
      clear hK K hHeld
      try simp only [Act.put, List.setIfInBounds_toArray, List.set_cons_zero, List.set_cons_succ]
      clear hHeld2
      obtain ⟨W5, hW5⟩ : ∃ W5, (W3.alloc (.cells #[.int .i64 0, .int .i64 0, .int .i64 0] 40)).drew = W5 := ⟨_, rfl⟩
      have HB5 : Hid (Below W3.heap.size W3 W5) := by rw [← hW5]; exact below_drewN ((Below.refl _ _).alloc (Nat.le_refl _) _) 1
      have HS5 : Hid (W3.heap.size < W5.heap.size) := by rw [← hW5]; show W3.heap.size < (W3.alloc _).heap.size; simp
      have HH5 : Hid (W5.heap[W3.heap.size]? = some (.cells #[.int .i64 0, .int .i64 0, .int .i64 0] 40 (0, 0))) := by rw [← hW5]; exact heap_alloc_new _ _
      simp only [hW5]
      clear hW5
      refine wpAnyH_ready (rs := [5]) (by kernel_rfl) (by simp) ?_
      refine AllReadyH.cons rfl (fun K hK => ?_) AllReadyH.nil
      (go_simp; go_at_call 32; refine (HARR.out _ (B3.out.trans (HB5.out.mono B3.out.size))).mono ?_; rintro e W6 ⟨rfl, b6⟩; try go_wp2_with fail)
      have HB6 : Hid (Below W3.heap.size W3 W6) := HB5.out.trans (b6.mono HB5.out.size)
      have HH6 : Hid (W6.heap[W3.heap.size]? = some (.cells #[.int .i64 0, .int .i64 0, .int .i64 0] 40 (0, 0))) := (b6.block _ HS5.out).trans HH5.out
      clear b6
      refine hK.out _ _ ⟨HB6.out, cell_later HB6.out t0, cell_later HB6.out t1, cell_later HB6.out g4⟩ (fun hHeld2 => ?_)
      clear hK K hHeld2
      try simp only [Act.put, List.setIfInBounds_toArray, List.set_cons_zero, List.set_cons_succ]
      have z0 := (row_cell HH6.out 0).1
      have z1 := (row_cell HH6.out 1).1
      have z2 := (row_cell HH6.out 2).1
      have y0 := (row_cell HH6.out 0).2
      have y1 := (row_cell HH6.out 1).2
      have y2 := (row_cell HH6.out 2).2
      simp at z0 z1 z2
      refine wpAnyH_ready (rs := [7]) (by kernel_rfl) (by simp) ?_
      refine AllReadyH.cons rfl (fun K hK => ?_) AllReadyH.nil
      go_simp
      clear z0 z1 z2 y0 y1 y2
      have HB7 : Hid (Below W3.heap.size W3 (((W6.setCell ⟨W3.heap.size, 0, none⟩ (.int .i64 xw)).setCell ⟨W3.heap.size, 1, none⟩ (.int .i64 xf)).setCell ⟨W3.heap.size, 2, none⟩ (.int .i64 xl))) := below_three HB6.out (Nat.le_refl _) _ _ _
      refine hK.out _ _ ⟨HB7.out, cell_later HB7.out t0, cell_later HB7.out t1, cell_later HB7.out g4⟩ (fun hHeld2 => ?_)
      clear hK K hHeld2
      try simp only [Act.put, List.setIfInBounds_toArray, List.set_cons_zero, List.set_cons_succ]
      refine wpAnyH_done (by kernel_rfl) ?_ _
      have hr := set_three HH6.out (.int .i64 xw) (.int .i64 xf) (.int .i64 xl)
      have r0 := hr 0 _ rfl
      have r1 := hr 1 _ rfl
      have r2 := hr 2 _ rfl
      simp only [Nat.zero_add] at r0 r1 r2
      clear hr
      have HRR := Lib.hid (And.intro r0 (And.intro r1 r2))
      clear r0 r1 r2
      go_wp2_with fail
      go_meet
      exact ⟨W3.heap.size, rfl, Nat.le_refl _, HRR.out.1, HRR.out.2.1, HRR.out.2.2, HB7.out⟩
  case rest =>
    obtain ⟨bw, rfl, hbw, c0, c1, c2, hb⟩ := hcut.ex
    clear hcut
    obtain ⟨wd, hwd⟩ : ∃ wd, wd = wc := ⟨_, rfl⟩
    subst hwd
    have BC : Hid (Below w.heap.size w wd) := B3.out.trans (hb.mono B3.out.size)
    have BC3 := Lib.hid hb
    have HBW := Lib.hid hbw
    have C0 := Lib.hid c0
    have C1 := Lib.hid c1
    have C2 := Lib.hid c2
    clear hbw hb t0 t1 g4
    have g1 := cell_later BC.out G1.out
    have g3 := cell_later BC.out G3.out
    have g4 := cell_later BC.out G4.out
    go_upto_region 5 with fail
    go_cut [5] (fun s5 wx => Cut5 [.int .i64 now, .int .i64 (m : Int), .int .i64 xw, .int .i64 (xf + xl - tick), .bool false, .bool false, .bool (tick == 0)] wd s5 wx)
    case first =>
      refine wp_region_held_drew (S := (fun w' => Below wd.heap.size wd w' ∧ w'.cell? ⟨g, 1, none⟩ = some (.int .i64 (m : Int)) ∧ w'.cell? ⟨g, 3, none⟩ = some (.int .i64 now) ∧ w'.cell? ⟨g, 4, none⟩ = some (.int .i64 tick) ∧ w'.cell? ⟨bw, 0, none⟩ = some (.int .i64 xw) ∧ w'.cell? ⟨bw, 1, none⟩ = some (.int .i64 xf) ∧ w'.cell? ⟨bw, 2, none⟩ = some (.int .i64 xl))) (by kernel_rfl) ?_ (fun hHeld => ?_)
      · exact ⟨below_drewN (Below.refl _ _) 1, g1, g3, g4, c0, c1, c2⟩
      refine takeD (i := 0) (d := some 34) (v := ?_) _ rfl rfl (by kernel_rfl) (by kernel_rfl) (by kernel_rfl) (fun _ _ _ h => h) (by rfl) ?_ (by assumption) ?_
      rotate_left
      · (intro w hSw; (try dsimp only at hSw); go_simp) <;> with_reducible rfl
      try simp only [Act.put, List.setIfInBounds_toArray, List.set_cons_zero, List.set_cons_succ]
      refine takeD (i := 1) (d := some 35) (v := ?_) _ rfl rfl (by kernel_rfl) (by kernel_rfl) (by kernel_rfl) (fun _ _ _ h => h) (by rfl) ?_ (by assumption) ?_
      rotate_left
      · (intro w hSw; (try dsimp only at hSw); go_simp) <;> with_reducible rfl
      try simp only [Act.put, List.setIfInBounds_toArray, List.set_cons_zero, List.set_cons_succ]
      refine takeD (i := 2) (d := some 36) (v := ?_) _ rfl rfl (by kernel_rfl) (by kernel_rfl) (by kernel_rfl) (fun _ _ _ h => h) (by rfl) ?_ (by assumption) ?_
      rotate_left
      · (intro w hSw; (try dsimp only at hSw); go_simp) <;> with_reducible rfl
      try simp only [Act.put, List.setIfInBounds_toArray, List.set_cons_zero, List.set_cons_succ]
      refine takeD (i := 3) (d := some 37) (v := ?_) _ rfl rfl (by kernel_rfl) (by kernel_rfl) (by kernel_rfl) (fun _ _ _ h => h) (by rfl) ?_ (by assumption) ?_
      rotate_left
      · (intro w hSw; (try dsimp only at hSw); go_simp) <;> with_reducible rfl
      try simp only [Act.put, List.setIfInBounds_toArray, List.set_cons_zero, List.set_cons_succ]
      refine takeD (i := 4) (d := some 38) (v := ?_) _ rfl rfl (by kernel_rfl) (by kernel_rfl) (by kernel_rfl) (fun _ _ _ h => h) (by rfl) ?_ (by assumption) ?_
      rotate_left
      · (intro w hSw; (try dsimp only at hSw); go_simp) <;> with_reducible rfl
      try simp only [Act.put, List.setIfInBounds_toArray, List.set_cons_zero, List.set_cons_succ]
      refine takeD (i := 5) (d := some 39) (v := ?_) _ rfl rfl (by kernel_rfl) (by kernel_rfl) (by kernel_rfl) (fun _ _ _ h => h) (by rfl) ?_ (by assumption) ?_
      rotate_left
      · (intro w hSw; (try dsimp only at hSw); go_simp) <;> with_reducible rfl
      try simp only [Act.put, List.setIfInBounds_toArray, List.set_cons_zero, List.set_cons_succ]
      refine takeD (i := 6) (d := some 40) (v := ?_) _ rfl rfl (by kernel_rfl) (by kernel_rfl) (by kernel_rfl) (fun _ _ _ h => h) (by rfl) ?_ (by assumption) ?_
      rotate_left
      · (intro w hSw; (try dsimp only at hSw); go_simp) <;> with_reducible rfl
      try simp only [Act.put, List.setIfInBounds_toArray, List.set_cons_zero, List.set_cons_succ]
      refine takeD (i := 7) (d := some 41) (v := ?_) _ rfl rfl (by kernel_rfl) (by kernel_rfl) (by kernel_rfl) (fun _ _ _ h => h) (by rfl) ?_ (by assumption) ?_
      rotate_left
      · (intro w hSw; (try dsimp only at hSw); go_simp) <;> with_reducible rfl
      try simp only [Act.put, List.setIfInBounds_toArray, List.set_cons_zero, List.set_cons_succ]
      refine takeD (i := 8) (d := some 42) (v := ?_) _ rfl rfl (by kernel_rfl) (by kernel_rfl) (by kernel_rfl) (fun _ _ _ h => h) (by rfl) ?_ (by assumption) ?_
      rotate_left
      · (intro w hSw; (try dsimp only at hSw); go_simp) <;> with_reducible rfl
      try simp only [Act.put, List.setIfInBounds_toArray, List.set_cons_zero, List.set_cons_succ]
      refine takeD (i := 9) (d := some 43) (v := ?_) _ rfl rfl (by kernel_rfl) (by kernel_rfl) (by kernel_rfl) (fun _ _ _ h => h) (by rfl) ?_ (by assumption) ?_
      rotate_left
      · (intro w hSw; (try dsimp only at hSw); go_simp) <;> with_reducible rfl
      try simp only [Act.put, List.setIfInBounds_toArray, List.set_cons_zero, List.set_cons_succ]
      refine takeD (i := 10) (d := some 44) (v := ?_) _ rfl rfl (by kernel_rfl) (by kernel_rfl) (by kernel_rfl) (fun _ _ _ h => h) (by rfl) ?_ (by assumption) ?_
      rotate_left
      · (intro w hSw; (try dsimp only at hSw); go_simp) <;> with_reducible rfl
      try simp only [Act.put, List.setIfInBounds_toArray, List.set_cons_zero, List.set_cons_succ]
      refine takeD (i := 12) (d := some 46) (v := ?_) _ rfl rfl (by kernel_rfl) (by kernel_rfl) (by kernel_rfl) (fun _ _ _ h => h) (by rfl) ?_ (by assumption) ?_
      rotate_left
      · (intro w hSw; (try dsimp only at hSw); go_simp) <;> with_reducible rfl
      try simp only [Act.put, List.setIfInBounds_toArray, List.set_cons_zero, List.set_cons_succ]
      refine takeD (i := 13) (d := some 47) (v := ?_) _ rfl rfl (by kernel_rfl) (by kernel_rfl) (by kernel_rfl) (fun _ _ _ h => h) (by rfl) ?_ (by assumption) ?_
      rotate_left
      · (intro w hSw; (try dsimp only at hSw); go_simp) <;> with_reducible rfl
      try simp only [Act.put, List.setIfInBounds_toArray, List.set_cons_zero, List.set_cons_succ]
      refine takeD (i := 14) (d := some 48) (v := ?_) _ rfl rfl (by kernel_rfl) (by kernel_rfl) (by kernel_rfl) (fun _ _ _ h => h) (by rfl) ?_ (by assumption) ?_
      rotate_left
      · (intro w hSw; (try dsimp only at hSw); go_simp) <;> with_reducible rfl
      try simp only [Act.put, List.setIfInBounds_toArray, List.set_cons_zero, List.set_cons_succ]
      refine takeD (i := 15) (d := some 49) (v := ?_) _ rfl rfl (by kernel_rfl) (by kernel_rfl) (by kernel_rfl) (fun _ _ _ h => h) (by rfl) ?_ (by assumption) ?_
      rotate_left
      · (intro w hSw; (try dsimp only at hSw); go_simp) <;> with_reducible rfl
      try simp only [Act.put, List.setIfInBounds_toArray, List.set_cons_zero, List.set_cons_succ]
      refine takeD (i := 17) (d := some 51) (v := ?_) _ rfl rfl (by kernel_rfl) (by kernel_rfl) (by kernel_rfl) (fun _ _ _ h => h) (by rfl) ?_ (by assumption) ?_
      rotate_left
      · (intro w hSw; (try dsimp only at hSw); go_simp) <;> with_reducible rfl
      try simp only [Act.put, List.setIfInBounds_toArray, List.set_cons_zero, List.set_cons_succ]
      refine takeD (i := 18) (d := some 52) (v := ?_) _ rfl rfl (by kernel_rfl) (by kernel_rfl) (by kernel_rfl) (fun _ _ _ h => h) (by rfl) ?_ (by assumption) ?_
      rotate_left
      · (intro w hSw; (try dsimp only at hSw); go_simp) <;> with_reducible rfl
      try simp only [Act.put, List.setIfInBounds_toArray, List.set_cons_zero, List.set_cons_succ]
      refine takeD (i := 19) (d := some 53) (v := ?_) _ rfl rfl (by kernel_rfl) (by kernel_rfl) (by kernel_rfl) (fun _ _ _ h => h) (by rfl) ?_ (by assumption) ?_
      rotate_left
      · (intro w hSw; (try dsimp only at hSw); go_simp) <;> with_reducible rfl
      try simp only [Act.put, List.setIfInBounds_toArray, List.set_cons_zero, List.set_cons_succ]
      refine takeD (i := 20) (d := some 54) (v := ?_) _ rfl rfl (by kernel_rfl) (by kernel_rfl) (by kernel_rfl) (fun _ _ _ h => h) (by rfl) ?_ (by assumption) ?_
      rotate_left
      · (intro w hSw; (try dsimp only at hSw); go_simp) <;> with_reducible rfl
      try simp only [Act.put, List.setIfInBounds_toArray, List.set_cons_zero, List.set_cons_succ]
      refine takeD (i := 21) (d := some 55) (v := ?_) _ rfl rfl (by kernel_rfl) (by kernel_rfl) (by kernel_rfl) (fun _ _ _ h => h) (by rfl) ?_ (by assumption) ?_
      rotate_left
      · (intro w hSw; (try dsimp only at hSw); go_simp) <;> with_reducible rfl
      try simp only [Act.put, List.setIfInBounds_toArray, List.set_cons_zero, List.set_cons_succ]
      refine wpAnyH_ready (rs := [11, 23]) (by kernel_rfl) (by simp) ?_
      refine AllReadyH.cons rfl (fun K hK => ?_) (AllReadyH.cons rfl (fun K hK => ?_) AllReadyH.nil)
      · (go_simp; go_at_call 33; refine (HE.out _).mono ?_; rintro e W4 ⟨rfl, b4⟩; try go_wp2_with fail)
        have HB4 : Hid (Below wd.heap.size wd W4) := hHeld.1.trans (b4.mono hHeld.1.size)
        clear hHeld b4
        refine hK.out _ _ ⟨HB4.out, cell_later HB4.out g1, cell_later HB4.out g3, cell_later HB4.out g4, cell_later HB4.out c0, cell_later HB4.out c1, cell_later HB4.out c2⟩ (fun hHeld => ?_)
        clear hK K
        try simp only [Act.put, List.setIfInBounds_toArray, List.set_cons_zero, List.set_cons_succ]
        refine takeD (i := 16) (d := some 50) (v := ?_) _ rfl rfl (by kernel_rfl) (by kernel_rfl) (by kernel_rfl) (fun _ _ _ h => h) (by rfl) ?_ (by assumption) ?_
        rotate_left
        · (intro w hSw; (try dsimp only at hSw); go_simp) <;> with_reducible rfl
        try simp only [Act.put, List.setIfInBounds_toArray, List.set_cons_zero, List.set_cons_succ]
        refine takeD (i := 22) (d := some 56) (v := ?_) _ rfl rfl (by kernel_rfl) (by kernel_rfl) (by kernel_rfl) (fun _ _ _ h => h) (by rfl) ?_ (by assumption) ?_
        rotate_left
        · (intro w hSw; (try dsimp only at hSw); go_simp) <;> with_reducible rfl
        try simp only [Act.put, List.setIfInBounds_toArray, List.set_cons_zero, List.set_cons_succ]
        refine wpAnyH_ready (rs := [23]) (by kernel_rfl) (by simp) ?_
        refine AllReadyH.cons rfl (fun K hK => ?_) AllReadyH.nil
        go_simp
        have HB9 : ∀ o, Below wd.heap.size wd (W4.alloc o) := fun o => HB4.out.alloc HB4.out.size o
        refine hK.out _ _ ⟨HB9 _, cell_later (HB9 _) g1, cell_later (HB9 _) g3, cell_later (HB9 _) g4, cell_later (HB9 _) c0, cell_later (HB9 _) c1, cell_later (HB9 _) c2⟩ (fun hHeld2 => ?_)
        clear hK K hHeld2
        try simp only [Act.put, List.setIfInBounds_toArray, List.set_cons_zero, List.set_cons_succ]
        refine wpAnyH_ready (rs := [24]) (by kernel_rfl) (by simp) ?_
        refine AllReadyH.cons rfl (fun K hK => ?_) AllReadyH.nil
        go_simp
        refine hK.out _ _ ⟨HB9 _, cell_later (HB9 _) g1, cell_later (HB9 _) g3, cell_later (HB9 _) g4, cell_later (HB9 _) c0, cell_later (HB9 _) c1, cell_later (HB9 _) c2⟩ (fun hHeld2 => ?_)
        clear hK K hHeld2 hHeld
        try simp only [Act.put, List.setIfInBounds_toArray, List.set_cons_zero, List.set_cons_succ]
        refine wpAnyH_done (by kernel_rfl) ?_ _
        go_wp2_with fail
        go_meet
        exact ⟨W4.heap.size, rfl, HB4.out.size, by simp, heap_alloc_new _ _, HB9 _⟩
      · go_simp
        refine hK.out _ _ ⟨hHeld.1.alloc hHeld.1.size _, cell_al _ hHeld.2.1, cell_al _ hHeld.2.2.1, cell_al _ hHeld.2.2.2.1, cell_al _ hHeld.2.2.2.2.1, cell_al _ hHeld.2.2.2.2.2.1, cell_al _ hHeld.2.2.2.2.2.2⟩ (fun hHeld2 => ?_)
        clear hK K hHeld
        try simp only [Act.put, List.setIfInBounds_toArray, List.set_cons_zero, List.set_cons_succ]
        clear hHeld2
        obtain ⟨W5, hW5⟩ : ∃ W5, (wd.alloc (.cells #[.int .i64 0, .int .i64 0, .int .i64 0, .int .i64 0, .bool false, .bool false, .bool false] 63)).drew = W5 := ⟨_, rfl⟩
        have HB5 : Hid (Below wd.heap.size wd W5) := by rw [← hW5]; exact below_drewN ((Below.refl _ _).alloc (Nat.le_refl _) _) 1
        have HS5 : Hid (wd.heap.size < W5.heap.size) := by rw [← hW5]; show wd.heap.size < (wd.alloc _).heap.size; simp
        have HH5 : Hid (W5.heap[wd.heap.size]? = some (.cells #[.int .i64 0, .int .i64 0, .int .i64 0, .int .i64 0, .bool false, .bool false, .bool false] 63 (0, 0))) := by rw [← hW5]; exact heap_alloc_new _ _
        simp only [hW5]
        clear hW5
        refine wpAnyH_ready (rs := [11]) (by kernel_rfl) (by simp) ?_
        refine AllReadyH.cons rfl (fun K hK => ?_) AllReadyH.nil
        (go_simp; go_at_call 33; refine (HE.out _).mono ?_; rintro e W6 ⟨rfl, b6⟩; try go_wp2_with fail)
        have HB6 : Hid (Below wd.heap.size wd W6) := HB5.out.trans (b6.mono HB5.out.size)
        have HH6 : Hid (W6.heap[wd.heap.size]? = some (.cells #[.int .i64 0, .int .i64 0, .int .i64 0, .int .i64 0, .bool false, .bool false, .bool false] 63 (0, 0))) := (b6.block _ HS5.out).trans HH5.out
        have HS6 : Hid (wd.heap.size < W6.heap.size) := Nat.lt_of_lt_of_le HS5.out b6.size
        clear b6
        refine hK.out _ _ ⟨HB6.out, cell_later HB6.out g1, cell_later HB6.out g3, cell_later HB6.out g4, cell_later HB6.out c0, cell_later HB6.out c1, cell_later HB6.out c2⟩ (fun hHeld => ?_)
        clear hK K
        try simp only [Act.put, List.setIfInBounds_toArray, List.set_cons_zero, List.set_cons_succ]
        refine takeD (i := 16) (d := some 50) (v := ?_) _ rfl rfl (by kernel_rfl) (by kernel_rfl) (by kernel_rfl) (fun _ _ _ h => h) (by rfl) ?_ (by assumption) ?_
        rotate_left
        · (intro w hSw; (try dsimp only at hSw); go_simp) <;> with_reducible rfl
        try simp only [Act.put, List.setIfInBounds_toArray, List.set_cons_zero, List.set_cons_succ]
        refine takeD (i := 22) (d := some 56) (v := ?_) _ rfl rfl (by kernel_rfl) (by kernel_rfl) (by kernel_rfl) (fun _ _ _ h => h) (by rfl) ?_ (by assumption) ?_
        rotate_left
        · (intro w hSw; (try dsimp only at hSw); go_simp) <;> with_reducible rfl
        try simp only [Act.put, List.setIfInBounds_toArray, List.set_cons_zero, List.set_cons_succ]
        clear hHeld
        have z0 := (row_cell HH6.out 0).1
        have y0 := (row_cell HH6.out 0).2
        have z1 := (row_cell HH6.out 1).1
        have y1 := (row_cell HH6.out 1).2
        have z2 := (row_cell HH6.out 2).1
        have y2 := (row_cell HH6.out 2).2
        have z3 := (row_cell HH6.out 3).1
        have y3 := (row_cell HH6.out 3).2
        have z4 := (row_cell HH6.out 4).1
        have y4 := (row_cell HH6.out 4).2
        have z5 := (row_cell HH6.out 5).1
        have y5 := (row_cell HH6.out 5).2
        have z6 := (row_cell HH6.out 6).1
        have y6 := (row_cell HH6.out 6).2
        simp at z0 z1 z2 z3 z4 z5 z6
        refine wpAnyH_ready (rs := [24]) (by kernel_rfl) (by simp) ?_
        refine AllReadyH.cons rfl (fun K hK => ?_) AllReadyH.nil
        go_simp
        clear z0 z1 z2 z3 z4 z5 z6 y0 y1 y2 y3 y4 y5 y6
        have HB7 : Hid (Below wd.heap.size wd (((((((W6.setCell ⟨wd.heap.size, 0, none⟩ (.int .i64 now)).setCell ⟨wd.heap.size, 1, none⟩ (.int .i64 (m : Int))).setCell ⟨wd.heap.size, 2, none⟩ (.int .i64 xw)).setCell ⟨wd.heap.size, 3, none⟩ (.int .i64 (xf + xl - tick))).setCell ⟨wd.heap.size, 4, none⟩ (.bool false)).setCell ⟨wd.heap.size, 5, none⟩ (.bool false)).setCell ⟨wd.heap.size, 6, none⟩ (.bool (tick == 0)))) := (Below.setCell (Below.setCell (Below.setCell (Below.setCell (Below.setCell (Below.setCell (Below.setCell HB6.out (p := ⟨wd.heap.size, 0, none⟩) (Nat.le_refl _) _) (p := ⟨wd.heap.size, 1, none⟩) (Nat.le_refl _) _) (p := ⟨wd.heap.size, 2, none⟩) (Nat.le_refl _) _) (p := ⟨wd.heap.size, 3, none⟩) (Nat.le_refl _) _) (p := ⟨wd.heap.size, 4, none⟩) (Nat.le_refl _) _) (p := ⟨wd.heap.size, 5, none⟩) (Nat.le_refl _) _) (p := ⟨wd.heap.size, 6, none⟩) (Nat.le_refl _) _)
        have HH7 : Hid ((((((((W6.setCell ⟨wd.heap.size, 0, none⟩ (.int .i64 now)).setCell ⟨wd.heap.size, 1, none⟩ (.int .i64 (m : Int))).setCell ⟨wd.heap.size, 2, none⟩ (.int .i64 xw)).setCell ⟨wd.heap.size, 3, none⟩ (.int .i64 (xf + xl - tick))).setCell ⟨wd.heap.size, 4, none⟩ (.bool false)).setCell ⟨wd.heap.size, 5, none⟩ (.bool false)).setCell ⟨wd.heap.size, 6, none⟩ (.bool (tick == 0))).heap[wd.heap.size]? = some (.cells #[.int .i64 now, .int .i64 (m : Int), .int .i64 xw, .int .i64 (xf + xl - tick), .bool false, .bool false, .bool (tick == 0)] 63 (0, 0))) := by
          have h := (set_at (set_at (set_at (set_at (set_at (set_at (set_at HH6.out 0 (.int .i64 now)) 1 (.int .i64 (m : Int))) 2 (.int .i64 xw)) 3 (.int .i64 (xf + xl - tick))) 4 (.bool false)) 5 (.bool false)) 6 (.bool (tick == 0)))
          unfold Hid; simpa using h
        have HS7 : Hid (wd.heap.size < (((((((W6.setCell ⟨wd.heap.size, 0, none⟩ (.int .i64 now)).setCell ⟨wd.heap.size, 1, none⟩ (.int .i64 (m : Int))).setCell ⟨wd.heap.size, 2, none⟩ (.int .i64 xw)).setCell ⟨wd.heap.size, 3, none⟩ (.int .i64 (xf + xl - tick))).setCell ⟨wd.heap.size, 4, none⟩ (.bool false)).setCell ⟨wd.heap.size, 5, none⟩ (.bool false)).setCell ⟨wd.heap.size, 6, none⟩ (.bool (tick == 0))).heap.size) := by unfold Hid; simpa [World.setCell] using HS6.out
        refine hK.out _ _ ⟨HB7.out, cell_later HB7.out g1, cell_later HB7.out g3, cell_later HB7.out g4, cell_later HB7.out c0, cell_later HB7.out c1, cell_later HB7.out c2⟩ (fun hHeld2 => ?_)
        clear hK K hHeld2
        try simp only [Act.put, List.setIfInBounds_toArray, List.set_cons_zero, List.set_cons_succ]
        refine wpAnyH_done (by kernel_rfl) ?_ _
        go_wp2_with fail
        go_meet
        exact ⟨wd.heap.size, rfl, Nat.le_refl _, HS7.out, HH7.out, HB7.out⟩
    case rest =>
      obtain ⟨bt, rfl, hbt, hbts, hu, hb⟩ := hcut.ex
      clear hcut
      have HBD := Lib.hid hb
      have HBT : Hid (wd.heap.size ≤ bt ∧ bt < wc.heap.size) := ⟨hbt, hbts⟩
      have HU0 := Lib.hid hu
      have c0 := cell_later hb C0.out
      have c1 := cell_later hb C1.out
      clear hb hbt hbts hu g1 g3 g4 c2
      by_cases hwn : xw = -1
      · subst hwn
        have hneB : ((-1 : Int) != -1) = false := rfl
        go_upto_region 8 with fail
        obtain ⟨V, hV⟩ : ∃ V, wc = V := ⟨_, rfl⟩
        have BV : Hid (Below wd.heap.size wd V) := by rw [← hV]; exact HBD.out
        have HUV0 : Hid (V.heap[bt]? = some (.cells #[.int .i64 now, .int .i64 (m : Int), .int .i64 (-1), .int .i64 (xf + xl - tick), .bool false, .bool false, .bool (tick == 0)] 63 (0, 0))) := by rw [← hV]; exact HU0.out
        simp only [hV]
        clear hV c0 c1
        have HVw : Hid (Below w.heap.size w V) := BC.out.trans (BV.out.mono BC.out.size)
        have HG1 : Hid (V.heap[g]? = some (.cells #[.slice (some ⟨b, off, none⟩) n c, .int .i64 (m : Int), .int .i64 next, .int .i64 now, .int .i64 tick] 79 (0, 0))) := (HVw.out.block g (by have := HLT.out; omega)).trans HG.out
        have HR1 : Hid (V.heap[w.heap.size]? = some (.cells #[.int .i64 0, .int .i64 0, .int .i64 0, .int .i64 0, .bool false, .bool false, .bool false] 63 (0, 0))) := (BV.out.block _ (by have := BC3.out.size; have := HTL.out; omega)).trans ((BC3.out.block _ (by have := HTL.out; omega)).trans HRB.out)
        have g3 := (row_cell HG1.out 3).1
        have g4 := (row_cell HG1.out 4).1
        have y3 := (row_cell HG1.out 3).2
        have y4 := (row_cell HG1.out 4).2
        simp at g3 g4
        go_upto_region 10 with fail
        obtain ⟨V2, hV2⟩ : ∃ V2, ((V.setCell ⟨g, 3, none⟩ (.int .i64 (now + 1))).setCell ⟨g, 4, none⟩ (.int .i64 (tick + 1))) = V2 := ⟨_, rfl⟩
        have HG2 : Hid (V2.heap[g]? = some (.cells #[.slice (some ⟨b, off, none⟩) n c, .int .i64 (m : Int), .int .i64 next, .int .i64 (now + 1), .int .i64 (tick + 1)] 79 (0, 0))) := by
          rw [← hV2]
          have h := set_at (set_at HG1.out 3 (.int .i64 (now + 1))) 4 (.int .i64 (tick + 1))
          unfold Hid; simpa using h
        have HP2 : Hid (Past g w V2) := by rw [← hV2]; exact ((Past.of_below HVw.out).setCell 3 _).setCell 4 _
        have hk2 : ∀ k, k ≠ g → V2.heap[k]? = V.heap[k]? := fun k hk => by rw [← hV2, set_far _ _ hk, set_far _ _ hk]
        have HR2 : Hid (V2.heap[w.heap.size]? = some (.cells #[.int .i64 0, .int .i64 0, .int .i64 0, .int .i64 0, .bool false, .bool false, .bool false] 63 (0, 0))) := (hk2 _ (by have := HLT.out; omega)).trans HR1.out
        have HU2 : Hid (V2.heap[bt]? = some (.cells #[.int .i64 now, .int .i64 (m : Int), .int .i64 (-1), .int .i64 (xf + xl - tick), .bool false, .bool false, .bool (tick == 0)] 63 (0, 0))) := (hk2 _ (by have := HLT.out; have := HBT.out; have := BC.out.size; omega)).trans HUV0.out
        have d4 := (row_cell HG2.out 4).1
        have d2 := (row_cell HG2.out 2).1
        simp at d4 d2
        have dT : V2.cell? ⟨T, 0, none⟩ = some (.int .i64 fr) := (World.cell?_of_block (hk2 T (by have := HLT.out; have := HTL.out; omega))).trans (cell_later BV.out (cell_later BC3.out T0.out))
        simp only [hV2]
        clear hV2 g3 g4 y3 y4 hk2
        refine wp_region_held_drew (S := (fun w' => w'.cell? ⟨g, 4, none⟩ = some (.int .i64 (tick + 1)) ∧ w'.cell? ⟨T, 0, none⟩ = some (.int .i64 fr))) (by kernel_rfl) ?_ (fun hHeld => ?_)
        · exact ⟨d4, dT⟩
        refine takeD (i := 0) (d := some 86) (v := ?_) _ rfl rfl (by kernel_rfl) (by kernel_rfl) (by kernel_rfl) (fun _ _ _ h => h) (by rfl) ?_ (by assumption) ?_
        rotate_left
        · (intro w hSw; (try dsimp only at hSw); go_simp) <;> with_reducible rfl
        try simp only [Act.put, List.setIfInBounds_toArray, List.set_cons_zero, List.set_cons_succ]
        refine takeD (i := 1) (d := some 87) (v := ?_) _ rfl rfl (by kernel_rfl) (by kernel_rfl) (by kernel_rfl) (fun _ _ _ h => h) (by rfl) ?_ (by assumption) ?_
        rotate_left
        · (intro w hSw; (try dsimp only at hSw); go_simp) <;> with_reducible rfl
        try simp only [Act.put, List.setIfInBounds_toArray, List.set_cons_zero, List.set_cons_succ]
        refine takeD (i := 2) (d := some 88) (v := ?_) _ rfl rfl (by kernel_rfl) (by kernel_rfl) (by kernel_rfl) (fun _ _ _ h => h) (by rfl) ?_ (by assumption) ?_
        rotate_left
        · (intro w hSw; (try dsimp only at hSw); go_simp) <;> with_reducible rfl
        try simp only [Act.put, List.setIfInBounds_toArray, List.set_cons_zero, List.set_cons_succ]
        refine takeD (i := 3) (d := some 89) (v := ?_) _ rfl rfl (by kernel_rfl) (by kernel_rfl) (by kernel_rfl) (fun _ _ _ h => h) (by rfl) ?_ (by assumption) ?_
        rotate_left
        · (intro w hSw; (try dsimp only at hSw); go_simp) <;> with_reducible rfl
        try simp only [Act.put, List.setIfInBounds_toArray, List.set_cons_zero, List.set_cons_succ]
        refine takeD (i := 4) (d := some 90) (v := ?_) _ rfl rfl (by kernel_rfl) (by kernel_rfl) (by kernel_rfl) (fun _ _ _ h => h) (by rfl) ?_ (by assumption) ?_
        rotate_left
        · (intro w hSw; (try dsimp only at hSw); go_simp) <;> with_reducible rfl
        try simp only [Act.put, List.setIfInBounds_toArray, List.set_cons_zero, List.set_cons_succ]
        refine takeD (i := 5) (d := some 91) (v := ?_) _ rfl rfl (by kernel_rfl) (by kernel_rfl) (by kernel_rfl) (fun _ _ _ h => h) (by rfl) ?_ (by assumption) ?_
        rotate_left
        · (intro w hSw; (try dsimp only at hSw); go_simp) <;> with_reducible rfl
        try simp only [Act.put, List.setIfInBounds_toArray, List.set_cons_zero, List.set_cons_succ]
        refine takeD (i := 6) (d := some 92) (v := ?_) _ rfl rfl (by kernel_rfl) (by kernel_rfl) (by kernel_rfl) (fun _ _ _ h => h) (by rfl) ?_ (by assumption) ?_
        rotate_left
        · (intro w hSw; (try dsimp only at hSw); go_simp) <;> with_reducible rfl
        try simp only [Act.put, List.setIfInBounds_toArray, List.set_cons_zero, List.set_cons_succ]
        refine wpAnyH_done (by kernel_rfl) ?_ _
        clear hHeld d4 dT d2
        obtain ⟨V3, hV3⟩ : ∃ V3, V2.drew = V3 := ⟨_, rfl⟩
        have HGV : Hid (V3.heap[g]? = some (.cells #[.slice (some ⟨b, off, none⟩) n c, .int .i64 (m : Int), .int .i64 next, .int .i64 (now + 1), .int .i64 (tick + 1)] 79 (0, 0))) := by rw [← hV3]; exact HG2.out
        have HPV : Hid (Past g w V3) := by rw [← hV3]; exact HP2.out.drew
        have HRV : Hid (V3.heap[w.heap.size]? = some (.cells #[.int .i64 0, .int .i64 0, .int .i64 0, .int .i64 0, .bool false, .bool false, .bool false] 63 (0, 0))) := by rw [← hV3]; exact HR2.out
        have HUV : Hid (V3.heap[bt]? = some (.cells #[.int .i64 now, .int .i64 (m : Int), .int .i64 (-1), .int .i64 (xf + xl - tick), .bool false, .bool false, .bool (tick == 0)] 63 (0, 0))) := by rw [← hV3]; exact HU2.out
        simp only [hV3]
        clear hV3
        by_cases ht : tick + 1 = fr
        · have htb : (tick + 1 == fr) = true := by simpa using ht
          have g2 := (row_cell HGV.out 2).1
          have g1 := (row_cell HGV.out 1).1
          have g4 := (row_cell HGV.out 4).1
          have y1 := (row_cell HGV.out 1).2
          have y4 := (row_cell HGV.out 4).2
          simp at g1 g2 g4
          go_upto_region 12 with fail
          obtain ⟨V4, hV4⟩ : ∃ V4, (V3.setCell ⟨g, 4, none⟩ (.int .i64 0)).setCell ⟨g, 1, none⟩ (.int .i64 next) = V4 := ⟨_, rfl⟩
          have hk4 : ∀ k, k ≠ g → V4.heap[k]? = V3.heap[k]? := fun k hk => by rw [← hV4, set_far _ _ hk, set_far _ _ hk]
          have HGV : Hid (V4.heap[g]? = some (.cells #[.slice (some ⟨b, off, none⟩) n c, .int .i64 next, .int .i64 next, .int .i64 (now + 1), .int .i64 0] 79 (0, 0))) := by
            rw [← hV4]
            have h := set_at (set_at HGV.out 4 (.int .i64 0)) 1 (.int .i64 next)
            unfold Hid; simpa using h
          have HPV : Hid (Past g w V4) := by rw [← hV4]; exact (HPV.out.setCell 4 _).setCell 1 _
          have HRV : Hid (V4.heap[w.heap.size]? = some (.cells #[.int .i64 0, .int .i64 0, .int .i64 0, .int .i64 0, .bool false, .bool false, .bool false] 63 (0, 0))) := (hk4 _ (by have := HLT.out; omega)).trans HRV.out
          have HUV : Hid (V4.heap[bt]? = some (.cells #[.int .i64 now, .int .i64 (m : Int), .int .i64 (-1), .int .i64 (xf + xl - tick), .bool false, .bool false, .bool (tick == 0)] 63 (0, 0))) := (hk4 _ (by have := HLT.out; have := HBT.out; have := BC.out.size; omega)).trans HUV.out
          simp only [hV4]
          clear hV4 g1 g2 g4 y1 y4 hk4
          have z0 := (row_cell HUV.out 0).1
          have z1 := (row_cell HUV.out 1).1
          have z2 := (row_cell HUV.out 2).1
          have z3 := (row_cell HUV.out 3).1
          have z4 := (row_cell HUV.out 4).1
          have z5 := (row_cell HUV.out 5).1
          have z6 := (row_cell HUV.out 6).1
          have x0 := (row_cell HRV.out 0).1
          have y0 := (row_cell HRV.out 0).2
          have x1 := (row_cell HRV.out 1).1
          have y1 := (row_cell HRV.out 1).2
          have x2 := (row_cell HRV.out 2).1
          have y2 := (row_cell HRV.out 2).2
          have x3 := (row_cell HRV.out 3).1
          have y3 := (row_cell HRV.out 3).2
          have x4 := (row_cell HRV.out 4).1
          have y4 := (row_cell HRV.out 4).2
          have x5 := (row_cell HRV.out 5).1
          have y5 := (row_cell HRV.out 5).2
          have x6 := (row_cell HRV.out 6).1
          have y6 := (row_cell HRV.out 6).2
          simp at z0 z1 z2 z3 z4 z5 z6 x0 x1 x2 x3 x4 x5 x6
          have HRF : Hid ((((((((V4.setCell ⟨w.heap.size, 0, none⟩ (.int .i64 now)).setCell ⟨w.heap.size, 1, none⟩ (.int .i64 (m : Int))).setCell ⟨w.heap.size, 2, none⟩ (.int .i64 (-1))).setCell ⟨w.heap.size, 3, none⟩ (.int .i64 (xf + xl - tick))).setCell ⟨w.heap.size, 4, none⟩ (.bool false)).setCell ⟨w.heap.size, 5, none⟩ (.bool false)).setCell ⟨w.heap.size, 6, none⟩ (.bool (tick == 0))).heap[w.heap.size]? = some (.cells [.int .i64 now, .int .i64 (m : Int), .int .i64 (-1), .int .i64 (xf + xl - tick), .bool false, .bool false, .bool (tick == 0)].toArray 63 (0, 0))) := by
            have h := (set_at (set_at (set_at (set_at (set_at (set_at (set_at HRV.out 0 (.int .i64 now)) 1 (.int .i64 (m : Int))) 2 (.int .i64 (-1))) 3 (.int .i64 (xf + xl - tick))) 4 (.bool false)) 5 (.bool false)) 6 (.bool (tick == 0)))
            unfold Hid; simpa using h
          have HPF : Hid (Past g w (((((((V4.setCell ⟨w.heap.size, 0, none⟩ (.int .i64 now)).setCell ⟨w.heap.size, 1, none⟩ (.int .i64 (m : Int))).setCell ⟨w.heap.size, 2, none⟩ (.int .i64 (-1))).setCell ⟨w.heap.size, 3, none⟩ (.int .i64 (xf + xl - tick))).setCell ⟨w.heap.size, 4, none⟩ (.bool false)).setCell ⟨w.heap.size, 5, none⟩ (.bool false)).setCell ⟨w.heap.size, 6, none⟩ (.bool (tick == 0)))) := (((((((HPV.out.setNew (Nat.le_refl _) 0 (.int .i64 now)).setNew (Nat.le_refl _) 1 (.int .i64 (m : Int))).setNew (Nat.le_refl _) 2 (.int .i64 (-1))).setNew (Nat.le_refl _) 3 (.int .i64 (xf + xl - tick))).setNew (Nat.le_refl _) 4 (.bool false)).setNew (Nat.le_refl _) 5 (.bool false)).setNew (Nat.le_refl _) 6 (.bool (tick == 0)))
          have HGF : Hid ((((((((V4.setCell ⟨w.heap.size, 0, none⟩ (.int .i64 now)).setCell ⟨w.heap.size, 1, none⟩ (.int .i64 (m : Int))).setCell ⟨w.heap.size, 2, none⟩ (.int .i64 (-1))).setCell ⟨w.heap.size, 3, none⟩ (.int .i64 (xf + xl - tick))).setCell ⟨w.heap.size, 4, none⟩ (.bool false)).setCell ⟨w.heap.size, 5, none⟩ (.bool false)).setCell ⟨w.heap.size, 6, none⟩ (.bool (tick == 0))).heap[g]? = some (.cells #[.slice (some ⟨b, off, none⟩) n c, .int .i64 next, .int .i64 next, .int .i64 (now + 1), .int .i64 0] 79 (0, 0))) := by
            have hne : g ≠ w.heap.size := by have := HLT.out; omega
            unfold Hid
            rw [set_far _ _ hne, set_far _ _ hne, set_far _ _ hne, set_far _ _ hne, set_far _ _ hne, set_far _ _ hne, set_far _ _ hne]
            exact HGV.out
          go_wp2_with fail
          refine bodyPost_ret (results_cell_mid rfl _ _ w.heap.size _ _ rfl (range_heap HRF.out) Try.underlying63 rfl (by kernel_rfl)) rfl ?_
          refine ⟨?_, ?_, HPF.out⟩
          · first | rfl | (unfold MU.cells; simp [hneB]) | (unfold MU.cells; simp)
          · have hst : stepOf ⟨ts, (m : Int), next, now, tick⟩ ⟨fr, ws⟩ = ⟨ts, next, next, now + 1, 0⟩ := by unfold stepOf; rw [if_pos ht]
            rw [hst]
            refine ⟨.slice (some ⟨b, off, none⟩) n c, HGF.out, HLT.out.1, HLT.out.2.1, Nat.le_trans HLT.out.2.2 HPF.out.size, ?_⟩
            exact HT.out.keep fun k h1 h2 h3 => HPF.out.block k (by have := HLT.out; omega) h3
        · have htb : (tick + 1 == fr) = false := by simpa using ht
          go_upto_region 12 with fail
          have z0 := (row_cell HUV.out 0).1
          have z1 := (row_cell HUV.out 1).1
          have z2 := (row_cell HUV.out 2).1
          have z3 := (row_cell HUV.out 3).1
          have z4 := (row_cell HUV.out 4).1
          have z5 := (row_cell HUV.out 5).1
          have z6 := (row_cell HUV.out 6).1
          have x0 := (row_cell HRV.out 0).1
          have y0 := (row_cell HRV.out 0).2
          have x1 := (row_cell HRV.out 1).1
          have y1 := (row_cell HRV.out 1).2
          have x2 := (row_cell HRV.out 2).1
          have y2 := (row_cell HRV.out 2).2
          have x3 := (row_cell HRV.out 3).1
          have y3 := (row_cell HRV.out 3).2
          have x4 := (row_cell HRV.out 4).1
          have y4 := (row_cell HRV.out 4).2
          have x5 := (row_cell HRV.out 5).1
          have y5 := (row_cell HRV.out 5).2
          have x6 := (row_cell HRV.out 6).1
          have y6 := (row_cell HRV.out 6).2
          simp at z0 z1 z2 z3 z4 z5 z6 x0 x1 x2 x3 x4 x5 x6
          have HRF : Hid ((((((((V3.setCell ⟨w.heap.size, 0, none⟩ (.int .i64 now)).setCell ⟨w.heap.size, 1, none⟩ (.int .i64 (m : Int))).setCell ⟨w.heap.size, 2, none⟩ (.int .i64 (-1))).setCell ⟨w.heap.size, 3, none⟩ (.int .i64 (xf + xl - tick))).setCell ⟨w.heap.size, 4, none⟩ (.bool false)).setCell ⟨w.heap.size, 5, none⟩ (.bool false)).setCell ⟨w.heap.size, 6, none⟩ (.bool (tick == 0))).heap[w.heap.size]? = some (.cells [.int .i64 now, .int .i64 (m : Int), .int .i64 (-1), .int .i64 (xf + xl - tick), .bool false, .bool false, .bool (tick == 0)].toArray 63 (0, 0))) := by
            have h := (set_at (set_at (set_at (set_at (set_at (set_at (set_at HRV.out 0 (.int .i64 now)) 1 (.int .i64 (m : Int))) 2 (.int .i64 (-1))) 3 (.int .i64 (xf + xl - tick))) 4 (.bool false)) 5 (.bool false)) 6 (.bool (tick == 0)))
            unfold Hid; simpa using h
          have HPF : Hid (Past g w (((((((V3.setCell ⟨w.heap.size, 0, none⟩ (.int .i64 now)).setCell ⟨w.heap.size, 1, none⟩ (.int .i64 (m : Int))).setCell ⟨w.heap.size, 2, none⟩ (.int .i64 (-1))).setCell ⟨w.heap.size, 3, none⟩ (.int .i64 (xf + xl - tick))).setCell ⟨w.heap.size, 4, none⟩ (.bool false)).setCell ⟨w.heap.size, 5, none⟩ (.bool false)).setCell ⟨w.heap.size, 6, none⟩ (.bool (tick == 0)))) := (((((((HPV.out.setNew (Nat.le_refl _) 0 (.int .i64 now)).setNew (Nat.le_refl _) 1 (.int .i64 (m : Int))).setNew (Nat.le_refl _) 2 (.int .i64 (-1))).setNew (Nat.le_refl _) 3 (.int .i64 (xf + xl - tick))).setNew (Nat.le_refl _) 4 (.bool false)).setNew (Nat.le_refl _) 5 (.bool false)).setNew (Nat.le_refl _) 6 (.bool (tick == 0)))
          have HGF : Hid ((((((((V3.setCell ⟨w.heap.size, 0, none⟩ (.int .i64 now)).setCell ⟨w.heap.size, 1, none⟩ (.int .i64 (m : Int))).setCell ⟨w.heap.size, 2, none⟩ (.int .i64 (-1))).setCell ⟨w.heap.size, 3, none⟩ (.int .i64 (xf + xl - tick))).setCell ⟨w.heap.size, 4, none⟩ (.bool false)).setCell ⟨w.heap.size, 5, none⟩ (.bool false)).setCell ⟨w.heap.size, 6, none⟩ (.bool (tick == 0))).heap[g]? = some (.cells #[.slice (some ⟨b, off, none⟩) n c, .int .i64 (m : Int), .int .i64 next, .int .i64 (now + 1), .int .i64 (tick + 1)] 79 (0, 0))) := by
            have hne : g ≠ w.heap.size := by have := HLT.out; omega
            unfold Hid
            rw [set_far _ _ hne, set_far _ _ hne, set_far _ _ hne, set_far _ _ hne, set_far _ _ hne, set_far _ _ hne, set_far _ _ hne]
            exact HGV.out
          go_wp2_with fail
          refine bodyPost_ret (results_cell_mid rfl _ _ w.heap.size _ _ rfl (range_heap HRF.out) Try.underlying63 rfl (by kernel_rfl)) rfl ?_
          refine ⟨?_, ?_, HPF.out⟩
          · first | rfl | (unfold MU.cells; simp [hneB]) | (unfold MU.cells; simp)
          · have hst : stepOf ⟨ts, (m : Int), next, now, tick⟩ ⟨fr, ws⟩ = ⟨ts, (m : Int), next, now + 1, tick + 1⟩ := by unfold stepOf; rw [if_neg ht]
            rw [hst]
            refine ⟨.slice (some ⟨b, off, none⟩) n c, HGF.out, HLT.out.1, HLT.out.2.1, Nat.le_trans HLT.out.2.2 HPF.out.size, ?_⟩
            exact HT.out.keep fun k h1 h2 h3 => HPF.out.block k (by have := HLT.out; omega) h3
      · have hneB : (xw != -1) = true := by simpa using hwn
        go_upto_region 7 with fail
        have g4 := cell_later HBD.out (cell_later BC.out G4.out)
        have hu3 := (row_cell HU0.out 3).1
        simp at hu3
        refine wp_region_held_drew (S := (fun w' => w'.cell? ⟨g, 4, none⟩ = some (.int .i64 tick) ∧ w'.cell? ⟨bw, 1, none⟩ = some (.int .i64 xf) ∧ w'.cell? ⟨bt, 3, none⟩ = some (.int .i64 (xf + xl - tick)))) (by kernel_rfl) ?_ (fun hHeld => ?_)
        · exact ⟨g4, c1, hu3⟩
        refine takeD (i := 0) (d := some 60) (v := ?_) _ rfl rfl (by kernel_rfl) (by kernel_rfl) (by kernel_rfl) (fun _ _ _ h => h) (by rfl) ?_ (by assumption) ?_
        rotate_left
        · (intro w hSw; (try dsimp only at hSw); go_simp) <;> with_reducible rfl
        try simp only [Act.put, List.setIfInBounds_toArray, List.set_cons_zero, List.set_cons_succ]
        refine takeD (i := 1) (d := some 61) (v := ?_) _ rfl rfl (by kernel_rfl) (by kernel_rfl) (by kernel_rfl) (fun _ _ _ h => h) (by rfl) ?_ (by assumption) ?_
        rotate_left
        · (intro w hSw; (try dsimp only at hSw); go_simp) <;> with_reducible rfl
        try simp only [Act.put, List.setIfInBounds_toArray, List.set_cons_zero, List.set_cons_succ]
        refine takeD (i := 2) (d := some 62) (v := ?_) _ rfl rfl (by kernel_rfl) (by kernel_rfl) (by kernel_rfl) (fun _ _ _ h => h) (by rfl) ?_ (by assumption) ?_
        rotate_left
        · (intro w hSw; (try dsimp only at hSw); go_simp) <;> with_reducible rfl
        try simp only [Act.put, List.setIfInBounds_toArray, List.set_cons_zero, List.set_cons_succ]
        refine takeD (i := 3) (d := some 63) (v := ?_) _ rfl rfl (by kernel_rfl) (by kernel_rfl) (by kernel_rfl) (fun _ _ _ h => h) (by rfl) ?_ (by assumption) ?_
        rotate_left
        · (intro w hSw; (try dsimp only at hSw); go_simp) <;> with_reducible rfl
        try simp only [Act.put, List.setIfInBounds_toArray, List.set_cons_zero, List.set_cons_succ]
        refine takeD (i := 4) (d := some 64) (v := ?_) _ rfl rfl (by kernel_rfl) (by kernel_rfl) (by kernel_rfl) (fun _ _ _ h => h) (by rfl) ?_ (by assumption) ?_
        rotate_left
        · (intro w hSw; (try dsimp only at hSw); go_simp) <;> with_reducible rfl
        try simp only [Act.put, List.setIfInBounds_toArray, List.set_cons_zero, List.set_cons_succ]
        refine takeD (i := 5) (d := some 65) (v := ?_) _ rfl rfl (by kernel_rfl) (by kernel_rfl) (by kernel_rfl) (fun _ _ _ h => h) (by rfl) ?_ (by assumption) ?_
        rotate_left
        · (intro w hSw; (try dsimp only at hSw); go_simp) <;> with_reducible rfl
        try simp only [Act.put, List.setIfInBounds_toArray, List.set_cons_zero, List.set_cons_succ]
        refine takeD (i := 6) (d := some 66) (v := ?_) _ rfl rfl (by kernel_rfl) (by kernel_rfl) (by kernel_rfl) (fun _ _ _ h => h) (by rfl) ?_ (by assumption) ?_
        rotate_left
        · (intro w hSw; (try dsimp only at hSw); go_simp) <;> with_reducible rfl
        try simp only [Act.put, List.setIfInBounds_toArray, List.set_cons_zero, List.set_cons_succ]
        refine takeD (i := 7) (d := some 67) (v := ?_) _ rfl rfl (by kernel_rfl) (by kernel_rfl) (by kernel_rfl) (fun _ _ _ h => h) (by rfl) ?_ (by assumption) ?_
        rotate_left
        · (intro w hSw; (try dsimp only at hSw); go_simp) <;> with_reducible rfl
        try simp only [Act.put, List.setIfInBounds_toArray, List.set_cons_zero, List.set_cons_succ]
        refine takeD (i := 8) (d := some 68) (v := ?_) _ rfl rfl (by kernel_rfl) (by kernel_rfl) (by kernel_rfl) (fun _ _ _ h => h) (by rfl) ?_ (by assumption) ?_
        rotate_left
        · (intro w hSw; (try dsimp only at hSw); go_simp) <;> with_reducible rfl
        try simp only [Act.put, List.setIfInBounds_toArray, List.set_cons_zero, List.set_cons_succ]
        refine takeD (i := 9) (d := some 69) (v := ?_) _ rfl rfl (by kernel_rfl) (by kernel_rfl) (by kernel_rfl) (fun _ _ _ h => h) (by rfl) ?_ (by assumption) ?_
        rotate_left
        · (intro w hSw; (try dsimp only at hSw); go_simp) <;> with_reducible rfl
        try simp only [Act.put, List.setIfInBounds_toArray, List.set_cons_zero, List.set_cons_succ]
        refine takeD (i := 10) (d := some 70) (v := ?_) _ rfl rfl (by kernel_rfl) (by kernel_rfl) (by kernel_rfl) (fun _ _ _ h => h) (by rfl) ?_ (by assumption) ?_
        rotate_left
        · (intro w hSw; (try dsimp only at hSw); go_simp) <;> with_reducible rfl
        try simp only [Act.put, List.setIfInBounds_toArray, List.set_cons_zero, List.set_cons_succ]
        have hb4 := (row_cell HU0.out 4).1
        have hf4 := (row_cell HU0.out 4).2
        simp at hb4
        have hbwt : bw < wd.heap.size := World.block_lt_of_cell? _ _ C1.out
        have hgl : g < w.heap.size := by have := HLT.out; omega
        have hgt : g ≠ bt := by have := HBT.out; have := BC.out.size; omega
        have hwt : bw ≠ bt := by have := HBT.out; omega
        refine wpAnyH_ready (rs := [11]) (by kernel_rfl) (by simp) ?_
        refine AllReadyH.cons rfl (fun K hK => ?_) AllReadyH.nil
        go_simp
        clear hb4 hf4
        have HX1 : Hid ((wc.setCell ⟨bt, 4, none⟩ (.bool (tick == xf))).heap[bt]? = some (.cells #[.int .i64 now, .int .i64 (m : Int), .int .i64 xw, .int .i64 (xf + xl - tick), .bool (tick == xf), .bool false, .bool (tick == 0)] 63 (0, 0))) := by
          have h := set_at HU0.out 4 (.bool (tick == xf))
          unfold Hid; simpa using h
        refine hK.out _ _ ⟨(World.cell?_setCell_far _ _ _ _ (Ne.symm hgt)).trans g4, (World.cell?_setCell_far _ _ _ _ (Ne.symm hwt)).trans c1, (World.cell?_setCell_other _ _ _ _ (by simp)).trans hu3⟩ (fun hHeld2 => ?_)
        clear hK K hHeld2 hHeld
        try simp only [Act.put, List.setIfInBounds_toArray, List.set_cons_zero, List.set_cons_succ]
        obtain ⟨V1, hV1⟩ : ∃ V1, (wc.setCell ⟨bt, 4, none⟩ (.bool (tick == xf))).drew = V1 := ⟨_, rfl⟩
        have BV1 : Hid (Below wd.heap.size wd V1) := by rw [← hV1]; exact below_drewN (HBD.out.setCell (p := ⟨bt, 4, none⟩) HBT.out.1 _) 1
        have HX2 : Hid (V1.heap[bt]? = some (.cells #[.int .i64 now, .int .i64 (m : Int), .int .i64 xw, .int .i64 (xf + xl - tick), .bool (tick == xf), .bool false, .bool (tick == 0)] 63 (0, 0))) := by rw [← hV1]; exact HX1.out
        have k4 : V1.cell? ⟨g, 4, none⟩ = some (.int .i64 tick) := by rw [← hV1]; exact (World.cell?_setCell_far _ _ _ _ (Ne.symm hgt)).trans g4
        have k1 : V1.cell? ⟨bw, 1, none⟩ = some (.int .i64 xf) := by rw [← hV1]; exact (World.cell?_setCell_far _ _ _ _ (Ne.symm hwt)).trans c1
        have k3 : V1.cell? ⟨bt, 3, none⟩ = some (.int .i64 (xf + xl - tick)) := by rw [← hV1]; exact (World.cell?_setCell_other _ _ _ _ (by simp)).trans hu3
        have hHeld := And.intro k4 (And.intro k1 k3)
        simp only [hV1]
        clear hV1 hu3 g4 c1 c0
        refine takeD (i := 12) (d := some 71) (v := ?_) _ rfl rfl (by kernel_rfl) (by kernel_rfl) (by kernel_rfl) (fun _ _ _ h => h) (by rfl) ?_ (by assumption) ?_
        rotate_left
        · (intro w hSw; (try dsimp only at hSw); go_simp) <;> with_reducible rfl
        try simp only [Act.put, List.setIfInBounds_toArray, List.set_cons_zero, List.set_cons_succ]
        clear hHeld
        have hb5 := (row_cell HX2.out 5).1
        have hf5 := (row_cell HX2.out 5).2
        simp at hb5
        refine wpAnyH_ready (rs := [13]) (by kernel_rfl) (by simp) ?_
        refine AllReadyH.cons rfl (fun K hK => ?_) AllReadyH.nil
        go_simp
        clear hb5 hf5
        refine hK.out _ _ ⟨(World.cell?_setCell_far _ _ _ _ (Ne.symm hgt)).trans k4, (World.cell?_setCell_far _ _ _ _ (Ne.symm hwt)).trans k1, (World.cell?_setCell_other _ _ _ _ (by simp)).trans k3⟩ (fun hHeld2 => ?_)
        clear hK K hHeld2 k4 k1 k3
        try simp only [Act.put, List.setIfInBounds_toArray, List.set_cons_zero, List.set_cons_succ]
        refine wpAnyH_done (by kernel_rfl) ?_ _
        obtain ⟨V, hV⟩ : ∃ V, V1.setCell ⟨bt, 5, none⟩ (.bool (xf + xl - tick == 1)) = V := ⟨_, rfl⟩
        have BV : Hid (Below wd.heap.size wd V) := by rw [← hV]; exact BV1.out.setCell (p := ⟨bt, 5, none⟩) HBT.out.1 _
        have HUV0 : Hid (V.heap[bt]? = some (.cells #[.int .i64 now, .int .i64 (m : Int), .int .i64 xw, .int .i64 (xf + xl - tick), .bool (tick == xf), .bool (xf + xl - tick == 1), .bool (tick == 0)] 63 (0, 0))) := by
          rw [← hV]
          have h := set_at HX2.out 5 (.bool (xf + xl - tick == 1))
          unfold Hid; simpa using h
        simp only [hV]
        clear hV
        have HVw : Hid (Below w.heap.size w V) := BC.out.trans (BV.out.mono BC.out.size)
        have HG1 : Hid (V.heap[g]? = some (.cells #[.slice (some ⟨b, off, none⟩) n c, .int .i64 (m : Int), .int .i64 next, .int .i64 now, .int .i64 tick] 79 (0, 0))) := (HVw.out.block g (by have := HLT.out; omega)).trans HG.out
        have HR1 : Hid (V.heap[w.heap.size]? = some (.cells #[.int .i64 0, .int .i64 0, .int .i64 0, .int .i64 0, .bool false, .bool false, .bool false] 63 (0, 0))) := (BV.out.block _ (by have := BC3.out.size; have := HTL.out; omega)).trans ((BC3.out.block _ (by have := HTL.out; omega)).trans HRB.out)
        have g3 := (row_cell HG1.out 3).1
        have g4 := (row_cell HG1.out 4).1
        have y3 := (row_cell HG1.out 3).2
        have y4 := (row_cell HG1.out 4).2
        simp at g3 g4
        go_upto_region 10 with fail
        obtain ⟨V2, hV2⟩ : ∃ V2, ((V.setCell ⟨g, 3, none⟩ (.int .i64 (now + 1))).setCell ⟨g, 4, none⟩ (.int .i64 (tick + 1))) = V2 := ⟨_, rfl⟩
        have HG2 : Hid (V2.heap[g]? = some (.cells #[.slice (some ⟨b, off, none⟩) n c, .int .i64 (m : Int), .int .i64 next, .int .i64 (now + 1), .int .i64 (tick + 1)] 79 (0, 0))) := by
          rw [← hV2]
          have h := set_at (set_at HG1.out 3 (.int .i64 (now + 1))) 4 (.int .i64 (tick + 1))
          unfold Hid; simpa using h
        have HP2 : Hid (Past g w V2) := by rw [← hV2]; exact ((Past.of_below HVw.out).setCell 3 _).setCell 4 _
        have hk2 : ∀ k, k ≠ g → V2.heap[k]? = V.heap[k]? := fun k hk => by rw [← hV2, set_far _ _ hk, set_far _ _ hk]
        have HR2 : Hid (V2.heap[w.heap.size]? = some (.cells #[.int .i64 0, .int .i64 0, .int .i64 0, .int .i64 0, .bool false, .bool false, .bool false] 63 (0, 0))) := (hk2 _ (by have := HLT.out; omega)).trans HR1.out
        have HU2 : Hid (V2.heap[bt]? = some (.cells #[.int .i64 now, .int .i64 (m : Int), .int .i64 xw, .int .i64 (xf + xl - tick), .bool (tick == xf), .bool (xf + xl - tick == 1), .bool (tick == 0)] 63 (0, 0))) := (hk2 _ (by have := HLT.out; have := HBT.out; have := BC.out.size; omega)).trans HUV0.out
        have d4 := (row_cell HG2.out 4).1
        have d2 := (row_cell HG2.out 2).1
        simp at d4 d2
        have dT : V2.cell? ⟨T, 0, none⟩ = some (.int .i64 fr) := (World.cell?_of_block (hk2 T (by have := HLT.out; have := HTL.out; omega))).trans (cell_later BV.out (cell_later BC3.out T0.out))
        simp only [hV2]
        clear hV2 g3 g4 y3 y4 hk2
        refine wp_region_held_drew (S := (fun w' => w'.cell? ⟨g, 4, none⟩ = some (.int .i64 (tick + 1)) ∧ w'.cell? ⟨T, 0, none⟩ = some (.int .i64 fr))) (by kernel_rfl) ?_ (fun hHeld => ?_)
        · exact ⟨d4, dT⟩
        refine takeD (i := 0) (d := some 86) (v := ?_) _ rfl rfl (by kernel_rfl) (by kernel_rfl) (by kernel_rfl) (fun _ _ _ h => h) (by rfl) ?_ (by assumption) ?_
        rotate_left
        · (intro w hSw; (try dsimp only at hSw); go_simp) <;> with_reducible rfl
        try simp only [Act.put, List.setIfInBounds_toArray, List.set_cons_zero, List.set_cons_succ]
        refine takeD (i := 1) (d := some 87) (v := ?_) _ rfl rfl (by kernel_rfl) (by kernel_rfl) (by kernel_rfl) (fun _ _ _ h => h) (by rfl) ?_ (by assumption) ?_
        rotate_left
        · (intro w hSw; (try dsimp only at hSw); go_simp) <;> with_reducible rfl
        try simp only [Act.put, List.setIfInBounds_toArray, List.set_cons_zero, List.set_cons_succ]
        refine takeD (i := 2) (d := some 88) (v := ?_) _ rfl rfl (by kernel_rfl) (by kernel_rfl) (by kernel_rfl) (fun _ _ _ h => h) (by rfl) ?_ (by assumption) ?_
        rotate_left
        · (intro w hSw; (try dsimp only at hSw); go_simp) <;> with_reducible rfl
        try simp only [Act.put, List.setIfInBounds_toArray, List.set_cons_zero, List.set_cons_succ]
        refine takeD (i := 3) (d := some 89) (v := ?_) _ rfl rfl (by kernel_rfl) (by kernel_rfl) (by kernel_rfl) (fun _ _ _ h => h) (by rfl) ?_ (by assumption) ?_
        rotate_left
        · (intro w hSw; (try dsimp only at hSw); go_simp) <;> with_reducible rfl
        try simp only [Act.put, List.setIfInBounds_toArray, List.set_cons_zero, List.set_cons_succ]
        refine takeD (i := 4) (d := some 90) (v := ?_) _ rfl rfl (by kernel_rfl) (by kernel_rfl) (by kernel_rfl) (fun _ _ _ h => h) (by rfl) ?_ (by assumption) ?_
        rotate_left
        · (intro w hSw; (try dsimp only at hSw); go_simp) <;> with_reducible rfl
        try simp only [Act.put, List.setIfInBounds_toArray, List.set_cons_zero, List.set_cons_succ]
        refine takeD (i := 5) (d := some 91) (v := ?_) _ rfl rfl (by kernel_rfl) (by kernel_rfl) (by kernel_rfl) (fun _ _ _ h => h) (by rfl) ?_ (by assumption) ?_
        rotate_left
        · (intro w hSw; (try dsimp only at hSw); go_simp) <;> with_reducible rfl
        try simp only [Act.put, List.setIfInBounds_toArray, List.set_cons_zero, List.set_cons_succ]
        refine takeD (i := 6) (d := some 92) (v := ?_) _ rfl rfl (by kernel_rfl) (by kernel_rfl) (by kernel_rfl) (fun _ _ _ h => h) (by rfl) ?_ (by assumption) ?_
        rotate_left
        · (intro w hSw; (try dsimp only at hSw); go_simp) <;> with_reducible rfl
        try simp only [Act.put, List.setIfInBounds_toArray, List.set_cons_zero, List.set_cons_succ]
        refine wpAnyH_done (by kernel_rfl) ?_ _
        clear hHeld d4 dT d2
        obtain ⟨V3, hV3⟩ : ∃ V3, V2.drew = V3 := ⟨_, rfl⟩
        have HGV : Hid (V3.heap[g]? = some (.cells #[.slice (some ⟨b, off, none⟩) n c, .int .i64 (m : Int), .int .i64 next, .int .i64 (now + 1), .int .i64 (tick + 1)] 79 (0, 0))) := by rw [← hV3]; exact HG2.out
        have HPV : Hid (Past g w V3) := by rw [← hV3]; exact HP2.out.drew
        have HRV : Hid (V3.heap[w.heap.size]? = some (.cells #[.int .i64 0, .int .i64 0, .int .i64 0, .int .i64 0, .bool false, .bool false, .bool false] 63 (0, 0))) := by rw [← hV3]; exact HR2.out
        have HUV : Hid (V3.heap[bt]? = some (.cells #[.int .i64 now, .int .i64 (m : Int), .int .i64 xw, .int .i64 (xf + xl - tick), .bool (tick == xf), .bool (xf + xl - tick == 1), .bool (tick == 0)] 63 (0, 0))) := by rw [← hV3]; exact HU2.out
        simp only [hV3]
        clear hV3
        by_cases ht : tick + 1 = fr
        · have htb : (tick + 1 == fr) = true := by simpa using ht
          have g2 := (row_cell HGV.out 2).1
          have g1 := (row_cell HGV.out 1).1
          have g4 := (row_cell HGV.out 4).1
          have y1 := (row_cell HGV.out 1).2
          have y4 := (row_cell HGV.out 4).2
          simp at g1 g2 g4
          go_upto_region 12 with fail
          obtain ⟨V4, hV4⟩ : ∃ V4, (V3.setCell ⟨g, 4, none⟩ (.int .i64 0)).setCell ⟨g, 1, none⟩ (.int .i64 next) = V4 := ⟨_, rfl⟩
          have hk4 : ∀ k, k ≠ g → V4.heap[k]? = V3.heap[k]? := fun k hk => by rw [← hV4, set_far _ _ hk, set_far _ _ hk]
          have HGV : Hid (V4.heap[g]? = some (.cells #[.slice (some ⟨b, off, none⟩) n c, .int .i64 next, .int .i64 next, .int .i64 (now + 1), .int .i64 0] 79 (0, 0))) := by
            rw [← hV4]
            have h := set_at (set_at HGV.out 4 (.int .i64 0)) 1 (.int .i64 next)
            unfold Hid; simpa using h
          have HPV : Hid (Past g w V4) := by rw [← hV4]; exact (HPV.out.setCell 4 _).setCell 1 _
          have HRV : Hid (V4.heap[w.heap.size]? = some (.cells #[.int .i64 0, .int .i64 0, .int .i64 0, .int .i64 0, .bool false, .bool false, .bool false] 63 (0, 0))) := (hk4 _ (by have := HLT.out; omega)).trans HRV.out
          have HUV : Hid (V4.heap[bt]? = some (.cells #[.int .i64 now, .int .i64 (m : Int), .int .i64 xw, .int .i64 (xf + xl - tick), .bool (tick == xf), .bool (xf + xl - tick == 1), .bool (tick == 0)] 63 (0, 0))) := (hk4 _ (by have := HLT.out; have := HBT.out; have := BC.out.size; omega)).trans HUV.out
          simp only [hV4]
          clear hV4 g1 g2 g4 y1 y4 hk4
          have z0 := (row_cell HUV.out 0).1
          have z1 := (row_cell HUV.out 1).1
          have z2 := (row_cell HUV.out 2).1
          have z3 := (row_cell HUV.out 3).1
          have z4 := (row_cell HUV.out 4).1
          have z5 := (row_cell HUV.out 5).1
          have z6 := (row_cell HUV.out 6).1
          have x0 := (row_cell HRV.out 0).1
          have y0 := (row_cell HRV.out 0).2
          have x1 := (row_cell HRV.out 1).1
          have y1 := (row_cell HRV.out 1).2
          have x2 := (row_cell HRV.out 2).1
          have y2 := (row_cell HRV.out 2).2
          have x3 := (row_cell HRV.out 3).1
          have y3 := (row_cell HRV.out 3).2
          have x4 := (row_cell HRV.out 4).1
          have y4 := (row_cell HRV.out 4).2
          have x5 := (row_cell HRV.out 5).1
          have y5 := (row_cell HRV.out 5).2
          have x6 := (row_cell HRV.out 6).1
          have y6 := (row_cell HRV.out 6).2
          simp at z0 z1 z2 z3 z4 z5 z6 x0 x1 x2 x3 x4 x5 x6
          have HRF : Hid ((((((((V4.setCell ⟨w.heap.size, 0, none⟩ (.int .i64 now)).setCell ⟨w.heap.size, 1, none⟩ (.int .i64 (m : Int))).setCell ⟨w.heap.size, 2, none⟩ (.int .i64 xw)).setCell ⟨w.heap.size, 3, none⟩ (.int .i64 (xf + xl - tick))).setCell ⟨w.heap.size, 4, none⟩ (.bool (tick == xf))).setCell ⟨w.heap.size, 5, none⟩ (.bool (xf + xl - tick == 1))).setCell ⟨w.heap.size, 6, none⟩ (.bool (tick == 0))).heap[w.heap.size]? = some (.cells [.int .i64 now, .int .i64 (m : Int), .int .i64 xw, .int .i64 (xf + xl - tick), .bool (tick == xf), .bool (xf + xl - tick == 1), .bool (tick == 0)].toArray 63 (0, 0))) := by
            have h := (set_at (set_at (set_at (set_at (set_at (set_at (set_at HRV.out 0 (.int .i64 now)) 1 (.int .i64 (m : Int))) 2 (.int .i64 xw)) 3 (.int .i64 (xf + xl - tick))) 4 (.bool (tick == xf))) 5 (.bool (xf + xl - tick == 1))) 6 (.bool (tick == 0)))
            unfold Hid; simpa using h
          have HPF : Hid (Past g w (((((((V4.setCell ⟨w.heap.size, 0, none⟩ (.int .i64 now)).setCell ⟨w.heap.size, 1, none⟩ (.int .i64 (m : Int))).setCell ⟨w.heap.size, 2, none⟩ (.int .i64 xw)).setCell ⟨w.heap.size, 3, none⟩ (.int .i64 (xf + xl - tick))).setCell ⟨w.heap.size, 4, none⟩ (.bool (tick == xf))).setCell ⟨w.heap.size, 5, none⟩ (.bool (xf + xl - tick == 1))).setCell ⟨w.heap.size, 6, none⟩ (.bool (tick == 0)))) := (((((((HPV.out.setNew (Nat.le_refl _) 0 (.int .i64 now)).setNew (Nat.le_refl _) 1 (.int .i64 (m : Int))).setNew (Nat.le_refl _) 2 (.int .i64 xw)).setNew (Nat.le_refl _) 3 (.int .i64 (xf + xl - tick))).setNew (Nat.le_refl _) 4 (.bool (tick == xf))).setNew (Nat.le_refl _) 5 (.bool (xf + xl - tick == 1))).setNew (Nat.le_refl _) 6 (.bool (tick == 0)))
          have HGF : Hid ((((((((V4.setCell ⟨w.heap.size, 0, none⟩ (.int .i64 now)).setCell ⟨w.heap.size, 1, none⟩ (.int .i64 (m : Int))).setCell ⟨w.heap.size, 2, none⟩ (.int .i64 xw)).setCell ⟨w.heap.size, 3, none⟩ (.int .i64 (xf + xl - tick))).setCell ⟨w.heap.size, 4, none⟩ (.bool (tick == xf))).setCell ⟨w.heap.size, 5, none⟩ (.bool (xf + xl - tick == 1))).setCell ⟨w.heap.size, 6, none⟩ (.bool (tick == 0))).heap[g]? = some (.cells #[.slice (some ⟨b, off, none⟩) n c, .int .i64 next, .int .i64 next, .int .i64 (now + 1), .int .i64 0] 79 (0, 0))) := by
            have hne : g ≠ w.heap.size := by have := HLT.out; omega
            unfold Hid
            rw [set_far _ _ hne, set_far _ _ hne, set_far _ _ hne, set_far _ _ hne, set_far _ _ hne, set_far _ _ hne, set_far _ _ hne]
            exact HGV.out
          go_wp2_with fail
          refine bodyPost_ret (results_cell_mid rfl _ _ w.heap.size _ _ rfl (range_heap HRF.out) Try.underlying63 rfl (by kernel_rfl)) rfl ?_
          refine ⟨?_, ?_, HPF.out⟩
          · first | rfl | (unfold MU.cells; simp [hneB]) | (unfold MU.cells; simp)
          · have hst : stepOf ⟨ts, (m : Int), next, now, tick⟩ ⟨fr, ws⟩ = ⟨ts, next, next, now + 1, 0⟩ := by unfold stepOf; rw [if_pos ht]
            rw [hst]
            refine ⟨.slice (some ⟨b, off, none⟩) n c, HGF.out, HLT.out.1, HLT.out.2.1, Nat.le_trans HLT.out.2.2 HPF.out.size, ?_⟩
            exact HT.out.keep fun k h1 h2 h3 => HPF.out.block k (by have := HLT.out; omega) h3
        · have htb : (tick + 1 == fr) = false := by simpa using ht
          go_upto_region 12 with fail
          have z0 := (row_cell HUV.out 0).1
          have z1 := (row_cell HUV.out 1).1
          have z2 := (row_cell HUV.out 2).1
          have z3 := (row_cell HUV.out 3).1
          have z4 := (row_cell HUV.out 4).1
          have z5 := (row_cell HUV.out 5).1
          have z6 := (row_cell HUV.out 6).1
          have x0 := (row_cell HRV.out 0).1
          have y0 := (row_cell HRV.out 0).2
          have x1 := (row_cell HRV.out 1).1
          have y1 := (row_cell HRV.out 1).2
          have x2 := (row_cell HRV.out 2).1
          have y2 := (row_cell HRV.out 2).2
          have x3 := (row_cell HRV.out 3).1
          have y3 := (row_cell HRV.out 3).2
          have x4 := (row_cell HRV.out 4).1
          have y4 := (row_cell HRV.out 4).2
          have x5 := (row_cell HRV.out 5).1
          have y5 := (row_cell HRV.out 5).2
          have x6 := (row_cell HRV.out 6).1
          have y6 := (row_cell HRV.out 6).2
          simp at z0 z1 z2 z3 z4 z5 z6 x0 x1 x2 x3 x4 x5 x6
          have HRF : Hid ((((((((V3.setCell ⟨w.heap.size, 0, none⟩ (.int .i64 now)).setCell ⟨w.heap.size, 1, none⟩ (.int .i64 (m : Int))).setCell ⟨w.heap.size, 2, none⟩ (.int .i64 xw)).setCell ⟨w.heap.size, 3, none⟩ (.int .i64 (xf + xl - tick))).setCell ⟨w.heap.size, 4, none⟩ (.bool (tick == xf))).setCell ⟨w.heap.size, 5, none⟩ (.bool (xf + xl - tick == 1))).setCell ⟨w.heap.size, 6, none⟩ (.bool (tick == 0))).heap[w.heap.size]? = some (.cells [.int .i64 now, .int .i64 (m : Int), .int .i64 xw, .int .i64 (xf + xl - tick), .bool (tick == xf), .bool (xf + xl - tick == 1), .bool (tick == 0)].toArray 63 (0, 0))) := by
            have h := (set_at (set_at (set_at (set_at (set_at (set_at (set_at HRV.out 0 (.int .i64 now)) 1 (.int .i64 (m : Int))) 2 (.int .i64 xw)) 3 (.int .i64 (xf + xl - tick))) 4 (.bool (tick == xf))) 5 (.bool (xf + xl - tick == 1))) 6 (.bool (tick == 0)))
            unfold Hid; simpa using h
          have HPF : Hid (Past g w (((((((V3.setCell ⟨w.heap.size, 0, none⟩ (.int .i64 now)).setCell ⟨w.heap.size, 1, none⟩ (.int .i64 (m : Int))).setCell ⟨w.heap.size, 2, none⟩ (.int .i64 xw)).setCell ⟨w.heap.size, 3, none⟩ (.int .i64 (xf + xl - tick))).setCell ⟨w.heap.size, 4, none⟩ (.bool (tick == xf))).setCell ⟨w.heap.size, 5, none⟩ (.bool (xf + xl - tick == 1))).setCell ⟨w.heap.size, 6, none⟩ (.bool (tick == 0)))) := (((((((HPV.out.setNew (Nat.le_refl _) 0 (.int .i64 now)).setNew (Nat.le_refl _) 1 (.int .i64 (m : Int))).setNew (Nat.le_refl _) 2 (.int .i64 xw)).setNew (Nat.le_refl _) 3 (.int .i64 (xf + xl - tick))).setNew (Nat.le_refl _) 4 (.bool (tick == xf))).setNew (Nat.le_refl _) 5 (.bool (xf + xl - tick == 1))).setNew (Nat.le_refl _) 6 (.bool (tick == 0)))
          have HGF : Hid ((((((((V3.setCell ⟨w.heap.size, 0, none⟩ (.int .i64 now)).setCell ⟨w.heap.size, 1, none⟩ (.int .i64 (m : Int))).setCell ⟨w.heap.size, 2, none⟩ (.int .i64 xw)).setCell ⟨w.heap.size, 3, none⟩ (.int .i64 (xf + xl - tick))).setCell ⟨w.heap.size, 4, none⟩ (.bool (tick == xf))).setCell ⟨w.heap.size, 5, none⟩ (.bool (xf + xl - tick == 1))).setCell ⟨w.heap.size, 6, none⟩ (.bool (tick == 0))).heap[g]? = some (.cells #[.slice (some ⟨b, off, none⟩) n c, .int .i64 (m : Int), .int .i64 next, .int .i64 (now + 1), .int .i64 (tick + 1)] 79 (0, 0))) := by
            have hne : g ≠ w.heap.size := by have := HLT.out; omega
            unfold Hid
            rw [set_far _ _ hne, set_far _ _ hne, set_far _ _ hne, set_far _ _ hne, set_far _ _ hne, set_far _ _ hne, set_far _ _ hne]
            exact HGV.out
          go_wp2_with fail
          refine bodyPost_ret (results_cell_mid rfl _ _ w.heap.size _ _ rfl (range_heap HRF.out) Try.underlying63 rfl (by kernel_rfl)) rfl ?_
          refine ⟨?_, ?_, HPF.out⟩
          · first | rfl | (unfold MU.cells; simp [hneB]) | (unfold MU.cells; simp)
          · have hst : stepOf ⟨ts, (m : Int), next, now, tick⟩ ⟨fr, ws⟩ = ⟨ts, (m : Int), next, now + 1, tick + 1⟩ := by unfold stepOf; rw [if_neg ht]
            rw [hst]
            refine ⟨.slice (some ⟨b, off, none⟩) n c, HGF.out, HLT.out.1, HLT.out.2.1, Nat.le_trans HLT.out.2.2 HPF.out.size, ?_⟩
            exact HT.out.keep fun k h1 h2 h3 => HPF.out.block k (by have := HLT.out; omega) h3
end Go.Proofs.Ytcnhghnkocdjkaa
