/-
  Contracts of Load, Fetch and Store. Each statement bears its own conditions.
-/
import Derived.Test.YtliggejkpmlgfaaSpF
namespace Go.Proofs.Ytliggejkpmlgfaa
open Go.RowKit
set_option linter.unusedVariables false
set_option linter.unusedSimpArgs false
set_option maxRecDepth 100000 in
set_option maxHeartbeats 4000000 in
theorem find_nil (at_ : Int) (w : World) : Calls Try.prog 37 #[.pointer none, .int .i64 at_] w fun e w' => e = .returned (.tuple #[.int .i64 (-1), .agg #[.int .i64 0, .int .i64 0, .bool false, .bool false, .bool false]]) ∧ Below w.heap.size w w' := by
  have he : ∀ w : World, (binOp .eql 25 (.pointer none) (.pointer none)).run Try.prog w = .ok (.bool true) w := fun _ => rfl
  go_enter Try.func37, Try.ntmps37
  go_wp2_with fail
  refine bodyPost_ret (results_tmp_cell rfl _ _ w.heap.size [.int .i64 0, .int .i64 0, .bool false, .bool false, .bool false] _ rfl (fun j v hv => ?_) Try.underlying57 rfl (by kernel_rfl)) rfl ?_
  · rw [Nat.zero_add, World.cell?_alloc_new]; simpa using hv
  · exact ⟨rfl, (Below.refl _ _).alloc (Nat.le_refl _) _⟩
/-- What is loaded, fetched and stored, and the error. -/
def ldV (at_ : Int) (l : List MA) (LL : List (List Int)) : Int × Int := match atL at_ l 0 with
  | none => (0, 2)
  | some (i, k) => (((LL[i]?).getD [])[k]?.getD 0, 0)
def ftV (at_ : Int) (l : List MA) (LL : List (List Int)) : Int × Int := match atL at_ l 0 with
  | none => (0, 2)
  | some (i, k) => if (fdA at_ l).rn = false then (0, 11) else (((LL[i]?).getD [])[k]?.getD 0, 0)
def putL (LL : List (List Int)) (i k : Nat) (y : Int) : List (List Int) := LL.set i (((LL[i]?).getD []).set k y)
def stV (at_ y : Int) (l : List MA) (LL : List (List Int)) : List (List Int) × Int := match atL at_ l 0 with
  | none => (LL, 2)
  | some (i, k) => if (fdA at_ l).wr = false then (LL, 11) else (putL LL i k y, 0)
theorem Sh.put {l : List MA} {LL : List (List Int)} (h : Sh l LL) (i k : Nat) {y : Int} (hy : U32 y) : Sh l (putL LL i k y) := by
  unfold putL
  rcases hL : LL[i]? with _ | L
  · have : LL.set i (([] : List Int).set k y) = LL := List.set_eq_of_length_le (by
      rcases Nat.lt_or_ge i LL.length with h1 | h1
      · rw [List.getElem?_eq_getElem h1] at hL; cases hL
      · exact h1)
    show Sh l (LL.set i (([] : List Int).set k y))
    rw [this]; exact h
  · exact h.set hL hy
/-- What is found. -/
theorem Sh.fd {l : List MA} {LL : List (List Int)} (h : Sh l LL) {at_ : Int} {i k : Nat} (hp : atL at_ l 0 = some (i, k)) :
    ∃ (j : Nat) (x : MA) (u : Int), fdI at_ l = (j : Int) ∧ fdA at_ l = x ∧ l[i]? = some x ∧ ((LL[i]?).getD [])[k]? = some u ∧ LL.flatten[j]? = some u ∧ (∀ y, (putL LL i k y).flatten = LL.flatten.set j y) ∧ U32 u := by
  obtain ⟨x, L, u, h1, h2, h3, h4, h5, h6⟩ := h.at_ hp
  obtain ⟨g1, g2, g3⟩ := flat_at h.len h.each h2 h3
  refine ⟨(sumW (l.take i)).toNat + k, x, u, ?_, ?_, h1, by rw [h2]; exact h3, g1, fun y => ?_, h.word L (List.mem_of_getElem? h2) u (List.mem_of_getElem? h3)⟩
  · unfold fdI; rw [hp]; dsimp only; omega
  · unfold fdA; rw [hp]; dsimp only; rw [h1]; rfl
  · unfold putL; rw [h2]; exact g3 y
theorem sp_word {lo hi : Nat} {w : World} {p rb j : Nat} {l : List MA} {ws : List Int} {u : Int} (h : SP lo hi w p rb l ws) (hu : ws[j]? = some u) : ∃ cap, w.cell? ⟨p, 1, none⟩ = some (.slice (some ⟨rb, 0, none⟩) ws.length cap) ∧ w.cell? ⟨rb, j, none⟩ = some (.int .u32 u) ∧ w.frozen? ⟨rb, j, none⟩ = false ∧ j < ws.length := by
  obtain ⟨A, c, cap, h1, h2, h3, h4⟩ := h.st
  refine ⟨cap, ?_, ?_, ?_, (List.getElem?_eq_some_iff.1 hu).1⟩
  · have := (row_cell h1 1).1
    simpa using this
  · have := h3.cells (g := rb) rfl j _ (CU_at hu)
    rw [Addr.add_lit] at this
    simpa using this
  · rcases h3.2 with ⟨h5, _⟩ | ⟨g', cap', cur, hv, _, hg, _⟩
    · cases h5
    · injection hv with e1 e2 e3
      injection e1 with e1
      injection e1 with e1
      subst e1
      exact (row_cell hg j).2
theorem SP.set {lo hi : Nat} {w : World} {p rb j : Nat} {l : List MA} {ws : List Int} {y : Int} (h : SP lo hi w p rb l ws) (hj : j < ws.length) : SP lo hi (w.setCell ⟨rb, j, none⟩ (.int .u32 y)) p rb l (ws.set j y) := by
  obtain ⟨va, cap, h1, h2, h3, h4⟩ := h.ex
  refine ⟨by simpa [World.setCell] using h.hs, h.hp, h.hr, h.ne, va, cap, ?_, own_same h2 fun g hg => set_far _ _ (h3 g hg).1, h3, ?_⟩
  · rw [set_far _ _ h.ne, List.length_set]; exact h1
  · rw [List.length_set, CU_set]
    refine ⟨by rw [List.length_set]; exact h4.1, ?_⟩
    rcases h4.2 with ⟨h5, _⟩ | ⟨g', cap', cur, hv, hb, hg, h6, h7, h8, h9⟩
    · cases h5
    · injection hv with e1 e2 e3
      injection e1 with e1
      injection e1 with e1
      subst e1 e3
      refine .inr ⟨rb, cap, _, rfl, hb, set_at hg j _, h6, h7, by simpa using h8, ?_⟩
      rw [← h9, Array.toList_setIfInBounds, List.take_set]
def UnderU (p : Nat) : Prop := True
set_option maxRecDepth 100000 in
set_option maxHeartbeats 4000000 in
theorem load_any (lo hi p rb : Nat) (l : List MA) (LL : List (List Int)) (at_ : Int) (w : World) (h : SP lo hi w p rb l LL.flatten) (hs : Sh l LL) (ha : U32 at_) :
    Calls Try.prog 20 #[.pointer (some ⟨p, 0, none⟩), .int .u32 at_] w fun e w' => e = .returned (.tuple #[.int .u32 (ldV at_ l LL).1, .int .i64 (ldV at_ l LL).2]) ∧ Below w.heap.size w w' := by
  have hsz := h.hs
  have CF := Lib.hid (find_any lo hi p rb l LL.flatten at_ w h hs.good hs.few ⟨ha.1, by have := ha.2; omega⟩)
  obtain ⟨ri, hri⟩ : ∃ ri, fdI at_ l = ri := ⟨_, rfl⟩
  obtain ⟨⟨f0, f1, f2, f3, f4⟩, hra⟩ : ∃ ra, fdA at_ l = ra := ⟨_, rfl⟩
  rw [hri, hra] at CF
  unfold MA.val at CF
  dsimp only at CF
  have H := Lib.hid h
  have hwr : IntKind.i64.wrap at_ = at_ := wrap_ok (by have := ha.1; omega) (by have := ha.2; omega)
  rcases hq : atL at_ l 0 with _ | ⟨i, k⟩
  · have hv : ldV at_ l LL = (0, 2) := by unfold ldV; rw [hq]
    have hi1 : ri = -1 := by rw [← hri]; unfold fdI; rw [hq]
    subst hi1
    rw [hv]
    dsimp only
    clear hri hra hv hq hs ha h hsz
    go_enter Try.func20, Try.ntmps20
    go_wp2_with fail
    refine CF.out.mono ?_
    rintro e W1 ⟨rfl, b1⟩
    go_wp2_with fail
    go_ret2
    exact ⟨rfl, b1.alloc b1.size _⟩
  · obtain ⟨j, x, u, e1, e2, e3, e4, e5, e6, e7⟩ := hs.fd hq
    have hv : ldV at_ l LL = (u, 0) := by unfold ldV; rw [hq]; dsimp only; rw [e4]; rfl
    obtain ⟨cap, c1, c2, c3, c4⟩ := sp_word h e5
    have hrj : ri = (j : Int) := hri.symm.trans e1
    subst hrj
    obtain ⟨m, hm⟩ : ∃ m, LL.flatten.length = m := ⟨_, rfl⟩
    rw [hm] at c1 c4
    have hju : (0 : Int) ≤ (j : Int) := by omega
    rw [hv]
    dsimp only
    clear hri hra hv hq hs ha h hsz e1 e2 e3 e4 e5 e6 e7 hm
    go_enter Try.func20, Try.ntmps20
    go_wp2_with fail
    refine CF.out.mono ?_
    rintro e W1 ⟨rfl, b1⟩
    have d1 := cell_al (.cells #[.int .i64 f0, .int .i64 f1, .bool f2, .bool f3, .bool f4] 57) (cell_later b1 c1)
    have d2 := cell_al (.cells #[.int .i64 f0, .int .i64 f1, .bool f2, .bool f3, .bool f4] 57) (cell_later b1 c2)
    clear c1 c2 c3 CF H
    go_wp2_with fail
    go_ret2
    exact ⟨rfl, b1.alloc b1.size _⟩
set_option maxRecDepth 100000 in
set_option maxHeartbeats 4000000 in
theorem fetch_any (lo hi p rb : Nat) (l : List MA) (LL : List (List Int)) (at_ : Int) (w : World) (h : SP lo hi w p rb l LL.flatten) (hs : Sh l LL) (ha : U32 at_) :
    Calls Try.prog 21 #[.pointer (some ⟨p, 0, none⟩), .int .u32 at_] w fun e w' => e = .returned (.tuple #[.int .u32 (ftV at_ l LL).1, .int .i64 (ftV at_ l LL).2]) ∧ Below w.heap.size w w' := by
  have hsz := h.hs
  have CF := Lib.hid (find_any lo hi p rb l LL.flatten at_ w h hs.good hs.few ⟨ha.1, by have := ha.2; omega⟩)
  obtain ⟨ri, hri⟩ : ∃ ri, fdI at_ l = ri := ⟨_, rfl⟩
  obtain ⟨⟨f0, f1, f2, f3, f4⟩, hra⟩ : ∃ ra, fdA at_ l = ra := ⟨_, rfl⟩
  rw [hri, hra] at CF
  unfold MA.val at CF
  dsimp only at CF
  have H := Lib.hid h
  have hwr : IntKind.i64.wrap at_ = at_ := wrap_ok (by have := ha.1; omega) (by have := ha.2; omega)
  rcases hq : atL at_ l 0 with _ | ⟨i, k⟩
  · have hv : ftV at_ l LL = (0, 2) := by unfold ftV; rw [hq]
    have hi1 : ri = -1 := by rw [← hri]; unfold fdI; rw [hq]
    subst hi1
    rw [hv]
    dsimp only
    clear hri hra hv hq hs ha h hsz
    go_enter Try.func21, Try.ntmps21
    go_wp2_with fail
    refine CF.out.mono ?_
    rintro e W1 ⟨rfl, b1⟩
    go_wp2_with fail
    go_ret2
    exact ⟨rfl, b1.alloc b1.size _⟩
  · obtain ⟨j, x, u, e1, e2, e3, e4, e5, e6, e7⟩ := hs.fd hq
    obtain ⟨cap, c1, c2, c3, c4⟩ := sp_word h e5
    have hrj : ri = (j : Int) := hri.symm.trans e1
    subst hrj
    obtain ⟨m, hm⟩ : ∃ m, LL.flatten.length = m := ⟨_, rfl⟩
    rw [hm] at c1 c4
    have hju : (0 : Int) ≤ (j : Int) := by omega
    cases f3 with
    | false =>
      have hv : ftV at_ l LL = (0, 11) := by unfold ftV; rw [hq]; dsimp only; rw [hra]; rfl
      rw [hv]
      dsimp only
      clear hri hra hv hq hs ha h hsz e1 e2 e3 e4 e5 e6 e7 hm
      go_enter Try.func21, Try.ntmps21
      go_wp2_with fail
      refine CF.out.mono ?_
      rintro e W1 ⟨rfl, b1⟩
      clear c1 c2 c3 CF H
      go_wp2_with fail
      go_ret2
      exact ⟨rfl, b1.alloc b1.size _⟩
    | true =>
      have hv : ftV at_ l LL = (u, 0) := by unfold ftV; rw [hq]; dsimp only; rw [hra, e4]; rfl
      rw [hv]
      dsimp only
      clear hri hra hv hq hs ha h hsz e1 e2 e3 e4 e5 e6 e7 hm
      go_enter Try.func21, Try.ntmps21
      go_wp2_with fail
      refine CF.out.mono ?_
      rintro e W1 ⟨rfl, b1⟩
      have d1 := cell_al (.cells #[.int .i64 f0, .int .i64 f1, .bool f2, .bool true, .bool f4] 57) (cell_later b1 c1)
      have d2 := cell_al (.cells #[.int .i64 f0, .int .i64 f1, .bool f2, .bool true, .bool f4] 57) (cell_later b1 c2)
      clear c1 c2 c3 CF H
      go_wp2_with fail
      go_ret2
      exact ⟨rfl, b1.alloc b1.size _⟩
set_option maxRecDepth 100000 in
set_option maxHeartbeats 4000000 in
theorem store_any (lo hi p rb : Nat) (l : List MA) (LL : List (List Int)) (at_ y : Int) (w : World) (h : SP lo hi w p rb l LL.flatten) (hs : Sh l LL) (ha : U32 at_) :
    Calls Try.prog 22 #[.pointer (some ⟨p, 0, none⟩), .int .u32 at_, .int .u32 y] w fun e w' => e = .returned (.int .i64 (stV at_ y l LL).2) ∧ SP lo hi w' p rb l (stV at_ y l LL).1.flatten ∧ Past rb w w' := by
  have hsz := h.hs
  have CF := Lib.hid (find_any lo hi p rb l LL.flatten at_ w h hs.good hs.few ⟨ha.1, by have := ha.2; omega⟩)
  obtain ⟨ri, hri⟩ : ∃ ri, fdI at_ l = ri := ⟨_, rfl⟩
  obtain ⟨⟨f0, f1, f2, f3, f4⟩, hra⟩ : ∃ ra, fdA at_ l = ra := ⟨_, rfl⟩
  rw [hri, hra] at CF
  unfold MA.val at CF
  dsimp only at CF
  have H := Lib.hid h
  have hwr : IntKind.i64.wrap at_ = at_ := wrap_ok (by have := ha.1; omega) (by have := ha.2; omega)
  rcases hq : atL at_ l 0 with _ | ⟨i, k⟩
  · have hv : stV at_ y l LL = (LL, 2) := by unfold stV; rw [hq]
    have hi1 : ri = -1 := by rw [← hri]; unfold fdI; rw [hq]
    subst hi1
    rw [hv]
    dsimp only
    clear hri hra hv hq hs ha h hsz
    go_enter Try.func22, Try.ntmps22
    go_wp2_with fail
    refine CF.out.mono ?_
    rintro e W1 ⟨rfl, b1⟩
    go_wp2_with fail
    go_ret
    exact ⟨rfl, H.out.below (b1.alloc b1.size _), Past.of_below (b1.alloc b1.size _)⟩
  · obtain ⟨j, x, u, e1, e2, e3, e4, e5, e6, e7⟩ := hs.fd hq
    have hrj : ri = (j : Int) := hri.symm.trans e1
    subst hrj
    have hju : (0 : Int) ≤ (j : Int) := by omega
    cases f2 with
    | false =>
      have hv : stV at_ y l LL = (LL, 11) := by unfold stV; rw [hq]; dsimp only; rw [hra]; rfl
      rw [hv]
      dsimp only
      clear hri hra hv hq hs ha h hsz e1 e2 e3 e4 e5 e6 e7
      go_enter Try.func22, Try.ntmps22
      go_wp2_with fail
      refine CF.out.mono ?_
      rintro e W1 ⟨rfl, b1⟩
      go_wp2_with fail
      go_ret
      exact ⟨rfl, H.out.below (b1.alloc b1.size _), Past.of_below (b1.alloc b1.size _)⟩
    | true =>
      have hv : stV at_ y l LL = (putL LL i k y, 0) := by unfold stV; rw [hq]; dsimp only; rw [hra]; rfl
      rw [hv]
      dsimp only
      rw [e6]
      have HU := Lib.hid e5
      clear hri hra hv hq hs ha h hsz e1 e2 e3 e4 e5 e6 e7
      go_enter Try.func22, Try.ntmps22
      go_wp2_with fail
      refine CF.out.mono ?_
      rintro e W1 ⟨rfl, b1⟩
      obtain ⟨W2, hW2⟩ : ∃ W2, W1.alloc (.cells #[.int .i64 f0, .int .i64 f1, .bool true, .bool f3, .bool f4] 57) = W2 := ⟨_, rfl⟩
      have hb2 : Below w.heap.size w W2 := by rw [← hW2]; exact b1.alloc b1.size _
      have hx : W2.cell? ⟨W1.heap.size, 2, none⟩ = some (.bool true) := by rw [← hW2]; simp
      have h2 := H.out.below hb2
      obtain ⟨cap, c1, c2, c3, c4⟩ := sp_word h2 HU.out
      have H2 := Lib.hid h2
      have HB2 := Lib.hid hb2
      have HJ := Lib.hid c4
      obtain ⟨m, hm⟩ : ∃ m, LL.flatten.length = m := ⟨_, rfl⟩
      rw [hm] at c1 c4
      clear CF H b1 hb2 h2 hm
      go_wp2_with fail
      go_ret
      exact ⟨rfl, H2.out.set HJ.out, (Past.of_below HB2.out).setCell _ _⟩
set_option maxRecDepth 100000 in
theorem load_nil (w : World) : Calls Try.prog 20 #[.pointer none, .int .u32 0] w fun e w' => e = .returned (.tuple #[.int .u32 0, .int .i64 2]) ∧ Below w.heap.size w w' := by
  have hwr : IntKind.i64.wrap 0 = 0 := rfl
  go_enter Try.func20, Try.ntmps20
  go_wp2_with fail
  refine (find_nil _ _).mono ?_
  rintro e W1 ⟨rfl, b1⟩
  go_wp2_with fail
  go_ret2
  exact ⟨rfl, b1.alloc b1.size _⟩
set_option maxRecDepth 100000 in
theorem fetch_nil (w : World) : Calls Try.prog 21 #[.pointer none, .int .u32 0] w fun e w' => e = .returned (.tuple #[.int .u32 0, .int .i64 2]) ∧ Below w.heap.size w w' := by
  have hwr : IntKind.i64.wrap 0 = 0 := rfl
  go_enter Try.func21, Try.ntmps21
  go_wp2_with fail
  refine (find_nil _ _).mono ?_
  rintro e W1 ⟨rfl, b1⟩
  go_wp2_with fail
  go_ret2
  exact ⟨rfl, b1.alloc b1.size _⟩
set_option maxRecDepth 100000 in
theorem store_nil (w : World) : Calls Try.prog 22 #[.pointer none, .int .u32 0, .int .u32 1] w fun e w' => e = .returned (.int .i64 2) ∧ Below w.heap.size w w' := by
  have hwr : IntKind.i64.wrap 0 = 0 := rfl
  go_enter Try.func22, Try.ntmps22
  go_wp2_with fail
  refine (find_nil _ _).mono ?_
  rintro e W1 ⟨rfl, b1⟩
  go_wp2_with fail
  go_ret
  exact ⟨rfl, b1.alloc b1.size _⟩
end Go.Proofs.Ytliggejkpmlgfaa
