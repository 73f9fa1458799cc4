/-
  What the reference answers. Each statement bears its own conditions.
-/
import Derived.Test.YtfmcmhgpgkeplaaBdL
namespace Go.Proofs.Ytfmcmhgpgkeplaa.B
open Go.RowKit Go.Proofs.Ytfmcmhgpgkeplaa.F Go.Proofs.Ytfmcmhgpgkeplaa.I
set_option linter.unusedVariables false
set_option linter.unusedSimpArgs false
theorem results_cell_tmp {P : Program} {fn : Func} {p q : Tmp} {ty : TypeId} (h : fn.results = #[.cell p ty, .tmp q]) (tmps : Array Value) (w : World) (g : Nat) (cs : List Value) (d : TypeDesc)
    (hp : tmps.getD p undef = .pointer (some ⟨g, 0, none⟩)) (hc : w.rangeAt g 0 cs)
    (hu : P.underlying ty = some d) (hd : d.isRow = true) (hi : (P.info? ty).map (·.size) = some cs.length) :
    (results fn tmps).run P w = .ok (.tuple #[.agg cs.toArray, tmps.getD q undef]) w := by
  have hp' : tmps[p]?.getD undef = .pointer (some ⟨g, 0, none⟩) := by simpa using hp
  simp [results, h, hp', asAddr, run_loadVar_mid w g 0 ty cs d hc hu hd hi]
theorem results_cell_two {P : Program} {fn : Func} {p q s : Tmp} {ty : TypeId} (h : fn.results = #[.cell p ty, .tmp q, .tmp s]) (tmps : Array Value) (w : World) (g : Nat) (cs : List Value) (d : TypeDesc)
    (hp : tmps.getD p undef = .pointer (some ⟨g, 0, none⟩)) (hc : w.rangeAt g 0 cs)
    (hu : P.underlying ty = some d) (hd : d.isRow = true) (hi : (P.info? ty).map (·.size) = some cs.length) :
    (results fn tmps).run P w = .ok (.tuple #[.agg cs.toArray, tmps.getD q undef, tmps.getD s undef]) w := by
  have hp' : tmps[p]?.getD undef = .pointer (some ⟨g, 0, none⟩) := by simpa using hp
  simp [results, h, hp', asAddr, run_loadVar_mid w g 0 ty cs d hc hu hd hi]
theorem results_cell_one {P : Program} {fn : Func} {p : Tmp} {ty : TypeId} (h : fn.results = #[.cell p ty]) (tmps : Array Value) (w : World) (g : Nat) (cs : List Value) (d : TypeDesc)
    (hp : tmps.getD p undef = .pointer (some ⟨g, 0, none⟩)) (hc : w.rangeAt g 0 cs)
    (hu : P.underlying ty = some d) (hd : d.isRow = true) (hi : (P.info? ty).map (·.size) = some cs.length) :
    (results fn tmps).run P w = .ok (.agg cs.toArray) w := by
  have hp' : tmps[p]?.getD undef = .pointer (some ⟨g, 0, none⟩) := by simpa using hp
  simp [results, h, hp', asAddr, run_loadVar_mid w g 0 ty cs d hc hu hd hi]
theorem set_four {w : World} {g : Nat} {c0 c1 c2 c3 : Value} {t : TypeId} (h : w.heap[g]? = some (.cells #[c0, c1, c2, c3] t (0, 0))) (a b c d : Value) : ((((w.setCell ⟨g, 0, none⟩ a).setCell ⟨g, 1, none⟩ b).setCell ⟨g, 2, none⟩ c).setCell ⟨g, 3, none⟩ d).rangeAt g 0 [a, b, c, d] := by
  have h1 := set_at (set_at (set_at (set_at h 0 a) 1 b) 2 c) 3 d
  intro j v hv
  rw [Nat.zero_add, (row_cell h1 j).1]
  simpa using hv
theorem rowB_new (w : World) : (w.alloc (.cells #[] 3)).ownsRow w.heap.size 3 1 (.slice (some ⟨w.heap.size, 0, none⟩) 0 0) 0 (C []) :=
  ⟨rfl, .inr ⟨w.heap.size, 0, #[], rfl, Nat.le_refl _, heap_alloc_new w _, Nat.le_refl _, by unfold maxLen; omega, rfl, rfl⟩⟩
structure HRelrhas (L : List Int) (x : Int) (n : Nat) (w : World) (iv : Value) (wr : World) : Prop where
  ex : ∃ j : Nat, j ≤ n ∧ iv = .int .i64 (j : Int) ∧ x ∉ L.take j ∧ wr = w
set_option maxRecDepth 100000 in
set_option maxHeartbeats 1000000 in
theorem rhas_any (p : Nat → Prop) (v : Value) (L : List Int) (x : Int) (w : World) (hr : Sq w p v L.length (C L)) (hL : L.length ≤ 1000) :
    Calls Try.prog 31 #[v, .int .i64 x] w fun e w' => Ix L x e ∧ w' = w := by
  obtain ⟨A, c, rfl⟩ := hr.form
  obtain ⟨n, hn⟩ : ∃ n, L.length = n := ⟨_, rfl⟩
  have HR := Lib.hid hr
  have HN := Lib.hid hn
  have HL : Hid (n ≤ 1000) := by unfold Hid; omega
  rw [hn] at HR ⊢
  clear hr hL hn
  go_enter Try.func31, Try.ntmps31
  go_wp2_with fail
  go_loopw [5] (fun i wr => HRelrhas L x n w i wr) (fun i _ => 1001 - (intOf i).toNat)
  case atStart => exact ⟨⟨0, Nat.zero_le _, rfl, by simp, rfl⟩⟩
  case round =>
    obtain ⟨⟨j, hj, rfl, hno, rfl⟩⟩ := hrel
    have HJ := Lib.hid hj
    have HNO := Lib.hid hno
    clear hj hno
    by_cases hlt : j < n
    · obtain ⟨_, b, off, rfl, _, _, hc⟩ := HR.out.at_ (by omega)
      obtain ⟨a, ha⟩ : ∃ a, Hid (L.getD j 0 = a) := ⟨_, rfl⟩
      have d0 := hc j _ (C_at L j (by rw [HN.out]; exact hlt))
      rw [ha.out] at d0
      clear hc
      have hjI : (j : Int) < (n : Int) := by omega
      have hj2 : (j : Int) < 1000 := by have := HL.out; omega
      have HX : Hid (j < n) := hlt
      clear hlt
      by_cases hxe : a = x
      · have HF : Hid (x ∈ L) := by
          unfold Hid
          rw [← hxe, ← ha.out]
          exact getD_in (by rw [HN.out]; exact HX.out)
        have HG : Hid (L[j]? = some x) := by
          unfold Hid
          rw [← hxe, ← ha.out, List.getD_eq_getElem?_getD, List.getElem?_eq_getElem (by rw [HN.out]; exact HX.out)]
          rfl
        have hxB : (a == x) = true := by rw [beq_iff_eq]; exact hxe
        have hxB' : (x == a) = true := by rw [beq_iff_eq]; exact hxe.symm
        subst hxe
        go_wp2_with fail
        go_ret
        exact ⟨.inl ⟨j, by rw [HN.out]; exact HX.out, HG.out, HNO.out, rfl⟩, rfl⟩
      · have hxB : (a == x) = false := by rw [beq_eq_false_iff_ne]; exact hxe
        have hxB' : (x == a) = false := by rw [beq_eq_false_iff_ne]; exact fun h => hxe h.symm
        have HNX : Hid (x ∉ L.take (j + 1)) := notin_next (by rw [HN.out]; exact HX.out) HNO.out ha.out hxe
        go_wp2_with fail
        go_roundw
        case rel =>
          have Q : HRelrhas L x n wr (.int .i64 ((j : Int) + 1)) wr := ⟨⟨j + 1, HX.out, by go_num, HNX.out, rfl⟩⟩
          first | exact Q | ((repeat apply Exists.intro); exact ⟨Q, rfl⟩)
        case measure => have := HX.out; have := HL.out; simp [intOf]; omega
    · have hjI : ¬ (j : Int) < (n : Int) := by omega
      have HF : Hid (x ∉ L) := by
        have := HNO.out
        rwa [List.take_of_length_le (by rw [HN.out]; omega)] at this
      clear hlt
      go_wp2_with fail
      go_ret
      exact ⟨.inr ⟨HF.out, rfl⟩, rfl⟩
set_option maxRecDepth 100000 in
set_option maxHeartbeats 4000000 in
theorem rshow_big (n : Int) (Am : Option Addr) (nm cm : Nat) (Al : Option Addr) (nl cl : Nat) (is : Bool) (Ak : Option Addr) (nk ck : Nat) (w : World) (hk : ¬ (nk : Int) ≤ n) :
    Calls Try.prog 15 #[.agg #[.int .i64 n, .slice Am nm cm, .bool is, .slice Al nl cl], .slice Ak nk ck] w fun e w' => e = .returned (.tuple #[.agg #[.int .i64 n, .slice Am nm cm, .bool is, .slice Al nl cl], .slice none 0 0, .int .i64 2]) ∧ Below w.heap.size w w' := by
  obtain ⟨X, hX⟩ : ∃ X, w.heap.size = X := ⟨_, rfl⟩
  obtain ⟨W0, hW0⟩ : ∃ W0, (w.alloc (.cells #[.int .i64 n, .slice Am nm cm, .bool is, .slice Al nl cl] 31)).alloc (.cells #[.int .i64 0, .slice none 0 0, .bool false, .slice none 0 0] 31) = W0 := ⟨_, rfl⟩
  have B0 : Hid (Below X w W0) := by rw [← hW0, ← hX]; exact (((Below.refl _ _).alloc (Nat.le_refl _) _).alloc (by simp) _)
  have S0 : Hid (W0.heap.size = X + 2) := by unfold Hid; rw [← hW0, ← hX]; simp
  have HX0 : Hid (W0.heap[X]? = some (.cells #[.int .i64 n, .slice Am nm cm, .bool is, .slice Al nl cl] 31 (0, 0))) := by
    rw [← hW0, ← hX]; exact (((Below.refl _ _).alloc (Nat.le_refl _) _).block _ (by simp)).trans (heap_alloc_new _ _)
  have HY0 : Hid (W0.heap[X + 1]? = some (.cells #[.int .i64 0, .slice none 0 0, .bool false, .slice none 0 0] 31 (0, 0))) := by
    rw [← hW0, ← hX]; have := heap_alloc_new (w.alloc (.cells #[.int .i64 n, .slice Am nm cm, .bool is, .slice Al nl cl] 31)) (.cells #[.int .i64 0, .slice none 0 0, .bool false, .slice none 0 0] 31); unfold Hid; simpa using this
  have x0 : W0.cell? ⟨X, 0, none⟩ = some (.int .i64 n) := by rw [(row_cell HX0.out 0).1]; rfl
  have xf0 : W0.frozen? ⟨X, 0, none⟩ = false := (row_cell HX0.out 0).2
  have x1 : W0.cell? ⟨X, 1, none⟩ = some (.slice Am nm cm) := by rw [(row_cell HX0.out 1).1]; rfl
  have xf1 : W0.frozen? ⟨X, 1, none⟩ = false := (row_cell HX0.out 1).2
  have x2 : W0.cell? ⟨X, 2, none⟩ = some (.bool is) := by rw [(row_cell HX0.out 2).1]; rfl
  have xf2 : W0.frozen? ⟨X, 2, none⟩ = false := (row_cell HX0.out 2).2
  have x3 : W0.cell? ⟨X, 3, none⟩ = some (.slice Al nl cl) := by rw [(row_cell HX0.out 3).1]; rfl
  have xf3 : W0.frozen? ⟨X, 3, none⟩ = false := (row_cell HX0.out 3).2
  have y0 : W0.cell? ⟨X + 1, 0, none⟩ = some (.int .i64 0) := by rw [(row_cell HY0.out 0).1]; rfl
  have yf0 : W0.frozen? ⟨X + 1, 0, none⟩ = false := (row_cell HY0.out 0).2
  have y1 : W0.cell? ⟨X + 1, 1, none⟩ = some (.slice none 0 0) := by rw [(row_cell HY0.out 1).1]; rfl
  have yf1 : W0.frozen? ⟨X + 1, 1, none⟩ = false := (row_cell HY0.out 1).2
  have y2 : W0.cell? ⟨X + 1, 2, none⟩ = some (.bool false) := by rw [(row_cell HY0.out 2).1]; rfl
  have yf2 : W0.frozen? ⟨X + 1, 2, none⟩ = false := (row_cell HY0.out 2).2
  have y3 : W0.cell? ⟨X + 1, 3, none⟩ = some (.slice none 0 0) := by rw [(row_cell HY0.out 3).1]; rfl
  have yf3 : W0.frozen? ⟨X + 1, 3, none⟩ = false := (row_cell HY0.out 3).2
  have hgt : n < (nk : Int) := by omega
  have hgt' : decide (n < (nk : Int)) = true := by simpa using hgt
  rw [hX]
  clear hk
  go_enter Try.func15, Try.ntmps15
  go_wp2_with fail
  refine bodyPost_ret (results_cell_two rfl _ _ (X + 1) _ _ rfl (set_four HY0.out _ _ _ _) Try.underlying31 rfl (by kernel_rfl)) rfl ?_
  exact ⟨rfl, ((((B0.out.setCell (by exact Nat.le_succ _) _).setCell (by exact Nat.le_succ _) _).setCell (by exact Nat.le_succ _) _).setCell (by exact Nat.le_succ _) _)⟩
set_option maxRecDepth 100000 in
set_option maxHeartbeats 4000000 in
theorem rshow_ok (n : Int) (Am : Option Addr) (nm cm : Nat) (Al : Option Addr) (nl cl : Nat) (is : Bool) (Ak : Option Addr) (nk ck : Nat) (w : World) (hk : (nk : Int) ≤ n) :
    Calls Try.prog 15 #[.agg #[.int .i64 n, .slice Am nm cm, .bool is, .slice Al nl cl], .slice Ak nk ck] w fun e w' => e = .returned (.tuple #[.agg #[.int .i64 n, .slice Ak nk ck, .bool true, .slice none 0 0], .slice Al nl cl, .int .i64 0]) ∧ Below w.heap.size w w' := by
  obtain ⟨X, hX⟩ : ∃ X, w.heap.size = X := ⟨_, rfl⟩
  obtain ⟨W0, hW0⟩ : ∃ W0, (w.alloc (.cells #[.int .i64 n, .slice Am nm cm, .bool is, .slice Al nl cl] 31)).alloc (.cells #[.int .i64 0, .slice none 0 0, .bool false, .slice none 0 0] 31) = W0 := ⟨_, rfl⟩
  have B0 : Hid (Below X w W0) := by rw [← hW0, ← hX]; exact (((Below.refl _ _).alloc (Nat.le_refl _) _).alloc (by simp) _)
  have S0 : Hid (W0.heap.size = X + 2) := by unfold Hid; rw [← hW0, ← hX]; simp
  have HX0 : Hid (W0.heap[X]? = some (.cells #[.int .i64 n, .slice Am nm cm, .bool is, .slice Al nl cl] 31 (0, 0))) := by
    rw [← hW0, ← hX]; exact (((Below.refl _ _).alloc (Nat.le_refl _) _).block _ (by simp)).trans (heap_alloc_new _ _)
  have HY0 : Hid (W0.heap[X + 1]? = some (.cells #[.int .i64 0, .slice none 0 0, .bool false, .slice none 0 0] 31 (0, 0))) := by
    rw [← hW0, ← hX]; have := heap_alloc_new (w.alloc (.cells #[.int .i64 n, .slice Am nm cm, .bool is, .slice Al nl cl] 31)) (.cells #[.int .i64 0, .slice none 0 0, .bool false, .slice none 0 0] 31); unfold Hid; simpa using this
  have x0 : W0.cell? ⟨X, 0, none⟩ = some (.int .i64 n) := by rw [(row_cell HX0.out 0).1]; rfl
  have xf0 : W0.frozen? ⟨X, 0, none⟩ = false := (row_cell HX0.out 0).2
  have x1 : W0.cell? ⟨X, 1, none⟩ = some (.slice Am nm cm) := by rw [(row_cell HX0.out 1).1]; rfl
  have xf1 : W0.frozen? ⟨X, 1, none⟩ = false := (row_cell HX0.out 1).2
  have x2 : W0.cell? ⟨X, 2, none⟩ = some (.bool is) := by rw [(row_cell HX0.out 2).1]; rfl
  have xf2 : W0.frozen? ⟨X, 2, none⟩ = false := (row_cell HX0.out 2).2
  have x3 : W0.cell? ⟨X, 3, none⟩ = some (.slice Al nl cl) := by rw [(row_cell HX0.out 3).1]; rfl
  have xf3 : W0.frozen? ⟨X, 3, none⟩ = false := (row_cell HX0.out 3).2
  have y0 : W0.cell? ⟨X + 1, 0, none⟩ = some (.int .i64 0) := by rw [(row_cell HY0.out 0).1]; rfl
  have yf0 : W0.frozen? ⟨X + 1, 0, none⟩ = false := (row_cell HY0.out 0).2
  have y1 : W0.cell? ⟨X + 1, 1, none⟩ = some (.slice none 0 0) := by rw [(row_cell HY0.out 1).1]; rfl
  have yf1 : W0.frozen? ⟨X + 1, 1, none⟩ = false := (row_cell HY0.out 1).2
  have y2 : W0.cell? ⟨X + 1, 2, none⟩ = some (.bool false) := by rw [(row_cell HY0.out 2).1]; rfl
  have yf2 : W0.frozen? ⟨X + 1, 2, none⟩ = false := (row_cell HY0.out 2).2
  have y3 : W0.cell? ⟨X + 1, 3, none⟩ = some (.slice none 0 0) := by rw [(row_cell HY0.out 3).1]; rfl
  have yf3 : W0.frozen? ⟨X + 1, 3, none⟩ = false := (row_cell HY0.out 3).2
  have hgt : ¬ n < (nk : Int) := by omega
  have hgt' : decide (n < (nk : Int)) = false := by simpa using hgt
  obtain ⟨W1, hW1⟩ : ∃ W1, ((W0.setCell ⟨X, 1, none⟩ (.slice Ak nk ck)).setCell ⟨X, 2, none⟩ (.bool true)).setCell ⟨X, 3, none⟩ (.slice none 0 0) = W1 := ⟨_, rfl⟩
  have X1 : Hid (W1.heap[X]? = some (.cells #[.int .i64 n, .slice Ak nk ck, .bool true, .slice none 0 0] 31 (0, 0))) := by rw [← hW1]; exact set_at (set_at (set_at HX0.out 1 _) 2 _) 3 _
  have Y1 : Hid (W1.heap[X + 1]? = some (.cells #[.int .i64 0, .slice none 0 0, .bool false, .slice none 0 0] 31 (0, 0))) := by rw [← hW1]; exact (set_far 3 _ (by omega)).trans ((set_far 2 _ (by omega)).trans ((set_far 1 _ (by omega)).trans HY0.out))
  have B1 : Hid (Below X w W1) := by rw [← hW1]; exact ((B0.out.setCell (Nat.le_refl _) _).setCell (Nat.le_refl _) _).setCell (Nat.le_refl _) _
  have p0 : W1.cell? ⟨X, 0, none⟩ = some (.int .i64 n) := by rw [(row_cell X1.out 0).1]; rfl
  have pf0 : W1.frozen? ⟨X, 0, none⟩ = false := (row_cell X1.out 0).2
  have p1 : W1.cell? ⟨X, 1, none⟩ = some (.slice Ak nk ck) := by rw [(row_cell X1.out 1).1]; rfl
  have pf1 : W1.frozen? ⟨X, 1, none⟩ = false := (row_cell X1.out 1).2
  have p2 : W1.cell? ⟨X, 2, none⟩ = some (.bool true) := by rw [(row_cell X1.out 2).1]; rfl
  have pf2 : W1.frozen? ⟨X, 2, none⟩ = false := (row_cell X1.out 2).2
  have p3 : W1.cell? ⟨X, 3, none⟩ = some (.slice none 0 0) := by rw [(row_cell X1.out 3).1]; rfl
  have pf3 : W1.frozen? ⟨X, 3, none⟩ = false := (row_cell X1.out 3).2
  have s0 : W1.cell? ⟨X + 1, 0, none⟩ = some (.int .i64 0) := by rw [(row_cell Y1.out 0).1]; rfl
  have sf0 : W1.frozen? ⟨X + 1, 0, none⟩ = false := (row_cell Y1.out 0).2
  have s1 : W1.cell? ⟨X + 1, 1, none⟩ = some (.slice none 0 0) := by rw [(row_cell Y1.out 1).1]; rfl
  have sf1 : W1.frozen? ⟨X + 1, 1, none⟩ = false := (row_cell Y1.out 1).2
  have s2 : W1.cell? ⟨X + 1, 2, none⟩ = some (.bool false) := by rw [(row_cell Y1.out 2).1]; rfl
  have sf2 : W1.frozen? ⟨X + 1, 2, none⟩ = false := (row_cell Y1.out 2).2
  have s3 : W1.cell? ⟨X + 1, 3, none⟩ = some (.slice none 0 0) := by rw [(row_cell Y1.out 3).1]; rfl
  have sf3 : W1.frozen? ⟨X + 1, 3, none⟩ = false := (row_cell Y1.out 3).2
  rw [hX]
  clear hk
  go_enter Try.func15, Try.ntmps15
  go_wp2_with fail
  refine bodyPost_ret (results_cell_two rfl _ _ (X + 1) _ _ rfl (set_four Y1.out _ _ _ _) Try.underlying31 rfl (by kernel_rfl)) rfl ?_
  exact ⟨rfl, ((((B1.out.setCell (by exact Nat.le_succ _) _).setCell (by exact Nat.le_succ _) _).setCell (by exact Nat.le_succ _) _).setCell (by exact Nat.le_succ _) _)⟩
set_option maxRecDepth 100000 in
set_option maxHeartbeats 4000000 in
theorem rclear_any (n : Int) (Am : Option Addr) (nm cm : Nat) (Al : Option Addr) (nl cl : Nat) (is : Bool) (w : World) :
    Calls Try.prog 18 #[.agg #[.int .i64 n, .slice Am nm cm, .bool is, .slice Al nl cl]] w fun e w' => e = .returned (.agg #[.int .i64 n, .slice none 0 0, .bool false, .slice Al nl cl]) ∧ Below w.heap.size w w' := by
  obtain ⟨X, hX⟩ : ∃ X, w.heap.size = X := ⟨_, rfl⟩
  obtain ⟨W0, hW0⟩ : ∃ W0, (w.alloc (.cells #[.int .i64 n, .slice Am nm cm, .bool is, .slice Al nl cl] 31)).alloc (.cells #[.int .i64 0, .slice none 0 0, .bool false, .slice none 0 0] 31) = W0 := ⟨_, rfl⟩
  have B0 : Hid (Below X w W0) := by rw [← hW0, ← hX]; exact (((Below.refl _ _).alloc (Nat.le_refl _) _).alloc (by simp) _)
  have S0 : Hid (W0.heap.size = X + 2) := by unfold Hid; rw [← hW0, ← hX]; simp
  have HX0 : Hid (W0.heap[X]? = some (.cells #[.int .i64 n, .slice Am nm cm, .bool is, .slice Al nl cl] 31 (0, 0))) := by
    rw [← hW0, ← hX]; exact (((Below.refl _ _).alloc (Nat.le_refl _) _).block _ (by simp)).trans (heap_alloc_new _ _)
  have HY0 : Hid (W0.heap[X + 1]? = some (.cells #[.int .i64 0, .slice none 0 0, .bool false, .slice none 0 0] 31 (0, 0))) := by
    rw [← hW0, ← hX]; have := heap_alloc_new (w.alloc (.cells #[.int .i64 n, .slice Am nm cm, .bool is, .slice Al nl cl] 31)) (.cells #[.int .i64 0, .slice none 0 0, .bool false, .slice none 0 0] 31); unfold Hid; simpa using this
  have x0 : W0.cell? ⟨X, 0, none⟩ = some (.int .i64 n) := by rw [(row_cell HX0.out 0).1]; rfl
  have xf0 : W0.frozen? ⟨X, 0, none⟩ = false := (row_cell HX0.out 0).2
  have x1 : W0.cell? ⟨X, 1, none⟩ = some (.slice Am nm cm) := by rw [(row_cell HX0.out 1).1]; rfl
  have xf1 : W0.frozen? ⟨X, 1, none⟩ = false := (row_cell HX0.out 1).2
  have x2 : W0.cell? ⟨X, 2, none⟩ = some (.bool is) := by rw [(row_cell HX0.out 2).1]; rfl
  have xf2 : W0.frozen? ⟨X, 2, none⟩ = false := (row_cell HX0.out 2).2
  have x3 : W0.cell? ⟨X, 3, none⟩ = some (.slice Al nl cl) := by rw [(row_cell HX0.out 3).1]; rfl
  have xf3 : W0.frozen? ⟨X, 3, none⟩ = false := (row_cell HX0.out 3).2
  have y0 : W0.cell? ⟨X + 1, 0, none⟩ = some (.int .i64 0) := by rw [(row_cell HY0.out 0).1]; rfl
  have yf0 : W0.frozen? ⟨X + 1, 0, none⟩ = false := (row_cell HY0.out 0).2
  have y1 : W0.cell? ⟨X + 1, 1, none⟩ = some (.slice none 0 0) := by rw [(row_cell HY0.out 1).1]; rfl
  have yf1 : W0.frozen? ⟨X + 1, 1, none⟩ = false := (row_cell HY0.out 1).2
  have y2 : W0.cell? ⟨X + 1, 2, none⟩ = some (.bool false) := by rw [(row_cell HY0.out 2).1]; rfl
  have yf2 : W0.frozen? ⟨X + 1, 2, none⟩ = false := (row_cell HY0.out 2).2
  have y3 : W0.cell? ⟨X + 1, 3, none⟩ = some (.slice none 0 0) := by rw [(row_cell HY0.out 3).1]; rfl
  have yf3 : W0.frozen? ⟨X + 1, 3, none⟩ = false := (row_cell HY0.out 3).2
  obtain ⟨W1, hW1⟩ : ∃ W1, (W0.setCell ⟨X, 1, none⟩ (.slice none 0 0)).setCell ⟨X, 2, none⟩ (.bool false) = W1 := ⟨_, rfl⟩
  have X1 : Hid (W1.heap[X]? = some (.cells #[.int .i64 n, .slice none 0 0, .bool false, .slice Al nl cl] 31 (0, 0))) := by rw [← hW1]; exact set_at (set_at HX0.out 1 _) 2 _
  have Y1 : Hid (W1.heap[X + 1]? = some (.cells #[.int .i64 0, .slice none 0 0, .bool false, .slice none 0 0] 31 (0, 0))) := by rw [← hW1]; exact (set_far 2 _ (by omega)).trans ((set_far 1 _ (by omega)).trans HY0.out)
  have B1 : Hid (Below X w W1) := by rw [← hW1]; exact (B0.out.setCell (Nat.le_refl _) _).setCell (Nat.le_refl _) _
  have p0 : W1.cell? ⟨X, 0, none⟩ = some (.int .i64 n) := by rw [(row_cell X1.out 0).1]; rfl
  have pf0 : W1.frozen? ⟨X, 0, none⟩ = false := (row_cell X1.out 0).2
  have p1 : W1.cell? ⟨X, 1, none⟩ = some (.slice none 0 0) := by rw [(row_cell X1.out 1).1]; rfl
  have pf1 : W1.frozen? ⟨X, 1, none⟩ = false := (row_cell X1.out 1).2
  have p2 : W1.cell? ⟨X, 2, none⟩ = some (.bool false) := by rw [(row_cell X1.out 2).1]; rfl
  have pf2 : W1.frozen? ⟨X, 2, none⟩ = false := (row_cell X1.out 2).2
  have p3 : W1.cell? ⟨X, 3, none⟩ = some (.slice Al nl cl) := by rw [(row_cell X1.out 3).1]; rfl
  have pf3 : W1.frozen? ⟨X, 3, none⟩ = false := (row_cell X1.out 3).2
  have s0 : W1.cell? ⟨X + 1, 0, none⟩ = some (.int .i64 0) := by rw [(row_cell Y1.out 0).1]; rfl
  have sf0 : W1.frozen? ⟨X + 1, 0, none⟩ = false := (row_cell Y1.out 0).2
  have s1 : W1.cell? ⟨X + 1, 1, none⟩ = some (.slice none 0 0) := by rw [(row_cell Y1.out 1).1]; rfl
  have sf1 : W1.frozen? ⟨X + 1, 1, none⟩ = false := (row_cell Y1.out 1).2
  have s2 : W1.cell? ⟨X + 1, 2, none⟩ = some (.bool false) := by rw [(row_cell Y1.out 2).1]; rfl
  have sf2 : W1.frozen? ⟨X + 1, 2, none⟩ = false := (row_cell Y1.out 2).2
  have s3 : W1.cell? ⟨X + 1, 3, none⟩ = some (.slice none 0 0) := by rw [(row_cell Y1.out 3).1]; rfl
  have sf3 : W1.frozen? ⟨X + 1, 3, none⟩ = false := (row_cell Y1.out 3).2
  rw [hX]
  go_enter Try.func18, Try.ntmps18
  go_wp2_with fail
  refine bodyPost_ret (results_cell_one rfl _ _ (X + 1) _ _ rfl (set_four Y1.out _ _ _ _) Try.underlying31 rfl (by kernel_rfl)) rfl ?_
  exact ⟨rfl, ((((B1.out.setCell (by exact Nat.le_succ _) _).setCell (by exact Nat.le_succ _) _).setCell (by exact Nat.le_succ _) _).setCell (by exact Nat.le_succ _) _)⟩
set_option maxRecDepth 100000 in
set_option maxHeartbeats 4000000 in
theorem rread_in (n : Int) (Am : Option Addr) (nm cm : Nat) (Al : Option Addr) (nl cl : Nat) (is : Bool) (p : Nat → Prop) (K : List Int) (id : Int) (w : World) (hl : Sq w p (.slice Al nl cl) nl (C K)) (hk : K.length ≤ 900) (hm : id ∈ K) (hi : is = false) :
    Calls Try.prog 21 #[.agg #[.int .i64 n, .slice Am nm cm, .bool is, .slice Al nl cl], .int .i64 id] w fun e w' => e = .returned (.tuple #[.agg #[.int .i64 n, .slice Am nm cm, .bool is, .slice Al nl cl], .slice none 0 0, .bool false]) ∧ Below w.heap.size w w' := by
  subst hi
  have hkl : K.length = nl := by have := hl.len; simpa [C] using this
  obtain ⟨X, hX⟩ : ∃ X, w.heap.size = X := ⟨_, rfl⟩
  obtain ⟨W0, hW0⟩ : ∃ W0, (w.alloc (.cells #[.int .i64 n, .slice Am nm cm, .bool false, .slice Al nl cl] 31)).alloc (.cells #[.int .i64 0, .slice none 0 0, .bool false, .slice none 0 0] 31) = W0 := ⟨_, rfl⟩
  have B0 : Hid (Below X w W0) := by rw [← hW0, ← hX]; exact (((Below.refl _ _).alloc (Nat.le_refl _) _).alloc (by simp) _)
  have S0 : Hid (W0.heap.size = X + 2) := by unfold Hid; rw [← hW0, ← hX]; simp
  have HX0 : Hid (W0.heap[X]? = some (.cells #[.int .i64 n, .slice Am nm cm, .bool false, .slice Al nl cl] 31 (0, 0))) := by
    rw [← hW0, ← hX]; exact (((Below.refl _ _).alloc (Nat.le_refl _) _).block _ (by simp)).trans (heap_alloc_new _ _)
  have HY0 : Hid (W0.heap[X + 1]? = some (.cells #[.int .i64 0, .slice none 0 0, .bool false, .slice none 0 0] 31 (0, 0))) := by
    rw [← hW0, ← hX]; have := heap_alloc_new (w.alloc (.cells #[.int .i64 n, .slice Am nm cm, .bool false, .slice Al nl cl] 31)) (.cells #[.int .i64 0, .slice none 0 0, .bool false, .slice none 0 0] 31); unfold Hid; simpa using this
  have x0 : W0.cell? ⟨X, 0, none⟩ = some (.int .i64 n) := by rw [(row_cell HX0.out 0).1]; rfl
  have xf0 : W0.frozen? ⟨X, 0, none⟩ = false := (row_cell HX0.out 0).2
  have x1 : W0.cell? ⟨X, 1, none⟩ = some (.slice Am nm cm) := by rw [(row_cell HX0.out 1).1]; rfl
  have xf1 : W0.frozen? ⟨X, 1, none⟩ = false := (row_cell HX0.out 1).2
  have x2 : W0.cell? ⟨X, 2, none⟩ = some (.bool false) := by rw [(row_cell HX0.out 2).1]; rfl
  have xf2 : W0.frozen? ⟨X, 2, none⟩ = false := (row_cell HX0.out 2).2
  have x3 : W0.cell? ⟨X, 3, none⟩ = some (.slice Al nl cl) := by rw [(row_cell HX0.out 3).1]; rfl
  have xf3 : W0.frozen? ⟨X, 3, none⟩ = false := (row_cell HX0.out 3).2
  have y0 : W0.cell? ⟨X + 1, 0, none⟩ = some (.int .i64 0) := by rw [(row_cell HY0.out 0).1]; rfl
  have yf0 : W0.frozen? ⟨X + 1, 0, none⟩ = false := (row_cell HY0.out 0).2
  have y1 : W0.cell? ⟨X + 1, 1, none⟩ = some (.slice none 0 0) := by rw [(row_cell HY0.out 1).1]; rfl
  have yf1 : W0.frozen? ⟨X + 1, 1, none⟩ = false := (row_cell HY0.out 1).2
  have y2 : W0.cell? ⟨X + 1, 2, none⟩ = some (.bool false) := by rw [(row_cell HY0.out 2).1]; rfl
  have yf2 : W0.frozen? ⟨X + 1, 2, none⟩ = false := (row_cell HY0.out 2).2
  have y3 : W0.cell? ⟨X + 1, 3, none⟩ = some (.slice none 0 0) := by rw [(row_cell HY0.out 3).1]; rfl
  have yf3 : W0.frozen? ⟨X + 1, 3, none⟩ = false := (row_cell HY0.out 3).2
  have CH := Lib.hid (rhas_any _ (.slice Al nl cl) K id W0 (by rw [hkl]; exact hl.belowP (by rw [hX]; exact B0.out)) (by omega))
  have HM := Lib.hid hm
  rw [hX]
  clear hl hk hm hkl
  go_enter Try.func21, Try.ntmps21
  go_wp2_with fail
  refine CH.out.mono ?_
  rintro e w1 ⟨hx, hw⟩
  have hw := hw.symm
  subst hw
  rcases hx with ⟨k, hk, _, _, rfl⟩ | ⟨hno, _⟩
  rotate_left
  · exact absurd HM.out hno
  have hk0 : ¬ (k : Int) < 0 := by omega
  clear hk
  go_wp2_with fail
  refine bodyPost_ret (results_cell_two rfl _ _ (X + 1) _ _ rfl (set_four HY0.out _ _ _ _) Try.underlying31 rfl (by kernel_rfl)) rfl ?_
  exact ⟨rfl, ((((B0.out.setCell (by exact Nat.le_succ _) _).setCell (by exact Nat.le_succ _) _).setCell (by exact Nat.le_succ _) _).setCell (by exact Nat.le_succ _) _)⟩
end Go.Proofs.Ytfmcmhgpgkeplaa.B
