/-
  Contract of the reference's Store. Each statement bears its own conditions.
-/
import Derived.Test.YthmalhakkdjilaaDoorCpQ
namespace Go.Proofs.YthmalhakkdjilaaDoor
open Go.RowKit
set_option linter.unusedVariables false
set_option linter.unusedSimpArgs false
theorem cset_at {w : World} {B g n c i : Nat} {e : TypeId} {xs : List Value} (u : Value) (h : w.ownsRow B e 1 (.slice (some ⟨g, 0, none⟩) n c) n xs) (hi : i < n) : (w.setCell ⟨g, i, none⟩ u).ownsRow B e 1 (.slice (some ⟨g, 0, none⟩) n c) n (xs.set i u) :=
  (h.stored i u).1
theorem cown_base {w : World} {B B' n : Nat} {e : TypeId} {v : Value} {xs : List Value} (h : w.ownsRow B e 1 v n xs) (hb : B' ≤ B) : w.ownsRow B' e 1 v n xs := by
  obtain ⟨a, c⟩ := h
  refine ⟨a, ?_⟩
  rcases c with c | ⟨g, c', cur, e1, e2, e3⟩
  · exact .inl c
  · exact .inr ⟨g, c', cur, e1, Nat.le_trans hb e2, e3⟩
theorem CW_set (l : List Int) (i : Nat) (x : Int) : (CW l).set i (.int .u32 x) = CW (l.set i x) := by simp [CW]
theorem set_two {w : World} {g : Nat} {c0 c1 : Value} {t : TypeId} (h : w.heap[g]? = some (.cells #[c0, c1] t (0, 0))) (a b : Value) : ((w.setCell ⟨g, 0, none⟩ a).setCell ⟨g, 1, none⟩ b).rangeAt g 0 [a, b] := by
  have h1 := set_at (set_at h 0 a) 1 b
  intro j v hv
  rw [Nat.zero_add, (row_cell h1 j).1]
  simpa using hv
set_option maxRecDepth 100000 in
set_option maxHeartbeats 4000000 in
theorem rstore_bad (A : Option Addr) (n cap code k : Nat) (x : Int) (w : World) (hn : n ≤ 120) (hcd : code ≤ 60) (hk : (k : Int) < 4294967296) (he : n ≤ k ∨ k < code) :
    Calls Tryd.prog 79 #[.agg #[.slice A n cap, .int .i64 (code : Int)], .int .u32 (k : Int), .int .u32 x] w fun e w' => e = .returned (.tuple #[.agg #[.slice A n cap, .int .i64 (code : Int)], .int .i64 (if n ≤ k then 2 else 11)]) ∧ Below w.heap.size w w' := by
  obtain ⟨W0, hW0⟩ : ∃ W0, (w.alloc (.cells #[.slice A n cap, .int .i64 (code : Int)] 105)).alloc (.cells #[.slice none 0 0, .int .i64 0] 105) = W0 := ⟨_, rfl⟩
  have HS0 : Hid (W0.heap.size = w.heap.size + 2) := by rw [← hW0]; unfold Hid; simp
  have B0 : Hid (Below w.heap.size w W0) := by rw [← hW0]; exact ((Below.refl _ _).alloc (Nat.le_refl _) _).alloc (by simp) _
  have HX0 : Hid (W0.heap[w.heap.size]? = some (.cells #[.slice A n cap, .int .i64 (code : Int)] 105 (0, 0))) := by
    rw [← hW0]; exact (((Below.refl _ _).alloc (Nat.le_refl _) _).block _ (by simp)).trans (heap_alloc_new _ _)
  have HY0 : Hid (W0.heap[w.heap.size + 1]? = some (.cells #[.slice none 0 0, .int .i64 0] 105 (0, 0))) := by
    rw [← hW0]; have := heap_alloc_new (w.alloc (.cells #[.slice A n cap, .int .i64 (code : Int)] 105)) (.cells #[.slice none 0 0, .int .i64 0] 105); unfold Hid; simpa using this
  have x0 := (row_cell HX0.out 0).1
  have x1 := (row_cell HX0.out 1).1
  simp at x0 x1
  have y0 := (row_cell HY0.out 0).1
  have y1 := (row_cell HY0.out 1).1
  have z0 := (row_cell HY0.out 0).2
  have z1 := (row_cell HY0.out 1).2
  simp at y0 y1
  by_cases hnk : n ≤ k
  · rw [if_pos hnk]
    have hge : decide ((n : Int) ≤ k) = true := by simp; omega
    have hgn : decide (n ≤ k) = true := by simp; exact hnk
    have hw1 : IntKind.u64.wrap (k : Int) = k := by rw [IntKind.wrap_u64]; omega
    have hw2 : IntKind.u64.wrap (n : Int) = n := by rw [IntKind.wrap_u64]; clear hw1; omega
    have hw3 : IntKind.u64.wrap (code : Int) = code := by rw [IntKind.wrap_u64]; clear hw1 hw2; omega
    clear he hnk hk hn hcd
    go_enter Tryd.func79, Tryd.ntmps79
    go_wp2_with fail
    refine bodyPost_ret (results_cell_tmp rfl _ _ (w.heap.size + 1) _ _ rfl (set_two HY0.out _ _) Tryd.underlying105 rfl (by kernel_rfl)) rfl ?_
    exact ⟨rfl, (B0.out.setCell (by exact Nat.le_succ _) _).setCell (by exact Nat.le_succ _) _⟩
  · rw [if_neg hnk]
    have hge : decide ((n : Int) ≤ k) = false := by simp; omega
    have hgn : decide (n ≤ k) = false := by simp; omega
    have hgc : decide ((k : Int) < code) = true := by simp; omega
    have hgm : decide (k < code) = true := by simp; omega
    have hw1 : IntKind.u64.wrap (k : Int) = k := by rw [IntKind.wrap_u64]; omega
    have hw2 : IntKind.u64.wrap (n : Int) = n := by rw [IntKind.wrap_u64]; clear hw1; omega
    have hw3 : IntKind.u64.wrap (code : Int) = code := by rw [IntKind.wrap_u64]; clear hw1 hw2; omega
    clear he hnk hk hn hcd
    go_enter Tryd.func79, Tryd.ntmps79
    go_wp2_with fail
    refine bodyPost_ret (results_cell_tmp rfl _ _ (w.heap.size + 1) _ _ rfl (set_two HY0.out _ _) Tryd.underlying105 rfl (by kernel_rfl)) rfl ?_
    exact ⟨rfl, (B0.out.setCell (by exact Nat.le_succ _) _).setCell (by exact Nat.le_succ _) _⟩
set_option maxRecDepth 100000 in
set_option maxHeartbeats 4000000 in
theorem rstore_ok (A : Option Addr) (n cap code k : Nat) (x : Int) (xs : List Int) (w : World) (h : Reads w w.heap.size 1 A n (CW xs)) (hn : n ≤ 120) (hcd : code ≤ 60) (hkn : k < n) (hck : code ≤ k) :
    Calls Tryd.prog 79 #[.agg #[.slice A n cap, .int .i64 (code : Int)], .int .u32 (k : Int), .int .u32 x] w fun e w' => (∃ v, e = .returned (.tuple #[.agg #[v, .int .i64 (code : Int)], .int .i64 0]) ∧ w'.ownsRow w.heap.size 22 1 v n (CW (xs.set k x))) ∧ Below w.heap.size w w' := by
  obtain ⟨i0, hinf, hz0, hz1, hz2⟩ := cinfo_of cu32_info
  have hxl : xs.length = n := by have := h.1; rw [CW_len] at this; omega
  have RD := Lib.hid h
  have HL := Lib.hid hxl
  have HN := Lib.hid hn
  have HK := Lib.hid hkn
  have hge : decide ((n : Int) ≤ k) = false := by simp; omega
  have hgn : decide (n ≤ k) = false := by simp; omega
  have hgc : decide ((k : Int) < code) = false := by simp; omega
  have hgm : decide (k < code) = false := by simp; omega
  have hkI : (k : Int) < (n : Int) := by omega
  have hk0 : (0 : Int) ≤ (k : Int) := by omega
  have hw1 : IntKind.u64.wrap (k : Int) = k := by rw [IntKind.wrap_u64]; omega
  have hw2 : IntKind.u64.wrap (n : Int) = n := by rw [IntKind.wrap_u64]; clear hw1; omega
  have hw3 : IntKind.u64.wrap (code : Int) = code := by rw [IntKind.wrap_u64]; clear hw1 hw2; omega
  obtain ⟨W0, hW0⟩ : ∃ W0, (w.alloc (.cells #[.slice A n cap, .int .i64 (code : Int)] 105)).alloc (.cells #[.slice none 0 0, .int .i64 0] 105) = W0 := ⟨_, rfl⟩
  have HS0 : Hid (W0.heap.size = w.heap.size + 2) := by rw [← hW0]; unfold Hid; simp
  have B0 : Hid (Below w.heap.size w W0) := by rw [← hW0]; exact ((Below.refl _ _).alloc (Nat.le_refl _) _).alloc (by simp) _
  have HX0 : Hid (W0.heap[w.heap.size]? = some (.cells #[.slice A n cap, .int .i64 (code : Int)] 105 (0, 0))) := by
    rw [← hW0]; exact (((Below.refl _ _).alloc (Nat.le_refl _) _).block _ (by simp)).trans (heap_alloc_new _ _)
  have HY0 : Hid (W0.heap[w.heap.size + 1]? = some (.cells #[.slice none 0 0, .int .i64 0] 105 (0, 0))) := by
    rw [← hW0]; have := heap_alloc_new (w.alloc (.cells #[.slice A n cap, .int .i64 (code : Int)] 105)) (.cells #[.slice none 0 0, .int .i64 0] 105); unfold Hid; simpa using this
  have x0 := (row_cell HX0.out 0).1
  have x1 := (row_cell HX0.out 1).1
  simp at x0 x1
  have x0e : (W0.alloc (.cells #[] 22)).cell? ⟨w.heap.size, 0, none⟩ = some (.slice A n cap) := cell_al _ x0
  clear h hxl hn hkn hck hcd
  go_enter Tryd.func79, Tryd.ntmps79
  go_wp2_with (at_builtin; refine wpList_append_any _ rfl (.tmp 23) (.tmp 25) _ rfl W0.heap.size 22 i0 (.int .u32 0) 1 4 Tryd.underlying29 hinf hz0 hz1 hz2 rfl (by decide) (.slice (some ⟨W0.heap.size, 0, none⟩) 0 0) 0 [] rfl (crow_empty 22 W0) W0.heap.size A n cap (CW xs) rfl ((RD.out.below (B0.out.alloc B0.out.size _)).more B0.out.size) (CW_one _) ?c2 ?c3 ?c4 ?_)
  case c2 => have := HN.out; clear hw1 hw2 hw3; unfold maxLen; omega
  case c3 => have := HN.out; clear hw1 hw2 hw3; omega
  case c4 => simp
  intro v1 w2 hown hgr hbl
  have ho' : w2.ownsRow W0.heap.size 22 1 v1 n (CW xs) := by simpa using hown
  have B2 : Hid (Below W0.heap.size W0 w2) := ((Below.refl _ _).alloc (Nat.le_refl _) _).grown hgr (by simp) (fun q hq => by have h' : some W0.heap.size = some q := hq; injection h' with h'; omega)
  clear hw1 hw2 hw3
  obtain ⟨g1, c1, rfl, hg1, hg1'⟩ := cown_form ho' (by have := HK.out; omega)
  have HO2 := Lib.hid ho'
  have HX2 : Hid (w2.heap[w.heap.size]? = some (.cells #[.slice A n cap, .int .i64 (code : Int)] 105 (0, 0))) := (B2.out.block _ (by have := HS0.out; omega)).trans HX0.out
  have HY2 : Hid (w2.heap[w.heap.size + 1]? = some (.cells #[.slice none 0 0, .int .i64 0] 105 (0, 0))) := (B2.out.block _ (by have := HS0.out; omega)).trans HY0.out
  have HG1 : Hid (w.heap.size + 2 ≤ g1) := by have := HS0.out; unfold Hid; omega
  clear hown ho' hgr hbl hg1 hg1' x0 x1 x0e hW0
  have k0 := (row_cell HX2.out 0).1
  have z0 := (row_cell HX2.out 0).2
  simp at k0
  go_upto_region 6 with (fail)
  obtain ⟨W3, hW3⟩ : ∃ W3, w2.setCell ⟨w.heap.size, 0, none⟩ (.slice (some ⟨g1, 0, none⟩) n c1) = W3 := ⟨_, rfl⟩
  simp only [hW3]
  have HX3 : Hid (W3.heap[w.heap.size]? = some (.cells #[.slice (some ⟨g1, 0, none⟩) n c1, .int .i64 (code : Int)] 105 (0, 0))) := by rw [← hW3]; have := set_at HX2.out 0 (.slice (some ⟨g1, 0, none⟩) n c1); unfold Hid; simpa using this
  have HY3 : Hid (W3.heap[w.heap.size + 1]? = some (.cells #[.slice none 0 0, .int .i64 0] 105 (0, 0))) := by rw [← hW3]; exact (set_far _ _ (by omega)).trans HY2.out
  have HO3 : Hid (W3.ownsRow (w.heap.size + 2) 22 1 (.slice (some ⟨g1, 0, none⟩) n c1) n (CW xs)) := by rw [← hW3]; exact ownsRow_setCell_below (cown_base HO2.out (by have := HS0.out; omega)) (by show w.heap.size < w.heap.size + 2; omega) _
  have B3 : Hid (Below w.heap.size w W3) := by rw [← hW3]; exact (B0.out.trans (B2.out.mono B0.out.size)).setCell (p := ⟨w.heap.size, 0, none⟩) (Nat.le_refl _) _
  have x0 := (row_cell HX3.out 0).1
  simp at x0
  have hu : (CW xs)[k]? = some (.int .u32 (xs.getD k 0)) := CW_at xs k (by have := HL.out; have := HK.out; omega)
  have x2 := cown_cell HO3.out hu
  have x3 := HO3.out.frozenAt k
  clear hW3 k0 z0 HX2 HY2 HO2 hu
  go_upto_region 7 with (fail)
  obtain ⟨W4, hW4⟩ : ∃ W4, W3.setCell ⟨g1, k, none⟩ (.int .u32 x) = W4 := ⟨_, rfl⟩
  simp only [hW4]
  have HX4 : Hid (W4.heap[w.heap.size]? = some (.cells #[.slice (some ⟨g1, 0, none⟩) n c1, .int .i64 (code : Int)] 105 (0, 0))) := by rw [← hW4]; exact (set_far _ _ (by have := HG1.out; omega)).trans HX3.out
  have HY4 : Hid (W4.heap[w.heap.size + 1]? = some (.cells #[.slice none 0 0, .int .i64 0] 105 (0, 0))) := by rw [← hW4]; exact (set_far _ _ (by have := HG1.out; omega)).trans HY3.out
  have HO4 : Hid (W4.ownsRow (w.heap.size + 2) 22 1 (.slice (some ⟨g1, 0, none⟩) n c1) n (CW (xs.set k x))) := by
    rw [← hW4, ← CW_set]
    exact cset_at (.int .u32 x) HO3.out HK.out
  have B4 : Hid (Below w.heap.size w W4) := by rw [← hW4]; exact B3.out.setCell (p := ⟨g1, k, none⟩) (by have := HG1.out; show w.heap.size ≤ g1; omega) _
  have u0 := (row_cell HX4.out 0).1
  have u1 := (row_cell HX4.out 1).1
  have y0 := (row_cell HY4.out 0).1
  have y1 := (row_cell HY4.out 1).1
  have z0 := (row_cell HY4.out 0).2
  have z1 := (row_cell HY4.out 1).2
  simp at u0 u1 y0 y1
  clear hW4 x0 x2 x3 HX3 HY3 HO3
  go_wp2_with fail
  refine bodyPost_ret (results_cell_tmp rfl _ _ (w.heap.size + 1) _ _ rfl (set_two HY4.out _ _) Tryd.underlying105 rfl (by kernel_rfl)) rfl ?_
  refine ⟨⟨_, rfl, ?_⟩, (B4.out.setCell (by exact Nat.le_succ _) _).setCell (by exact Nat.le_succ _) _⟩
  exact cown_base (ownsRow_setCell_below (ownsRow_setCell_below HO4.out (by show w.heap.size + 1 < w.heap.size + 2; omega) _) (by show w.heap.size + 1 < w.heap.size + 2; omega) _) (by omega)
end Go.Proofs.YthmalhakkdjilaaDoor
