/-
  slices.Insert where there is none. Each statement bears its own conditions.
-/
import Derived.Test.YtbnnpfhgpbaedaaPlA
namespace Go.Proofs.Ytbnnpfhgpbaedaa.W
open Go.RowKit
set_option linter.unusedVariables false
set_option linter.unusedSimpArgs false
/-- What stands in the new row behind both copies. -/
theorem grow_list (c z : List Value) (L : List (Int × Int)) (x : Int × Int) (i n m : Nat) (hn : L.length = n) (hi : i < n) (hc : c = C (L.take i) ++ z) (hz : c.length = m) (hm : (n + 1) * 2 ≤ m) :
    let c1 := c.take (i * 2) ++ C [x] ++ c.drop (i * 2 + (C [x]).length)
    let c2 := c1.take ((i + 1) * 2) ++ C (L.drop i) ++ c1.drop ((i + 1) * 2 + (C (L.drop i)).length)
    c1.length = m ∧ c2.length = m ∧ c2.take ((n + 1) * 2) = C (L.take i ++ x :: L.drop i) := by
  intro c1 c2
  have l0 : (C (L.drop i)).length = (n - i) * 2 := by rw [C_len, List.length_drop, hn]
  have lx : (C [x]).length = 2 := rfl
  have lt : (C (L.take i)).length = i * 2 := by rw [C_len, List.length_take]; omega
  have h0 : c.take (i * 2) = C (L.take i) := by rw [hc]; exact List.take_left' lt
  have l1 : c1.length = m := by simp only [c1, List.length_append, List.length_take, List.length_drop, lx]; omega
  have h1 : c1.take ((i + 1) * 2) = C (L.take i) ++ C [x] := by
    simp only [c1, h0]
    exact List.take_left' (by rw [List.length_append, lt, lx]; omega)
  have e2 : c2 = (C (L.take i) ++ C [x] ++ C (L.drop i)) ++ c1.drop ((i + 1) * 2 + (C (L.drop i)).length) := by
    simp only [c2, h1]
  have lz : (C (L.take i) ++ C [x] ++ C (L.drop i)).length = (n + 1) * 2 := by simp only [List.length_append, lt, lx, l0]; omega
  refine ⟨l1, ?_, ?_⟩
  · rw [e2, List.length_append, lz, List.length_drop, l1, l0]; omega
  · rw [e2, show C (L.take i ++ x :: L.drop i) = C (L.take i) ++ C [x] ++ C (L.drop i) by rw [C_app, C_cons]; simp [C]]
    exact List.take_left' lz
set_option maxRecDepth 100000 in
set_option maxHeartbeats 1000000 in
theorem insert_grow (rb vb cap i : Nat) (cur : Array Value) (x : Int × Int) (L : List (Int × Int)) (w : World) (hg : w.heap[rb]? = some (.cells cur 76 (0, 0))) (hcap : ¬ L.length < cap) (hcl : L.length ≤ cap) (hcs : cur.size = cap * 2) (htk : cur.toList.take (L.length * 2) = C L) (hi : i < L.length) (hL : L.length ≤ 1000) (hv : w.heap[vb]? = some (.cells #[.int .i64 x.1, .int .i64 x.2] 76 (0, 0))) :
    Calls Try.prog 52 #[.slice (some ⟨rb, 0, none⟩) L.length cap, .int .i64 (i : Int), .slice (some ⟨vb, 0, none⟩) 1 1] w fun e w' => ∃ v' rb', e = .returned v' ∧ RowV w' v' rb' (L.take i ++ x :: L.drop i) ∧ (rb' = rb ∨ w.heap.size ≤ rb') ∧ Past rb w w' := by
  obtain ⟨i0, hi0, hz0, hz1, hz2⟩ := info_of timer_info
  obtain ⟨n, hn⟩ : ∃ n, L.length = n := ⟨_, rfl⟩
  rw [hn] at hcap hcl htk hi hL ⊢
  have iI : (i : Int) ≤ (n : Int) := by omega
  have iN : ((i : Int) == (n : Int)) = false := by rw [beq_eq_false_iff_ne]; omega
  have wn : IntKind.i64.wrap ((n : Int) + 1) = (n : Int) + 1 := by rw [IntKind.wrap_i64]; omega
  have wi : IntKind.i64.wrap ((i : Int) + 1) = (i : Int) + 1 := by rw [IntKind.wrap_i64]; omega
  have wd : IntKind.i64.wrap ((n : Int) + 1 - (i : Int)) = (n : Int) + 1 - (i : Int) := by rw [IntKind.wrap_i64]; omega
  have nc : (cap : Int) < (n : Int) + 1 := by omega
  have icap : (i : Int) ≤ (cap : Int) := by omega
  have ic : ¬ cap = i := by omega
  have ip : (0 : Int) ≤ (i : Int) + 1 := by omega
  have ip2 : (i : Int) ≤ (n : Int) + 1 := by omega
  have ip3 : (i : Int) + 1 ≤ (n : Int) + 1 := by omega
  have hrs : rb < w.heap.size := by
    have := World.block_lt_of_cell? w ⟨rb, 0, none⟩ (u := cur[0]'(by omega)) (by rw [(row_cell hg 0).1]; exact Array.getElem?_eq_getElem _)
    exact this
  have hvs : vb < w.heap.size := by
    have := World.block_lt_of_cell? w ⟨vb, 0, none⟩ (u := .int .i64 x.1) (by rw [(row_cell hv 0).1]; rfl)
    exact this
  have hgc : ∀ j v, (C L)[j]? = some v → w.cell? ⟨rb, j, none⟩ = some v := fun j v hj => by
    rw [(row_cell hg j).1, ← Array.getElem?_toList]
    have h2 : j < n * 2 := by
      have := (List.getElem?_eq_some_iff.1 hj).1
      rw [C_len, hn] at this; exact this
    rw [← htk, List.getElem?_take_of_lt h2] at hj
    exact hj
  obtain ⟨gc, hgcap⟩ : ∃ gc, grownCap w (n + 1) cap 76 = gc := ⟨_, rfl⟩
  have gc1 : n + 1 ≤ gc := by rw [← hgcap]; exact grownCap_ge _ _ _ _
  have gc2 : gc ≤ maxLen := by rw [← hgcap]; exact grownCap_le_maxLen _ _ _ _ (by unfold maxLen; omega)
  have gi : ¬ gc = i := by omega
  have gi1 : ¬ gc = i + 1 := by omega
  have gI : (i : Int) ≤ (gc : Int) := by omega
  have hti : (C (L.take i)).length = i * 2 := by rw [C_len, List.length_take, hn]; omega
  obtain ⟨Z, hZ, hZl⟩ : ∃ Z : Array Value, (C (L.take i)).toArray ++ Builtin.zeroCells (Value.agg #[.int .i64 0, .int .i64 0]).cells (n + 1 - i) ++ Builtin.zeroCells (Value.agg #[.int .i64 0, .int .i64 0]).cells (gc - (n + 1)) = (C (L.take i)).toArray ++ Z ∧ Z.size = (gc - i) * 2 := by
    refine ⟨_, Array.append_assoc .., ?_⟩
    rw [Array.size_append, size_zeroCells, size_zeroCells]
    show (n + 1 - i) * 2 + (gc - (n + 1)) * 2 = _
    omega
  have AP : Hid (∀ ty, (Builtin.append_ #[79, 3] ty #[.slice (some ⟨rb, 0, none⟩) i cap, .int .i64 ((n : Int) + 1 - (i : Int))]).run Try.prog w = .ok (.slice (some ⟨w.heap.size, 0, none⟩) (n + 1) gc) (w.drew.alloc (.cells ((C (L.take i)).toArray ++ Z) 76))) := fun ty => by
    have := run_append_zeros (P := Try.prog) w 79 3 ty 76 i0 _ .i64 Try.underlying79 Try.underlying3 hi0 hz0 ⟨rb, 0, none⟩ i cap (C (L.take i)) (by rw [hz1, hti]) (fun j v hj => by
      rw [Addr.add_lit, Nat.zero_add]
      refine hgc j v ?_
      have h2 : j < i * 2 := by
        have := (List.getElem?_eq_some_iff.1 hj).1
        rw [hti] at this; exact this
      rw [← C_take, List.getElem?_take_of_lt h2] at hj
      exact hj) (n + 1 - i) (by omega) (by omega) (by omega) (by omega) (by omega)
    rw [show i + (n + 1 - i) = n + 1 by omega, hgcap, hZ] at this
    rw [show (n : Int) + 1 - (i : Int) = ((n + 1 - i : Nat) : Int) by omega]
    exact this
  obtain ⟨l1, l2, l3⟩ := grow_list (C (L.take i) ++ Z.toList) Z.toList L x i n (gc * 2) hn hi rfl (by rw [List.length_append, hti, Array.length_toList, hZl]; omega) (by omega)
  obtain ⟨c0, hc0⟩ : ∃ c0, C (L.take i) ++ Z.toList = c0 := ⟨_, rfl⟩
  have hc0a : (C (L.take i)).toArray ++ Z = c0.toArray := by rw [← hc0]; apply Array.ext'; simp
  have hc0l : c0.length = gc * 2 := by rw [← hc0, List.length_append, hti, Array.length_toList, hZl]; omega
  rw [hc0] at l1 l2 l3
  rw [hc0a] at AP
  obtain ⟨c1, hc1⟩ : ∃ c1, c0.take (i * 2) ++ C [x] ++ c0.drop (i * 2 + (C [x]).length) = c1 := ⟨_, rfl⟩
  rw [hc1] at l1 l2 l3
  obtain ⟨c2, hc2⟩ : ∃ c2, c1.take ((i + 1) * 2) ++ C (L.drop i) ++ c1.drop ((i + 1) * 2 + (C (L.drop i)).length) = c2 := ⟨_, rfl⟩
  rw [hc2] at l2 l3
  have hld : (C (L.drop i)).length = (n - i) * 2 := by rw [C_len, List.length_drop, hn]
  obtain ⟨W1, hW1⟩ : ∃ W1, w.drew.alloc (.cells c0.toArray 76) = W1 := ⟨_, rfl⟩
  have hW1' : (w.alloc (.cells c0.toArray 76)).drew = W1 := by rw [← hW1]; rfl
  have hn1 : W1.heap[w.heap.size]? = some (.cells c0.toArray 76 (0, 0)) := by rw [← hW1]; exact heap_alloc_new w.drew _
  have hold : ∀ k, k < w.heap.size → W1.heap[k]? = w.heap[k]? := fun k hk => by rw [← hW1]; exact heap_alloc_old w.drew _ hk
  have CP1 : Hid (∀ ty dc, (Builtin.copy_ #[79, 79] ty #[.slice (some ⟨w.heap.size, i * 2, none⟩) (n + 1 - i) dc, .slice (some ⟨vb, 0, none⟩) 1 1]).run Try.prog W1 = .ok (goInt 1) (W1.setRow w.heap.size c1.toArray)) := fun ty dc => by
    have hmin : Nat.min 1 (n + 1 - i) = 1 := by show min _ _ = _; omega
    have := run_copy_pairs (P := Try.prog) W1 79 79 ty 76 i0 Try.underlying79 hi0 w.heap.size (i * 2) (n + 1 - i) dc ⟨vb, 0, none⟩ 1 1 c0.toArray 76 (C [x]) hn1 (by rw [hmin, hz1]; rfl) (fun j v hj => by
      rw [Addr.add_lit, Nat.zero_add]
      have h1 : W1.heap[vb]? = some (.cells #[.int .i64 x.1, .int .i64 x.2] 76 (0, 0)) := (hold vb hvs).trans hv
      rw [(row_cell h1 j).1]
      rw [← hj]; simp [C]) (by simp only [List.size_toArray, hc0l]; show i * 2 + 2 ≤ _; omega) (C_one _)
    rw [hmin] at this
    simp only [hc1] at this
    exact this
  obtain ⟨W2, hW2⟩ : ∃ W2, W1.setRow w.heap.size c1.toArray = W2 := ⟨_, rfl⟩
  have hn2 : W2.heap[w.heap.size]? = some (.cells c1.toArray 76 (0, 0)) := by rw [← hW2]; exact setRow_heap W1 w.heap.size _ _ 76 _ hn1
  have hold2 : ∀ k, k < w.heap.size → W2.heap[k]? = w.heap[k]? := fun k hk => by rw [← hW2]; exact (setRow_other W1 w.heap.size k _ (by omega)).trans (hold k hk)
  have hos : W2.os = w.os ∧ W2.tape = w.tape ∧ W2.output = w.output ∧ w.heap.size ≤ W2.heap.size := by rw [← hW2, ← hW1]; exact ⟨rfl, rfl, rfl, by simp⟩
  rw [hW2] at CP1
  have CP2 : Hid (∀ ty dc sc, (Builtin.copy_ #[79, 79] ty #[.slice (some ⟨w.heap.size, (i + 1) * 2, none⟩) (n - i) dc, .slice (some ⟨rb, i * 2, none⟩) (n - i) sc]).run Try.prog W2.drew = .ok (goInt ((n - i : Nat) : Int)) (W2.drew.setRow w.heap.size c2.toArray)) := fun ty dc sc => by
    have hmin : Nat.min (n - i) (n - i) = n - i := by show min _ _ = _; omega
    have := run_copy_pairs (P := Try.prog) W2.drew 79 79 ty 76 i0 Try.underlying79 hi0 w.heap.size ((i + 1) * 2) (n - i) dc ⟨rb, i * 2, none⟩ (n - i) sc c1.toArray 76 (C (L.drop i)) hn2 (by rw [hmin, hz1, hld]) (fun j v hj => by
      rw [Addr.add_lit]
      have h1 : W2.drew.heap[rb]? = some (.cells cur 76 (0, 0)) := (hold2 rb hrs).trans hg
      rw [(row_cell h1 _).1, ← (row_cell hg _).1]
      apply hgc
      rw [← C_drop, List.getElem?_drop] at hj
      exact hj) (by simp only [List.size_toArray]; rw [hld, l1]; omega) (C_one _)
    rw [hmin] at this
    simp only [hc2] at this
    exact this
  have HW1 := Lib.hid hW1
  rw [hW1] at AP
  clear hgc hgcap hZ hZl hc0 hc0a hc0l hc1 hc2 hW2 hn1 hold hW1' htk hti hld
  have H2 := Lib.hid hn2
  have HO2 := Lib.hid hold2
  have HOS := Lib.hid hos
  have HG2 := Lib.hid gc2
  have HL2 := Lib.hid (And.intro l2 l3)
  have HN := Lib.hid hn
  clear hn2 hold2 hos gc2 l1 l2 l3 hW1 hn hg hv hcs
  go_enter Try.func52, Try.ntmps52
  go_wp2_with (first | (at_builtin; refine Lib.wpList_append_run _ rfl (.tmp 34) (.tmp 39) 79 3 rfl _ _ rfl rfl _ _ (AP.out _) ?_) | (refine Lib.wpList_copy_run _ rfl (.tmp 43) (.tmp 44) 79 79 rfl _ _ rfl rfl (CP1.out _ _) ?_))
  refine wp_region_held_drew (S := (fun _ => True)) (by kernel_rfl) trivial (fun hHeld => ?_)
  refine takeD (i := 0) (d := some 46) (v := ?_) _ rfl rfl (by kernel_rfl) (by kernel_rfl) (by kernel_rfl) (fun _ _ _ h => h) (by rfl) ?_ trivial ?_
  rotate_left
  · (intro w hSw; (try dsimp only at hSw); go_simp) <;> with_reducible rfl
  try simp only [Act.put, List.setIfInBounds_toArray, List.set_cons_zero, List.set_cons_succ]
  refine takeD (i := 1) (d := some 47) (v := ?_) _ rfl rfl (by kernel_rfl) (by kernel_rfl) (by kernel_rfl) (fun _ _ _ h => h) (by rfl) ?_ trivial ?_
  rotate_left
  · (intro w hSw; (try dsimp only at hSw); go_simp) <;> with_reducible rfl
  try simp only [Act.put, List.setIfInBounds_toArray, List.set_cons_zero, List.set_cons_succ]
  refine takeD (i := 2) (d := some 48) (v := ?_) _ rfl rfl (by kernel_rfl) (by kernel_rfl) (by kernel_rfl) (fun _ _ _ h => h) (by rfl) ?_ trivial ?_
  rotate_left
  · (intro w hSw; (try dsimp only at hSw); go_simp) <;> with_reducible rfl
  try simp only [Act.put, List.setIfInBounds_toArray, List.set_cons_zero, List.set_cons_succ]
  refine takeD (i := 3) (d := some 49) (v := ?_) _ rfl rfl (by kernel_rfl) (by kernel_rfl) (by kernel_rfl) (fun _ _ _ h => h) (by rfl) ?_ trivial ?_
  rotate_left
  · (intro w hSw; (try dsimp only at hSw); go_simp) <;> with_reducible rfl
  try simp only [Act.put, List.setIfInBounds_toArray, List.set_cons_zero, List.set_cons_succ]
  refine takeD (i := 4) (d := some 50) (v := ?_) _ rfl rfl (by kernel_rfl) (by kernel_rfl) (by kernel_rfl) (fun _ _ _ h => h) (by rfl) ?_ trivial ?_
  rotate_left
  · (intro w hSw; (try dsimp only at hSw); go_simp) <;> with_reducible rfl
  try simp only [Act.put, List.setIfInBounds_toArray, List.set_cons_zero, List.set_cons_succ]
  refine takeD (i := 5) (d := some 51) (v := ?_) _ rfl rfl (by kernel_rfl) (by kernel_rfl) (by kernel_rfl) (fun _ _ _ h => h) (by rfl) ?_ trivial ?_
  rotate_left
  · (intro w hSw; (try dsimp only at hSw); go_simp) <;> with_reducible rfl
  try simp only [Act.put, List.setIfInBounds_toArray, List.set_cons_zero, List.set_cons_succ]
  refine takeD (i := 6) (d := some 52) (v := ?_) _ rfl rfl (by kernel_rfl) (by kernel_rfl) (by kernel_rfl) (fun _ _ _ h => h) (by rfl) ?_ trivial ?_
  rotate_left
  · (intro w hSw; (try dsimp only at hSw); go_simp) <;> with_reducible rfl
  try simp only [Act.put, List.setIfInBounds_toArray, List.set_cons_zero, List.set_cons_succ]
  refine takeD (i := 7) (d := some 53) (v := ?_) _ rfl rfl (by kernel_rfl) (by kernel_rfl) (by kernel_rfl) (fun _ _ _ h => h) (by rfl) ?_ trivial ?_
  rotate_left
  · (intro w hSw; (try dsimp only at hSw); go_simp) <;> with_reducible rfl
  try simp only [Act.put, List.setIfInBounds_toArray, List.set_cons_zero, List.set_cons_succ]
  refine wpAnyH_ready (rs := [8]) (by kernel_rfl) (by simp) ?_
  refine AllReadyH.cons rfl (fun K hK => ?_) AllReadyH.nil
  refine Lib.wp_copy_run _ _ _ 79 79 rfl _ _ rfl rfl (CP2.out _ _ _) ?_
  refine hK.out _ _ trivial (fun hHeld => ?_)
  clear hK K
  try simp only [Act.put, List.setIfInBounds_toArray, List.set_cons_zero, List.set_cons_succ]
  refine wpAnyH_done (by kernel_rfl) ?_ _
  clear hHeld
  go_wp2_with fail
  go_ret
  have hg2 : (W2.drew.setRow w.heap.size c2.toArray).heap[w.heap.size]? = some (.cells c2.toArray 76 (0, 0)) := setRow_heap W2.drew w.heap.size _ _ 76 _ H2.out
  have hlen : (L.take i ++ x :: L.drop i).length = n + 1 := by rw [ins_list L x i (by have := HN.out; omega), HN.out]
  have hR := RowV.mk' (rb := w.heap.size) (cap := gc) (L := L.take i ++ x :: L.drop i) hg2 (by rw [hlen]; omega) HG2.out (by simp only [List.size_toArray]; exact HL2.out.1) (by rw [hlen]; simpa using HL2.out.2)
  rw [hlen] at hR
  exact ⟨_, w.heap.size, rfl, hR, .inr (Nat.le_refl _), ⟨HOS.out.1, HOS.out.2.1, HOS.out.2.2.1, by have := HOS.out.2.2.2; simpa using this, fun k hk hne => by
    rw [setRow_other _ w.heap.size k _ (by omega)]; exact HO2.out k hk⟩⟩
/-- slices.Insert at a list of timers. -/
theorem insert_any (v : Value) (rb vb i : Nat) (x : Int × Int) (L : List (Int × Int)) (w : World) (hr : RowV w v rb L) (hi : i ≤ L.length) (hL : L.length ≤ 1000) (hvb : vb ≠ rb) (hv : w.heap[vb]? = some (.cells #[.int .i64 x.1, .int .i64 x.2] 76 (0, 0))) :
    Calls Try.prog 52 #[v, .int .i64 (i : Int), .slice (some ⟨vb, 0, none⟩) 1 1] w fun e w' => ∃ v' rb', e = .returned v' ∧ RowV w' v' rb' (L.take i ++ x :: L.drop i) ∧ (rb' = rb ∨ w.heap.size ≤ rb') ∧ Past rb w w' := by
  by_cases he : i = L.length
  · subst he
    have := insert_end v rb vb x L w hr hL hv
    simpa using this
  · have hi' : i < L.length := by omega
    rcases hr.form with ⟨_, h0⟩ | ⟨cap, cur, rfl, hg, h1, h2, h3, h4⟩
    · subst h0; simp at hi'
    · by_cases hc : L.length < cap
      · exact insert_room rb vb cap i cur x L w hg hc h2 h3 h4 hi' hL hvb hv
      · exact insert_grow rb vb cap i cur x L w hg hc h1 h3 h4 hi' hL hv
end Go.Proofs.Ytbnnpfhgpbaedaa.W
