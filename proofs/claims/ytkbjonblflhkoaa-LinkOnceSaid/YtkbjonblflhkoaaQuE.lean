/-
  Lists of slices, and slices.Delete of them. Each statement bears its own conditions.
-/
import Derived.Test.YtkbjonblflhkoaaUw
namespace Go.Proofs.Ytkbjonblflhkoaa.Q
open Go.RowKit Go.Proofs.Ytkbjonblflhkoaa.F Go.Proofs.Ytkbjonblflhkoaa.U
set_option linter.unusedVariables false
set_option linter.unusedSimpArgs false
/-- A slice: where it begins, its length, its room. -/
abbrev Sl := Option Addr × Nat × Nat
def slv (s : Sl) : Value := .slice s.1 s.2.1 s.2.2
/-- Slices as cells. -/
def CS (L : List Sl) : List Value := L.map slv
theorem CS_len (L : List Sl) : (CS L).length = L.length := by simp [CS]
theorem CS_app (L M : List Sl) : CS (L ++ M) = CS L ++ CS M := by simp [CS]
theorem CS_one (L : List Sl) : ∀ u ∈ CS L, u.oneCell' = true := by
  intro u hu
  obtain ⟨x, _, rfl⟩ := List.mem_map.1 hu
  rfl
theorem CS_take (L : List Sl) (i : Nat) : (CS L).take i = CS (L.take i) := by simp [CS, List.map_take]
theorem CS_drop (L : List Sl) (i : Nat) : (CS L).drop i = CS (L.drop i) := by simp [CS, List.map_drop]
theorem CS_at {L : List Sl} {i : Nat} {s : Sl} (h : L[i]? = some s) : (CS L)[i]? = some (slv s) := by simp [CS, h]
theorem sl_info : (Try.prog.info? 33).map (fun i => (i.zero, i.size, i.bytes)) = some (some (.slice none 0 0), 1, 24) := by kernel_rfl
structure RowV (w : World) (v : Value) (rb : Nat) (L : List Sl) : Prop where
  own : w.ownsRow 0 33 1 v L.length (CS L)
  at_ : ∀ b, v.ownBlock = some b → b = rb
theorem RowV.form {w : World} {v : Value} {rb : Nat} {L : List Sl} (h : RowV w v rb L) : (v = .slice none 0 0 ∧ L = []) ∨ ∃ cap cur, v = .slice (some ⟨rb, 0, none⟩) L.length cap ∧ w.heap[rb]? = some (.cells cur 33 (0, 0)) ∧ L.length ≤ cap ∧ cap ≤ maxLen ∧ cur.size = cap ∧ cur.toList.take (L.length) = CS L := by
  rcases h.own.2 with ⟨hv, hn⟩ | ⟨g, cap, cur, hv, _, hg, h1, h2, h3, h4⟩
  · exact .inl ⟨hv, List.eq_nil_of_length_eq_zero hn⟩
  · have := h.at_ g (by rw [hv]; rfl)
    subst this
    exact .inr ⟨cap, cur, hv, hg, h1, h2, by simpa using h3, by simpa using h4⟩
theorem RowV.mk' {w : World} {rb cap : Nat} {cur : Array Value} {L : List Sl} (hg : w.heap[rb]? = some (.cells cur 33 (0, 0))) (h1 : L.length ≤ cap) (h2 : cap ≤ maxLen) (h3 : cur.size = cap) (h4 : cur.toList.take (L.length) = CS L) : RowV w (.slice (some ⟨rb, 0, none⟩) L.length cap) rb L :=
  ⟨⟨by simpa using CS_len L, .inr ⟨rb, cap, cur, rfl, Nat.zero_le _, hg, h1, h2, by simpa using h3, by simpa using h4⟩⟩, fun b hb => by injection hb with hb; exact hb.symm⟩
theorem delete_same (v : Value) (rb i : Nat) (L : List Sl) (w : World) (hr : RowV w v rb L) (hi : i ≤ L.length) (hL : L.length ≤ 1000) :
    Calls Try.prog 35 #[v, .int .i64 (i : Int), .int .i64 (i : Int)] w fun e w' => e = .returned v ∧ w' = w := by
  obtain ⟨n, hn⟩ : ∃ n, L.length = n := ⟨_, rfl⟩
  obtain ⟨A, c, rfl⟩ := slice_form hr.own
  have hcap : n ≤ c := by
    rcases hr.form with ⟨hv, h0⟩ | ⟨cap, cur, hv, hg, h1, h2, h3, h4⟩
    · injection hv; subst h0; simp at hn; omega
    · injection hv; omega
  rw [hn] at hi ⊢
  have hI : (i : Int) ≤ (n : Int) := by omega
  have hC : (n : Int) ≤ (c : Int) := by omega
  obtain ⟨A1, hA1⟩ : ∃ A1, (if n = i then A else A.map (fun x => x.add (i))) = A1 := ⟨_, rfl⟩
  clear hr hL
  go_enter Try.func35, Try.ntmps35
  go_wp2_with fail
  go_ret
  exact ⟨rfl, rfl⟩
set_option maxRecDepth 100000 in
set_option maxHeartbeats 1000000 in
theorem delete_some (rb cap i j : Nat) (cur : Array Value) (L : List Sl) (w : World) (hg : w.heap[rb]? = some (.cells cur 33 (0, 0))) (hcl : L.length ≤ cap) (hcm : cap ≤ maxLen) (hcs : cur.size = cap) (htk : cur.toList.take (L.length) = CS L) (hij : i < j) (hj : j ≤ L.length) (hL : L.length ≤ 1000) :
    Calls Try.prog 35 #[.slice (some ⟨rb, 0, none⟩) L.length cap, .int .i64 (i : Int), .int .i64 (j : Int)] w fun e w' => ∃ v', e = .returned v' ∧ RowV w' v' rb (L.take i ++ L.drop j) ∧ Past rb w w' := by
  obtain ⟨i0, hi0, hz0, hz1, hz2⟩ := info_of sl_info
  obtain ⟨n, hn⟩ : ∃ n, L.length = n := ⟨_, rfl⟩
  rw [hn] at hcl htk hj hL ⊢
  have ij : (i : Int) ≤ (j : Int) := by omega
  have iN : ((i : Int) == (j : Int)) = false := by rw [beq_eq_false_iff_ne]; omega
  have jn : (j : Int) ≤ (n : Int) := by omega
  have icap : (i : Int) ≤ (cap : Int) := by omega
  have nc : (n : Int) ≤ (cap : Int) := by omega
  have ic : ¬ n = i := by omega
  obtain ⟨aj, haj, hajn⟩ : ∃ aj : Addr, (if cap = j then some (⟨rb, 0, none⟩ : Addr) else some ⟨rb, j, none⟩) = some aj ∧ (0 < n - j → aj = ⟨rb, j, none⟩) := by
    by_cases h : cap = j
    · exact ⟨⟨rb, 0, none⟩, by rw [if_pos h], fun h' => by omega⟩
    · exact ⟨⟨rb, j, none⟩, by rw [if_neg h], fun _ => rfl⟩
  obtain ⟨m, hm⟩ : ∃ m, i + (n - j) = m := ⟨_, rfl⟩
  obtain ⟨d, hd⟩ : ∃ d, n - m = d := ⟨_, rfl⟩
  have mn : (m : Int) ≤ (n : Int) := by omega
  have mc : ¬ cap = m := by omega
  have hld : (CS (L.drop j)).length = (n - j) := by rw [CS_len, List.length_drop, hn]
  have hgc : ∀ k v, (CS L)[k]? = some v → w.drew.cell? ⟨rb, k, none⟩ = some v := fun k v hk => by
    have h1 : w.drew.cell? ⟨rb, k, none⟩ = cur[k]? := (row_cell (w := w.drew) hg k).1
    rw [h1, ← Array.getElem?_toList]
    have h2 : k < n := by
      have := (List.getElem?_eq_some_iff.1 hk).1
      rw [CS_len, hn] at this; exact this
    rw [← htk, List.getElem?_take_of_lt h2] at hk
    exact hk
  obtain ⟨c1, hc1⟩ : ∃ c1, cur.toList.take (i) ++ CS (L.drop j) ++ cur.toList.drop (i + (CS (L.drop j)).length) = c1 := ⟨_, rfl⟩
  have l1 : c1.length = cap := by rw [← hc1]; simp only [List.length_append, List.length_take, List.length_drop, Array.length_toList, hld, hcs]; omega
  have t1 : c1.take (m) = CS (L.take i ++ L.drop j) := by
    rw [← hc1, CS_app, ← CS_take L i, ← htk, List.take_take, Nat.min_eq_left (by omega)]
    exact List.take_left' (by rw [List.length_append, hld, List.length_take, Array.length_toList]; omega)
  have AP : Hid (∀ ty sc, (Builtin.append_ #[25, 25] ty #[.slice (some ⟨rb, 0, none⟩) i cap, .slice (some aj) (n - j) sc]).run Try.prog w.drew = .ok (.slice (some ⟨rb, 0, none⟩) m cap) (w.drew.setRow rb c1.toArray)) := fun ty sc => by
    have := run_append_room (P := Try.prog) w.drew 25 ty 33 i0 Try.underlying25 hi0 rb i cap cur hg aj (n - j) sc (CS (L.drop j)) (by simp only [hz1, hld, Nat.mul_one]) (fun k u hk => by
      have hk' := (List.getElem?_eq_some_iff.1 hk).1
      rw [hajn (by rw [hld] at hk'; omega), Addr.add_lit]
      apply hgc
      rw [← CS_drop, List.getElem?_drop] at hk
      exact hk) (CS_one _) (by omega) (by rw [hz1, hld]; omega)
    simp only [hz1, Nat.mul_one] at this
    rw [hm, hc1] at this
    exact this
  obtain ⟨W1, hW1⟩ : ∃ W1, w.drew.setRow rb c1.toArray = W1 := ⟨_, rfl⟩
  have hg1 : W1.heap[rb]? = some (.cells c1.toArray 33 (0, 0)) := by rw [← hW1]; exact setRow_heap w.drew rb cur _ 33 _ hg
  have hP1 : Hid (Past rb w W1) := by rw [← hW1]; exact ⟨rfl, rfl, rfl, by simp, fun k hk hne => by rw [setRow_other _ rb k _ hne]; rfl⟩
  rw [hW1] at AP
  obtain ⟨c2, hcl2, s2, t2⟩ := run_clear_part (P := Try.prog) W1 25 33 0 (.slice none 0 0) Try.underlying25 Try.zeroValue33 rb (m) d (cap - m) c1.toArray hg1 (by omega) (by have hcs1 : (Value.slice none 0 0).cells.size = 1 := rfl; rw [hcs1, List.size_toArray, l1]; omega) (by intro v hv; simp [Value.cells] at hv; subst hv; rfl) (by decide)
  have HC2 := Lib.hid hcl2
  have HR : Hid (RowV (W1.setRow rb c2) (.slice (some ⟨rb, 0, none⟩) m cap) rb (L.take i ++ L.drop j)) := by
    have hlen : (L.take i ++ L.drop j).length = m := by rw [List.length_append, List.length_take, List.length_drop, hn]; omega
    have := RowV.mk' (w := W1.setRow rb c2) (rb := rb) (cap := cap) (L := L.take i ++ L.drop j) (setRow_heap W1 rb _ _ 33 _ hg1) (by rw [hlen]; omega) hcm (by rw [s2, List.size_toArray, l1]) (by rw [hlen, t2]; simpa using t1)
    rw [hlen] at this; exact this
  have hP2 : Hid (Past rb w (W1.setRow rb c2)) := ⟨hP1.out.os, hP1.out.tape, hP1.out.output, by have := hP1.out.size; simpa using this, fun k hk hne => by rw [setRow_other _ rb k _ hne]; exact hP1.out.block k hk hne⟩
  clear hgc hc1 l1 t1 hg1 s2 t2 hW1 htk hld hajn hg hcs hcm hcl2 hn hP1
  go_enter Try.func35, Try.ntmps35
  go_wp2_with fail
  refine wp_region_held_drew (S := (fun _ => True)) (by kernel_rfl) trivial (fun hHeld => ?_)
  refine takeD (i := 0) (d := some 20) (v := ?_) _ rfl rfl (by kernel_rfl) (by kernel_rfl) (by kernel_rfl) (fun _ _ _ h => h) (by rfl) ?_ trivial ?_
  rotate_left
  · (intro w hSw; (try dsimp only at hSw); go_simp) <;> with_reducible rfl
  try simp only [Act.put, List.setIfInBounds_toArray, List.set_cons_zero, List.set_cons_succ]
  refine takeD (i := 1) (d := some 21) (v := ?_) _ rfl rfl (by kernel_rfl) (by kernel_rfl) (by kernel_rfl) (fun _ _ _ h => h) (by rfl) ?_ trivial ?_
  rotate_left
  · (intro w hSw; (try dsimp only at hSw); go_simp) <;> with_reducible rfl
  try simp only [Act.put, List.setIfInBounds_toArray, List.set_cons_zero, List.set_cons_succ]
  refine takeD (i := 2) (d := some 22) (v := ?_) _ rfl rfl (by kernel_rfl) (by kernel_rfl) (by kernel_rfl) (fun _ _ _ h => h) (by rfl) ?_ trivial ?_
  rotate_left
  · (intro w hSw; (try dsimp only at hSw); go_simp) <;> with_reducible rfl
  try simp only [Act.put, List.setIfInBounds_toArray, List.set_cons_zero, List.set_cons_succ]
  refine takeD (i := 3) (d := some 23) (v := ?_) _ rfl rfl (by kernel_rfl) (by kernel_rfl) (by kernel_rfl) (fun _ _ _ h => h) (by rfl) ?_ trivial ?_
  rotate_left
  · (intro w hSw; (try dsimp only at hSw); go_simp) <;> with_reducible rfl
  try simp only [Act.put, List.setIfInBounds_toArray, List.set_cons_zero, List.set_cons_succ]
  refine takeD (i := 4) (d := some 24) (v := ?_) _ rfl rfl (by kernel_rfl) (by kernel_rfl) (by kernel_rfl) (fun _ _ _ h => h) (by rfl) ?_ trivial ?_
  rotate_left
  · (intro w hSw; (try dsimp only at hSw); go_simp) <;> with_reducible rfl
  try simp only [Act.put, List.setIfInBounds_toArray, List.set_cons_zero, List.set_cons_succ]
  refine takeD (i := 5) (d := some 25) (v := ?_) _ rfl rfl (by kernel_rfl) (by kernel_rfl) (by kernel_rfl) (fun _ _ _ h => h) (by rfl) ?_ trivial ?_
  rotate_left
  · (intro w hSw; (try dsimp only at hSw); go_simp) <;> with_reducible rfl
  try simp only [Act.put, List.setIfInBounds_toArray, List.set_cons_zero, List.set_cons_succ]
  refine wpAnyH_ready (rs := [6]) (by kernel_rfl) (by simp) ?_
  refine AllReadyH.cons rfl (fun K hK => ?_) AllReadyH.nil
  refine Lib.wp_append_run _ _ _ 25 25 rfl _ _ rfl rfl _ _ (AP.out _ _) ?_
  refine hK.out _ _ trivial (fun hHeld => ?_)
  clear hK K
  try simp only [Act.put, List.setIfInBounds_toArray, List.set_cons_zero, List.set_cons_succ]
  refine takeD (i := 7) (d := some 0) (v := ?_) _ rfl rfl (by kernel_rfl) (by kernel_rfl) (by kernel_rfl) (fun _ _ _ h => h) (by rfl) ?_ trivial ?_
  rotate_left
  · (intro w hSw; (try dsimp only at hSw); go_simp) <;> with_reducible rfl
  try simp only [Act.put, List.setIfInBounds_toArray, List.set_cons_zero, List.set_cons_succ]
  refine wpAnyH_done (by kernel_rfl) ?_ _
  clear hHeld
  have hcl2 := HC2.out
  go_wp2_with fail
  go_ret
  exact ⟨_, rfl, HR.out, hP2.out⟩
/-- slices.Delete at a list of timers. -/
theorem delete_any (v : Value) (rb i j : Nat) (L : List Sl) (w : World) (hr : RowV w v rb L) (hij : i ≤ j) (hj : j ≤ L.length) (hL : L.length ≤ 1000) :
    Calls Try.prog 35 #[v, .int .i64 (i : Int), .int .i64 (j : Int)] w fun e w' => ∃ v', e = .returned v' ∧ RowV w' v' rb (L.take i ++ L.drop j) ∧ Past rb w w' := by
  by_cases he : i = j
  · subst he
    refine (delete_same v rb i L w hr hj hL).mono ?_
    rintro e w' ⟨rfl, rfl⟩
    exact ⟨v, rfl, by rw [List.take_append_drop]; exact hr, Past.refl _ _⟩
  · rcases hr.form with ⟨_, h0⟩ | ⟨cap, cur, rfl, hg, h1, h2, h3, h4⟩
    · subst h0; simp at hj; omega
    · exact delete_some rb cap i j cur L w hg h1 h2 h3 h4 (by omega) hj hL
end Go.Proofs.Ytkbjonblflhkoaa.Q
