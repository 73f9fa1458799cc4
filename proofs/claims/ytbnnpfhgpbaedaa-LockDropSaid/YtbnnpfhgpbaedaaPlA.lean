/-
  Lists of pairs in memory; slices.Insert where there is room. Each statement bears its own conditions.
-/
import Derived.Test.YtbnnpfhgpbaedaaData
import Derived.Laws.Externs
namespace Go.Proofs.Ytbnnpfhgpbaedaa.W
open Go.RowKit
set_option linter.unusedVariables false
set_option linter.unusedSimpArgs false
/-- Pairs as cells. -/
def C (L : List (Int × Int)) : List Value := L.flatMap fun x => [.int .i64 x.1, .int .i64 x.2]
theorem C_nil : C [] = [] := rfl
theorem C_cons (x : Int × Int) (L : List (Int × Int)) : C (x :: L) = .int .i64 x.1 :: .int .i64 x.2 :: C L := rfl
theorem C_app (L M : List (Int × Int)) : C (L ++ M) = C L ++ C M := by simp [C]
theorem C_len (L : List (Int × Int)) : (C L).length = L.length * 2 := by
  induction L with
  | nil => rfl
  | cons x L ih => rw [C_cons, List.length_cons, List.length_cons, ih, List.length_cons]; omega
theorem C_one (L : List (Int × Int)) : ∀ u ∈ C L, u.oneCell' = true := by
  intro u hu
  obtain ⟨x, _, hx⟩ := List.mem_flatMap.1 hu
  simp at hx
  rcases hx with rfl | rfl <;> rfl
theorem C_take (L : List (Int × Int)) (i : Nat) : (C L).take (i * 2) = C (L.take i) := by
  induction L generalizing i with
  | nil => simp [C]
  | cons x L ih =>
    cases i with
    | zero => simp [C]
    | succ i => rw [show (i + 1) * 2 = i * 2 + 1 + 1 by omega, C_cons, List.take_succ_cons, List.take_succ_cons, ih, List.take_succ_cons, C_cons]
theorem C_drop (L : List (Int × Int)) (i : Nat) : (C L).drop (i * 2) = C (L.drop i) := by
  induction L generalizing i with
  | nil => simp [C]
  | cons x L ih =>
    cases i with
    | zero => simp [C]
    | succ i => rw [show (i + 1) * 2 = i * 2 + 1 + 1 by omega, C_cons, List.drop_succ_cons, List.drop_succ_cons, ih, List.drop_succ_cons]
theorem C_at (L : List (Int × Int)) (i : Nat) (h : i < L.length) : (C L)[i * 2]? = some (.int .i64 (L.getD i (0, 0)).1) ∧ (C L)[i * 2 + 1]? = some (.int .i64 (L.getD i (0, 0)).2) := by
  induction L generalizing i with
  | nil => simp at h
  | cons x L ih =>
    cases i with
    | zero => simp [C_cons]
    | succ i =>
      have := ih i (by simpa using h)
      rw [show (i + 1) * 2 = i * 2 + 1 + 1 by omega, C_cons]
      simpa using this
theorem timer_info : (Try.prog.info? 76).map (fun i => (i.zero, i.size, i.bytes)) = some (some (.agg #[.int .i64 0, .int .i64 0]), 2, 16) := by kernel_rfl
theorem info_of {e : TypeId} {z : Value} {s b : Nat} (h : (Try.prog.info? e).map (fun i => (i.zero, i.size, i.bytes)) = some (some z, s, b)) : ∃ i, Try.prog.info? e = some i ∧ i.zero = some z ∧ i.size = s ∧ i.bytes = b := by
  cases hq : Try.prog.info? e with
  | none => rw [hq] at h; cases h
  | some i =>
    rw [hq] at h
    simp only [Option.map_some, Option.some.injEq, Prod.mk.injEq] at h
    exact ⟨i, rfl, h.1, h.2.1, h.2.2⟩
/-- A list of timers as a value: its row lies in block rb. -/
structure RowV (w : World) (v : Value) (rb : Nat) (L : List (Int × Int)) : Prop where
  own : w.ownsRow 0 76 2 v L.length (C L)
  at_ : ∀ b, v.ownBlock = some b → b = rb
theorem RowV.form {w : World} {v : Value} {rb : Nat} {L : List (Int × Int)} (h : RowV w v rb L) : (v = .slice none 0 0 ∧ L = []) ∨ ∃ cap cur, v = .slice (some ⟨rb, 0, none⟩) L.length cap ∧ w.heap[rb]? = some (.cells cur 76 (0, 0)) ∧ L.length ≤ cap ∧ cap ≤ maxLen ∧ cur.size = cap * 2 ∧ cur.toList.take (L.length * 2) = C L := by
  rcases h.own.2 with ⟨hv, hn⟩ | ⟨g, cap, cur, hv, _, hg, h1, h2, h3, h4⟩
  · exact .inl ⟨hv, List.eq_nil_of_length_eq_zero hn⟩
  · have := h.at_ g (by rw [hv]; rfl)
    subst this
    exact .inr ⟨cap, cur, hv, hg, h1, h2, h3, h4⟩
theorem RowV.mk' {w : World} {rb cap : Nat} {cur : Array Value} {L : List (Int × Int)} (hg : w.heap[rb]? = some (.cells cur 76 (0, 0))) (h1 : L.length ≤ cap) (h2 : cap ≤ maxLen) (h3 : cur.size = cap * 2) (h4 : cur.toList.take (L.length * 2) = C L) : RowV w (.slice (some ⟨rb, 0, none⟩) L.length cap) rb L :=
  ⟨⟨C_len L, .inr ⟨rb, cap, cur, rfl, Nat.zero_le _, hg, h1, h2, h3, h4⟩⟩, fun b hb => by injection hb with hb; exact hb.symm⟩
theorem ins_list (L : List (Int × Int)) (x : Int × Int) (i : Nat) (h : i ≤ L.length) : (L.take i ++ x :: L.drop i).length = L.length + 1 := by simp; omega
set_option maxRecDepth 100000 in
theorem insert_end (v : Value) (rb vb : Nat) (x : Int × Int) (L : List (Int × Int)) (w : World) (hr : RowV w v rb L) (hL : L.length ≤ 1000) (hv : w.heap[vb]? = some (.cells #[.int .i64 x.1, .int .i64 x.2] 76 (0, 0))) :
    Calls Try.prog 52 #[v, .int .i64 (L.length : Int), .slice (some ⟨vb, 0, none⟩) 1 1] w fun e w' => ∃ v' rb', e = .returned v' ∧ RowV w' v' rb' (L ++ [x]) ∧ (rb' = rb ∨ w.heap.size ≤ rb') ∧ Past rb w w' := by
  obtain ⟨i0, hi, hz0, hz1, hz2⟩ := info_of timer_info
  have HR := Lib.hid hr
  have hvs : Hid (Reads w w.heap.size 2 (some ⟨vb, 0, none⟩) 1 (C [x])) := by
    refine ⟨by simp [C], fun _ => ⟨_, rfl, ?_, fun j u hu => ?_⟩⟩
    · have := World.block_lt_of_cell? w ⟨vb, 0, none⟩ (u := .int .i64 x.1) (by rw [(row_cell hv 0).1]; rfl); exact this
    · rw [Addr.add_lit, Nat.zero_add, (row_cell hv j).1]
      rw [← hu]; simp [C]
  obtain ⟨n, hn⟩ : ∃ n, L.length = n := ⟨_, rfl⟩
  have HO : Hid (w.ownsRow 0 76 2 v n (C L)) := by have := hr.own; rw [hn] at this; exact this
  have HN := Lib.hid hn
  have HL : Hid (n ≤ 1000) := by unfold Hid; omega
  obtain ⟨A, c, rfl⟩ := slice_form hr.own
  rw [hn]
  clear hr hv hL
  simp only [hn] at HO HR
  clear hn
  obtain ⟨A1, hA1⟩ : ∃ A1, (if c = n then A else A.map (fun x => x.add (n * 2))) = A1 := ⟨_, rfl⟩
  go_enter Try.func52, Try.ntmps52
  go_wp2_with (at_builtin; refine wpList_append_any _ rfl (.tmp 23) (.tmp 24) _ rfl 0 76 i0 _ 2 16 Try.underlying79 hi hz0 hz1 hz2 rfl (by omega) (.slice A n c) n (C L) rfl HO.out w.heap.size (some ⟨vb, 0, none⟩) 1 1 (C [x]) rfl hvs.out (C_one _) ?c2 ?c3 ?c4 ?_)
  case c2 => have := HL.out; unfold maxLen; omega
  case c3 => have := HL.out; omega
  case c4 => exact Nat.zero_le _
  intro v2 w2 ho hg hb
  go_wp2_with fail
  go_ret
  have ho' : w2.ownsRow 0 76 2 v2 (L ++ [x]).length (C (L ++ [x])) := by
    rw [C_app, List.length_append, HN.out]; exact ho
  have hP : Past rb w w2 := ⟨hg.os, hg.tape, hg.output, hg.size, fun k hk hne => hg.block k hk (fun e => hne (HR.out.at_ k e.symm))⟩
  rcases hb with hb | hb
  · exact ⟨v2, rb, rfl, ⟨ho', fun b e => HR.out.at_ b (hb ▸ e)⟩, .inl rfl, hP⟩
  · exact ⟨v2, w.heap.size, rfl, ⟨ho', fun b e => by rw [hb] at e; injection e with e; exact e.symm⟩, .inr (Nat.le_refl _), hP⟩
/-- What stands in the row behind both copies. -/
theorem shift_list (c : List Value) (L : List (Int × Int)) (x : Int × Int) (i n : Nat) (hn : L.length = n) (hi : i < n) (hc : (n + 1) * 2 ≤ c.length) (htk : c.take (n * 2) = C L) :
    let c1 := c.take ((i + 1) * 2) ++ C (L.drop i) ++ c.drop ((i + 1) * 2 + (C (L.drop i)).length)
    let c2 := c1.take (i * 2) ++ C [x] ++ c1.drop (i * 2 + (C [x]).length)
    c1.length = c.length ∧ c2.length = c.length ∧ c2.take ((n + 1) * 2) = C (L.take i ++ x :: L.drop i) := by
  intro c1 c2
  have l0 : (C (L.drop i)).length = (n - i) * 2 := by rw [C_len, List.length_drop, hn]
  have lx : (C [x]).length = 2 := rfl
  have l1 : c1.length = c.length := by simp only [c1, List.length_append, List.length_take, List.length_drop, l0]; omega
  have h1 : c1.take (i * 2) = C (L.take i) := by
    simp only [c1, List.append_assoc]
    rw [List.take_append_of_le_length (by rw [List.length_take]; omega), List.take_take, ← C_take, ← htk, List.take_take]
    congr 1; omega
  have h2 : c1.drop (i * 2 + 2) = C (L.drop i) ++ c.drop ((i + 1) * 2 + (C (L.drop i)).length) := by
    simp only [c1, List.append_assoc]
    exact List.drop_left' (by rw [List.length_take]; omega)
  have e2 : c2 = C (L.take i) ++ C [x] ++ (C (L.drop i) ++ c.drop ((i + 1) * 2 + (C (L.drop i)).length)) := by
    simp only [c2, lx, h1, h2]
  have lt : (C (L.take i)).length = i * 2 := by rw [C_len, List.length_take]; omega
  refine ⟨l1, ?_, ?_⟩
  · rw [e2]; simp only [List.length_append, List.length_drop, l0, lx, lt]; omega
  · rw [e2, show C (L.take i ++ x :: L.drop i) = C (L.take i) ++ C [x] ++ C (L.drop i) by rw [C_app, C_cons]; simp [C]]
    rw [show C (L.take i) ++ C [x] ++ (C (L.drop i) ++ c.drop ((i + 1) * 2 + (C (L.drop i)).length)) = (C (L.take i) ++ C [x] ++ C (L.drop i)) ++ c.drop ((i + 1) * 2 + (C (L.drop i)).length) by simp]
    exact List.take_left' (by simp only [List.length_append, l0, lx, lt]; omega)
set_option maxRecDepth 100000 in
set_option maxHeartbeats 1000000 in
theorem insert_room (rb vb cap i : Nat) (cur : Array Value) (x : Int × Int) (L : List (Int × Int)) (w : World) (hg : w.heap[rb]? = some (.cells cur 76 (0, 0))) (hcap : L.length < cap) (hcm : cap ≤ maxLen) (hcs : cur.size = cap * 2) (htk : cur.toList.take (L.length * 2) = C L) (hi : i < L.length) (hL : L.length ≤ 1000) (hvb : vb ≠ rb) (hv : w.heap[vb]? = some (.cells #[.int .i64 x.1, .int .i64 x.2] 76 (0, 0))) :
    Calls Try.prog 52 #[.slice (some ⟨rb, 0, none⟩) L.length cap, .int .i64 (i : Int), .slice (some ⟨vb, 0, none⟩) 1 1] w fun e w' => ∃ v' rb', e = .returned v' ∧ RowV w' v' rb' (L.take i ++ x :: L.drop i) ∧ (rb' = rb ∨ w.heap.size ≤ rb') ∧ Past rb w w' := by
  obtain ⟨i0, hi0, hz0, hz1, hz2⟩ := info_of timer_info
  obtain ⟨n, hn⟩ : ∃ n, L.length = n := ⟨_, rfl⟩
  rw [hn] at hcap htk hi hL ⊢
  have iI : (i : Int) ≤ (n : Int) := by omega
  have iN : ((i : Int) == (n : Int)) = false := by rw [beq_eq_false_iff_ne]; omega
  have wn : IntKind.i64.wrap ((n : Int) + 1) = (n : Int) + 1 := by rw [IntKind.wrap_i64]; omega
  have wi : IntKind.i64.wrap ((i : Int) + 1) = (i : Int) + 1 := by rw [IntKind.wrap_i64]; omega
  have nc : ¬ (cap : Int) < (n : Int) + 1 := by omega
  have nc2 : (n : Int) + 1 ≤ (cap : Int) := by omega
  have i1 : (i : Int) + 1 ≤ (n : Int) + 1 := by omega
  have ic : ¬ cap = i := by omega
  have ic1 : ¬ cap = i + 1 := by omega
  have ip : (0 : Int) ≤ (i : Int) + 1 := by omega
  have ip2 : (i : Int) ≤ (n : Int) + 1 := by omega
  have hcur : 0 < cur.size := by omega
  have hov : ∀ lb cb o, (callFunc 54 #[.slice (some ⟨vb, 0, none⟩) 1 1, .slice (some ⟨rb, o, none⟩) lb cb]).run Try.prog w = .ok (.value (.bool false)) w := fun lb cb o => by
    rw [run_callFunc_extern Try.func54 (by kernel_rfl) (by kernel_rfl) (by kernel_rfl) (e := Extern.SlicesOverlaps.overlaps #[79, 79] #[4]) (by kernel_rfl),
      Lib.run_overlaps_apart w 79 4 76 Try.underlying79 2 Try.sizeOf76 ⟨vb, 0, none⟩ ⟨rb, o, none⟩ 1 1 lb cb hvb 76 76 2 cur.size (by simp [World.shape?, hv]) (by simp [World.shape?, hg]) (by omega) (row_cell hv 0).2 (row_cell hv 2).2]
    rfl
  have HOV := Lib.hid hov
  obtain ⟨l1, l2, l3⟩ := shift_list cur.toList L x i n hn hi (by rw [Array.length_toList]; omega) htk
  obtain ⟨c1, hc1⟩ : ∃ c1, cur.toList.take ((i + 1) * 2) ++ C (L.drop i) ++ cur.toList.drop ((i + 1) * 2 + (C (L.drop i)).length) = c1 := ⟨_, rfl⟩
  rw [hc1] at l1 l2 l3
  obtain ⟨c2, hc2⟩ : ∃ c2, c1.take (i * 2) ++ C [x] ++ c1.drop (i * 2 + (C [x]).length) = c2 := ⟨_, rfl⟩
  rw [hc2] at l2 l3
  have hld : (C (L.drop i)).length = (n - i) * 2 := by rw [C_len, List.length_drop, hn]
  have hgc : ∀ j v, (C L)[j]? = some v → w.drew.cell? ⟨rb, j, none⟩ = some v := fun j v hj => by
    have h1 : w.drew.cell? ⟨rb, j, none⟩ = cur[j]? := (row_cell (w := w.drew) hg j).1
    rw [h1, ← Array.getElem?_toList]
    have h2 : j < n * 2 := by
      have := (List.getElem?_eq_some_iff.1 hj).1
      rw [C_len, hn] at this; exact this
    rw [← htk, List.getElem?_take_of_lt h2] at hj
    exact hj
  have CP1 : Hid (∀ ty dc sc, (Builtin.copy_ #[79, 79] ty #[.slice (some ⟨rb, (i + 1) * 2, none⟩) (n - i) dc, .slice (some ⟨rb, i * 2, none⟩) (n + 1 - i) sc]).run Try.prog w.drew = .ok (goInt ((n - i : Nat) : Int)) (w.drew.setRow rb c1.toArray)) := fun ty dc sc => by
    have hmin : Nat.min (n + 1 - i) (n - i) = n - i := by show min _ _ = _; omega
    have := run_copy_pairs (P := Try.prog) w.drew 79 79 ty 76 i0 Try.underlying79 hi0 rb ((i + 1) * 2) (n - i) dc ⟨rb, i * 2, none⟩ (n + 1 - i) sc cur 76 (C (L.drop i)) hg (by rw [hmin, hz1, hld]) (fun j v hj => by
      rw [Addr.add_lit]
      apply hgc
      rw [← C_drop, List.getElem?_drop] at hj
      exact hj) (by rw [hld]; omega) (C_one _)
    rw [hmin, hc1] at this
    exact this
  have CP2 : Hid (∀ ty dc, (Builtin.copy_ #[79, 79] ty #[.slice (some ⟨rb, i * 2, none⟩) (n + 1 - i) dc, .slice (some ⟨vb, 0, none⟩) 1 1]).run Try.prog (w.drew.setRow rb c1.toArray) = .ok (goInt 1) ((w.drew.setRow rb c1.toArray).setRow rb c2.toArray)) := fun ty dc => by
    have hmin : Nat.min 1 (n + 1 - i) = 1 := by show min _ _ = _; omega
    have := run_copy_pairs (P := Try.prog) (w.drew.setRow rb c1.toArray) 79 79 ty 76 i0 Try.underlying79 hi0 rb (i * 2) (n + 1 - i) dc ⟨vb, 0, none⟩ 1 1 c1.toArray 76 (C [x]) (setRow_heap w.drew rb cur _ 76 _ hg) (by rw [hmin, hz1]; rfl) (fun j v hj => by
      rw [Addr.add_lit, Nat.zero_add]
      have h1 : (w.drew.setRow rb c1.toArray).heap[vb]? = some (.cells #[.int .i64 x.1, .int .i64 x.2] 76 (0, 0)) := (setRow_other w.drew rb vb _ hvb).trans hv
      rw [(row_cell h1 j).1]
      rw [← hj]; simp [C]) (by simp only [List.size_toArray, l1]; show i * 2 + 2 ≤ _; rw [Array.length_toList]; omega) (C_one _)
    rw [hmin, hc2] at this
    exact this
  go_enter Try.func52, Try.ntmps52
  go_wp2_with (simp only [HOV.out])
  refine wp_region_held_drew (S := (fun _ => True)) (by kernel_rfl) trivial (fun hHeld => ?_)
  refine takeD (i := 0) (d := some 69) (v := ?_) _ rfl rfl (by kernel_rfl) (by kernel_rfl) (by kernel_rfl) (fun _ _ _ h => h) (by rfl) ?_ trivial ?_
  rotate_left
  · (intro w hSw; (try dsimp only at hSw); go_simp) <;> with_reducible rfl
  try simp only [Act.put, List.setIfInBounds_toArray, List.set_cons_zero, List.set_cons_succ]
  refine takeD (i := 1) (d := some 70) (v := ?_) _ rfl rfl (by kernel_rfl) (by kernel_rfl) (by kernel_rfl) (fun _ _ _ h => h) (by rfl) ?_ trivial ?_
  rotate_left
  · (intro w hSw; (try dsimp only at hSw); go_simp) <;> with_reducible rfl
  try simp only [Act.put, List.setIfInBounds_toArray, List.set_cons_zero, List.set_cons_succ]
  refine takeD (i := 2) (d := some 71) (v := ?_) _ rfl rfl (by kernel_rfl) (by kernel_rfl) (by kernel_rfl) (fun _ _ _ h => h) (by rfl) ?_ trivial ?_
  rotate_left
  · (intro w hSw; (try dsimp only at hSw); go_simp) <;> with_reducible rfl
  try simp only [Act.put, List.setIfInBounds_toArray, List.set_cons_zero, List.set_cons_succ]
  refine takeD (i := 3) (d := some 72) (v := ?_) _ rfl rfl (by kernel_rfl) (by kernel_rfl) (by kernel_rfl) (fun _ _ _ h => h) (by rfl) ?_ trivial ?_
  rotate_left
  · (intro w hSw; (try dsimp only at hSw); go_simp) <;> with_reducible rfl
  try simp only [Act.put, List.setIfInBounds_toArray, List.set_cons_zero, List.set_cons_succ]
  refine takeD (i := 4) (d := some 73) (v := ?_) _ rfl rfl (by kernel_rfl) (by kernel_rfl) (by kernel_rfl) (fun _ _ _ h => h) (by rfl) ?_ trivial ?_
  rotate_left
  · (intro w hSw; (try dsimp only at hSw); go_simp) <;> with_reducible rfl
  try simp only [Act.put, List.setIfInBounds_toArray, List.set_cons_zero, List.set_cons_succ]
  refine takeD (i := 5) (d := some 74) (v := ?_) _ rfl rfl (by kernel_rfl) (by kernel_rfl) (by kernel_rfl) (fun _ _ _ h => h) (by rfl) ?_ trivial ?_
  rotate_left
  · (intro w hSw; (try dsimp only at hSw); go_simp) <;> with_reducible rfl
  try simp only [Act.put, List.setIfInBounds_toArray, List.set_cons_zero, List.set_cons_succ]
  refine takeD (i := 6) (d := some 75) (v := ?_) _ rfl rfl (by kernel_rfl) (by kernel_rfl) (by kernel_rfl) (fun _ _ _ h => h) (by rfl) ?_ trivial ?_
  rotate_left
  · (intro w hSw; (try dsimp only at hSw); go_simp) <;> with_reducible rfl
  try simp only [Act.put, List.setIfInBounds_toArray, List.set_cons_zero, List.set_cons_succ]
  refine takeD (i := 7) (d := some 76) (v := ?_) _ rfl rfl (by kernel_rfl) (by kernel_rfl) (by kernel_rfl) (fun _ _ _ h => h) (by rfl) ?_ trivial ?_
  rotate_left
  · (intro w hSw; (try dsimp only at hSw); go_simp) <;> with_reducible rfl
  try simp only [Act.put, List.setIfInBounds_toArray, List.set_cons_zero, List.set_cons_succ]
  refine wpAnyH_ready (rs := [8]) (by kernel_rfl) (by simp) ?_
  refine AllReadyH.cons rfl (fun K hK => ?_) AllReadyH.nil
  refine Lib.wp_copy_run _ _ _ 79 79 rfl _ _ rfl rfl (CP1.out _ _ _) ?_
  refine hK.out _ _ trivial (fun hHeld => ?_)
  clear hK K
  try simp only [Act.put, List.setIfInBounds_toArray, List.set_cons_zero, List.set_cons_succ]
  refine wpAnyH_done (by kernel_rfl) ?_ _
  clear hHeld
  go_wp2_with (refine Lib.wpList_copy_run _ rfl (.tmp 80) (.tmp 81) 79 79 rfl _ _ rfl rfl (CP2.out _ _) ?_)
  go_ret
  have hg2 : ((w.drew.setRow rb c1.toArray).setRow rb c2.toArray).heap[rb]? = some (.cells c2.toArray 76 (0, 0)) := setRow_heap _ rb _ _ 76 _ (setRow_heap w.drew rb cur _ 76 _ hg)
  have hlen : (L.take i ++ x :: L.drop i).length = n + 1 := by rw [ins_list L x i (by omega), hn]
  have hR := RowV.mk' (rb := rb) (cap := cap) (L := L.take i ++ x :: L.drop i) hg2 (by rw [hlen]; omega) hcm (by simp only [List.size_toArray]; rw [l2, Array.length_toList, hcs]) (by rw [hlen]; simpa using l3)
  rw [hlen] at hR
  exact ⟨_, rb, rfl, hR, .inl rfl, ⟨rfl, rfl, rfl, by simp, fun k hk hne => by
    rw [setRow_other _ rb k _ hne, setRow_other _ rb k _ hne]; rfl⟩⟩
theorem RowV.cells {w : World} {v : Value} {rb : Nat} {L : List (Int × Int)} (h : RowV w v rb L) (i : Nat) (hi : i < L.length) : (∃ c, v = .slice (some ⟨rb, 0, none⟩) L.length c) ∧ w.cell? ⟨rb, i * 2, none⟩ = some (.int .i64 (L.getD i (0, 0)).1) ∧ w.cell? ⟨rb, i * 2 + 1, none⟩ = some (.int .i64 (L.getD i (0, 0)).2) ∧ rb < w.heap.size := by
  rcases h.form with ⟨_, h0⟩ | ⟨cap, cur, hv, hg, h1, h2, h3, h4⟩
  · subst h0; simp at hi
  · obtain ⟨a, b⟩ := C_at L i hi
    rw [← h4, List.getElem?_take_of_lt (by omega), Array.getElem?_toList] at a b
    refine ⟨⟨cap, hv⟩, by rw [(row_cell hg _).1]; exact a, by rw [(row_cell hg _).1]; exact b, ?_⟩
    exact World.block_lt_of_cell? w ⟨rb, i * 2, none⟩ (u := .int .i64 (L.getD i (0, 0)).1) (by rw [(row_cell hg _).1]; exact a)
theorem RowV.slice {w : World} {v : Value} {rb : Nat} {L : List (Int × Int)} (h : RowV w v rb L) : ∃ A c, v = .slice A L.length c ∧ L.length ≤ c := by
  rcases h.form with ⟨hv, h0⟩ | ⟨cap, cur, hv, hg, h1, h2, h3, h4⟩
  · subst h0; exact ⟨none, 0, hv, Nat.le_refl _⟩
  · exact ⟨_, cap, hv, h1⟩
theorem RowV.keep {w w' : World} {v : Value} {rb : Nat} {L : List (Int × Int)} (h : RowV w v rb L) (hb : v = .slice none 0 0 ∨ w'.heap[rb]? = w.heap[rb]?) : RowV w' v rb L := by
  refine ⟨⟨h.own.1, ?_⟩, h.at_⟩
  rcases h.form with ⟨hv, h0⟩ | ⟨cap, cur, hv, hg, h1, h2, h3, h4⟩
  · exact .inl ⟨hv, by rw [h0]; rfl⟩
  · rcases hb with hb | hb
    · rw [hv] at hb; cases hb
    · exact .inr ⟨rb, cap, cur, hv, Nat.zero_le _, hb.trans hg, h1, h2, h3, h4⟩
theorem RowV.lt {w : World} {v : Value} {rb : Nat} {L : List (Int × Int)} (h : RowV w v rb L) : v = .slice none 0 0 ∨ rb < w.heap.size := by
  rcases h.form with ⟨hv, h0⟩ | ⟨cap, cur, hv, hg, h1, h2, h3, h4⟩
  · exact .inl hv
  · right
    rcases Nat.lt_or_ge rb w.heap.size with h | h
    · exact h
    · rw [Array.getElem?_eq_none h] at hg; cases hg
end Go.Proofs.Ytbnnpfhgpbaedaa.W
