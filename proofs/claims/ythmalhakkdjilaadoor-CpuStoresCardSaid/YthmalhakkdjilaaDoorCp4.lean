/-
  What is pushed comes back: the law. Each statement bears its own conditions.
-/
import Derived.Test.YthmalhakkdjilaaDoorCp3
import Derived.Test.YthmalhakkdjilaaDoorCpT
import Derived.Test.YthmalhakkdjilaaDoorCpW
namespace Go.Proofs.YthmalhakkdjilaaDoor
open Go.RowKit
set_option linter.unusedVariables false
set_option linter.unusedSimpArgs false
theorem low20 (x : Int) : ∃ u q : Nat, IntKind.u64.wrap x = (u : Int) ∧ (u : Int) % 20 = (q : Int) ∧ ((u : Int).tmod 20) = (q : Int) ∧ q < 20 ∧ IntKind.i64.wrap (q : Int) = (q : Int) ∧ IntKind.u64.wrap (q : Int) = (q : Int) := by
  have h0 : IntKind.u64.wrap x = x % 18446744073709551616 := by simp [IntKind.wrap, IntKind.bits, IntKind.signed]
  refine ⟨(x % 18446744073709551616).toNat, (x % 18446744073709551616 % 20).toNat, by rw [h0]; omega, by omega, ?_, by omega, ?_, ?_⟩
  · rw [Int.tmod_eq_emod_of_nonneg (by omega)]; omega
  · exact i64_ok (by omega) (by omega)
  · rw [IntKind.wrap_u64]; omega
theorem mk20 (w : World) : (Instr.makeSlice 29 (.int .i64 20) (.int .i64 20)).run Tryd.prog w = .ok (.slice (some ⟨w.heap.size, 0, none⟩) 20 20) (w.alloc (.cells (CW [0, 0, 0, 0, 0, 0, 0, 0, 0, 0, 0, 0, 0, 0, 0, 0, 0, 0, 0, 0]).toArray 22)) := by kernel_rfl
section
variable {ops : Array Oper} {rest : List Oper} {op : Oper} {a : Act} {w : World} {Q : Exit → Act → World → Prop}
theorem wpList_neqg {p q : List Int} {t : Bool} (x y : Operand) (ty : TypeId) (hw : Region.wanted op (yielded ops a.tmps) = true) (ho : op.op = .binOp .neq 28 x y ty) (hx : a.eval x = .agg (cells p).toArray) (hy : a.eval y = .agg (cells q).toArray) (hp : p.length = 45) (hq : q.length = 45) (ht : (!decide (p = q)) = t)
    (K : wpList Tryd.prog ops Q rest (a.put op.dst (.bool t)) w) : wpList Tryd.prog ops Q (op :: rest) a w := by
  refine wpList_wanted hw fun _ hK => ?_
  unfold Oper.wp execOp
  simp only [ho, hx, hy, Sem.run_bind, run_eqGuard_agg (P := Tryd.prog) w .neq 28 x y _ _ (by kernel_rfl), run_neq_regs p q w hp hq, ht, Result.andThen_ok, Sem.run_pure]
  exact hK _ _ K
end
/-- Words in memory. -/
structure WordsAt (w : World) (A : Option Addr) (len : Nat) (xs : List Int) : Prop where
  u32 : ∀ i, U32 (xs.getD i 0)
  at_ : 0 < len → ∃ b off, A = some ⟨b, off, none⟩ ∧ b < w.heap.size ∧ ∀ i, i < len → w.cell? ⟨b, off + i, none⟩ = some (.int .u32 (xs.getD i 0))
theorem words_at {w : World} {a : Option Addr} {len cap : Nat} {zs : List Int} (h : IsRow .u32 w a len cap zs) : WordsAt w a len zs := by
  refine ⟨fun i => ?_, fun hn => ?_⟩
  · rw [List.getD_eq_getElem?_getD]
    by_cases hi : i < zs.length
    · rw [List.getElem?_eq_getElem hi]
      rcases h with ⟨_, _, _, rfl⟩ | ⟨_, _, _, _, _, _, h5⟩
      · simp at hi
      · have := h5 _ (List.getElem_mem hi)
        obtain ⟨x, hx⟩ : ∃ x, zs[i] = x := ⟨_, rfl⟩
        rw [hx] at this
        have e1 : IntKind.u32.min = 0 := rfl
        have e2 : IntKind.u32.max = 4294967295 := rfl
        simp [Lit.wf] at this
        show U32 zs[i]
        rw [hx]
        exact ⟨by omega, by omega⟩
    · rw [List.getElem?_eq_none (by omega)]; exact ⟨by decide, by decide⟩
  · obtain ⟨b, off, ha, hc⟩ := row_at h hn
    exact ⟨b, off, ha, World.block_lt_of_cell? _ _ (hc 0 hn).1, fun i hi => (hc i hi).1⟩
structure Mk (w : World) (v : Value) (wx : World) : Prop where
  ex : ∃ gm, v = .pointer (some ⟨gm, 0, none⟩) ∧ w.heap.size ≤ gm ∧ gm < wx.heap.size ∧ Below w.heap.size w wx ∧ MM wx gm (.iface 31 (.pointer (some ⟨gm, 0, none⟩))) (PM [0, 0, 0, 0, 0, 0, 0, 0, 0, 0, 0, 0, 0, 0, 0, 0, 0, 0, 0, 0] 0) (fun _ => False)
structure R1 (xs : List Int) (n R gr gm : Nat) (w : World) (v8 : Value) (wr : World) : Prop where
  ex : ∃ (k j m : Nat) (x1 pc st : Int) (D : List Int), k ≤ n ∧ v8 = .int .i64 (k : Int) ∧ j = min k R ∧ m + j = R ∧ RB wr gr (PR x1 0 pc ((m : Int) + 2) ((R : Int) + 2)) [] 28 ∧ U32 x1 ∧ MM wr gm (.iface 31 (.pointer (some ⟨gm, 0, none⟩))) (PM D st) (fun b => b = gr) ∧ D.length = 20 ∧ (∀ t, t < j → D.getD (R - 1 - t) 0 = xs.getD t 0) ∧ Below w.heap.size w wr
structure R2 (j R gr gm : Nat) (D : List Int) (st : Int) (w : World) (v11 : Value) (wr : World) : Prop where
  ex : ∃ (t m : Nat) (i x1 x2 pc : Int), t ≤ j ∧ v11 = .int .i64 i ∧ i + 1 = (t : Int) ∧ m + t = R ∧ RB wr gr (PR x1 x2 pc ((m : Int) + 2) ((R : Int) + 2)) [] 28 ∧ U32 x1 ∧ U32 x2 ∧ MM wr gm (.iface 31 (.pointer (some ⟨gm, 0, none⟩))) (PM D st) (fun b => b = gr) ∧ Below w.heap.size w wr
theorem step_push (gm gr : Nat) (x1 x2 tp st : Int) (D : List Int) (m : Nat) (w : World) (hD : D.length = 20) (hmt : m < 20) (hp : (m : Int) + 3 ≤ tp) (u1 : U32 x1) (u2 : U32 x2) (u3 : U32 tp) (hm : MM w gm (.iface 31 (.pointer (some ⟨gm, 0, none⟩))) (PM D st) (fun b => b = gr)) (hg : gr < w.heap.size) (h0 : 0 < gm) (hL : Laid w) :
    Calls Tryd.prog 11 #[.agg (cells (PR x1 x2 0 ((m : Int) + 3) tp)).toArray, (.iface 31 (.pointer (some ⟨gm, 0, none⟩)))] w fun e w' => e = .returned (.tuple #[.agg (cells (PR x1 x2 1 ((m : Int) + 2) tp)).toArray, .agg #[.int .i64 (priceV 21), .int .i64 (-1), .int .i64 0]]) ∧ MM w' gm (.iface 31 (.pointer (some ⟨gm, 0, none⟩))) (PM (D.set m x1) (IntKind.i64.wrap (st + 1))) (fun b => b = gr) ∧ PS (fun b => b = gm) w w' := by
  have C := step_any (domMem gm (.iface 31 (.pointer (some ⟨gm, 0, none⟩)))) (scMem gm (.iface 31 (.pointer (some ⟨gm, 0, none⟩)))) (PR x1 x2 0 ((m : Int) + 3) tp) (PM D st) w (fun b => b = gr) (pr_ok u1 u2 ⟨by decide, by decide⟩ ⟨by have := u3.1; have := u3.2; omega, by have := u3.1; have := u3.2; omega⟩ u3) (ok_push _ _ _ _ _ _) hm (fun b hb => by rw [hb]; exact hg) hL (fun b hb => by rw [hb]; exact hm.lt) (by omega)
  rw [push_ok x1 x2 tp st D m hD hmt hp] at C
  exact C
theorem step_full (gm gr : Nat) (x1 x2 tp st : Int) (D : List Int) (w : World) (u1 : U32 x1) (u2 : U32 x2) (u3 : U32 tp) (hm : MM w gm (.iface 31 (.pointer (some ⟨gm, 0, none⟩))) (PM D st) (fun b => b = gr)) (hg : gr < w.heap.size) (h0 : 0 < gm) (hL : Laid w) :
    Calls Tryd.prog 11 #[.agg (cells (PR x1 x2 0 2 tp)).toArray, (.iface 31 (.pointer (some ⟨gm, 0, none⟩)))] w fun e w' => e = .returned (.tuple #[.agg (cells (PR x1 x2 0 2 tp)).toArray, .agg #[.int .i64 (priceV 21), .int .i64 (-1), .int .i64 13]]) ∧ MM w' gm (.iface 31 (.pointer (some ⟨gm, 0, none⟩))) (PM D st) (fun b => b = gr) ∧ PS (fun b => b = gm) w w' := by
  have C := step_any (domMem gm (.iface 31 (.pointer (some ⟨gm, 0, none⟩)))) (scMem gm (.iface 31 (.pointer (some ⟨gm, 0, none⟩)))) (PR x1 x2 0 2 tp) (PM D st) w (fun b => b = gr) (pr_ok u1 u2 ⟨by decide, by decide⟩ ⟨by have := u3.1; have := u3.2; omega, by have := u3.1; have := u3.2; omega⟩ u3) (ok_push _ _ _ _ _ _) hm (fun b hb => by rw [hb]; exact hg) hL (fun b hb => by rw [hb]; exact hm.lt) (by omega)
  rw [push_full] at C
  exact C
theorem step_pop (gm gr : Nat) (x1 x2 tp st : Int) (D : List Int) (m : Nat) (w : World) (hD : D.length = 20) (hmt : m < 20) (hp : (m : Int) + 2 < tp) (u1 : U32 x1) (u2 : U32 x2) (u3 : U32 tp) (hm : MM w gm (.iface 31 (.pointer (some ⟨gm, 0, none⟩))) (PM D st) (fun b => b = gr)) (hg : gr < w.heap.size) (h0 : 0 < gm) (hL : Laid w) :
    Calls Tryd.prog 11 #[.agg (cells (PR x1 x2 1 ((m : Int) + 2) tp)).toArray, (.iface 31 (.pointer (some ⟨gm, 0, none⟩)))] w fun e w' => e = .returned (.tuple #[.agg (cells (PR x1 (D.getD m 0) 2 ((m : Int) + 3) tp)).toArray, .agg #[.int .i64 (priceV 22), .int .i64 (-1), .int .i64 0]]) ∧ MM w' gm (.iface 31 (.pointer (some ⟨gm, 0, none⟩))) (PM D st) (fun b => b = gr) ∧ PS (fun b => b = gm) w w' := by
  have C := step_any (domMem gm (.iface 31 (.pointer (some ⟨gm, 0, none⟩)))) (scMem gm (.iface 31 (.pointer (some ⟨gm, 0, none⟩)))) (PR x1 x2 1 ((m : Int) + 2) tp) (PM D st) w (fun b => b = gr) (pr_ok u1 u2 ⟨by decide, by decide⟩ ⟨by have := u3.1; have := u3.2; omega, by have := u3.1; have := u3.2; omega⟩ u3) (ok_pop _ _ _ _ _ _) hm (fun b hb => by rw [hb]; exact hg) hL (fun b hb => by rw [hb]; exact hm.lt) (by omega)
  rw [pop_ok x1 x2 tp st D m hD hmt hp] at C
  exact C
theorem step_empty (gm gr : Nat) (x1 x2 tp st : Int) (D : List Int) (w : World) (u1 : U32 x1) (u2 : U32 x2) (u3 : U32 tp) (hm : MM w gm (.iface 31 (.pointer (some ⟨gm, 0, none⟩))) (PM D st) (fun b => b = gr)) (hg : gr < w.heap.size) (h0 : 0 < gm) (hL : Laid w) :
    Calls Tryd.prog 11 #[.agg (cells (PR x1 x2 1 tp tp)).toArray, (.iface 31 (.pointer (some ⟨gm, 0, none⟩)))] w fun e w' => e = .returned (.tuple #[.agg (cells (PR x1 x2 1 tp tp)).toArray, .agg #[.int .i64 (priceV 22), .int .i64 (-1), .int .i64 13]]) ∧ MM w' gm (.iface 31 (.pointer (some ⟨gm, 0, none⟩))) (PM D st) (fun b => b = gr) ∧ PS (fun b => b = gm) w w' := by
  have C := step_any (domMem gm (.iface 31 (.pointer (some ⟨gm, 0, none⟩)))) (scMem gm (.iface 31 (.pointer (some ⟨gm, 0, none⟩)))) (PR x1 x2 1 tp tp) (PM D st) w (fun b => b = gr) (pr_ok u1 u2 ⟨by decide, by decide⟩ ⟨by have := u3.1; have := u3.2; omega, by have := u3.1; have := u3.2; omega⟩ u3) (ok_pop _ _ _ _ _ _) hm (fun b hb => by rw [hb]; exact hg) hL (fun b hb => by rw [hb]; exact hm.lt) (by omega)
  rw [pop_empty] at C
  exact C
set_option maxRecDepth 100000 in
set_option maxHeartbeats 16000000 in
theorem stack_core (A : Option Addr) (len cap : Nat) (xs : List Int) (rm : Int) (w : World) (h : WordsAt w A len xs) (hL : Laid w) : Calls Tryd.prog 5 #[.slice A len cap, .int .i64 rm] w fun e w' => e = .returned (.bool true) ∧ Below w.heap.size w w' := by
  obtain ⟨n, hn⟩ : ∃ n : Nat, min len 20 = n := ⟨_, rfl⟩
  have hnI : min (len : Int) 20 = (n : Int) := by omega
  obtain ⟨u, R, hr1, hr2, hr3, hr4, hr5, hr6⟩ := low20 rm
  have HN : Hid (n ≤ 20 ∧ n ≤ len ∧ R < 20) := by unfold Hid; omega
  have HU := Lib.hid h.u32
  have HA := Lib.hid h.at_
  have HLD := Lib.hid hL
  clear hn h hL hr4
  go_enter Tryd.func5, Tryd.ntmps5
  go_upto_region 3 with (fail)
  clear hnI hr1 hr2 hr3 hr5 hr6
  go_cut [6] (fun s6 wx => Mk w s6 wx)
  case first =>
    refine wp_region_held_drew (S := fun w' => Below w.heap.size w w') (by kernel_rfl) ?_ (fun hHeld => ?_)
    · exact (Below.refl _ _).drew
    have HB0 := Lib.hid hHeld
    generalize w.drew = V0 at HB0 hHeld ⊢
    refine takeD (i := 0) (d := some 21) (v := ?_) _ rfl rfl (by kernel_rfl) (by kernel_rfl) (by kernel_rfl) (fun _ _ _ h => h) (by rfl) ?_ (by assumption) ?_
    rotate_left
    · (intro w hSw; (try dsimp only at hSw); go_simp) <;> with_reducible rfl
    try simp only [Act.put, List.setIfInBounds_toArray, List.set_cons_zero, List.set_cons_succ]
    refine takeD (i := 2) (d := some 23) (v := ?_) _ rfl rfl (by kernel_rfl) (by kernel_rfl) (by kernel_rfl) (fun _ _ _ h => h) (by rfl) ?_ (by assumption) ?_
    rotate_left
    · (intro w hSw; (try dsimp only at hSw); go_simp) <;> with_reducible rfl
    try simp only [Act.put, List.setIfInBounds_toArray, List.set_cons_zero, List.set_cons_succ]
    refine wpAnyH_ready (rs := [1, 5]) (by kernel_rfl) (by simp) ?_
    refine AllReadyH.cons rfl (fun K hK => ?_) (AllReadyH.cons rfl (fun K hK => ?_) AllReadyH.nil)
    · skip
      go_simp
      refine (encode_lit 21 1 0 0 2826960896 _ (by decide) (by decide) (by decide) (by decide) (by decide)).mono ?_
      rintro e V1 ⟨rfl, b⟩
      try go_wp2_with fail
      have HB1 : Hid (Below w.heap.size w V1) := HB0.out.trans (b.mono HB0.out.size)
      refine hK.out _ _ HB1.out (fun hHeld => ?_)
      clear hK K b
      try simp only [Act.put, List.setIfInBounds_toArray, List.set_cons_zero, List.set_cons_succ]
      refine wpAnyH_ready (rs := [3, 5]) (by kernel_rfl) (by simp) ?_
      refine AllReadyH.cons rfl (fun K hK => ?_) (AllReadyH.cons rfl (fun K hK => ?_) AllReadyH.nil)
      · skip
        go_simp
        refine (encode_lit 22 2 0 0 2969567232 _ (by decide) (by decide) (by decide) (by decide) (by decide)).mono ?_
        rintro e V2 ⟨rfl, b⟩
        try go_wp2_with fail
        have HB2 : Hid (Below w.heap.size w V2) := HB1.out.trans (b.mono HB1.out.size)
        refine hK.out _ _ HB2.out (fun hHeld => ?_)
        clear hK K b
        try simp only [Act.put, List.setIfInBounds_toArray, List.set_cons_zero, List.set_cons_succ]
        refine wpAnyH_ready (rs := [4, 5]) (by kernel_rfl) (by simp) ?_
        refine AllReadyH.cons rfl (fun K hK => ?_) (AllReadyH.cons rfl (fun K hK => ?_) AllReadyH.nil)
        · skip
          go_simp
          obtain ⟨V3, hV3⟩ : ∃ V, V2.alloc (.cells (CW [2826960896, 2969567232]).toArray 22) = V := ⟨_, rfl⟩
          obtain ⟨ps, hps⟩ : ∃ p, V2.heap.size = p := ⟨_, rfl⟩
          have b : Below V2.heap.size V2 V3 := by rw [← hV3]; exact (Below.refl _ _).alloc (Nat.le_refl _) _
          have HB3 : Hid (Below w.heap.size w V3) := HB2.out.trans (b.mono HB2.out.size)
          have HS3 : Hid (Reads V3 V3.heap.size 1 (some ⟨ps, 0, none⟩) 2 (CW [2826960896, 2969567232])) := by rw [← hV3, ← hps]; exact creads_lit _ _ _
          refine hK.out _ (V2.alloc (.cells (CW [2826960896, 2969567232]).toArray 22)) (by rw [hV3]; exact HB3.out) (fun hHeld => ?_)
          rw [hV3] at hHeld ⊢
          rw [hps]
          clear hK K b hV3 hps
          try simp only [Act.put, List.setIfInBounds_toArray, List.set_cons_zero, List.set_cons_succ]
          refine wpAnyH_ready (rs := [5]) (by kernel_rfl) (by simp) ?_
          refine AllReadyH.cons rfl (fun K hK => ?_) AllReadyH.nil
          have hmk := mk20 V3
          go_simp
          obtain ⟨V4, hV4⟩ : ∃ V, V3.alloc (.cells (CW [0, 0, 0, 0, 0, 0, 0, 0, 0, 0, 0, 0, 0, 0, 0, 0, 0, 0, 0, 0]).toArray 22) = V := ⟨_, rfl⟩
          obtain ⟨pz, hpz⟩ : ∃ p, V3.heap.size = p := ⟨_, rfl⟩
          have b : Below V3.heap.size V3 V4 := by rw [← hV4]; exact (Below.refl _ _).alloc (Nat.le_refl _) _
          have HB4 : Hid (Below w.heap.size w V4) := HB3.out.trans (b.mono HB3.out.size)
          have HZ4 : Hid (Reads V4 V4.heap.size 1 (some ⟨pz, 0, none⟩) 20 (CW [0, 0, 0, 0, 0, 0, 0, 0, 0, 0, 0, 0, 0, 0, 0, 0, 0, 0, 0, 0])) := by rw [← hV4, ← hpz]; exact creads_lit [0, 0, 0, 0, 0, 0, 0, 0, 0, 0, 0, 0, 0, 0, 0, 0, 0, 0, 0, 0] _ _
          have HS4 : Hid (Reads V4 V4.heap.size 1 (some ⟨ps, 0, none⟩) 2 (CW [2826960896, 2969567232])) := (HS3.out.below (b)).more (b).size
          rw [hpz, hV4]
          refine hK.out _ _ HB4.out (fun hHeld => ?_)
          clear hK K b hV4 hpz hmk
          try simp only [Act.put, List.setIfInBounds_toArray, List.set_cons_zero, List.set_cons_succ]
          refine wpAnyH_ready (rs := [6]) (by kernel_rfl) (by simp) ?_
          refine AllReadyH.cons rfl (fun K hK => ?_) AllReadyH.nil
          go_simp
          refine (new_small (some ⟨ps, 0, none⟩) (some ⟨pz, 0, none⟩) 2 20 2 20 [2826960896, 2969567232] [0, 0, 0, 0, 0, 0, 0, 0, 0, 0, 0, 0, 0, 0, 0, 0, 0, 0, 0, 0] V4 HS4.out HZ4.out (by decide) (by decide) (by decide) (by decide) (by unfold maxLen; decide) (by unfold maxLen; decide) (by decide) (by decide)).mono ?_
          rintro e V5 ⟨gm, rfl, hg1, hg2, b, hmm⟩
          try go_wp2_with fail
          have HB5 : Hid (Below w.heap.size w V5) := HB4.out.trans (b.mono HB4.out.size)
          have HF : Hid (Mk w (.pointer (some ⟨gm, 0, none⟩)) V5) := ⟨⟨gm, rfl, Nat.le_trans HB4.out.size hg1, hg2, HB5.out, hmm (fun _ => False) (fun _ h => h.elim)⟩⟩
          refine hK.out _ _ HB5.out (fun hHeld => ?_)
          clear hK K b hg1 hg2 hmm
          try simp only [Act.put, List.setIfInBounds_toArray, List.set_cons_zero, List.set_cons_succ]
          refine takeD (i := 7) (d := some 6) (v := ?_) _ rfl rfl (by kernel_rfl) (by kernel_rfl) (by kernel_rfl) (fun _ _ _ h => h) (by rfl) ?_ (by assumption) ?_
          rotate_left
          · (intro w hSw; (try dsimp only at hSw); go_simp) <;> with_reducible rfl
          try simp only [Act.put, List.setIfInBounds_toArray, List.set_cons_zero, List.set_cons_succ]
          refine wpAnyH_done (by kernel_rfl) ?_ _
          go_wp2_with fail
          go_meet
          exact HF.out
        · skip
          have hmk := mk20 V2
          go_simp
          obtain ⟨V3, hV3⟩ : ∃ V, V2.alloc (.cells (CW [0, 0, 0, 0, 0, 0, 0, 0, 0, 0, 0, 0, 0, 0, 0, 0, 0, 0, 0, 0]).toArray 22) = V := ⟨_, rfl⟩
          obtain ⟨pz, hpz⟩ : ∃ p, V2.heap.size = p := ⟨_, rfl⟩
          have b : Below V2.heap.size V2 V3 := by rw [← hV3]; exact (Below.refl _ _).alloc (Nat.le_refl _) _
          have HB3 : Hid (Below w.heap.size w V3) := HB2.out.trans (b.mono HB2.out.size)
          have HZ3 : Hid (Reads V3 V3.heap.size 1 (some ⟨pz, 0, none⟩) 20 (CW [0, 0, 0, 0, 0, 0, 0, 0, 0, 0, 0, 0, 0, 0, 0, 0, 0, 0, 0, 0])) := by rw [← hV3, ← hpz]; exact creads_lit [0, 0, 0, 0, 0, 0, 0, 0, 0, 0, 0, 0, 0, 0, 0, 0, 0, 0, 0, 0] _ _
          rw [hpz, hV3]
          refine hK.out _ _ HB3.out (fun hHeld => ?_)
          clear hK K b hV3 hpz hmk
          try simp only [Act.put, List.setIfInBounds_toArray, List.set_cons_zero, List.set_cons_succ]
          refine wpAnyH_ready (rs := [4]) (by kernel_rfl) (by simp) ?_
          refine AllReadyH.cons rfl (fun K hK => ?_) AllReadyH.nil
          go_simp
          obtain ⟨V4, hV4⟩ : ∃ V, V3.alloc (.cells (CW [2826960896, 2969567232]).toArray 22) = V := ⟨_, rfl⟩
          obtain ⟨ps, hps⟩ : ∃ p, V3.heap.size = p := ⟨_, rfl⟩
          have b : Below V3.heap.size V3 V4 := by rw [← hV4]; exact (Below.refl _ _).alloc (Nat.le_refl _) _
          have HB4 : Hid (Below w.heap.size w V4) := HB3.out.trans (b.mono HB3.out.size)
          have HS4 : Hid (Reads V4 V4.heap.size 1 (some ⟨ps, 0, none⟩) 2 (CW [2826960896, 2969567232])) := by rw [← hV4, ← hps]; exact creads_lit _ _ _
          have HZ4 : Hid (Reads V4 V4.heap.size 1 (some ⟨pz, 0, none⟩) 20 (CW [0, 0, 0, 0, 0, 0, 0, 0, 0, 0, 0, 0, 0, 0, 0, 0, 0, 0, 0, 0])) := (HZ3.out.below (b)).more (b).size
          refine hK.out _ (V3.alloc (.cells (CW [2826960896, 2969567232]).toArray 22)) (by rw [hV4]; exact HB4.out) (fun hHeld => ?_)
          rw [hV4] at hHeld ⊢
          rw [hps]
          clear hK K b hV4 hps
          try simp only [Act.put, List.setIfInBounds_toArray, List.set_cons_zero, List.set_cons_succ]
          refine wpAnyH_ready (rs := [6]) (by kernel_rfl) (by simp) ?_
          refine AllReadyH.cons rfl (fun K hK => ?_) AllReadyH.nil
          go_simp
          refine (new_small (some ⟨ps, 0, none⟩) (some ⟨pz, 0, none⟩) 2 20 2 20 [2826960896, 2969567232] [0, 0, 0, 0, 0, 0, 0, 0, 0, 0, 0, 0, 0, 0, 0, 0, 0, 0, 0, 0] V4 HS4.out HZ4.out (by decide) (by decide) (by decide) (by decide) (by unfold maxLen; decide) (by unfold maxLen; decide) (by decide) (by decide)).mono ?_
          rintro e V5 ⟨gm, rfl, hg1, hg2, b, hmm⟩
          try go_wp2_with fail
          have HB5 : Hid (Below w.heap.size w V5) := HB4.out.trans (b.mono HB4.out.size)
          have HF : Hid (Mk w (.pointer (some ⟨gm, 0, none⟩)) V5) := ⟨⟨gm, rfl, Nat.le_trans HB4.out.size hg1, hg2, HB5.out, hmm (fun _ => False) (fun _ h => h.elim)⟩⟩
          refine hK.out _ _ HB5.out (fun hHeld => ?_)
          clear hK K b hg1 hg2 hmm
          try simp only [Act.put, List.setIfInBounds_toArray, List.set_cons_zero, List.set_cons_succ]
          refine takeD (i := 7) (d := some 6) (v := ?_) _ rfl rfl (by kernel_rfl) (by kernel_rfl) (by kernel_rfl) (fun _ _ _ h => h) (by rfl) ?_ (by assumption) ?_
          rotate_left
          · (intro w hSw; (try dsimp only at hSw); go_simp) <;> with_reducible rfl
          try simp only [Act.put, List.setIfInBounds_toArray, List.set_cons_zero, List.set_cons_succ]
          refine wpAnyH_done (by kernel_rfl) ?_ _
          go_wp2_with fail
          go_meet
          exact HF.out
      · skip
        have hmk := mk20 V1
        go_simp
        obtain ⟨V2, hV2⟩ : ∃ V, V1.alloc (.cells (CW [0, 0, 0, 0, 0, 0, 0, 0, 0, 0, 0, 0, 0, 0, 0, 0, 0, 0, 0, 0]).toArray 22) = V := ⟨_, rfl⟩
        obtain ⟨pz, hpz⟩ : ∃ p, V1.heap.size = p := ⟨_, rfl⟩
        have b : Below V1.heap.size V1 V2 := by rw [← hV2]; exact (Below.refl _ _).alloc (Nat.le_refl _) _
        have HB2 : Hid (Below w.heap.size w V2) := HB1.out.trans (b.mono HB1.out.size)
        have HZ2 : Hid (Reads V2 V2.heap.size 1 (some ⟨pz, 0, none⟩) 20 (CW [0, 0, 0, 0, 0, 0, 0, 0, 0, 0, 0, 0, 0, 0, 0, 0, 0, 0, 0, 0])) := by rw [← hV2, ← hpz]; exact creads_lit [0, 0, 0, 0, 0, 0, 0, 0, 0, 0, 0, 0, 0, 0, 0, 0, 0, 0, 0, 0] _ _
        rw [hpz, hV2]
        refine hK.out _ _ HB2.out (fun hHeld => ?_)
        clear hK K b hV2 hpz hmk
        try simp only [Act.put, List.setIfInBounds_toArray, List.set_cons_zero, List.set_cons_succ]
        refine wpAnyH_ready (rs := [3]) (by kernel_rfl) (by simp) ?_
        refine AllReadyH.cons rfl (fun K hK => ?_) AllReadyH.nil
        go_simp
        refine (encode_lit 22 2 0 0 2969567232 _ (by decide) (by decide) (by decide) (by decide) (by decide)).mono ?_
        rintro e V3 ⟨rfl, b⟩
        try go_wp2_with fail
        have HB3 : Hid (Below w.heap.size w V3) := HB2.out.trans (b.mono HB2.out.size)
        have HZ3 : Hid (Reads V3 V3.heap.size 1 (some ⟨pz, 0, none⟩) 20 (CW [0, 0, 0, 0, 0, 0, 0, 0, 0, 0, 0, 0, 0, 0, 0, 0, 0, 0, 0, 0])) := (HZ2.out.below (b)).more (b).size
        refine hK.out _ _ HB3.out (fun hHeld => ?_)
        clear hK K b
        try simp only [Act.put, List.setIfInBounds_toArray, List.set_cons_zero, List.set_cons_succ]
        refine wpAnyH_ready (rs := [4]) (by kernel_rfl) (by simp) ?_
        refine AllReadyH.cons rfl (fun K hK => ?_) AllReadyH.nil
        go_simp
        obtain ⟨V4, hV4⟩ : ∃ V, V3.alloc (.cells (CW [2826960896, 2969567232]).toArray 22) = V := ⟨_, rfl⟩
        obtain ⟨ps, hps⟩ : ∃ p, V3.heap.size = p := ⟨_, rfl⟩
        have b : Below V3.heap.size V3 V4 := by rw [← hV4]; exact (Below.refl _ _).alloc (Nat.le_refl _) _
        have HB4 : Hid (Below w.heap.size w V4) := HB3.out.trans (b.mono HB3.out.size)
        have HS4 : Hid (Reads V4 V4.heap.size 1 (some ⟨ps, 0, none⟩) 2 (CW [2826960896, 2969567232])) := by rw [← hV4, ← hps]; exact creads_lit _ _ _
        have HZ4 : Hid (Reads V4 V4.heap.size 1 (some ⟨pz, 0, none⟩) 20 (CW [0, 0, 0, 0, 0, 0, 0, 0, 0, 0, 0, 0, 0, 0, 0, 0, 0, 0, 0, 0])) := (HZ3.out.below (b)).more (b).size
        refine hK.out _ (V3.alloc (.cells (CW [2826960896, 2969567232]).toArray 22)) (by rw [hV4]; exact HB4.out) (fun hHeld => ?_)
        rw [hV4] at hHeld ⊢
        rw [hps]
        clear hK K b hV4 hps
        try simp only [Act.put, List.setIfInBounds_toArray, List.set_cons_zero, List.set_cons_succ]
        refine wpAnyH_ready (rs := [6]) (by kernel_rfl) (by simp) ?_
        refine AllReadyH.cons rfl (fun K hK => ?_) AllReadyH.nil
        go_simp
        refine (new_small (some ⟨ps, 0, none⟩) (some ⟨pz, 0, none⟩) 2 20 2 20 [2826960896, 2969567232] [0, 0, 0, 0, 0, 0, 0, 0, 0, 0, 0, 0, 0, 0, 0, 0, 0, 0, 0, 0] V4 HS4.out HZ4.out (by decide) (by decide) (by decide) (by decide) (by unfold maxLen; decide) (by unfold maxLen; decide) (by decide) (by decide)).mono ?_
        rintro e V5 ⟨gm, rfl, hg1, hg2, b, hmm⟩
        try go_wp2_with fail
        have HB5 : Hid (Below w.heap.size w V5) := HB4.out.trans (b.mono HB4.out.size)
        have HF : Hid (Mk w (.pointer (some ⟨gm, 0, none⟩)) V5) := ⟨⟨gm, rfl, Nat.le_trans HB4.out.size hg1, hg2, HB5.out, hmm (fun _ => False) (fun _ h => h.elim)⟩⟩
        refine hK.out _ _ HB5.out (fun hHeld => ?_)
        clear hK K b hg1 hg2 hmm
        try simp only [Act.put, List.setIfInBounds_toArray, List.set_cons_zero, List.set_cons_succ]
        refine takeD (i := 7) (d := some 6) (v := ?_) _ rfl rfl (by kernel_rfl) (by kernel_rfl) (by kernel_rfl) (fun _ _ _ h => h) (by rfl) ?_ (by assumption) ?_
        rotate_left
        · (intro w hSw; (try dsimp only at hSw); go_simp) <;> with_reducible rfl
        try simp only [Act.put, List.setIfInBounds_toArray, List.set_cons_zero, List.set_cons_succ]
        refine wpAnyH_done (by kernel_rfl) ?_ _
        go_wp2_with fail
        go_meet
        exact HF.out
    · skip
      have hmk := mk20 V0
      go_simp
      obtain ⟨V1, hV1⟩ : ∃ V, V0.alloc (.cells (CW [0, 0, 0, 0, 0, 0, 0, 0, 0, 0, 0, 0, 0, 0, 0, 0, 0, 0, 0, 0]).toArray 22) = V := ⟨_, rfl⟩
      obtain ⟨pz, hpz⟩ : ∃ p, V0.heap.size = p := ⟨_, rfl⟩
      have b : Below V0.heap.size V0 V1 := by rw [← hV1]; exact (Below.refl _ _).alloc (Nat.le_refl _) _
      have HB1 : Hid (Below w.heap.size w V1) := HB0.out.trans (b.mono HB0.out.size)
      have HZ1 : Hid (Reads V1 V1.heap.size 1 (some ⟨pz, 0, none⟩) 20 (CW [0, 0, 0, 0, 0, 0, 0, 0, 0, 0, 0, 0, 0, 0, 0, 0, 0, 0, 0, 0])) := by rw [← hV1, ← hpz]; exact creads_lit [0, 0, 0, 0, 0, 0, 0, 0, 0, 0, 0, 0, 0, 0, 0, 0, 0, 0, 0, 0] _ _
      rw [hpz, hV1]
      refine hK.out _ _ HB1.out (fun hHeld => ?_)
      clear hK K b hV1 hpz hmk
      try simp only [Act.put, List.setIfInBounds_toArray, List.set_cons_zero, List.set_cons_succ]
      refine wpAnyH_ready (rs := [1]) (by kernel_rfl) (by simp) ?_
      refine AllReadyH.cons rfl (fun K hK => ?_) AllReadyH.nil
      go_simp
      refine (encode_lit 21 1 0 0 2826960896 _ (by decide) (by decide) (by decide) (by decide) (by decide)).mono ?_
      rintro e V2 ⟨rfl, b⟩
      try go_wp2_with fail
      have HB2 : Hid (Below w.heap.size w V2) := HB1.out.trans (b.mono HB1.out.size)
      have HZ2 : Hid (Reads V2 V2.heap.size 1 (some ⟨pz, 0, none⟩) 20 (CW [0, 0, 0, 0, 0, 0, 0, 0, 0, 0, 0, 0, 0, 0, 0, 0, 0, 0, 0, 0])) := (HZ1.out.below (b)).more (b).size
      refine hK.out _ _ HB2.out (fun hHeld => ?_)
      clear hK K b
      try simp only [Act.put, List.setIfInBounds_toArray, List.set_cons_zero, List.set_cons_succ]
      refine wpAnyH_ready (rs := [3]) (by kernel_rfl) (by simp) ?_
      refine AllReadyH.cons rfl (fun K hK => ?_) AllReadyH.nil
      go_simp
      refine (encode_lit 22 2 0 0 2969567232 _ (by decide) (by decide) (by decide) (by decide) (by decide)).mono ?_
      rintro e V3 ⟨rfl, b⟩
      try go_wp2_with fail
      have HB3 : Hid (Below w.heap.size w V3) := HB2.out.trans (b.mono HB2.out.size)
      have HZ3 : Hid (Reads V3 V3.heap.size 1 (some ⟨pz, 0, none⟩) 20 (CW [0, 0, 0, 0, 0, 0, 0, 0, 0, 0, 0, 0, 0, 0, 0, 0, 0, 0, 0, 0])) := (HZ2.out.below (b)).more (b).size
      refine hK.out _ _ HB3.out (fun hHeld => ?_)
      clear hK K b
      try simp only [Act.put, List.setIfInBounds_toArray, List.set_cons_zero, List.set_cons_succ]
      refine wpAnyH_ready (rs := [4]) (by kernel_rfl) (by simp) ?_
      refine AllReadyH.cons rfl (fun K hK => ?_) AllReadyH.nil
      go_simp
      obtain ⟨V4, hV4⟩ : ∃ V, V3.alloc (.cells (CW [2826960896, 2969567232]).toArray 22) = V := ⟨_, rfl⟩
      obtain ⟨ps, hps⟩ : ∃ p, V3.heap.size = p := ⟨_, rfl⟩
      have b : Below V3.heap.size V3 V4 := by rw [← hV4]; exact (Below.refl _ _).alloc (Nat.le_refl _) _
      have HB4 : Hid (Below w.heap.size w V4) := HB3.out.trans (b.mono HB3.out.size)
      have HS4 : Hid (Reads V4 V4.heap.size 1 (some ⟨ps, 0, none⟩) 2 (CW [2826960896, 2969567232])) := by rw [← hV4, ← hps]; exact creads_lit _ _ _
      have HZ4 : Hid (Reads V4 V4.heap.size 1 (some ⟨pz, 0, none⟩) 20 (CW [0, 0, 0, 0, 0, 0, 0, 0, 0, 0, 0, 0, 0, 0, 0, 0, 0, 0, 0, 0])) := (HZ3.out.below (b)).more (b).size
      refine hK.out _ (V3.alloc (.cells (CW [2826960896, 2969567232]).toArray 22)) (by rw [hV4]; exact HB4.out) (fun hHeld => ?_)
      rw [hV4] at hHeld ⊢
      rw [hps]
      clear hK K b hV4 hps
      try simp only [Act.put, List.setIfInBounds_toArray, List.set_cons_zero, List.set_cons_succ]
      refine wpAnyH_ready (rs := [6]) (by kernel_rfl) (by simp) ?_
      refine AllReadyH.cons rfl (fun K hK => ?_) AllReadyH.nil
      go_simp
      refine (new_small (some ⟨ps, 0, none⟩) (some ⟨pz, 0, none⟩) 2 20 2 20 [2826960896, 2969567232] [0, 0, 0, 0, 0, 0, 0, 0, 0, 0, 0, 0, 0, 0, 0, 0, 0, 0, 0, 0] V4 HS4.out HZ4.out (by decide) (by decide) (by decide) (by decide) (by unfold maxLen; decide) (by unfold maxLen; decide) (by decide) (by decide)).mono ?_
      rintro e V5 ⟨gm, rfl, hg1, hg2, b, hmm⟩
      try go_wp2_with fail
      have HB5 : Hid (Below w.heap.size w V5) := HB4.out.trans (b.mono HB4.out.size)
      have HF : Hid (Mk w (.pointer (some ⟨gm, 0, none⟩)) V5) := ⟨⟨gm, rfl, Nat.le_trans HB4.out.size hg1, hg2, HB5.out, hmm (fun _ => False) (fun _ h => h.elim)⟩⟩
      refine hK.out _ _ HB5.out (fun hHeld => ?_)
      clear hK K b hg1 hg2 hmm
      try simp only [Act.put, List.setIfInBounds_toArray, List.set_cons_zero, List.set_cons_succ]
      refine takeD (i := 7) (d := some 6) (v := ?_) _ rfl rfl (by kernel_rfl) (by kernel_rfl) (by kernel_rfl) (fun _ _ _ h => h) (by rfl) ?_ (by assumption) ?_
      rotate_left
      · (intro w hSw; (try dsimp only at hSw); go_simp) <;> with_reducible rfl
      try simp only [Act.put, List.setIfInBounds_toArray, List.set_cons_zero, List.set_cons_succ]
      refine wpAnyH_done (by kernel_rfl) ?_ _
      go_wp2_with fail
      go_meet
      exact HF.out
  case rest =>
    obtain ⟨gm, rfl, hgm, hgm2, hb, hmm⟩ := hcut.ex
    clear hcut
    obtain ⟨wd, hwd⟩ : ∃ wd, wd = wc := ⟨_, rfl⟩
    subst hwd
    have HGM : Hid (w.heap.size ≤ gm ∧ gm < wd.heap.size) := ⟨hgm, hgm2⟩
    have HB := Lib.hid hb
    have HM := Lib.hid hmm
    clear hgm hgm2 hb hmm
    have hwT : wrap64 (2 + (R : Int)) = (R : Int) + 2 := by rw [IntWalk.wrap64_in _ (by have := HN.out; omega)]; omega
    have hwU : IntKind.u32.wrap ((R : Int) + 2) = (R : Int) + 2 := IntWalk.u32_in _ ⟨by omega, by have := HN.out; omega⟩
    go_wp2_with fail
    clear hwT hwU
    refine (fresh_any 0 2 ((R : Int) + 2) _).mono ?_
    rintro e V4 ⟨rfl, b⟩
    rw [pr_fresh]
    have HB4 : Hid (Below w.heap.size w V4) := HB.out.trans (b.mono HB.out.size)
    have HM4 := Lib.hid (HM.out.below b)
    have HS4 : Hid (gm < V4.heap.size) := Nat.lt_of_lt_of_le HGM.out.2 b.size
    clear b HM
    obtain ⟨Va, hVa⟩ : ∃ V, V4.alloc (.cells #[.int .u32 0, .int .u32 0, .int .u32 0, .int .u32 0, .int .u32 0, .int .u32 0, .int .u32 0, .int .u32 0, .int .u32 0, .int .u32 0, .int .u32 0, .int .u32 0, .int .u32 0, .int .u32 0, .int .u32 0, .int .u32 0, .int .u32 0, .int .u32 0, .int .u32 0, .int .u32 0, .int .u32 0, .int .u32 0, .int .i64 0, .int .u32 0, .int .u32 0, .int .i64 0, .int .u32 0, .int .u32 0, .int .i64 0, .int .u32 0, .int .u32 0, .int .i64 0, .int .u32 0, .int .u32 0, .int .i64 0, .int .u32 0, .int .u32 0, .int .i64 0, .int .u32 0, .int .u32 0, .int .i64 0, .int .u32 0, .int .u32 0, .int .i64 0, .int .i64 0] 28) = V := ⟨_, rfl⟩
    obtain ⟨gr, hp⟩ : ∃ p, V4.heap.size = p := ⟨_, rfl⟩
    have z : RB Va gr R0 [] 28 := by rw [← hVa, ← hp]; exact RB.zero _ _
    have b : Below V4.heap.size V4 Va := by rw [← hVa]; exact (Below.refl _ _).alloc (Nat.le_refl _) _
    obtain ⟨Wr, hVc⟩ : ∃ V, Va.setCells gr 0 (cells (PR 0 0 0 ((R : Int) + 2) ((R : Int) + 2))) = V := ⟨_, rfl⟩
    have p3 : Past gr Va Wr := by rw [← hVc]; exact past_setCells _ _ _ _
    have z3 : RB Wr gr (PR 0 0 0 ((R : Int) + 2) ((R : Int) + 2)) [] 28 := by rw [← hVc]; exact z.store _ (by rw [r0_len]; exact (pr_len _ _ _ _ _))
    have bc : Below V4.heap.size V4 Wr := b.trans (p3.below (by rw [← hp]; exact Nat.le_refl _) b.size)
    have Z2 := Lib.hid z
    have E3 := Lib.hid hVc
    have HZr := Lib.hid z3
    have HWr := Lib.hid bc
    have HGr : Hid (gr = V4.heap.size) := hp.symm
    clear z b p3 z3 bc hVc
    go_upto_region 5 with (refine wpList_store_regs rfl _ _ rfl rfl rfl Z2.out r0_len (pr_len _ _ _ _ _) ?_; rw [E3.out]; dsimp only [Act.put])
    clear hVa hp Z2 E3
    have HMR : Hid (MM Wr gm (.iface 31 (.pointer (some ⟨gm, 0, none⟩))) (PM [0, 0, 0, 0, 0, 0, 0, 0, 0, 0, 0, 0, 0, 0, 0, 0, 0, 0, 0, 0] 0) (fun b => b = gr)) := HM4.out.fresh HWr.out (fun b => b = gr) (fun b h => by rw [h, HGr.out]; exact Nat.le_refl _)
    have HBR : Hid (Below w.heap.size w Wr) := HB4.out.trans (HWr.out.mono HB4.out.size)
    have HGR : Hid (w.heap.size ≤ gr ∧ gm < gr) := by have := HB4.out.size; have := HS4.out; rw [HGr.out]; exact ⟨by omega, by omega⟩
    clear HM4 HB4 HS4 HWr HGr HB
    go_wp2_with fail
    go_loopw [8, 9, 10] (fun v8 _ _ wr => R1 xs n R gr gm w v8 wr) (fun v8 _ _ => fun _ => n - (intOf v8).toNat)
    case atStart => exact ⟨⟨0, 0, R, 0, 0, 0, [0, 0, 0, 0, 0, 0, 0, 0, 0, 0, 0, 0, 0, 0, 0, 0, 0, 0, 0, 0], Nat.zero_le _, rfl, by omega, rfl, HZr.out, ⟨by decide, by decide⟩, HMR.out, rfl, fun t ht => by omega, HBR.out⟩⟩
    case round =>
      obtain ⟨⟨k, j, m, x1, pc, st, D, hk, rfl, hj, hmj, hrb, hu1, hmm, hD, hDx, hb⟩⟩ := hrel
      have HK : Hid (k ≤ n ∧ j = min k R ∧ m + j = R) := ⟨hk, hj, hmj⟩
      have HRB := Lib.hid hrb
      have HU1 := Lib.hid hu1
      have HM := Lib.hid hmm
      have HD := Lib.hid (And.intro hD hDx)
      have HB := Lib.hid hb
      clear hk hj hmj hrb hu1 hmm hD hDx hb HZr HMR HBR
      by_cases hlt : k < n
      · have hkI : (k : Int) < (n : Int) := by omega
        have HKX : Hid (k < n) := hlt
        obtain ⟨lb, off, rfl, hlb, hc⟩ := HA.out (by have := HN.out; omega)
        have hlI : (k : Int) < (len : Int) := by have := HN.out; omega
        obtain ⟨x, hxk⟩ : ∃ x, xs.getD k 0 = x := ⟨_, rfl⟩
        have d0 : wr.cell? ⟨lb, off + k, none⟩ = some (.int .u32 x) := cell_later HB.out (by rw [← hxk]; exact hc k (by have := HN.out; omega))
        have HXU : Hid (U32 x) := by rw [← hxk]; exact HU.out k
        have HXK := Lib.hid hxk
        have hne : lb ≠ gr := by have := HGR.out; omega
        clear hlt hc hxk
        go_upto_region 8 with (fail)
        refine wp_region_held_drew (S := fun w' => Past gr wr w' ∧ w'.cell? ⟨lb, off + k, none⟩ = some (.int .u32 x)) (by kernel_rfl) ?_ (fun hHeld => ?_)
        · exact ⟨(Past.refl gr wr).drew, d0⟩
        refine takeD (i := 0) (d := some 37) (v := ?_) _ rfl rfl (by kernel_rfl) (by kernel_rfl) (by kernel_rfl) (fun _ _ _ h => h) (by rfl) ?_ (by assumption) ?_
        rotate_left
        · (intro w hSw; (try dsimp only at hSw); go_simp) <;> with_reducible rfl
        try simp only [Act.put, List.setIfInBounds_toArray, List.set_cons_zero, List.set_cons_succ]
        refine takeD (i := 1) (d := some 38) (v := ?_) _ rfl rfl (by kernel_rfl) (by kernel_rfl) (by kernel_rfl) (fun _ _ _ h => h) (by rfl) ?_ (by assumption) ?_
        rotate_left
        · (intro w hSw; (try dsimp only at hSw); go_simp) <;> with_reducible rfl
        try simp only [Act.put, List.setIfInBounds_toArray, List.set_cons_zero, List.set_cons_succ]
        refine takeD (i := 2) (d := some 39) (v := ?_) _ rfl rfl (by kernel_rfl) (by kernel_rfl) (by kernel_rfl) (fun _ _ _ h => h) (by rfl) ?_ (by assumption) ?_
        rotate_left
        · (intro w hSw; (try dsimp only at hSw); go_simp) <;> with_reducible rfl
        try simp only [Act.put, List.setIfInBounds_toArray, List.set_cons_zero, List.set_cons_succ]
        refine takeD (i := 3) (d := some 40) (v := ?_) _ rfl rfl (by kernel_rfl) (by kernel_rfl) (by kernel_rfl) (fun _ _ _ h => h) (by rfl) ?_ (by assumption) ?_
        rotate_left
        · (intro w hSw; (try dsimp only at hSw); go_simp) <;> with_reducible rfl
        try simp only [Act.put, List.setIfInBounds_toArray, List.set_cons_zero, List.set_cons_succ]
        refine takeD (i := 4) (d := some 41) (v := ?_) _ rfl rfl (by kernel_rfl) (by kernel_rfl) (by kernel_rfl) (fun _ _ _ h => h) (by rfl) ?_ (by assumption) ?_
        rotate_left
        · (intro w hSw; (try dsimp only at hSw); go_simp) <;> with_reducible rfl
        try simp only [Act.put, List.setIfInBounds_toArray, List.set_cons_zero, List.set_cons_succ]
        refine takeD (i := 6) (d := some 42) (v := ?_) _ rfl rfl (by kernel_rfl) (by kernel_rfl) (by kernel_rfl) (fun _ _ _ h => h) (by rfl) ?_ (by assumption) ?_
        rotate_left
        · (intro w hSw; (try dsimp only at hSw); go_simp) <;> with_reducible rfl
        try simp only [Act.put, List.setIfInBounds_toArray, List.set_cons_zero, List.set_cons_succ]
        obtain ⟨Wd, hWd⟩ : ∃ W, wr.drew = W := ⟨_, rfl⟩
        have HRd : RB Wd gr (PR x1 0 pc ((m : Int) + 2) ((R : Int) + 2)) [] 28 := by rw [← hWd]; exact HRB.out.keep rfl
        rw [hWd] at hHeld ⊢
        clear hWd
        have i16 := RB.cellk (k := .u32) (o := 16) HRd (by rw [pr_len]; decide) (kd_reg (by decide))
        have f16 := RB.frozen HRd 16
        refine wpAnyH_ready (rs := [5]) (by kernel_rfl) (by simp) ?_
        refine AllReadyH.cons rfl (fun K hK => ?_) AllReadyH.nil
        go_simp
        refine hK.out _ _ ⟨hHeld.1.setCell 16 _, (cell_set_far hne _).trans hHeld.2⟩ (fun hHeld => ?_)
        clear hK K i16 f16
        obtain ⟨We, hWe⟩ : ∃ W, World.setCell Wd ⟨gr, 16, none⟩ (.int .u32 0) = W := ⟨_, rfl⟩
        have HRe : RB We gr (PR x1 0 0 ((m : Int) + 2) ((R : Int) + 2)) [] 28 := by rw [← hWe]; exact RB.set HRd (by rw [pr_len]; decide) (kd_reg (by decide)) 0
        rw [hWe] at hHeld ⊢
        clear hWe
        try simp only [Act.put, List.setIfInBounds_toArray, List.set_cons_zero, List.set_cons_succ]
        refine takeD (i := 7) (d := some 43) (v := ?_) _ rfl rfl (by kernel_rfl) (by kernel_rfl) (by kernel_rfl) (fun _ _ _ h => h) (by rfl) ?_ (by assumption) ?_
        rotate_left
        · (intro w hSw; (try dsimp only at hSw); go_simp) <;> with_reducible rfl
        try simp only [Act.put, List.setIfInBounds_toArray, List.set_cons_zero, List.set_cons_succ]
        have i1 := RB.cellk (k := .u32) (o := 1) HRe (by rw [pr_len]; decide) (kd_reg (by decide))
        have f1 := RB.frozen HRe 1
        refine wpAnyH_ready (rs := [8]) (by kernel_rfl) (by simp) ?_
        refine AllReadyH.cons rfl (fun K hK => ?_) AllReadyH.nil
        go_simp
        refine hK.out _ _ ⟨hHeld.1.setCell 1 _, (cell_set_far hne _).trans hHeld.2⟩ (fun hHeld => ?_)
        clear hK K i1 f1
        obtain ⟨Wf, hWf⟩ : ∃ W, World.setCell We ⟨gr, 1, none⟩ (.int .u32 x) = W := ⟨_, rfl⟩
        have HRf : RB Wf gr (PR x 0 0 ((m : Int) + 2) ((R : Int) + 2)) [] 28 := by rw [← hWf]; exact RB.set HRe (by rw [pr_len]; decide) (kd_reg (by decide)) x
        rw [hWf] at hHeld ⊢
        clear hWf
        try simp only [Act.put, List.setIfInBounds_toArray, List.set_cons_zero, List.set_cons_succ]
        refine wpAnyH_done (by kernel_rfl) ?_ _
        have HRF := Lib.hid HRf
        have HBF : Hid (Below w.heap.size w Wf) := HB.out.trans (hHeld.1.below HGR.out.1 HB.out.size)
        have HMF := Lib.hid (HM.out.past hHeld.1 rfl)
        have d0 := hHeld.2
        clear hHeld HRd HRe HRf HRB HB HM HU1
        have hkR : k < R ∨ ¬ k < R := Nat.lt_or_ge k R |>.imp id Nat.not_lt.2
        have HLF := Lib.hid (HLD.out.below HBF.out)
        rcases hkR with hkR | hkR
        · obtain ⟨m', rfl⟩ : ∃ m', m = m' + 1 := ⟨m - 1, by have := HK.out; omega⟩
          have em : ((m' + 1 : Nat) : Int) + 2 = (m' : Int) + 3 := by omega
          rw [em] at HRF
          clear em
          have CS := Lib.hid (step_push gm gr x 0 ((R : Int) + 2) st D m' Wf HD.out.1 (by have := HK.out; have := HN.out; omega) (by have := HK.out; omega) HXU.out ⟨by decide, by decide⟩ ⟨by omega, by have := HN.out; omega⟩ HMF.out HRF.out.lt (by have := HGM.out; have := HLD.out.lt; omega) HLF.out)
          have hkf : decide ((R : Int) ≤ (k : Int)) = false := by simp; omega
          have hkg : decide (R ≤ k) = false := by simp; omega
          clear hkR
          go_wp2_with (refine wpList_load_regs rfl _ rfl rfl HRF.out (pr_len _ _ _ _ _) ?_)
          refine CS.out.mono ?_
          rintro e V7 ⟨rfl, hm7, hps⟩
          have HB7 : Hid (Below w.heap.size w V7) := HBF.out.trans (hps.below (fun q hq => by rw [hq]; exact HGM.out.1) HBF.out.size)
          have HR7 : Hid (RB V7 gr (PR x 0 0 ((m' : Int) + 3) ((R : Int) + 2)) [] 28) := HRF.out.keep (hps.block gr HRF.out.lt (fun h => by have := HGR.out; omega))
          have HM7 := Lib.hid hm7
          clear hm7 hps CS HRF HMF HBF HLF d0
          obtain ⟨Va, hVa⟩ : ∃ V, V7.alloc (.cells #[.int .u32 0, .int .u32 0, .int .u32 0, .int .u32 0, .int .u32 0, .int .u32 0, .int .u32 0, .int .u32 0, .int .u32 0, .int .u32 0, .int .u32 0, .int .u32 0, .int .u32 0, .int .u32 0, .int .u32 0, .int .u32 0, .int .u32 0, .int .u32 0, .int .u32 0, .int .u32 0, .int .u32 0, .int .u32 0, .int .i64 0, .int .u32 0, .int .u32 0, .int .i64 0, .int .u32 0, .int .u32 0, .int .i64 0, .int .u32 0, .int .u32 0, .int .i64 0, .int .u32 0, .int .u32 0, .int .i64 0, .int .u32 0, .int .u32 0, .int .i64 0, .int .u32 0, .int .u32 0, .int .i64 0, .int .u32 0, .int .u32 0, .int .i64 0, .int .i64 0] 28) = V := ⟨_, rfl⟩
          obtain ⟨p1, hp⟩ : ∃ p, V7.heap.size = p := ⟨_, rfl⟩
          have z : RB Va p1 R0 [] 28 := by rw [← hVa, ← hp]; exact RB.zero _ _
          have b : Below V7.heap.size V7 Va := by rw [← hVa]; exact (Below.refl _ _).alloc (Nat.le_refl _) _
          obtain ⟨Vb, hVb⟩ : ∃ V, Va.alloc (.cells #[.int .i64 0, .int .i64 0, .int .i64 0] 35) = V := ⟨_, rfl⟩
          obtain ⟨q1, hq⟩ : ∃ p, Va.heap.size = p := ⟨_, rfl⟩
          have yv : Vb.heap[q1]? = some (.cells #[.int .i64 0, .int .i64 0, .int .i64 0] 35 (0, 0)) := by rw [← hVb, ← hq]; exact heap_alloc_new _ _
          have b2 : Below Va.heap.size Va Vb := by rw [← hVb]; exact (Below.refl _ _).alloc (Nat.le_refl _) _
          have z2 := z.below b2
          have bb : Below V7.heap.size V7 Vb := b.trans (b2.mono b.size)
          obtain ⟨Vc, hVc⟩ : ∃ V, Vb.setCells p1 0 (cells (PR x 0 1 ((m' : Int) + 2) ((R : Int) + 2))) = V := ⟨_, rfl⟩
          have p3 : Past p1 Vb Vc := by rw [← hVc]; exact past_setCells _ _ _ _
          have hlt' : p1 < q1 := by rw [← hq]; exact z.lt
          have hwp : V7.heap.size ≤ p1 := by rw [← hp]; exact Nat.le_refl _
          have z3 : RB Vc p1 (PR x 0 1 ((m' : Int) + 2) ((R : Int) + 2)) [] 28 := by rw [← hVc]; exact z2.store _ (by rw [r0_len]; exact (pr_len _ _ _ _ _))
          have y3 := (p3.block q1 (Array.getElem?_eq_some_iff.1 yv).1 (by omega)).trans yv
          have e0 := (row_cell y3 0).1
          have e1 := (row_cell y3 1).1
          have e2 := (row_cell y3 2).1
          have e3 := (row_cell y3 0).2
          have e4 := (row_cell y3 1).2
          have e5 := (row_cell y3 2).2
          simp at e0 e1 e2
          have p4 := set3_past (Past.refl q1 Vc) (.int .i64 (priceV 21)) (.int .i64 (-1)) (.int .i64 (0))
          have y4 := set3_heap y3 (.int .i64 (priceV 21)) (.int .i64 (-1)) (.int .i64 (0))
          have z4 := z3.keep (p4.block p1 z3.lt (by omega))
          have bc := bb.trans ((p3.below hwp bb.size).trans (p4.below (by omega) (by have := bb.size; have := p3.size; omega)))
          have Z2 := Lib.hid z2
          have E3 := Lib.hid hVc
          have HY1 := Lib.hid y4
          have HZ1 := Lib.hid z4
          have HW1 := Lib.hid bc
          have HPQ1 : Hid (V7.heap.size ≤ p1) := hwp
          clear z b yv b2 z2 bb p3 hlt' hwp z3 y3 p4 y4 z4 bc hVc
          go_upto_region 10 with (refine wpList_store_regs rfl _ _ rfl rfl rfl Z2.out r0_len (pr_len _ _ _ _ _) ?_; rw [E3.out]; dsimp only [Act.put])
          clear hVa hVb hp hq e0 e1 e2 e3 e4 e5 Z2 E3
          generalize ((Vc.setCell ⟨q1, 0, none⟩ (.int .i64 (priceV 21))).setCell ⟨q1, 1, none⟩ (.int .i64 (-1))).setCell ⟨q1, 2, none⟩ (.int .i64 (0)) = W1 at HY1 HZ1 HW1 ⊢
          have HR8 := Lib.hid (HR7.out.below HW1.out)
          have HM8 := Lib.hid (HM7.out.below HW1.out)
          have HB8 : Hid (Below w.heap.size w W1) := HB7.out.trans (HW1.out.mono HB7.out.size)
          have HGP : Hid (gr ≠ p1) := by have := HR7.out.lt; have := HPQ1.out; unfold Hid; omega
          clear HR7 HM7 HB7 HW1 HPQ1
          have a2 := (row_cell HY1.out 2).1
          simp at a2
          have r1 := RB.cellk (k := .u32) (o := 17) HZ1.out (by rw [pr_len]; decide) (kd_reg (by decide))
          have r2 := RB.cellk (k := .u32) (o := 17) HR8.out (by rw [pr_len]; decide) (kd_reg (by decide))
          have e1 : (PR x 0 1 ((m' : Int) + 2) ((R : Int) + 2)).getD 17 0 = (m' : Int) + 2 := rfl
          have e2 : (PR x 0 0 ((m' : Int) + 3) ((R : Int) + 2)).getD 17 0 = (m' : Int) + 3 := rfl
          rw [e1] at r1
          rw [e2] at r2
          have hws : IntKind.u32.wrap ((m' : Int) + 3 - 1) = (m' : Int) + 2 := by rw [IntWalk.u32_in _ ⟨by omega, by have := HK.out; have := HN.out; omega⟩]; omega
          have hws' : IntKind.u32.wrap ((m' : Int) + 2) = (m' : Int) + 2 := IntWalk.u32_in _ ⟨by omega, by have := HK.out; have := HN.out; omega⟩
          have hk1 : wrap64 ((k : Int) + 1) = (k : Int) + 1 := IntWalk.wrap64_in _ (by have := HK.out; have := HN.out; omega)
          clear e1 e2
          go_upto_region 15 with (fail)
          obtain ⟨W9, hW9⟩ : ∃ V, W1.setCells gr 0 (cells (PR x 0 1 ((m' : Int) + 2) ((R : Int) + 2))) = V := ⟨_, rfl⟩
          have HP9 : Hid (Past gr W1 W9) := by rw [← hW9]; exact past_setCells _ _ _ _
          have HR9 : Hid (RB W9 gr (PR x 0 1 ((m' : Int) + 2) ((R : Int) + 2)) [] 28) := by rw [← hW9]; exact HR8.out.store _ rfl
          have E9 := Lib.hid hW9
          clear hW9 r1 r2 a2 hws hws'
          go_upto_region 7 with (first | (refine wpList_load_regs rfl _ rfl rfl HZ1.out (pr_len _ _ _ _ _) ?_) | (refine wpList_store_regs rfl _ _ rfl rfl rfl HR8.out (pr_len x 0 0 ((m' : Int) + 3) ((R : Int) + 2)) (pr_len x 0 1 ((m' : Int) + 2) ((R : Int) + 2)) ?_; dsimp only [Act.put]))
          rw [E9.out]
          go_wp2_with fail
          go_roundw
          case rel =>
            have Q : R1 xs n R gr gm w (.int .i64 ((k : Int) + 1)) W9 := by
              refine ⟨⟨k + 1, j + 1, m', x, 1, _, D.set m' x, HKX.out, by go_num, by have := HK.out; omega, by have := HK.out; omega, HR9.out, HXU.out, HM8.out.past HP9.out rfl, by rw [List.length_set]; exact HD.out.1, ?_, HB8.out.trans (HP9.out.below HGR.out.1 HB8.out.size)⟩⟩
              intro t ht
              have h1 := HK.out
              have h2 := HN.out
              by_cases htj : t = j
              · have e : R - 1 - t = m' := by omega
                have ek : t = k := by omega
                rw [e, getD_set_self _ (by rw [HD.out.1]; omega), ek]; exact HXK.out.symm
              · rw [getD_set_ne _ (by omega)]; exact HD.out.2 t (by omega)
            first | exact Q | (rw [hk1]; exact Q) | (simp only [hk1]; exact Q)
          case measure =>
            have := HKX.out
            rw [hk1]
            show n - ((k : Int) + 1).toNat < n - (k : Int).toNat
            clear hk1
            omega
        · obtain rfl : m = 0 := by have := HK.out; omega
          have CS := Lib.hid (step_full gm gr x 0 ((R : Int) + 2) st D Wf HXU.out ⟨by decide, by decide⟩ ⟨by omega, by have := HN.out; omega⟩ HMF.out HRF.out.lt (by have := HGM.out; have := HLD.out.lt; omega) HLF.out)
          have em : ((0 : Nat) : Int) + 2 = 2 := rfl
          rw [em] at HRF
          clear em
          have hkf : decide ((R : Int) ≤ (k : Int)) = true := by simp; omega
          have hkg : decide (R ≤ k) = true := by simp; omega
          have HKR : Hid (¬ k < R) := hkR
          clear hkR
          go_wp2_with (refine wpList_load_regs rfl _ rfl rfl HRF.out (pr_len _ _ _ _ _) ?_)
          refine CS.out.mono ?_
          rintro e V7 ⟨rfl, hm7, hps⟩
          have HB7 : Hid (Below w.heap.size w V7) := HBF.out.trans (hps.below (fun q hq => by rw [hq]; exact HGM.out.1) HBF.out.size)
          have HR7 : Hid (RB V7 gr (PR x 0 0 2 ((R : Int) + 2)) [] 28) := HRF.out.keep (hps.block gr HRF.out.lt (fun h => by have := HGR.out; omega))
          have HM7 := Lib.hid hm7
          clear hm7 hps CS HRF HMF HBF HLF d0
          obtain ⟨Va, hVa⟩ : ∃ V, V7.alloc (.cells #[.int .u32 0, .int .u32 0, .int .u32 0, .int .u32 0, .int .u32 0, .int .u32 0, .int .u32 0, .int .u32 0, .int .u32 0, .int .u32 0, .int .u32 0, .int .u32 0, .int .u32 0, .int .u32 0, .int .u32 0, .int .u32 0, .int .u32 0, .int .u32 0, .int .u32 0, .int .u32 0, .int .u32 0, .int .u32 0, .int .i64 0, .int .u32 0, .int .u32 0, .int .i64 0, .int .u32 0, .int .u32 0, .int .i64 0, .int .u32 0, .int .u32 0, .int .i64 0, .int .u32 0, .int .u32 0, .int .i64 0, .int .u32 0, .int .u32 0, .int .i64 0, .int .u32 0, .int .u32 0, .int .i64 0, .int .u32 0, .int .u32 0, .int .i64 0, .int .i64 0] 28) = V := ⟨_, rfl⟩
          obtain ⟨p1, hp⟩ : ∃ p, V7.heap.size = p := ⟨_, rfl⟩
          have z : RB Va p1 R0 [] 28 := by rw [← hVa, ← hp]; exact RB.zero _ _
          have b : Below V7.heap.size V7 Va := by rw [← hVa]; exact (Below.refl _ _).alloc (Nat.le_refl _) _
          obtain ⟨Vb, hVb⟩ : ∃ V, Va.alloc (.cells #[.int .i64 0, .int .i64 0, .int .i64 0] 35) = V := ⟨_, rfl⟩
          obtain ⟨q1, hq⟩ : ∃ p, Va.heap.size = p := ⟨_, rfl⟩
          have yv : Vb.heap[q1]? = some (.cells #[.int .i64 0, .int .i64 0, .int .i64 0] 35 (0, 0)) := by rw [← hVb, ← hq]; exact heap_alloc_new _ _
          have b2 : Below Va.heap.size Va Vb := by rw [← hVb]; exact (Below.refl _ _).alloc (Nat.le_refl _) _
          have z2 := z.below b2
          have bb : Below V7.heap.size V7 Vb := b.trans (b2.mono b.size)
          obtain ⟨Vc, hVc⟩ : ∃ V, Vb.setCells p1 0 (cells (PR x 0 0 2 ((R : Int) + 2))) = V := ⟨_, rfl⟩
          have p3 : Past p1 Vb Vc := by rw [← hVc]; exact past_setCells _ _ _ _
          have hlt' : p1 < q1 := by rw [← hq]; exact z.lt
          have hwp : V7.heap.size ≤ p1 := by rw [← hp]; exact Nat.le_refl _
          have z3 : RB Vc p1 (PR x 0 0 2 ((R : Int) + 2)) [] 28 := by rw [← hVc]; exact z2.store _ (by rw [r0_len]; exact (pr_len _ _ _ _ _))
          have y3 := (p3.block q1 (Array.getElem?_eq_some_iff.1 yv).1 (by omega)).trans yv
          have e0 := (row_cell y3 0).1
          have e1 := (row_cell y3 1).1
          have e2 := (row_cell y3 2).1
          have e3 := (row_cell y3 0).2
          have e4 := (row_cell y3 1).2
          have e5 := (row_cell y3 2).2
          simp at e0 e1 e2
          have p4 := set3_past (Past.refl q1 Vc) (.int .i64 (priceV 21)) (.int .i64 (-1)) (.int .i64 (13))
          have y4 := set3_heap y3 (.int .i64 (priceV 21)) (.int .i64 (-1)) (.int .i64 (13))
          have z4 := z3.keep (p4.block p1 z3.lt (by omega))
          have bc := bb.trans ((p3.below hwp bb.size).trans (p4.below (by omega) (by have := bb.size; have := p3.size; omega)))
          have Z2 := Lib.hid z2
          have E3 := Lib.hid hVc
          have HY1 := Lib.hid y4
          have HZ1 := Lib.hid z4
          have HW1 := Lib.hid bc
          have HPQ1 : Hid (V7.heap.size ≤ p1) := hwp
          clear z b yv b2 z2 bb p3 hlt' hwp z3 y3 p4 y4 z4 bc hVc
          go_upto_region 10 with (refine wpList_store_regs rfl _ _ rfl rfl rfl Z2.out r0_len (pr_len _ _ _ _ _) ?_; rw [E3.out]; dsimp only [Act.put])
          clear hVa hVb hp hq e0 e1 e2 e3 e4 e5 Z2 E3
          generalize ((Vc.setCell ⟨q1, 0, none⟩ (.int .i64 (priceV 21))).setCell ⟨q1, 1, none⟩ (.int .i64 (-1))).setCell ⟨q1, 2, none⟩ (.int .i64 (13)) = W1 at HY1 HZ1 HW1 ⊢
          have HR8 := Lib.hid (HR7.out.below HW1.out)
          have HM8 := Lib.hid (HM7.out.below HW1.out)
          have HB8 : Hid (Below w.heap.size w W1) := HB7.out.trans (HW1.out.mono HB7.out.size)
          clear HR7 HM7 HB7 HW1 HPQ1
          have a2 := (row_cell HY1.out 2).1
          simp at a2
          have hk1 : wrap64 ((k : Int) + 1) = (k : Int) + 1 := IntWalk.wrap64_in _ (by have := HK.out; have := HN.out; omega)
          have HEQ : Hid ((!decide (PR x 0 0 2 ((R : Int) + 2) = PR x 0 0 2 ((R : Int) + 2))) = false) := by unfold Hid; rw [decide_eq_true rfl]; rfl
          go_wp2_with (first | ((with_reducible refine wpList_loadg (.tmp 9) ?_ ?_ ?_ HZ1.out (pr_len _ _ _ _ _) ?_); rfl; rfl; rfl) | ((with_reducible refine wpList_loadg (.tmp 7) ?_ ?_ ?_ HR8.out (pr_len _ _ _ _ _) ?_); rfl; rfl; rfl) | ((with_reducible refine wpList_neqg (.tmp 58) (.tmp 59) 28 ?_ ?_ ?_ ?_ (pr_len x 0 0 2 ((R : Int) + 2)) (pr_len x 0 0 2 ((R : Int) + 2)) HEQ.out ?_); rfl; rfl; rfl; rfl))
          go_roundw
          case rel =>
            have Q : R1 xs n R gr gm w (.int .i64 ((k : Int) + 1)) W1 :=
              ⟨⟨k + 1, j, 0, x, 0, st, D, HKX.out, by go_num, by have := HK.out; have := HKR.out; omega, HK.out.2.2, HR8.out, HXU.out, HM8.out, HD.out.1, HD.out.2, HB8.out⟩⟩
            first | exact Q | (rw [hk1]; exact Q) | (simp only [hk1]; exact Q)
          case measure =>
            have := HKX.out
            rw [hk1]
            show n - ((k : Int) + 1).toNat < n - (k : Int).toNat
            clear hk1
            omega
      · have hkn : k = n := by have := HK.out; omega
        clear hlt
        subst hkn
        obtain ⟨wo, hwo⟩ : ∃ wo, wo = wr := ⟨_, rfl⟩
        subst hwo
        have hmin : min (k : Int) (R : Int) = (j : Int) := by have := HK.out; omega
        have hw1 : wrap64 ((j : Int) - 1) = (j : Int) - 1 := IntWalk.wrap64_in _ (by have := HK.out; have := HN.out; omega)
        go_wp2_with fail
        clear hmin
        go_loopw [11, 12, 13] (fun v11 _ _ wr => R2 j R gr gm D st w v11 wr) (fun v11 _ _ => fun _ => (intOf v11 + 1).toNat)
        case atStart =>
          have Q : R2 j R gr gm D st w (.int .i64 ((j : Int) - 1)) wo := ⟨⟨j, m, (j : Int) - 1, x1, 0, pc, Nat.le_refl _, rfl, by omega, HK.out.2.2, HRB.out, HU1.out, ⟨by decide, by decide⟩, HM.out, HB.out⟩⟩
          first | exact Q | (rw [hw1]; exact Q) | (simp only [hw1]; exact Q)
        case round =>
          clear HRB HU1 HM hw1
          obtain ⟨⟨t, m2, i, y1, x2, pc2, ht, rfl, hit, hmt, hrb, hu1, hu2, hmm, hb⟩⟩ := hrel
          have HT : Hid (t ≤ j ∧ i + 1 = (t : Int) ∧ m2 + t = R) := ⟨ht, hit, hmt⟩
          have hcd : decide ((-1 : Int) ≤ i) = true := by simp; omega
          have i16 := hrb.cellk (k := .u32) (o := 16) (by rw [pr_len]; decide) (kd_reg (by decide))
          have f16 := hrb.frozen 16
          obtain ⟨We, hWe⟩ : ∃ W, wr.setCell ⟨gr, 16, none⟩ (.int .u32 1) = W := ⟨_, rfl⟩
          have HRF : Hid (RB We gr (PR y1 x2 1 ((m2 : Int) + 2) ((R : Int) + 2)) [] 28) := by rw [← hWe]; exact RB.set hrb (by rw [pr_len]; decide) (kd_reg (by decide)) 1
          have hpe : Past gr wr We := by rw [← hWe]; exact (Past.refl gr wr).setCell 16 _
          have HMF := Lib.hid (hmm.past hpe rfl)
          have HBF : Hid (Below w.heap.size w We) := hb.trans (hpe.below HGR.out.1 hb.size)
          have HU12 := Lib.hid (And.intro hu1 hu2)
          have HLF := Lib.hid (HLD.out.below HBF.out)
          clear ht hit hmt hrb hu1 hu2 hmm hb hpe
          go_upto_region 20 with (fail)
          try rw [hWe]
          clear hWe i16 f16 hcd
          rcases Nat.eq_zero_or_pos t with ht0 | ht0
          · subst ht0
            obtain rfl : i = -1 := by have := HT.out; omega
            obtain rfl : m2 = R := by have := HT.out; omega
            have CS := Lib.hid (step_empty gm gr y1 x2 ((m2 : Int) + 2) st D We HU12.out.1 HU12.out.2 ⟨by omega, by have := HN.out; omega⟩ HMF.out HRF.out.lt (by have := HGM.out; have := HLD.out.lt; omega) HLF.out)
            go_wp2_with (refine wpList_load_regs rfl _ rfl rfl HRF.out (pr_len _ _ _ _ _) ?_)
            refine CS.out.mono ?_
            rintro e V7 ⟨rfl, hm7, hps⟩
            have HB7 : Hid (Below w.heap.size w V7) := HBF.out.trans (hps.below (fun q hq => by rw [hq]; exact HGM.out.1) HBF.out.size)
            have HR7 : Hid (RB V7 gr (PR y1 x2 1 ((m2 : Int) + 2) ((m2 : Int) + 2)) [] 28) := HRF.out.keep (hps.block gr HRF.out.lt (fun h => by have := HGR.out; omega))
            clear hm7 hps CS HRF HMF HBF HLF
            obtain ⟨Va, hVa⟩ : ∃ V, V7.alloc (.cells #[.int .u32 0, .int .u32 0, .int .u32 0, .int .u32 0, .int .u32 0, .int .u32 0, .int .u32 0, .int .u32 0, .int .u32 0, .int .u32 0, .int .u32 0, .int .u32 0, .int .u32 0, .int .u32 0, .int .u32 0, .int .u32 0, .int .u32 0, .int .u32 0, .int .u32 0, .int .u32 0, .int .u32 0, .int .u32 0, .int .i64 0, .int .u32 0, .int .u32 0, .int .i64 0, .int .u32 0, .int .u32 0, .int .i64 0, .int .u32 0, .int .u32 0, .int .i64 0, .int .u32 0, .int .u32 0, .int .i64 0, .int .u32 0, .int .u32 0, .int .i64 0, .int .u32 0, .int .u32 0, .int .i64 0, .int .u32 0, .int .u32 0, .int .i64 0, .int .i64 0] 28) = V := ⟨_, rfl⟩
            obtain ⟨p1, hp⟩ : ∃ p, V7.heap.size = p := ⟨_, rfl⟩
            have z : RB Va p1 R0 [] 28 := by rw [← hVa, ← hp]; exact RB.zero _ _
            have b : Below V7.heap.size V7 Va := by rw [← hVa]; exact (Below.refl _ _).alloc (Nat.le_refl _) _
            obtain ⟨Vb, hVb⟩ : ∃ V, Va.alloc (.cells #[.int .i64 0, .int .i64 0, .int .i64 0] 35) = V := ⟨_, rfl⟩
            obtain ⟨q1, hq⟩ : ∃ p, Va.heap.size = p := ⟨_, rfl⟩
            have yv : Vb.heap[q1]? = some (.cells #[.int .i64 0, .int .i64 0, .int .i64 0] 35 (0, 0)) := by rw [← hVb, ← hq]; exact heap_alloc_new _ _
            have b2 : Below Va.heap.size Va Vb := by rw [← hVb]; exact (Below.refl _ _).alloc (Nat.le_refl _) _
            have z2 := z.below b2
            have bb : Below V7.heap.size V7 Vb := b.trans (b2.mono b.size)
            obtain ⟨Vc, hVc⟩ : ∃ V, Vb.setCells p1 0 (cells (PR y1 x2 1 ((m2 : Int) + 2) ((m2 : Int) + 2))) = V := ⟨_, rfl⟩
            have p3 : Past p1 Vb Vc := by rw [← hVc]; exact past_setCells _ _ _ _
            have hlt' : p1 < q1 := by rw [← hq]; exact z.lt
            have hwp : V7.heap.size ≤ p1 := by rw [← hp]; exact Nat.le_refl _
            have z3 : RB Vc p1 (PR y1 x2 1 ((m2 : Int) + 2) ((m2 : Int) + 2)) [] 28 := by rw [← hVc]; exact z2.store _ (by rw [r0_len]; exact (pr_len _ _ _ _ _))
            have y3 := (p3.block q1 (Array.getElem?_eq_some_iff.1 yv).1 (by omega)).trans yv
            have e0 := (row_cell y3 0).1
            have e1 := (row_cell y3 1).1
            have e2 := (row_cell y3 2).1
            have e3 := (row_cell y3 0).2
            have e4 := (row_cell y3 1).2
            have e5 := (row_cell y3 2).2
            simp at e0 e1 e2
            have p4 := set3_past (Past.refl q1 Vc) (.int .i64 (priceV 22)) (.int .i64 (-1)) (.int .i64 (13))
            have y4 := set3_heap y3 (.int .i64 (priceV 22)) (.int .i64 (-1)) (.int .i64 (13))
            have z4 := z3.keep (p4.block p1 z3.lt (by omega))
            have bc := bb.trans ((p3.below hwp bb.size).trans (p4.below (by omega) (by have := bb.size; have := p3.size; omega)))
            have Z2 := Lib.hid z2
            have E3 := Lib.hid hVc
            have HY1 := Lib.hid y4
            have HZ1 := Lib.hid z4
            have HW1 := Lib.hid bc
            have HPQ1 : Hid (V7.heap.size ≤ p1) := hwp
            clear z b yv b2 z2 bb p3 hlt' hwp z3 y3 p4 y4 z4 bc hVc
            go_upto_region 21 with (refine wpList_store_regs rfl _ _ rfl rfl rfl Z2.out r0_len (pr_len _ _ _ _ _) ?_; rw [E3.out]; dsimp only [Act.put])
            clear hVa hVb hp hq e0 e1 e2 e3 e4 e5 Z2 E3
            generalize ((Vc.setCell ⟨q1, 0, none⟩ (.int .i64 (priceV 22))).setCell ⟨q1, 1, none⟩ (.int .i64 (-1))).setCell ⟨q1, 2, none⟩ (.int .i64 (13)) = W1 at HY1 HZ1 HW1 ⊢
            have HR8 := Lib.hid (HR7.out.below HW1.out)
            have HB8 : Hid (Below w.heap.size w W1) := HB7.out.trans (HW1.out.mono HB7.out.size)
            clear HR7 HB7 HW1 HPQ1
            have a2 := (row_cell HY1.out 2).1
            simp at a2
            have HEQ : Hid ((!decide (PR y1 x2 1 ((m2 : Int) + 2) ((m2 : Int) + 2) = PR y1 x2 1 ((m2 : Int) + 2) ((m2 : Int) + 2))) = false) := by unfold Hid; rw [decide_eq_true rfl]; rfl
            go_upto_region 27 with (first | ((with_reducible refine wpList_loadg (.tmp 12) ?_ ?_ ?_ HZ1.out (pr_len _ _ _ _ _) ?_); rfl; rfl; rfl) | ((with_reducible refine wpList_loadg (.tmp 7) ?_ ?_ ?_ HR8.out (pr_len _ _ _ _ _) ?_); rfl; rfl; rfl) | ((with_reducible refine wpList_neqg (.tmp 96) (.tmp 97) 28 ?_ ?_ ?_ ?_ (pr_len y1 x2 1 ((m2 : Int) + 2) ((m2 : Int) + 2)) (pr_len y1 x2 1 ((m2 : Int) + 2) ((m2 : Int) + 2)) HEQ.out ?_); rfl; rfl; rfl; rfl))
            clear a2
            go_wp2_with fail
            refine (known_any W1 (HLD.out.below HB8.out)).mono ?_
            rintro e V9 ⟨rfl, b⟩
            have HB9 : Hid (Below w.heap.size w V9) := HB8.out.trans (b.mono HB8.out.size)
            have HR9 := Lib.hid (HR8.out.below b)
            clear b
            have r1 := RB.cellk (k := .u32) (o := 17) HR9.out (by rw [pr_len]; decide) (kd_reg (by decide))
            have r2 := RB.cellk (k := .u32) (o := 19) HR9.out (by rw [pr_len]; decide) (kd_reg (by decide))
            have e1 : (PR y1 x2 1 ((m2 : Int) + 2) ((m2 : Int) + 2)).getD 17 0 = (m2 : Int) + 2 := rfl
            have e2 : (PR y1 x2 1 ((m2 : Int) + 2) ((m2 : Int) + 2)).getD 19 0 = (m2 : Int) + 2 := rfl
            rw [e1] at r1
            rw [e2] at r2
            clear e1 e2
            go_wp2_with fail
            go_ret
            exact ⟨rfl, HB9.out⟩
          · obtain ⟨t', rfl⟩ : ∃ t', t = t' + 1 := ⟨t - 1, by omega⟩
            obtain rfl : i = (t' : Int) := by have := HT.out; omega
            have CS := Lib.hid (step_pop gm gr y1 x2 ((R : Int) + 2) st D m2 We HD.out.1 (by have := HT.out; have := HN.out; omega) (by have := HT.out; omega) HU12.out.1 HU12.out.2 ⟨by omega, by have := HN.out; omega⟩ HMF.out HRF.out.lt (by have := HGM.out; have := HLD.out.lt; omega) HLF.out)
            obtain ⟨lb, off, rfl, hlb, hc⟩ := HA.out (by have := HN.out; have := HK.out; have := HT.out; omega)
            obtain ⟨y, hy⟩ : ∃ y, xs.getD t' 0 = y := ⟨_, rfl⟩
            have hdy : D.getD m2 0 = y := by have h1 := HD.out.2 t' (by have := HT.out; omega); rw [← hy, ← h1]; congr 1; have := HT.out; omega
            rw [hdy] at CS
            have HYU : Hid (U32 y) := by rw [← hy]; exact HU.out t'
            have d0 : We.cell? ⟨lb, off + t', none⟩ = some (.int .u32 y) := cell_later HBF.out (by rw [← hy]; exact hc t' (by have := HN.out; have := HK.out; have := HT.out; omega))
            have D0 := Lib.hid d0
            have hlI : (t' : Int) < (len : Int) := by have := HN.out; have := HK.out; have := HT.out; omega
            have hng : decide ((t' : Int) < 0) = false := by simp
            clear hc hy hdy d0 ht0
            go_wp2_with (refine wpList_load_regs rfl _ rfl rfl HRF.out (pr_len _ _ _ _ _) ?_)
            refine CS.out.mono ?_
            rintro e V7 ⟨rfl, hm7, hps⟩
            have HB7 : Hid (Below w.heap.size w V7) := HBF.out.trans (hps.below (fun q hq => by rw [hq]; exact HGM.out.1) HBF.out.size)
            have HR7 : Hid (RB V7 gr (PR y1 x2 1 ((m2 : Int) + 2) ((R : Int) + 2)) [] 28) := HRF.out.keep (hps.block gr HRF.out.lt (fun h => by have := HGR.out; omega))
            have HM7 := Lib.hid hm7
            have HD7 : Hid (V7.cell? ⟨lb, off + t', none⟩ = some (.int .u32 y)) := (World.cell?_of_block (hps.block lb (by have := HBF.out.size; omega) (fun h => by have := HGM.out; omega))).trans D0.out
            clear hm7 hps CS HRF HMF HBF HLF D0
            obtain ⟨Va, hVa⟩ : ∃ V, V7.alloc (.cells #[.int .u32 0, .int .u32 0, .int .u32 0, .int .u32 0, .int .u32 0, .int .u32 0, .int .u32 0, .int .u32 0, .int .u32 0, .int .u32 0, .int .u32 0, .int .u32 0, .int .u32 0, .int .u32 0, .int .u32 0, .int .u32 0, .int .u32 0, .int .u32 0, .int .u32 0, .int .u32 0, .int .u32 0, .int .u32 0, .int .i64 0, .int .u32 0, .int .u32 0, .int .i64 0, .int .u32 0, .int .u32 0, .int .i64 0, .int .u32 0, .int .u32 0, .int .i64 0, .int .u32 0, .int .u32 0, .int .i64 0, .int .u32 0, .int .u32 0, .int .i64 0, .int .u32 0, .int .u32 0, .int .i64 0, .int .u32 0, .int .u32 0, .int .i64 0, .int .i64 0] 28) = V := ⟨_, rfl⟩
            obtain ⟨p1, hp⟩ : ∃ p, V7.heap.size = p := ⟨_, rfl⟩
            have z : RB Va p1 R0 [] 28 := by rw [← hVa, ← hp]; exact RB.zero _ _
            have b : Below V7.heap.size V7 Va := by rw [← hVa]; exact (Below.refl _ _).alloc (Nat.le_refl _) _
            obtain ⟨Vb, hVb⟩ : ∃ V, Va.alloc (.cells #[.int .i64 0, .int .i64 0, .int .i64 0] 35) = V := ⟨_, rfl⟩
            obtain ⟨q1, hq⟩ : ∃ p, Va.heap.size = p := ⟨_, rfl⟩
            have yv : Vb.heap[q1]? = some (.cells #[.int .i64 0, .int .i64 0, .int .i64 0] 35 (0, 0)) := by rw [← hVb, ← hq]; exact heap_alloc_new _ _
            have b2 : Below Va.heap.size Va Vb := by rw [← hVb]; exact (Below.refl _ _).alloc (Nat.le_refl _) _
            have z2 := z.below b2
            have bb : Below V7.heap.size V7 Vb := b.trans (b2.mono b.size)
            obtain ⟨Vc, hVc⟩ : ∃ V, Vb.setCells p1 0 (cells (PR y1 y 2 ((m2 : Int) + 3) ((R : Int) + 2))) = V := ⟨_, rfl⟩
            have p3 : Past p1 Vb Vc := by rw [← hVc]; exact past_setCells _ _ _ _
            have hlt' : p1 < q1 := by rw [← hq]; exact z.lt
            have hwp : V7.heap.size ≤ p1 := by rw [← hp]; exact Nat.le_refl _
            have z3 : RB Vc p1 (PR y1 y 2 ((m2 : Int) + 3) ((R : Int) + 2)) [] 28 := by rw [← hVc]; exact z2.store _ (by rw [r0_len]; exact (pr_len _ _ _ _ _))
            have y3 := (p3.block q1 (Array.getElem?_eq_some_iff.1 yv).1 (by omega)).trans yv
            have e0 := (row_cell y3 0).1
            have e1 := (row_cell y3 1).1
            have e2 := (row_cell y3 2).1
            have e3 := (row_cell y3 0).2
            have e4 := (row_cell y3 1).2
            have e5 := (row_cell y3 2).2
            simp at e0 e1 e2
            have p4 := set3_past (Past.refl q1 Vc) (.int .i64 (priceV 22)) (.int .i64 (-1)) (.int .i64 (0))
            have y4 := set3_heap y3 (.int .i64 (priceV 22)) (.int .i64 (-1)) (.int .i64 (0))
            have z4 := z3.keep (p4.block p1 z3.lt (by omega))
            have bc := bb.trans ((p3.below hwp bb.size).trans (p4.below (by omega) (by have := bb.size; have := p3.size; omega)))
            have Z2 := Lib.hid z2
            have E3 := Lib.hid hVc
            have HY1 := Lib.hid y4
            have HZ1 := Lib.hid z4
            have HW1 := Lib.hid bc
            have HPQ1 : Hid (V7.heap.size ≤ p1) := hwp
            clear z b yv b2 z2 bb p3 hlt' hwp z3 y3 p4 y4 z4 bc hVc
            go_upto_region 21 with (refine wpList_store_regs rfl _ _ rfl rfl rfl Z2.out r0_len (pr_len _ _ _ _ _) ?_; rw [E3.out]; dsimp only [Act.put])
            clear hVa hVb hp hq e0 e1 e2 e3 e4 e5 Z2 E3
            generalize ((Vc.setCell ⟨q1, 0, none⟩ (.int .i64 (priceV 22))).setCell ⟨q1, 1, none⟩ (.int .i64 (-1))).setCell ⟨q1, 2, none⟩ (.int .i64 (0)) = W1 at HY1 HZ1 HW1 ⊢
            have HR8 := Lib.hid (HR7.out.below HW1.out)
            have HM8 := Lib.hid (HM7.out.below HW1.out)
            have HB8 : Hid (Below w.heap.size w W1) := HB7.out.trans (HW1.out.mono HB7.out.size)
            have HD8 := Lib.hid (cell_later HW1.out HD7.out)
            clear HR7 HM7 HB7 HW1 HPQ1 HD7
            have a2 := (row_cell HY1.out 2).1
            simp at a2
            have r1 := RB.cellk (k := .u32) (o := 2) HZ1.out (by rw [pr_len]; decide) (kd_reg (by decide))
            have e1 : (PR y1 y 2 ((m2 : Int) + 3) ((R : Int) + 2)).getD 2 0 = y := rfl
            rw [e1] at r1
            clear e1
            have d8 := HD8.out
            go_upto_region 24 with (fail)
            go_quiet (fail)
            obtain ⟨Wn, hWn⟩ : ∃ W, W1.drewN nq = W := ⟨_, rfl⟩
            have bn : Below W1.heap.size W1 Wn := by rw [← hWn]; exact below_drewN (Below.refl _ _) _
            have HRN := Lib.hid (HR8.out.below bn)
            have HZN := Lib.hid (HZ1.out.below bn)
            have HMN := Lib.hid (HM8.out.below bn)
            have HBN : Hid (Below w.heap.size w Wn) := HB8.out.trans (bn.mono HB8.out.size)
            rw [hWn]
            clear hWn bn r1 a2 d8 HR8 HZ1 HM8 HB8 HD8 HY1
            have hk1 : wrap64 ((t' : Int) - 1) = (t' : Int) - 1 := IntWalk.wrap64_in _ (by have := HT.out; have := HN.out; omega)
            go_upto_region 26 with (fail)
            obtain ⟨W9, hW9⟩ : ∃ V, Wn.setCells gr 0 (cells (PR y1 y 2 ((m2 : Int) + 3) ((R : Int) + 2))) = V := ⟨_, rfl⟩
            have HP9 : Hid (Past gr Wn W9) := by rw [← hW9]; exact past_setCells _ _ _ _
            have HR9 : Hid (RB W9 gr (PR y1 y 2 ((m2 : Int) + 3) ((R : Int) + 2)) [] 28) := by rw [← hW9]; exact HRN.out.store _ rfl
            have E9 := Lib.hid hW9
            clear hW9
            go_upto_region 18 with (first | (refine wpList_load_regs rfl _ rfl rfl HZN.out (pr_len _ _ _ _ _) ?_) | (refine wpList_store_regs rfl _ _ rfl rfl rfl HRN.out (pr_len y1 x2 1 ((m2 : Int) + 2) ((R : Int) + 2)) (pr_len y1 y 2 ((m2 : Int) + 3) ((R : Int) + 2)) ?_; dsimp only [Act.put]))
            rw [E9.out]
            go_wp2_with fail
            go_roundw
            case rel =>
              have em : ((m2 + 1 : Nat) : Int) + 2 = (m2 : Int) + 3 := by omega
              have Q : R2 j R gr gm D st w (.int .i64 ((t' : Int) - 1)) W9 :=
                ⟨⟨t', m2 + 1, (t' : Int) - 1, y1, y, 2, by have := HT.out; omega, rfl, by omega, by have := HT.out; omega, by rw [em]; exact HR9.out, HU12.out.1, HYU.out, HMN.out.past HP9.out rfl, HBN.out.trans (HP9.out.below HGR.out.1 HBN.out.size)⟩⟩
              first | exact Q | (rw [hk1]; exact Q) | (simp only [hk1]; exact Q)
            case measure =>
              rw [hk1]
              show ((t' : Int) - 1 + 1).toNat < ((t' : Int) + 1).toNat
              clear hk1
              omega
theorem stack_walk (a : Option Addr) (len cap : Nat) (zs : List Int) (rm : Int) (w : World) (h : IsRow .u32 w a len cap zs) (hL : Laid w) :
    Calls Tryd.prog 5 #[.slice a len cap, .int .i64 rm] w fun e w' => e = .returned (.bool true) ∧ Below w.heap.size w w' := stack_core a len cap zs rm w (words_at h) hL
end Go.Proofs.YthmalhakkdjilaaDoor
