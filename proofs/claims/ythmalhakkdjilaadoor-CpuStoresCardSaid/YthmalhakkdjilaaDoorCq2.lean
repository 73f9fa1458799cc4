/-
  A run is its steps, one by one: the law. Each statement bears its own conditions.
-/
import Derived.Test.YthmalhakkdjilaaDoorCq1
import Derived.Test.YthmalhakkdjilaaDoorCp4
namespace Go.Proofs.YthmalhakkdjilaaDoor
open Go.RowKit
set_option linter.unusedVariables false
set_option linter.unusedSimpArgs false
theorem leftV_len (r : List Int) : (leftV r).length = r.length := by unfold leftV; split <;> simp
theorem leftsV_len : ∀ (n : Nat) (r : List Int), (leftsV n r).length = r.length
  | 0, r => rfl
  | n + 1, r => by
    unfold leftsV
    split
    · rfl
    · rw [leftsV_len n, leftV_len]
theorem settledV_len (r : List Int) : (settledV r).length = r.length := by
  have h := leftsV_len 8 r
  unfold settledV
  dsimp only
  split
  · simp [h]
  · exact h
theorem effV_len (k : Nat) (a b n : Int) (r : List Int) (μ : MS) : (effV k a b n r μ).r.length = r.length := by
  unfold effV
  simp only [apply_ite ER.r, apply_ite List.length, putV_len, takeV_len, List.length_set, loopR, ite_self]
theorem stV1_len (r : List Int) (μ : MS) : (stV1 r μ).r.length = r.length := by
  unfold stV1
  dsimp only
  split
  · split
    · dsimp only; rw [settledV_len, effV_len, List.length_set]
    · rfl
  · rfl
theorem runGo_len (most : Int) : ∀ (n : Nat) (s : RS), (runGo stV1 most n s).r.length = s.r.length
  | 0, s => rfl
  | n + 1, s => by
    unfold runGo
    split
    · rw [runGo_len most n]; exact stV1_len _ _
    · rfl
theorem stV1_ok {r : List Int} {μ : MS} (hr : RegOk r) (hu : ∀ x ∈ μ.W, 0 ≤ x ∧ x < 4294967296) : RegOk (stV1 r μ).r := by
  unfold stV1
  dsimp only
  split
  next hx =>
    obtain ⟨hd, k, hk, hk24, hi, _⟩ := next_ok hx
    have hkt : (nextV r μ).o.toNat = k := by rw [hk]; simp
    have hr1 : RegOk (r.set 16 (IntKind.u32.wrap (r.getD 16 0 + 1))) := hr.set 16 _ (by rw [kd_reg (by omega), IntKind.wrap_u32]; exact ⟨by omega, by omega⟩)
    have hd1 : DepOk (r.set 16 (IntKind.u32.wrap (r.getD 16 0 + 1))) := by unfold DepOk at hd ⊢; rw [getD_set_ne _ (by omega)]; exact hd
    split
    next he =>
      have h := (eff_all k hk24).2 _ _ _ _ μ hu hr1 hd1 hi (by rw [← hkt]; exact he)
      rw [← hkt] at h
      exact h.1.settled h.2
    next => exact hr
  next => exact hr
def takeN (xs : List Int) (n : Nat) : List Int := (List.range n).map fun i => xs.getD i 0
theorem takeN_len (xs : List Int) (n : Nat) : (takeN xs n).length = n := by simp [takeN]
theorem takeN_mem {xs : List Int} {n : Nat} (h : ∀ i, U32 (xs.getD i 0)) : ∀ x ∈ takeN xs n, 0 ≤ x ∧ x < 4294967296 := by
  intro x hx
  simp only [takeN, List.mem_map] at hx
  obtain ⟨i, _, rfl⟩ := hx
  exact h i
theorem takeN_reads {w : World} {A : Option Addr} {p n : Nat} {xs : List Int} (h : WordsAt w A p xs) (hn : n ≤ p) : Reads w w.heap.size 1 A n (CW (takeN xs n)) := by
  refine ⟨by rw [CW_len, takeN_len]; omega, fun h0 => ?_⟩
  obtain ⟨b, off, rfl, hb, hc⟩ := h.at_ (by omega)
  refine ⟨_, rfl, hb, fun j u hj => ?_⟩
  have hjl : j < n := by have := (List.getElem?_eq_some_iff.1 hj).1; rw [CW_len, takeN_len] at this; exact this
  rw [CW_at _ j (by rw [takeN_len]; exact hjl)] at hj
  injection hj with hj
  subst hj
  rw [Addr.add_lit, hc j (by omega)]
  congr 2
  simp [takeN, List.getD_eq_getElem?_getD, hjl]
section
variable {ops : Array Oper} {op : Oper} {a : Act} {w : World}
theorem exec_eql_regs {p q : List Int} {t : Bool} (x y : Operand) (ty : TypeId) (ho : op.op = .binOp .eql 28 x y ty) (hx : a.eval x = .agg (cells p).toArray) (hy : a.eval y = .agg (cells q).toArray) (hp : p.length = 45) (hq : q.length = 45) (ht : decide (p = q) = t) : (execOp a.eval op).run Tryd.prog w = .ok (.value (.bool t)) w := by
  unfold execOp
  simp only [ho, hx, hy, Sem.run_bind, run_eqGuard_agg (P := Tryd.prog) w .eql 28 x y _ _ (by kernel_rfl), run_eql_regs p q w hp hq, ht, Result.andThen_ok, Sem.run_pure]
end
structure RunsR (X : RS) (M : Int) (w : World) (N1 N2 N3 N5 g4 p1 q1 q2 gm1 gm2 : Nat) (gk : Nat) (c t : Value) (wr : World) : Prop where
  ex : ∃ s : RS, c = .int .i64 (s.k : Int) ∧ t = .int .i64 s.t ∧ RB wr g4 s.r [] 28 ∧ wr.heap[q2]? = some (.cells #[.int .i64 s.lt, .int .i64 s.lc, .int .i64 s.le] 35 (0, 0)) ∧ RB wr p1 X.r [] 28 ∧ wr.heap[q1]? = some (.cells #[.int .i64 X.lt, .int .i64 X.lc, .int .i64 X.le] 35 (0, 0)) ∧
    MM wr gm2 (.iface 31 (.pointer (some ⟨gm2, 0, none⟩))) s.μ (fun b => (b = g4 ∨ b = gm1) ∨ (N3 ≤ b ∧ b < N5)) ∧ MM wr gm1 (.iface 31 (.pointer (some ⟨gm1, 0, none⟩))) X.μ (fun b => (b = g4 ∨ (N1 ≤ b ∧ b < N2)) ∨ (N3 ≤ b ∧ b < N5)) ∧ Below w.heap.size w wr ∧ N5 ≤ wr.heap.size ∧ RegOk s.r ∧ runGo stV1 M gk s = X ∧ ((s.k : Int) < M → gk + s.k = M.toNat)
set_option maxRecDepth 100000 in
set_option maxHeartbeats 16000000 in
theorem runs_core (r : List Int) (A A' : Option Addr) (p q c c' : Nat) (xs ys : List Int) (most : Int) (w : World) (hr : RegOk r) (h1 : WordsAt w A p xs) (h2 : WordsAt w A' q ys) (hc : p ≤ c ∧ c ≤ maxLen) (hc' : q ≤ c' ∧ c' ≤ maxLen) (hmb : -9223372036854775808 ≤ most ∧ most ≤ 9223372036854775807) (hL : Laid w) :
    Calls Tryd.prog 3 #[.agg (cells r).toArray, .slice A p c, .slice A' q c', .int .i64 most] w fun e w' => e = .returned (.bool true) ∧ Below w.heap.size w w' := by
  obtain ⟨n, hn⟩ : ∃ n : Nat, min p 60 = n := ⟨_, rfl⟩
  obtain ⟨m, hm⟩ : ∃ m : Nat, min q 60 = m := ⟨_, rfl⟩
  obtain ⟨M, hM⟩ : ∃ M : Int, min most 100 = M := ⟨_, rfl⟩
  have HMB : Hid (-9223372036854775808 ≤ M ∧ M ≤ 100) := ⟨by omega, by omega⟩
  have HR1 := Lib.hid (takeN_reads h1 (by omega : n ≤ p))
  have HR2 := Lib.hid (takeN_reads h2 (by omega : m ≤ q))
  have HU := Lib.hid (And.intro (takeN_mem (n := n) h1.u32) (takeN_mem (n := m) h2.u32))
  have HN := Lib.hid (And.intro hn (And.intro hm (And.intro hc hc')))
  obtain ⟨Xs, hXs⟩ : ∃ Xs, takeN xs n = Xs := ⟨_, rfl⟩
  obtain ⟨Ys, hYs⟩ : ∃ Ys, takeN ys m = Ys := ⟨_, rfl⟩
  rw [hXs] at HR1 HU
  rw [hYs] at HR2 HU
  have HLD := Lib.hid hL
  obtain ⟨W1, hW1⟩ : ∃ W1, w.alloc (.cells (cells r).toArray 28) = W1 := ⟨_, rfl⟩
  obtain ⟨g4, hg4⟩ : ∃ g4, w.heap.size = g4 := ⟨_, rfl⟩
  have q4 : RB W1 g4 r [] 28 := by rw [← hW1, ← hg4]; exact RB.new _ _ _
  have HB1 : Hid (Below w.heap.size w W1) := by rw [← hW1]; exact (Below.refl _ _).alloc (Nat.le_refl _) _
  have H4 := Lib.hid q4
  have HG4 : Hid (w.heap.size = g4 ∧ g4 < W1.heap.size) := ⟨hg4, q4.lt⟩
  have HLR := Lib.hid hr.len
  have CC := Lib.hid (clean_any r W1 hr)
  clear q4 h1 h2 hn hm hXs hYs hL hr hmb hc hc'
  go_enter Tryd.func3, Tryd.ntmps3
  go_upto_region 1 with (fail)
  try rw [hW1]
  try simp only [hg4]
  clear hW1 hg4
  go_wp2_with (refine wpList_load_regs rfl _ rfl rfl H4.out HLR.out ?_)
  refine CC.out.mono ?_
  rintro e W2 ⟨r1, rfl, hr1, b⟩
  have H42 := Lib.hid (H4.out.below b)
  have HB2 : Hid (Below w.heap.size w W2) := HB1.out.trans (b.mono HB1.out.size)
  have HRO := Lib.hid hr1
  have HL1 := Lib.hid hr1.len
  clear hr1 b CC HB1 H4
  obtain ⟨W3, hW3⟩ : ∃ W, W2.setCells g4 0 (cells r1) = W := ⟨_, rfl⟩
  have H43 : Hid (RB W3 g4 r1 [] 28) := by rw [← hW3]; exact H42.out.store r1 (by rw [HL1.out, HLR.out])
  have HB3 : Hid (Below w.heap.size w W3) := by rw [← hW3]; exact HB2.out.trans ((past_setCells g4 _ _ _).below (by rw [HG4.out.1]; exact Nat.le_refl _) HB2.out.size)
  have E3' := Lib.hid hW3
  clear hW3
  go_upto_region 2 with (refine wpList_store_regs rfl _ _ rfl rfl rfl H42.out HLR.out HL1.out ?_; dsimp only [Act.put])
  rw [E3'.out]
  clear E3' H42 HB2
  go_wp2_with fail
  clear hM
  refine (new_any A A' p q n m c c' Xs Ys W3 ((HR1.out.below HB3.out).more HB3.out.size) ((HR2.out.below HB3.out).more HB3.out.size) HN.out.1 HN.out.2.1 (by have := HN.out; omega) (by have := HN.out; omega) HN.out.2.2.1.2 HN.out.2.2.2.2 HU.out.1 HU.out.2).mono ?_
  rintro e V1 ⟨gm1, rfl, a1, a2, b, hm1⟩
  have HBV1 : Hid (Below w.heap.size w V1) := HB3.out.trans (b.mono HB3.out.size)
  have HM1 := Lib.hid (hm1 (fun b => b = g4) (fun b hb => by rw [hb]; exact H43.out.lt))
  have H44 := Lib.hid (H43.out.below b)
  have HG1 : Hid (g4 < gm1 ∧ gm1 < V1.heap.size) := ⟨by have := H43.out.lt; omega, a2⟩
  clear a1 a2 b hm1 H43 HB3
  go_wp2_with fail
  refine (new_any A A' p q n m c c' Xs Ys V1 ((HR1.out.below HBV1.out).more HBV1.out.size) ((HR2.out.below HBV1.out).more HBV1.out.size) HN.out.1 HN.out.2.1 (by have := HN.out; omega) (by have := HN.out; omega) HN.out.2.2.1.2 HN.out.2.2.2.2 HU.out.1 HU.out.2).mono ?_
  rintro e V2 ⟨gm2, rfl, a1, a2, b, hm2⟩
  have HBV2 : Hid (Below w.heap.size w V2) := HBV1.out.trans (b.mono HBV1.out.size)
  have HM2 := Lib.hid (hm2 (fun b => b = g4 ∨ b = gm1) (fun b hb => by have := HG1.out; rcases hb with hb | hb <;> omega))
  have HM1' := Lib.hid (HM1.out.more b V2.heap.size)
  have H45 := Lib.hid (H44.out.below b)
  obtain ⟨N1, hN1⟩ : ∃ N1, V1.heap.size = N1 := ⟨_, rfl⟩
  obtain ⟨N2, hN2⟩ : ∃ N2, V2.heap.size = N2 := ⟨_, rfl⟩
  have HG2 : Hid (g4 < gm1 ∧ gm1 < N1 ∧ N1 ≤ gm2 ∧ gm2 < N2 ∧ N2 = V2.heap.size) := by have := HG1.out; exact ⟨by omega, by omega, by omega, by omega, hN2.symm⟩
  rw [hN1, hN2] at HM1'
  clear a1 a2 b hm2 H44 HBV1 HM1 HG1 hN1 hN2 HR1 HR2
  obtain ⟨X, hX⟩ : ∃ X, runGo stV1 M M.toNat (RS.start r1 ⟨Xs ++ Ys, n, 0⟩) = X := ⟨_, rfl⟩
  have CR := Lib.hid (run_any (domMem gm1 (.iface 31 (.pointer (some ⟨gm1, 0, none⟩)))) (scMem gm1 (.iface 31 (.pointer (some ⟨gm1, 0, none⟩)))) r1 ⟨Xs ++ Ys, n, 0⟩ M V2 (fun b => b = g4 ∨ (N1 ≤ b ∧ b < N2)) HRO.out (okGo_any M M.toNat _) HM1'.out (fun b hb => by have := HG2.out; rcases hb with hb | hb <;> omega) (HLD.out.below HBV2.out) (fun b hb => by have := HG2.out; rw [hb]; omega) (by have := HG2.out; omega) (by have := HMB.out; omega))
  rw [hX] at CR
  have HXL : Hid (X.r.length = 45) := by rw [← hX]; unfold Hid; rw [runGo_len]; exact HL1.out
  have HX := Lib.hid hX
  clear hX HM1'
  go_wp2_with (refine wpList_load_regs rfl _ rfl rfl H45.out HL1.out ?_)
  refine CR.out.mono ?_
  rintro e V3 ⟨rfl, hm3, hps⟩
  have HBV3 : Hid (Below w.heap.size w V3) := HBV2.out.trans (hps.below (fun q hq => by have := HG2.out; have := HG4.out.1; rw [hq]; omega) HBV2.out.size)
  have H46 : Hid (RB V3 g4 r1 [] 28) := H45.out.keep (hps.block g4 H45.out.lt (fun h => by have := HG2.out; omega))
  have HM13 := Lib.hid hm3
  have HM23 : Hid (MM V3 gm2 (.iface 31 (.pointer (some ⟨gm2, 0, none⟩))) ⟨Xs ++ Ys, n, 0⟩ (fun b => b = g4 ∨ b = gm1)) := HM2.out.keep _ hps.size (fun b hb hn => hps.block b hb (fun h => hn (Or.inr h))) (fun _ _ h => h)
  have HS3 : Hid (N2 ≤ V3.heap.size) := by have := hps.size; have := HG2.out; unfold Hid; omega
  clear hm3 hps CR HM2 H45 HBV2
  unfold RS.val
  dsimp only
  obtain ⟨Va, hVa⟩ : ∃ V, V3.alloc (.cells #[.int .u32 0, .int .u32 0, .int .u32 0, .int .u32 0, .int .u32 0, .int .u32 0, .int .u32 0, .int .u32 0, .int .u32 0, .int .u32 0, .int .u32 0, .int .u32 0, .int .u32 0, .int .u32 0, .int .u32 0, .int .u32 0, .int .u32 0, .int .u32 0, .int .u32 0, .int .u32 0, .int .u32 0, .int .u32 0, .int .i64 0, .int .u32 0, .int .u32 0, .int .i64 0, .int .u32 0, .int .u32 0, .int .i64 0, .int .u32 0, .int .u32 0, .int .i64 0, .int .u32 0, .int .u32 0, .int .i64 0, .int .u32 0, .int .u32 0, .int .i64 0, .int .u32 0, .int .u32 0, .int .i64 0, .int .u32 0, .int .u32 0, .int .i64 0, .int .i64 0] 28) = V := ⟨_, rfl⟩
  obtain ⟨p1, hp⟩ : ∃ p, V3.heap.size = p := ⟨_, rfl⟩
  have z : RB Va p1 R0 [] 28 := by rw [← hVa, ← hp]; exact RB.zero _ _
  have b : Below V3.heap.size V3 Va := by rw [← hVa]; exact (Below.refl _ _).alloc (Nat.le_refl _) _
  obtain ⟨Vb, hVb⟩ : ∃ V, Va.alloc (.cells #[.int .i64 0, .int .i64 0, .int .i64 0] 35) = V := ⟨_, rfl⟩
  obtain ⟨q1, hq⟩ : ∃ p, Va.heap.size = p := ⟨_, rfl⟩
  have yv : Vb.heap[q1]? = some (.cells #[.int .i64 0, .int .i64 0, .int .i64 0] 35 (0, 0)) := by rw [← hVb, ← hq]; exact heap_alloc_new _ _
  have b2 : Below Va.heap.size Va Vb := by rw [← hVb]; exact (Below.refl _ _).alloc (Nat.le_refl _) _
  have z2 := z.below b2
  have bb : Below V3.heap.size V3 Vb := b.trans (b2.mono b.size)
  obtain ⟨Vc, hVc⟩ : ∃ V, Vb.setCells p1 0 (cells (X.r)) = V := ⟨_, rfl⟩
  have p3 : Past p1 Vb Vc := by rw [← hVc]; exact past_setCells _ _ _ _
  have hlt' : p1 < q1 := by rw [← hq]; exact z.lt
  have hwp : V3.heap.size ≤ p1 := by rw [← hp]; exact Nat.le_refl _
  have z3 : RB Vc p1 (X.r) [] 28 := by rw [← hVc]; exact z2.store _ (by rw [r0_len]; exact HXL.out)
  have y3 := (p3.block q1 (Array.getElem?_eq_some_iff.1 yv).1 (by omega)).trans yv
  have e0 := (row_cell y3 0).1
  have e1 := (row_cell y3 1).1
  have e2 := (row_cell y3 2).1
  have e3 := (row_cell y3 0).2
  have e4 := (row_cell y3 1).2
  have e5 := (row_cell y3 2).2
  simp at e0 e1 e2
  have p4 := set3_past (Past.refl q1 Vc) (.int .i64 X.lt) (.int .i64 (X.lc)) (.int .i64 (X.le))
  have y4 := set3_heap y3 (.int .i64 X.lt) (.int .i64 (X.lc)) (.int .i64 (X.le))
  have z4 := z3.keep (p4.block p1 z3.lt (by omega))
  have bc := bb.trans ((p3.below hwp bb.size).trans (p4.below (by omega) (by have := bb.size; have := p3.size; omega)))
  have Z2 := Lib.hid z2
  have E3 := Lib.hid hVc
  have HY1 := Lib.hid y4
  have HZ1 := Lib.hid z4
  have HW1 := Lib.hid bc
  have HPQ1 : Hid (V3.heap.size ≤ p1) := hwp
  have HLTQ1 : Hid (p1 < q1) := hlt'
  clear z b yv b2 z2 bb p3 hlt' hwp z3 y3 p4 y4 z4 bc hVc
  go_upto_region 5 with (refine wpList_store_regs rfl _ _ rfl rfl rfl Z2.out r0_len HXL.out ?_; rw [E3.out]; dsimp only [Act.put])
  clear hVa hVb hp hq e0 e1 e2 e3 e4 e5 Z2 E3
  generalize ((Vc.setCell ⟨q1, 0, none⟩ (.int .i64 X.lt)).setCell ⟨q1, 1, none⟩ (.int .i64 (X.lc))).setCell ⟨q1, 2, none⟩ (.int .i64 (X.le)) = W1 at HY1 HZ1 HW1 ⊢
  go_upto_region 6 with (fail)
  obtain ⟨V5, hV5⟩ : ∃ V, W1.alloc (.cells #[.int .i64 0, .int .i64 (-1), .int .i64 0] 35) = V := ⟨_, rfl⟩
  obtain ⟨q2, hq2⟩ : ∃ p, W1.heap.size = p := ⟨_, rfl⟩
  simp only [hV5, hq2]
  have b : Below W1.heap.size W1 V5 := by rw [← hV5]; exact (Below.refl _ _).alloc (Nat.le_refl _) _
  have hsz : V5.heap.size = W1.heap.size + 1 := by rw [← hV5]; simp
  have b3 : Below V3.heap.size V3 V5 := HW1.out.trans (b.mono HW1.out.size)
  obtain ⟨N3, hN3⟩ : ∃ N, V3.heap.size = N := ⟨_, rfl⟩
  obtain ⟨N5, hN5⟩ : ∃ N, V5.heap.size = N := ⟨_, rfl⟩
  have HQ2 : Hid (V5.heap[q2]? = some (.cells #[.int .i64 0, .int .i64 (-1), .int .i64 0] 35 (0, 0))) := by rw [← hV5, ← hq2]; exact heap_alloc_new _ _
  have HY5 := Lib.hid (heap_keep b HY1.out)
  have HZ5 := Lib.hid (HZ1.out.below b)
  have H47 := Lib.hid (H46.out.below b3)
  have HM25 := Lib.hid (HM23.out.more b3 V5.heap.size)
  have HM15 := Lib.hid (HM13.out.more b3 V5.heap.size)
  rw [hN3, hN5] at HM25 HM15
  have HBV5 : Hid (Below w.heap.size w V5) := HBV3.out.trans (b3.mono HBV3.out.size)
  have HGS : Hid (w.heap.size = g4 ∧ g4 < gm1 ∧ gm1 < N1 ∧ N1 ≤ gm2 ∧ gm2 < N2 ∧ N2 ≤ N3 ∧ N3 ≤ p1 ∧ p1 < q1 ∧ q1 < q2 ∧ q2 < N5) := by
    have e1 := HG2.out
    have e2 := HG4.out.1
    have e3 := HS3.out
    have e4 := HPQ1.out
    have e5 := (Array.getElem?_eq_some_iff.1 HY1.out).1
    have e6 := HLTQ1.out
    exact ⟨e2, e1.1, e1.2.1, e1.2.2.1, e1.2.2.2.1, by omega, by omega, e6, by omega, by omega⟩
  have HST : Hid (RunsR X M w N1 N2 N3 N5 g4 p1 q1 q2 gm1 gm2 M.toNat (.int .i64 0) (.int .i64 0) V5) := ⟨⟨RS.start r1 ⟨Xs ++ Ys, n, 0⟩, rfl, rfl, H47.out, HQ2.out, HZ5.out, HY5.out, HM25.out, HM15.out, HBV5.out, by rw [hN5]; exact Nat.le_refl _, HRO.out, HX.out, fun _ => rfl⟩⟩
  clear b b3 hsz hV5 hq2 hN3 hN5 HQ2 HY5 HZ5 H47 HM25 HM15 HBV5 HG2 HS3 HPQ1 HY1 HZ1 HW1 H46 HM23 HM13 HBV3 HX HRO HL1 HU HN HLTQ1
  go_loopg [16, 17] M.toNat (fun gk c t wr => RunsR X M w N1 N2 N3 N5 g4 p1 q1 q2 gm1 gm2 gk c t wr)
  case atStart => exact HST.out
  case round =>
    obtain ⟨s, rfl, rfl, q4, qe, qz, qy, qm2, qm1, qb, qn, qr, qx, qk⟩ := hrel.ex
    clear hrel HST
    obtain ⟨sr, sμ, sk, st, slt, slc, sle⟩ := s
    dsimp only at q4 qe qm2 qr qk ⊢
    have R4 := Lib.hid q4
    have RE := Lib.hid qe
    have RZ := Lib.hid qz
    have RY := Lib.hid qy
    have RM2 := Lib.hid qm2
    have RM1 := Lib.hid qm1
    have RBW := Lib.hid qb
    have RN := Lib.hid qn
    have RR := Lib.hid qr
    have RX := Lib.hid qx
    have RK := Lib.hid qk
    have HLS := Lib.hid qr.len
    have c0 := (row_cell qe 0).1
    have c1 := (row_cell qe 1).1
    have c2 := (row_cell qe 2).1
    simp at c0 c1 c2
    clear q4 qe qz qy qm2 qm1 qb qn qr qx qk
    by_cases hk : (sk : Int) < M
    · have hkd : decide ((sk : Int) < M) = true := by simpa using hk
      by_cases hc : slc = -1
      · by_cases he : sle = 0
        · subst hc he
          obtain ⟨n', rfl⟩ : ∃ n', gk = n' + 1 := ⟨gk - 1, by have := RK.out hk; omega⟩
          have hxn : runGo stV1 M n' (RS.next stV1 ⟨sr, sμ, sk, st, slt, -1, 0⟩) = X := by have := RX.out; rwa [runGo, if_pos ⟨hk, rfl, rfl⟩] at this
          have hrk := RK.out hk
          have hlx := stV1_ok RR.out RM2.out.u32
          have hcs := step_any (domMem gm2 (.iface 31 (.pointer (some ⟨gm2, 0, none⟩)))) (scMem gm2 (.iface 31 (.pointer (some ⟨gm2, 0, none⟩)))) sr sμ wr (fun b => (b = g4 ∨ b = gm1) ∨ (N3 ≤ b ∧ b < N5)) RR.out (ok_any _ _) RM2.out (fun b hb => by have := HGS.out; have := RN.out; rcases hb with (hb | hb) | hb <;> omega) (HLD.out.below RBW.out) (fun b hb => by have := HGS.out; have := RN.out; rw [hb]; omega) (by have := HGS.out; omega)
          have CS := Lib.hid hcs
          have HXN := Lib.hid hxn
          have HLX := Lib.hid hlx
          have HRK : Hid (n' + (sk + 1) = M.toNat) := by unfold Hid; omega
          clear hcs hxn hrk hlx
          obtain ⟨Y, hY⟩ : ∃ Y, stV1 sr sμ = Y := ⟨_, rfl⟩
          have HNX : Hid (RS.next stV1 ⟨sr, sμ, sk, st, slt, -1, 0⟩ = ⟨Y.r, Y.μ, sk + 1, IntKind.i64.wrap (st + Y.t), Y.t, Y.c, Y.e⟩) := by unfold Hid RS.next; dsimp only; rw [hY]
          rw [hY] at HLX CS
          clear hY
          obtain ⟨xr, xt, xc, xe, xμ⟩ := Y
          unfold SR.val at CS
          dsimp only at CS HLX HNX
          have hw1 : wrap64 ((sk : Int) + 1) = (sk : Int) + 1 := IntWalk.wrap64_in _ (by have := HMB.out; omega)
          go_upto_region 7 with (fail)
          go_wp2_with (refine wpList_load_regs rfl _ rfl rfl R4.out HLS.out ?_)
          refine CS.out.mono ?_
          rintro e W6 ⟨rfl, hm6, hp6⟩
          have gs := HGS.out
          have u4 := R4.out.keep (hp6.block g4 R4.out.lt (by omega))
          have ue := (hp6.block q2 (Array.getElem?_eq_some_iff.1 RE.out).1 (by omega)).trans RE.out
          have uz := RZ.out.keep (hp6.block p1 RZ.out.lt (by omega))
          have uy := (hp6.block q1 (Array.getElem?_eq_some_iff.1 RY.out).1 (by omega)).trans RY.out
          have um1 := RM1.out.keep (fun b => (b = g4 ∨ (N1 ≤ b ∧ b < N2)) ∨ (N3 ≤ b ∧ b < N5)) hp6.size (fun b hb hn => hp6.block b hb (fun h => hn (Or.inl (Or.inr ⟨by omega, by omega⟩)))) (fun _ _ h => h)
          have ub : Below w.heap.size w W6 := RBW.out.trans (hp6.below (fun q hq => by rw [hq]; omega) RBW.out.size)
          obtain ⟨W11, hW11⟩ : ∃ W11, W6.setCells g4 0 (cells xr) = W11 := ⟨_, rfl⟩
          have p11 : Past g4 W6 W11 := by rw [← hW11]; exact past_setCells _ _ _ _
          have v4 : RB W11 g4 xr [] 28 := by rw [← hW11]; exact u4.store _ (by rw [HLX.out.len, HLS.out])
          have ve := (p11.block q2 (Array.getElem?_eq_some_iff.1 ue).1 (by omega)).trans ue
          have vz := uz.keep (p11.block p1 uz.lt (by omega))
          have vy := (p11.block q1 (Array.getElem?_eq_some_iff.1 uy).1 (by omega)).trans uy
          have vm2 := hm6.past p11 (Or.inl (Or.inl rfl))
          have vm1 := um1.past p11 (Or.inl (Or.inl rfl))
          have e0 := (row_cell ve 0).1
          have e1 := (row_cell ve 1).1
          have e2 := (row_cell ve 2).1
          have e3 := (row_cell ve 0).2
          have e4 := (row_cell ve 1).2
          have e5 := (row_cell ve 2).2
          simp at e0 e1 e2
          have p12 := set3_past (Past.refl q2 W11) (.int .i64 xt) (.int .i64 xc) (.int .i64 xe)
          have xq2 := set3_heap ve (.int .i64 xt) (.int .i64 xc) (.int .i64 xe)
          have d0 := (row_cell xq2 0).1
          simp at d0
          have HREL : Hid (RunsR X M w N1 N2 N3 N5 g4 p1 q1 q2 gm1 gm2 n' (.int .i64 ((sk : Int) + 1)) (.int .i64 (IntKind.i64.wrap (st + xt))) (((W11.setCell ⟨q2, 0, none⟩ (.int .i64 xt)).setCell ⟨q2, 1, none⟩ (.int .i64 xc)).setCell ⟨q2, 2, none⟩ (.int .i64 xe))) := by
            refine ⟨⟨xr, xμ, sk + 1, IntKind.i64.wrap (st + xt), xt, xc, xe⟩, by go_num, rfl, v4.keep (p12.block g4 v4.lt (by omega)), xq2, vz.keep (p12.block p1 vz.lt (by omega)), (p12.block q1 (Array.getElem?_eq_some_iff.1 vy).1 (by omega)).trans vy, vm2.past p12 (Or.inr ⟨by omega, by omega⟩), vm1.past p12 (Or.inr ⟨by omega, by omega⟩), (ub.trans (p11.below (by omega) ub.size)).trans (p12.below (by omega) (by have := ub.size; have := p11.size; omega)), ?_, HLX.out, ?_, fun _ => HRK.out⟩
            · have := RN.out; have := hp6.size; have := p11.size; have := p12.size; omega
            · have := HXN.out; rw [HNX.out] at this; exact this
          have U4 := Lib.hid u4
          have UW := Lib.hid hW11
          clear gs u4 ue uz uy um1 ub hW11 p11 v4 ve vz vy vm2 vm1 p12 xq2 c0 c1 c2 hm6 hp6 CS hk
          go_upto_region 8 with (refine wpList_store_regs rfl _ _ rfl rfl rfl U4.out HLS.out HLX.out.len ?_; rw [UW.out]; dsimp only [Act.put])
          clear e0 e1 e2 e3 e4 e5
          generalize ((W11.setCell ⟨q2, 0, none⟩ (.int .i64 xt)).setCell ⟨q2, 1, none⟩ (.int .i64 xc)).setCell ⟨q2, 2, none⟩ (.int .i64 xe) = W12 at HREL d0 ⊢
          go_wp2_with fail
          go_roundg n'
          case measure => omega
          case rel => first | (rw [hw1, ← IntWalk.i64_left]; exact HREL.out) | (rw [← IntWalk.i64_left]; exact HREL.out)
        · have hed : (sle == 0) = false := by simpa using he
          have hcd : (slc == -1) = true := by simpa using hc
          have HFX : Hid (X = ⟨sr, sμ, sk, st, slt, slc, sle⟩) := by rw [← RX.out]; exact runGo_stop (fun h => he h.2.2)
          clear hk hc he
          have hfx := HFX.out
          subst hfx
          dsimp only at RZ RY RM1 HXL ⊢
          have d0 := (row_cell RY.out 0).1
          have d1 := (row_cell RY.out 1).1
          have d2 := (row_cell RY.out 2).1
          simp at d0 d1 d2
          obtain ⟨v1, _, hb1, _, hs1⟩ := RM1.out.ex
          obtain ⟨v2, _, hb2, _, hs2⟩ := RM2.out.ex
          obtain ⟨A1, cp1, rfl, _⟩ := hs1.ex
          obtain ⟨A2, cp2, rfl, _⟩ := hs2.ex
          have m1 := (row_cell hb1 0).1
          have m2 := (row_cell hb2 0).1
          simp at m1 m2
          have HSW1 := Lib.hid hs1
          have HSW2 := Lib.hid hs2
          have HWL := Lib.hid RM2.out.len
          clear hb1 hb2 hs1 hs2
          go_upto_region 10 with (fail)
          have HSS : Hid ((fun w' => Below wr.heap.size wr w' ∧ RB w' p1 sr [] 28 ∧ RB w' g4 sr [] 28 ∧ w'.cell? ⟨q1, 0, none⟩ = some (.int .i64 slt) ∧ w'.cell? ⟨q1, 1, none⟩ = some (.int .i64 slc) ∧ w'.cell? ⟨q1, 2, none⟩ = some (.int .i64 sle) ∧ w'.cell? ⟨q2, 0, none⟩ = some (.int .i64 slt) ∧ w'.cell? ⟨q2, 1, none⟩ = some (.int .i64 slc) ∧ w'.cell? ⟨q2, 2, none⟩ = some (.int .i64 sle) ∧ w'.cell? ⟨gm1, 0, none⟩ = some (.slice A1 sμ.W.length cp1) ∧ w'.cell? ⟨gm2, 0, none⟩ = some (.slice A2 sμ.W.length cp2)) wr.drew) := ⟨(Below.refl _ _).drew, RZ.out.keep rfl, R4.out.keep rfl, d0, d1, d2, c0, c1, c2, m1, m2⟩
          clear d0 d1 d2 c0 c1 c2 m1 m2 RZ RY RM1 RM2 R4 RE HFX RX RK RR RN
          refine wp_region_held_drew (S := fun w' => Below wr.heap.size wr w' ∧ RB w' p1 sr [] 28 ∧ RB w' g4 sr [] 28 ∧ w'.cell? ⟨q1, 0, none⟩ = some (.int .i64 slt) ∧ w'.cell? ⟨q1, 1, none⟩ = some (.int .i64 slc) ∧ w'.cell? ⟨q1, 2, none⟩ = some (.int .i64 sle) ∧ w'.cell? ⟨q2, 0, none⟩ = some (.int .i64 slt) ∧ w'.cell? ⟨q2, 1, none⟩ = some (.int .i64 slc) ∧ w'.cell? ⟨q2, 2, none⟩ = some (.int .i64 sle) ∧ w'.cell? ⟨gm1, 0, none⟩ = some (.slice A1 sμ.W.length cp1) ∧ w'.cell? ⟨gm2, 0, none⟩ = some (.slice A2 sμ.W.length cp2)) (by kernel_rfl) ?_ (fun hHeld => ?_)
          · exact HSS.out
          refine wpAnyH_ready (rs := [0]) (by kernel_rfl) (by simp) ?_
          refine AllReadyH.cons rfl (fun K hK => ?_) AllReadyH.nil
          (go_simp; refine (known_any _ (HLD.out.below (RBW.out.trans (hHeld.1.mono RBW.out.size)))).mono ?_; rintro e wt ⟨rfl, bt⟩; try go_wp2_with fail)
          refine hK.out _ _ ⟨hHeld.1.trans (bt.mono hHeld.1.size), hHeld.2.1.below bt, hHeld.2.2.1.below bt, cell_later bt hHeld.2.2.2.1, cell_later bt hHeld.2.2.2.2.1, cell_later bt hHeld.2.2.2.2.2.1, cell_later bt hHeld.2.2.2.2.2.2.1, cell_later bt hHeld.2.2.2.2.2.2.2.1, cell_later bt hHeld.2.2.2.2.2.2.2.2.1, cell_later bt hHeld.2.2.2.2.2.2.2.2.2.1, cell_later bt hHeld.2.2.2.2.2.2.2.2.2.2⟩ (fun hHeld => ?_)
          clear hK K bt
          try simp only [Act.put, List.setIfInBounds_toArray, List.set_cons_zero, List.set_cons_succ]
          refine takeD (i := 1) (d := some 66) (v := ?_) _ rfl rfl (by kernel_rfl) (by kernel_rfl) (by kernel_rfl) (fun _ _ _ h => h) (by rfl) ?_ (by assumption) ?_
          rotate_left
          · (intro w hSw; (try dsimp only at hSw); go_simp) <;> with_reducible rfl
          try simp only [Act.put, List.setIfInBounds_toArray, List.set_cons_zero, List.set_cons_succ]
          refine takeD (i := 2) (d := some 67) (v := .agg (cells sr).toArray) _ rfl rfl (by kernel_rfl) (by kernel_rfl) (by kernel_rfl) (fun _ _ _ h => h) (by rfl) ?_ (by assumption) ?_
          · intro w hSw; exact exec_load_regs (.tmp 11) rfl rfl hSw.2.1 HLS.out
          try simp only [Act.put, List.setIfInBounds_toArray, List.set_cons_zero, List.set_cons_succ]
          refine takeD (i := 3) (d := some 68) (v := .agg (cells sr).toArray) _ rfl rfl (by kernel_rfl) (by kernel_rfl) (by kernel_rfl) (fun _ _ _ h => h) (by rfl) ?_ (by assumption) ?_
          · intro w hSw; exact exec_load_regs (.tmp 4) rfl rfl hSw.2.2.1 HLS.out
          try simp only [Act.put, List.setIfInBounds_toArray, List.set_cons_zero, List.set_cons_succ]
          refine takeD (i := 4) (d := some 69) (v := .bool true) _ rfl rfl (by kernel_rfl) (by kernel_rfl) (by kernel_rfl) (fun _ _ _ h => h) (by rfl) ?_ (by assumption) ?_
          · intro w hSw; exact exec_eql_regs (.tmp 67) (.tmp 68) 28 rfl rfl rfl HLS.out HLS.out (decide_eq_true rfl)
          try simp only [Act.put, List.setIfInBounds_toArray, List.set_cons_zero, List.set_cons_succ]
          refine takeD (i := 5) (d := some 70) (v := ?_) _ rfl rfl (by kernel_rfl) (by kernel_rfl) (by kernel_rfl) (fun _ _ _ h => h) (by rfl) ?_ (by assumption) ?_
          rotate_left
          · (intro w hSw; (try dsimp only at hSw); go_simp) <;> with_reducible rfl
          try simp only [Act.put, List.setIfInBounds_toArray, List.set_cons_zero, List.set_cons_succ]
          refine takeD (i := 6) (d := some 71) (v := ?_) _ rfl rfl (by kernel_rfl) (by kernel_rfl) (by kernel_rfl) (fun _ _ _ h => h) (by rfl) ?_ (by assumption) ?_
          rotate_left
          · (intro w hSw; (try dsimp only at hSw); go_simp) <;> with_reducible rfl
          try simp only [Act.put, List.setIfInBounds_toArray, List.set_cons_zero, List.set_cons_succ]
          refine takeD (i := 7) (d := some 72) (v := ?_) _ rfl rfl (by kernel_rfl) (by kernel_rfl) (by kernel_rfl) (fun _ _ _ h => h) (by rfl) ?_ (by assumption) ?_
          rotate_left
          · (intro w hSw; (try dsimp only at hSw); go_simp) <;> with_reducible rfl
          try simp only [Act.put, List.setIfInBounds_toArray, List.set_cons_zero, List.set_cons_succ]
          refine takeD (i := 8) (d := some 73) (v := ?_) _ rfl rfl (by kernel_rfl) (by kernel_rfl) (by kernel_rfl) (fun _ _ _ h => h) (by rfl) ?_ (by assumption) ?_
          rotate_left
          · (intro w hSw; (try dsimp only at hSw); go_simp) <;> with_reducible rfl
          try simp only [Act.put, List.setIfInBounds_toArray, List.set_cons_zero, List.set_cons_succ]
          refine takeD (i := 9) (d := some 74) (v := ?_) _ rfl rfl (by kernel_rfl) (by kernel_rfl) (by kernel_rfl) (fun _ _ _ h => h) (by rfl) ?_ (by assumption) ?_
          rotate_left
          · (intro w hSw; (try dsimp only at hSw); go_simp) <;> with_reducible rfl
          try simp only [Act.put, List.setIfInBounds_toArray, List.set_cons_zero, List.set_cons_succ]
          refine takeD (i := 10) (d := some 75) (v := ?_) _ rfl rfl (by kernel_rfl) (by kernel_rfl) (by kernel_rfl) (fun _ _ _ h => h) (by rfl) ?_ (by assumption) ?_
          rotate_left
          · (intro w hSw; (try dsimp only at hSw); go_simp) <;> with_reducible rfl
          try simp only [Act.put, List.setIfInBounds_toArray, List.set_cons_zero, List.set_cons_succ]
          refine takeD (i := 11) (d := some 76) (v := ?_) _ rfl rfl (by kernel_rfl) (by kernel_rfl) (by kernel_rfl) (fun _ _ _ h => h) (by rfl) ?_ (by assumption) ?_
          rotate_left
          · (intro w hSw; (try dsimp only at hSw); go_simp) <;> with_reducible rfl
          try simp only [Act.put, List.setIfInBounds_toArray, List.set_cons_zero, List.set_cons_succ]
          refine takeD (i := 12) (d := some 77) (v := ?_) _ rfl rfl (by kernel_rfl) (by kernel_rfl) (by kernel_rfl) (fun _ _ _ h => h) (by rfl) ?_ (by assumption) ?_
          rotate_left
          · (intro w hSw; (try dsimp only at hSw); go_simp) <;> with_reducible rfl
          try simp only [Act.put, List.setIfInBounds_toArray, List.set_cons_zero, List.set_cons_succ]
          refine takeD (i := 13) (d := some 78) (v := ?_) _ rfl rfl (by kernel_rfl) (by kernel_rfl) (by kernel_rfl) (fun _ _ _ h => h) (by rfl) ?_ (by assumption) ?_
          rotate_left
          · (intro w hSw; (try dsimp only at hSw); go_simp) <;> with_reducible rfl
          try simp only [Act.put, List.setIfInBounds_toArray, List.set_cons_zero, List.set_cons_succ]
          refine takeD (i := 14) (d := some 79) (v := ?_) _ rfl rfl (by kernel_rfl) (by kernel_rfl) (by kernel_rfl) (fun _ _ _ h => h) (by rfl) ?_ (by assumption) ?_
          rotate_left
          · (intro w hSw; (try dsimp only at hSw); go_simp) <;> with_reducible rfl
          try simp only [Act.put, List.setIfInBounds_toArray, List.set_cons_zero, List.set_cons_succ]
          refine wpAnyH_ready (rs := [15]) (by kernel_rfl) (by simp) ?_
          refine AllReadyH.cons rfl (fun K hK => ?_) AllReadyH.nil
          (go_simp; refine (words_any (.slice A1 sμ.W.length cp1) (.slice A2 sμ.W.length cp2) sμ.W _ _ _ (HSW1.out.keep hHeld.1.size (fun b hb _ => hHeld.1.block b hb) (fun _ _ h => h)) (HSW2.out.keep hHeld.1.size (fun b hb _ => hHeld.1.block b hb) (fun _ _ h => h)) HWL.out).mono ?_; rintro e wt ⟨rfl, bt⟩; try go_wp2_with fail)
          refine hK.out _ _ ⟨hHeld.1.trans (bt.mono hHeld.1.size), hHeld.2.1.below bt, hHeld.2.2.1.below bt, cell_later bt hHeld.2.2.2.1, cell_later bt hHeld.2.2.2.2.1, cell_later bt hHeld.2.2.2.2.2.1, cell_later bt hHeld.2.2.2.2.2.2.1, cell_later bt hHeld.2.2.2.2.2.2.2.1, cell_later bt hHeld.2.2.2.2.2.2.2.2.1, cell_later bt hHeld.2.2.2.2.2.2.2.2.2.1, cell_later bt hHeld.2.2.2.2.2.2.2.2.2.2⟩ (fun hHeld => ?_)
          clear hK K bt
          try simp only [Act.put, List.setIfInBounds_toArray, List.set_cons_zero, List.set_cons_succ]
          refine takeD (i := 16) (d := some 81) (v := ?_) _ rfl rfl (by kernel_rfl) (by kernel_rfl) (by kernel_rfl) (fun _ _ _ h => h) (by rfl) ?_ (by assumption) ?_
          rotate_left
          · (intro w hSw; (try dsimp only at hSw); go_simp) <;> with_reducible rfl
          try simp only [Act.put, List.setIfInBounds_toArray, List.set_cons_zero, List.set_cons_succ]
          refine takeD (i := 17) (d := some 82) (v := ?_) _ rfl rfl (by kernel_rfl) (by kernel_rfl) (by kernel_rfl) (fun _ _ _ h => h) (by rfl) ?_ (by assumption) ?_
          rotate_left
          · (intro w hSw; (try dsimp only at hSw); go_simp) <;> with_reducible rfl
          try simp only [Act.put, List.setIfInBounds_toArray, List.set_cons_zero, List.set_cons_succ]
          refine takeD (i := 18) (d := some 83) (v := ?_) _ rfl rfl (by kernel_rfl) (by kernel_rfl) (by kernel_rfl) (fun _ _ _ h => h) (by rfl) ?_ (by assumption) ?_
          rotate_left
          · (intro w hSw; (try dsimp only at hSw); go_simp) <;> with_reducible rfl
          try simp only [Act.put, List.setIfInBounds_toArray, List.set_cons_zero, List.set_cons_succ]
          refine takeD (i := 19) (d := some 84) (v := ?_) _ rfl rfl (by kernel_rfl) (by kernel_rfl) (by kernel_rfl) (fun _ _ _ h => h) (by rfl) ?_ (by assumption) ?_
          rotate_left
          · (intro w hSw; (try dsimp only at hSw); go_simp) <;> with_reducible rfl
          try simp only [Act.put, List.setIfInBounds_toArray, List.set_cons_zero, List.set_cons_succ]
          refine takeD (i := 20) (d := some 85) (v := ?_) _ rfl rfl (by kernel_rfl) (by kernel_rfl) (by kernel_rfl) (fun _ _ _ h => h) (by rfl) ?_ (by assumption) ?_
          rotate_left
          · (intro w hSw; (try dsimp only at hSw); go_simp) <;> with_reducible rfl
          try simp only [Act.put, List.setIfInBounds_toArray, List.set_cons_zero, List.set_cons_succ]
          refine takeD (i := 21) (d := some 86) (v := ?_) _ rfl rfl (by kernel_rfl) (by kernel_rfl) (by kernel_rfl) (fun _ _ _ h => h) (by rfl) ?_ (by assumption) ?_
          rotate_left
          · (intro w hSw; (try dsimp only at hSw); go_simp) <;> with_reducible rfl
          try simp only [Act.put, List.setIfInBounds_toArray, List.set_cons_zero, List.set_cons_succ]
          refine takeD (i := 22) (d := some 87) (v := ?_) _ rfl rfl (by kernel_rfl) (by kernel_rfl) (by kernel_rfl) (fun _ _ _ h => h) (by rfl) ?_ (by assumption) ?_
          rotate_left
          · (intro w hSw; (try dsimp only at hSw); go_simp) <;> with_reducible rfl
          try simp only [Act.put, List.setIfInBounds_toArray, List.set_cons_zero, List.set_cons_succ]
          refine takeD (i := 23) (d := some 88) (v := ?_) _ rfl rfl (by kernel_rfl) (by kernel_rfl) (by kernel_rfl) (fun _ _ _ h => h) (by rfl) ?_ (by assumption) ?_
          rotate_left
          · (intro w hSw; (try dsimp only at hSw); go_simp) <;> with_reducible rfl
          try simp only [Act.put, List.setIfInBounds_toArray, List.set_cons_zero, List.set_cons_succ]
          refine takeD (i := 24) (d := some 89) (v := ?_) _ rfl rfl (by kernel_rfl) (by kernel_rfl) (by kernel_rfl) (fun _ _ _ h => h) (by rfl) ?_ (by assumption) ?_
          rotate_left
          · (intro w hSw; (try dsimp only at hSw); go_simp) <;> with_reducible rfl
          try simp only [Act.put, List.setIfInBounds_toArray, List.set_cons_zero, List.set_cons_succ]
          refine takeD (i := 25) (d := some 90) (v := ?_) _ rfl rfl (by kernel_rfl) (by kernel_rfl) (by kernel_rfl) (fun _ _ _ h => h) (by rfl) ?_ (by assumption) ?_
          rotate_left
          · (intro w hSw; (try dsimp only at hSw); go_simp) <;> with_reducible rfl
          try simp only [Act.put, List.setIfInBounds_toArray, List.set_cons_zero, List.set_cons_succ]
          refine takeD (i := 26) (d := some 91) (v := ?_) _ rfl rfl (by kernel_rfl) (by kernel_rfl) (by kernel_rfl) (fun _ _ _ h => h) (by rfl) ?_ (by assumption) ?_
          rotate_left
          · (intro w hSw; (try dsimp only at hSw); go_simp) <;> with_reducible rfl
          try simp only [Act.put, List.setIfInBounds_toArray, List.set_cons_zero, List.set_cons_succ]
          refine takeD (i := 27) (d := some 92) (v := ?_) _ rfl rfl (by kernel_rfl) (by kernel_rfl) (by kernel_rfl) (fun _ _ _ h => h) (by rfl) ?_ (by assumption) ?_
          rotate_left
          · (intro w hSw; (try dsimp only at hSw); go_simp) <;> with_reducible rfl
          try simp only [Act.put, List.setIfInBounds_toArray, List.set_cons_zero, List.set_cons_succ]
          refine takeD (i := 28) (d := some 93) (v := ?_) _ rfl rfl (by kernel_rfl) (by kernel_rfl) (by kernel_rfl) (fun _ _ _ h => h) (by rfl) ?_ (by assumption) ?_
          rotate_left
          · (intro w hSw; (try dsimp only at hSw); go_simp) <;> with_reducible rfl
          try simp only [Act.put, List.setIfInBounds_toArray, List.set_cons_zero, List.set_cons_succ]
          refine takeD (i := 29) (d := some 94) (v := ?_) _ rfl rfl (by kernel_rfl) (by kernel_rfl) (by kernel_rfl) (fun _ _ _ h => h) (by rfl) ?_ (by assumption) ?_
          rotate_left
          · (intro w hSw; (try dsimp only at hSw); go_simp) <;> with_reducible rfl
          try simp only [Act.put, List.setIfInBounds_toArray, List.set_cons_zero, List.set_cons_succ]
          refine takeD (i := 30) (d := some 95) (v := ?_) _ rfl rfl (by kernel_rfl) (by kernel_rfl) (by kernel_rfl) (fun _ _ _ h => h) (by rfl) ?_ (by assumption) ?_
          rotate_left
          · (intro w hSw; (try dsimp only at hSw); go_simp) <;> with_reducible rfl
          try simp only [Act.put, List.setIfInBounds_toArray, List.set_cons_zero, List.set_cons_succ]
          refine takeD (i := 31) (d := some 96) (v := ?_) _ rfl rfl (by kernel_rfl) (by kernel_rfl) (by kernel_rfl) (fun _ _ _ h => h) (by rfl) ?_ (by assumption) ?_
          rotate_left
          · (intro w hSw; (try dsimp only at hSw); go_simp) <;> with_reducible rfl
          try simp only [Act.put, List.setIfInBounds_toArray, List.set_cons_zero, List.set_cons_succ]
          refine takeD (i := 32) (d := some 8) (v := ?_) _ rfl rfl (by kernel_rfl) (by kernel_rfl) (by kernel_rfl) (fun _ _ _ h => h) (by rfl) ?_ (by assumption) ?_
          rotate_left
          · (intro w hSw; (try dsimp only at hSw); go_simp) <;> with_reducible rfl
          try simp only [Act.put, List.setIfInBounds_toArray, List.set_cons_zero, List.set_cons_succ]
          refine wpAnyH_done (by kernel_rfl) ?_ _
          have HBF : Hid (Below w.heap.size w _) := RBW.out.trans (hHeld.1.mono RBW.out.size)
          clear hHeld HSS
          go_wp2_with fail
          go_ret
          exact ⟨rfl, HBF.out⟩
      · have hcd : (slc == -1) = false := by simpa using hc
        have HFX : Hid (X = ⟨sr, sμ, sk, st, slt, slc, sle⟩) := by rw [← RX.out]; exact runGo_stop (fun h => hc h.2.1)
        clear hk hc
        have hfx := HFX.out
        subst hfx
        dsimp only at RZ RY RM1 HXL ⊢
        have d0 := (row_cell RY.out 0).1
        have d1 := (row_cell RY.out 1).1
        have d2 := (row_cell RY.out 2).1
        simp at d0 d1 d2
        obtain ⟨v1, _, hb1, _, hs1⟩ := RM1.out.ex
        obtain ⟨v2, _, hb2, _, hs2⟩ := RM2.out.ex
        obtain ⟨A1, cp1, rfl, _⟩ := hs1.ex
        obtain ⟨A2, cp2, rfl, _⟩ := hs2.ex
        have m1 := (row_cell hb1 0).1
        have m2 := (row_cell hb2 0).1
        simp at m1 m2
        have HSW1 := Lib.hid hs1
        have HSW2 := Lib.hid hs2
        have HWL := Lib.hid RM2.out.len
        clear hb1 hb2 hs1 hs2
        go_upto_region 10 with (fail)
        have HSS : Hid ((fun w' => Below wr.heap.size wr w' ∧ RB w' p1 sr [] 28 ∧ RB w' g4 sr [] 28 ∧ w'.cell? ⟨q1, 0, none⟩ = some (.int .i64 slt) ∧ w'.cell? ⟨q1, 1, none⟩ = some (.int .i64 slc) ∧ w'.cell? ⟨q1, 2, none⟩ = some (.int .i64 sle) ∧ w'.cell? ⟨q2, 0, none⟩ = some (.int .i64 slt) ∧ w'.cell? ⟨q2, 1, none⟩ = some (.int .i64 slc) ∧ w'.cell? ⟨q2, 2, none⟩ = some (.int .i64 sle) ∧ w'.cell? ⟨gm1, 0, none⟩ = some (.slice A1 sμ.W.length cp1) ∧ w'.cell? ⟨gm2, 0, none⟩ = some (.slice A2 sμ.W.length cp2)) wr.drew) := ⟨(Below.refl _ _).drew, RZ.out.keep rfl, R4.out.keep rfl, d0, d1, d2, c0, c1, c2, m1, m2⟩
        clear d0 d1 d2 c0 c1 c2 m1 m2 RZ RY RM1 RM2 R4 RE HFX RX RK RR RN
        refine wp_region_held_drew (S := fun w' => Below wr.heap.size wr w' ∧ RB w' p1 sr [] 28 ∧ RB w' g4 sr [] 28 ∧ w'.cell? ⟨q1, 0, none⟩ = some (.int .i64 slt) ∧ w'.cell? ⟨q1, 1, none⟩ = some (.int .i64 slc) ∧ w'.cell? ⟨q1, 2, none⟩ = some (.int .i64 sle) ∧ w'.cell? ⟨q2, 0, none⟩ = some (.int .i64 slt) ∧ w'.cell? ⟨q2, 1, none⟩ = some (.int .i64 slc) ∧ w'.cell? ⟨q2, 2, none⟩ = some (.int .i64 sle) ∧ w'.cell? ⟨gm1, 0, none⟩ = some (.slice A1 sμ.W.length cp1) ∧ w'.cell? ⟨gm2, 0, none⟩ = some (.slice A2 sμ.W.length cp2)) (by kernel_rfl) ?_ (fun hHeld => ?_)
        · exact HSS.out
        refine wpAnyH_ready (rs := [0]) (by kernel_rfl) (by simp) ?_
        refine AllReadyH.cons rfl (fun K hK => ?_) AllReadyH.nil
        (go_simp; refine (known_any _ (HLD.out.below (RBW.out.trans (hHeld.1.mono RBW.out.size)))).mono ?_; rintro e wt ⟨rfl, bt⟩; try go_wp2_with fail)
        refine hK.out _ _ ⟨hHeld.1.trans (bt.mono hHeld.1.size), hHeld.2.1.below bt, hHeld.2.2.1.below bt, cell_later bt hHeld.2.2.2.1, cell_later bt hHeld.2.2.2.2.1, cell_later bt hHeld.2.2.2.2.2.1, cell_later bt hHeld.2.2.2.2.2.2.1, cell_later bt hHeld.2.2.2.2.2.2.2.1, cell_later bt hHeld.2.2.2.2.2.2.2.2.1, cell_later bt hHeld.2.2.2.2.2.2.2.2.2.1, cell_later bt hHeld.2.2.2.2.2.2.2.2.2.2⟩ (fun hHeld => ?_)
        clear hK K bt
        try simp only [Act.put, List.setIfInBounds_toArray, List.set_cons_zero, List.set_cons_succ]
        refine takeD (i := 1) (d := some 66) (v := ?_) _ rfl rfl (by kernel_rfl) (by kernel_rfl) (by kernel_rfl) (fun _ _ _ h => h) (by rfl) ?_ (by assumption) ?_
        rotate_left
        · (intro w hSw; (try dsimp only at hSw); go_simp) <;> with_reducible rfl
        try simp only [Act.put, List.setIfInBounds_toArray, List.set_cons_zero, List.set_cons_succ]
        refine takeD (i := 2) (d := some 67) (v := .agg (cells sr).toArray) _ rfl rfl (by kernel_rfl) (by kernel_rfl) (by kernel_rfl) (fun _ _ _ h => h) (by rfl) ?_ (by assumption) ?_
        · intro w hSw; exact exec_load_regs (.tmp 11) rfl rfl hSw.2.1 HLS.out
        try simp only [Act.put, List.setIfInBounds_toArray, List.set_cons_zero, List.set_cons_succ]
        refine takeD (i := 3) (d := some 68) (v := .agg (cells sr).toArray) _ rfl rfl (by kernel_rfl) (by kernel_rfl) (by kernel_rfl) (fun _ _ _ h => h) (by rfl) ?_ (by assumption) ?_
        · intro w hSw; exact exec_load_regs (.tmp 4) rfl rfl hSw.2.2.1 HLS.out
        try simp only [Act.put, List.setIfInBounds_toArray, List.set_cons_zero, List.set_cons_succ]
        refine takeD (i := 4) (d := some 69) (v := .bool true) _ rfl rfl (by kernel_rfl) (by kernel_rfl) (by kernel_rfl) (fun _ _ _ h => h) (by rfl) ?_ (by assumption) ?_
        · intro w hSw; exact exec_eql_regs (.tmp 67) (.tmp 68) 28 rfl rfl rfl HLS.out HLS.out (decide_eq_true rfl)
        try simp only [Act.put, List.setIfInBounds_toArray, List.set_cons_zero, List.set_cons_succ]
        refine takeD (i := 5) (d := some 70) (v := ?_) _ rfl rfl (by kernel_rfl) (by kernel_rfl) (by kernel_rfl) (fun _ _ _ h => h) (by rfl) ?_ (by assumption) ?_
        rotate_left
        · (intro w hSw; (try dsimp only at hSw); go_simp) <;> with_reducible rfl
        try simp only [Act.put, List.setIfInBounds_toArray, List.set_cons_zero, List.set_cons_succ]
        refine takeD (i := 6) (d := some 71) (v := ?_) _ rfl rfl (by kernel_rfl) (by kernel_rfl) (by kernel_rfl) (fun _ _ _ h => h) (by rfl) ?_ (by assumption) ?_
        rotate_left
        · (intro w hSw; (try dsimp only at hSw); go_simp) <;> with_reducible rfl
        try simp only [Act.put, List.setIfInBounds_toArray, List.set_cons_zero, List.set_cons_succ]
        refine takeD (i := 7) (d := some 72) (v := ?_) _ rfl rfl (by kernel_rfl) (by kernel_rfl) (by kernel_rfl) (fun _ _ _ h => h) (by rfl) ?_ (by assumption) ?_
        rotate_left
        · (intro w hSw; (try dsimp only at hSw); go_simp) <;> with_reducible rfl
        try simp only [Act.put, List.setIfInBounds_toArray, List.set_cons_zero, List.set_cons_succ]
        refine takeD (i := 8) (d := some 73) (v := ?_) _ rfl rfl (by kernel_rfl) (by kernel_rfl) (by kernel_rfl) (fun _ _ _ h => h) (by rfl) ?_ (by assumption) ?_
        rotate_left
        · (intro w hSw; (try dsimp only at hSw); go_simp) <;> with_reducible rfl
        try simp only [Act.put, List.setIfInBounds_toArray, List.set_cons_zero, List.set_cons_succ]
        refine takeD (i := 9) (d := some 74) (v := ?_) _ rfl rfl (by kernel_rfl) (by kernel_rfl) (by kernel_rfl) (fun _ _ _ h => h) (by rfl) ?_ (by assumption) ?_
        rotate_left
        · (intro w hSw; (try dsimp only at hSw); go_simp) <;> with_reducible rfl
        try simp only [Act.put, List.setIfInBounds_toArray, List.set_cons_zero, List.set_cons_succ]
        refine takeD (i := 10) (d := some 75) (v := ?_) _ rfl rfl (by kernel_rfl) (by kernel_rfl) (by kernel_rfl) (fun _ _ _ h => h) (by rfl) ?_ (by assumption) ?_
        rotate_left
        · (intro w hSw; (try dsimp only at hSw); go_simp) <;> with_reducible rfl
        try simp only [Act.put, List.setIfInBounds_toArray, List.set_cons_zero, List.set_cons_succ]
        refine takeD (i := 11) (d := some 76) (v := ?_) _ rfl rfl (by kernel_rfl) (by kernel_rfl) (by kernel_rfl) (fun _ _ _ h => h) (by rfl) ?_ (by assumption) ?_
        rotate_left
        · (intro w hSw; (try dsimp only at hSw); go_simp) <;> with_reducible rfl
        try simp only [Act.put, List.setIfInBounds_toArray, List.set_cons_zero, List.set_cons_succ]
        refine takeD (i := 12) (d := some 77) (v := ?_) _ rfl rfl (by kernel_rfl) (by kernel_rfl) (by kernel_rfl) (fun _ _ _ h => h) (by rfl) ?_ (by assumption) ?_
        rotate_left
        · (intro w hSw; (try dsimp only at hSw); go_simp) <;> with_reducible rfl
        try simp only [Act.put, List.setIfInBounds_toArray, List.set_cons_zero, List.set_cons_succ]
        refine takeD (i := 13) (d := some 78) (v := ?_) _ rfl rfl (by kernel_rfl) (by kernel_rfl) (by kernel_rfl) (fun _ _ _ h => h) (by rfl) ?_ (by assumption) ?_
        rotate_left
        · (intro w hSw; (try dsimp only at hSw); go_simp) <;> with_reducible rfl
        try simp only [Act.put, List.setIfInBounds_toArray, List.set_cons_zero, List.set_cons_succ]
        refine takeD (i := 14) (d := some 79) (v := ?_) _ rfl rfl (by kernel_rfl) (by kernel_rfl) (by kernel_rfl) (fun _ _ _ h => h) (by rfl) ?_ (by assumption) ?_
        rotate_left
        · (intro w hSw; (try dsimp only at hSw); go_simp) <;> with_reducible rfl
        try simp only [Act.put, List.setIfInBounds_toArray, List.set_cons_zero, List.set_cons_succ]
        refine wpAnyH_ready (rs := [15]) (by kernel_rfl) (by simp) ?_
        refine AllReadyH.cons rfl (fun K hK => ?_) AllReadyH.nil
        (go_simp; refine (words_any (.slice A1 sμ.W.length cp1) (.slice A2 sμ.W.length cp2) sμ.W _ _ _ (HSW1.out.keep hHeld.1.size (fun b hb _ => hHeld.1.block b hb) (fun _ _ h => h)) (HSW2.out.keep hHeld.1.size (fun b hb _ => hHeld.1.block b hb) (fun _ _ h => h)) HWL.out).mono ?_; rintro e wt ⟨rfl, bt⟩; try go_wp2_with fail)
        refine hK.out _ _ ⟨hHeld.1.trans (bt.mono hHeld.1.size), hHeld.2.1.below bt, hHeld.2.2.1.below bt, cell_later bt hHeld.2.2.2.1, cell_later bt hHeld.2.2.2.2.1, cell_later bt hHeld.2.2.2.2.2.1, cell_later bt hHeld.2.2.2.2.2.2.1, cell_later bt hHeld.2.2.2.2.2.2.2.1, cell_later bt hHeld.2.2.2.2.2.2.2.2.1, cell_later bt hHeld.2.2.2.2.2.2.2.2.2.1, cell_later bt hHeld.2.2.2.2.2.2.2.2.2.2⟩ (fun hHeld => ?_)
        clear hK K bt
        try simp only [Act.put, List.setIfInBounds_toArray, List.set_cons_zero, List.set_cons_succ]
        refine takeD (i := 16) (d := some 81) (v := ?_) _ rfl rfl (by kernel_rfl) (by kernel_rfl) (by kernel_rfl) (fun _ _ _ h => h) (by rfl) ?_ (by assumption) ?_
        rotate_left
        · (intro w hSw; (try dsimp only at hSw); go_simp) <;> with_reducible rfl
        try simp only [Act.put, List.setIfInBounds_toArray, List.set_cons_zero, List.set_cons_succ]
        refine takeD (i := 17) (d := some 82) (v := ?_) _ rfl rfl (by kernel_rfl) (by kernel_rfl) (by kernel_rfl) (fun _ _ _ h => h) (by rfl) ?_ (by assumption) ?_
        rotate_left
        · (intro w hSw; (try dsimp only at hSw); go_simp) <;> with_reducible rfl
        try simp only [Act.put, List.setIfInBounds_toArray, List.set_cons_zero, List.set_cons_succ]
        refine takeD (i := 18) (d := some 83) (v := ?_) _ rfl rfl (by kernel_rfl) (by kernel_rfl) (by kernel_rfl) (fun _ _ _ h => h) (by rfl) ?_ (by assumption) ?_
        rotate_left
        · (intro w hSw; (try dsimp only at hSw); go_simp) <;> with_reducible rfl
        try simp only [Act.put, List.setIfInBounds_toArray, List.set_cons_zero, List.set_cons_succ]
        refine takeD (i := 19) (d := some 84) (v := ?_) _ rfl rfl (by kernel_rfl) (by kernel_rfl) (by kernel_rfl) (fun _ _ _ h => h) (by rfl) ?_ (by assumption) ?_
        rotate_left
        · (intro w hSw; (try dsimp only at hSw); go_simp) <;> with_reducible rfl
        try simp only [Act.put, List.setIfInBounds_toArray, List.set_cons_zero, List.set_cons_succ]
        refine takeD (i := 20) (d := some 85) (v := ?_) _ rfl rfl (by kernel_rfl) (by kernel_rfl) (by kernel_rfl) (fun _ _ _ h => h) (by rfl) ?_ (by assumption) ?_
        rotate_left
        · (intro w hSw; (try dsimp only at hSw); go_simp) <;> with_reducible rfl
        try simp only [Act.put, List.setIfInBounds_toArray, List.set_cons_zero, List.set_cons_succ]
        refine takeD (i := 21) (d := some 86) (v := ?_) _ rfl rfl (by kernel_rfl) (by kernel_rfl) (by kernel_rfl) (fun _ _ _ h => h) (by rfl) ?_ (by assumption) ?_
        rotate_left
        · (intro w hSw; (try dsimp only at hSw); go_simp) <;> with_reducible rfl
        try simp only [Act.put, List.setIfInBounds_toArray, List.set_cons_zero, List.set_cons_succ]
        refine takeD (i := 22) (d := some 87) (v := ?_) _ rfl rfl (by kernel_rfl) (by kernel_rfl) (by kernel_rfl) (fun _ _ _ h => h) (by rfl) ?_ (by assumption) ?_
        rotate_left
        · (intro w hSw; (try dsimp only at hSw); go_simp) <;> with_reducible rfl
        try simp only [Act.put, List.setIfInBounds_toArray, List.set_cons_zero, List.set_cons_succ]
        refine takeD (i := 23) (d := some 88) (v := ?_) _ rfl rfl (by kernel_rfl) (by kernel_rfl) (by kernel_rfl) (fun _ _ _ h => h) (by rfl) ?_ (by assumption) ?_
        rotate_left
        · (intro w hSw; (try dsimp only at hSw); go_simp) <;> with_reducible rfl
        try simp only [Act.put, List.setIfInBounds_toArray, List.set_cons_zero, List.set_cons_succ]
        refine takeD (i := 24) (d := some 89) (v := ?_) _ rfl rfl (by kernel_rfl) (by kernel_rfl) (by kernel_rfl) (fun _ _ _ h => h) (by rfl) ?_ (by assumption) ?_
        rotate_left
        · (intro w hSw; (try dsimp only at hSw); go_simp) <;> with_reducible rfl
        try simp only [Act.put, List.setIfInBounds_toArray, List.set_cons_zero, List.set_cons_succ]
        refine takeD (i := 25) (d := some 90) (v := ?_) _ rfl rfl (by kernel_rfl) (by kernel_rfl) (by kernel_rfl) (fun _ _ _ h => h) (by rfl) ?_ (by assumption) ?_
        rotate_left
        · (intro w hSw; (try dsimp only at hSw); go_simp) <;> with_reducible rfl
        try simp only [Act.put, List.setIfInBounds_toArray, List.set_cons_zero, List.set_cons_succ]
        refine takeD (i := 26) (d := some 91) (v := ?_) _ rfl rfl (by kernel_rfl) (by kernel_rfl) (by kernel_rfl) (fun _ _ _ h => h) (by rfl) ?_ (by assumption) ?_
        rotate_left
        · (intro w hSw; (try dsimp only at hSw); go_simp) <;> with_reducible rfl
        try simp only [Act.put, List.setIfInBounds_toArray, List.set_cons_zero, List.set_cons_succ]
        refine takeD (i := 27) (d := some 92) (v := ?_) _ rfl rfl (by kernel_rfl) (by kernel_rfl) (by kernel_rfl) (fun _ _ _ h => h) (by rfl) ?_ (by assumption) ?_
        rotate_left
        · (intro w hSw; (try dsimp only at hSw); go_simp) <;> with_reducible rfl
        try simp only [Act.put, List.setIfInBounds_toArray, List.set_cons_zero, List.set_cons_succ]
        refine takeD (i := 28) (d := some 93) (v := ?_) _ rfl rfl (by kernel_rfl) (by kernel_rfl) (by kernel_rfl) (fun _ _ _ h => h) (by rfl) ?_ (by assumption) ?_
        rotate_left
        · (intro w hSw; (try dsimp only at hSw); go_simp) <;> with_reducible rfl
        try simp only [Act.put, List.setIfInBounds_toArray, List.set_cons_zero, List.set_cons_succ]
        refine takeD (i := 29) (d := some 94) (v := ?_) _ rfl rfl (by kernel_rfl) (by kernel_rfl) (by kernel_rfl) (fun _ _ _ h => h) (by rfl) ?_ (by assumption) ?_
        rotate_left
        · (intro w hSw; (try dsimp only at hSw); go_simp) <;> with_reducible rfl
        try simp only [Act.put, List.setIfInBounds_toArray, List.set_cons_zero, List.set_cons_succ]
        refine takeD (i := 30) (d := some 95) (v := ?_) _ rfl rfl (by kernel_rfl) (by kernel_rfl) (by kernel_rfl) (fun _ _ _ h => h) (by rfl) ?_ (by assumption) ?_
        rotate_left
        · (intro w hSw; (try dsimp only at hSw); go_simp) <;> with_reducible rfl
        try simp only [Act.put, List.setIfInBounds_toArray, List.set_cons_zero, List.set_cons_succ]
        refine takeD (i := 31) (d := some 96) (v := ?_) _ rfl rfl (by kernel_rfl) (by kernel_rfl) (by kernel_rfl) (fun _ _ _ h => h) (by rfl) ?_ (by assumption) ?_
        rotate_left
        · (intro w hSw; (try dsimp only at hSw); go_simp) <;> with_reducible rfl
        try simp only [Act.put, List.setIfInBounds_toArray, List.set_cons_zero, List.set_cons_succ]
        refine takeD (i := 32) (d := some 8) (v := ?_) _ rfl rfl (by kernel_rfl) (by kernel_rfl) (by kernel_rfl) (fun _ _ _ h => h) (by rfl) ?_ (by assumption) ?_
        rotate_left
        · (intro w hSw; (try dsimp only at hSw); go_simp) <;> with_reducible rfl
        try simp only [Act.put, List.setIfInBounds_toArray, List.set_cons_zero, List.set_cons_succ]
        refine wpAnyH_done (by kernel_rfl) ?_ _
        have HBF : Hid (Below w.heap.size w _) := RBW.out.trans (hHeld.1.mono RBW.out.size)
        clear hHeld HSS
        go_wp2_with fail
        go_ret
        exact ⟨rfl, HBF.out⟩

    · have hkd : decide ((sk : Int) < M) = false := by simpa using hk
      have HFX : Hid (X = ⟨sr, sμ, sk, st, slt, slc, sle⟩) := by rw [← RX.out]; exact runGo_stop (fun h => hk h.1)
      clear hk
      have hfx := HFX.out
      subst hfx
      dsimp only at RZ RY RM1 HXL ⊢
      have d0 := (row_cell RY.out 0).1
      have d1 := (row_cell RY.out 1).1
      have d2 := (row_cell RY.out 2).1
      simp at d0 d1 d2
      obtain ⟨v1, _, hb1, _, hs1⟩ := RM1.out.ex
      obtain ⟨v2, _, hb2, _, hs2⟩ := RM2.out.ex
      obtain ⟨A1, cp1, rfl, _⟩ := hs1.ex
      obtain ⟨A2, cp2, rfl, _⟩ := hs2.ex
      have m1 := (row_cell hb1 0).1
      have m2 := (row_cell hb2 0).1
      simp at m1 m2
      have HSW1 := Lib.hid hs1
      have HSW2 := Lib.hid hs2
      have HWL := Lib.hid RM2.out.len
      clear hb1 hb2 hs1 hs2
      go_upto_region 10 with (fail)
      have HSS : Hid ((fun w' => Below wr.heap.size wr w' ∧ RB w' p1 sr [] 28 ∧ RB w' g4 sr [] 28 ∧ w'.cell? ⟨q1, 0, none⟩ = some (.int .i64 slt) ∧ w'.cell? ⟨q1, 1, none⟩ = some (.int .i64 slc) ∧ w'.cell? ⟨q1, 2, none⟩ = some (.int .i64 sle) ∧ w'.cell? ⟨q2, 0, none⟩ = some (.int .i64 slt) ∧ w'.cell? ⟨q2, 1, none⟩ = some (.int .i64 slc) ∧ w'.cell? ⟨q2, 2, none⟩ = some (.int .i64 sle) ∧ w'.cell? ⟨gm1, 0, none⟩ = some (.slice A1 sμ.W.length cp1) ∧ w'.cell? ⟨gm2, 0, none⟩ = some (.slice A2 sμ.W.length cp2)) wr.drew) := ⟨(Below.refl _ _).drew, RZ.out.keep rfl, R4.out.keep rfl, d0, d1, d2, c0, c1, c2, m1, m2⟩
      clear d0 d1 d2 c0 c1 c2 m1 m2 RZ RY RM1 RM2 R4 RE HFX RX RK RR RN
      refine wp_region_held_drew (S := fun w' => Below wr.heap.size wr w' ∧ RB w' p1 sr [] 28 ∧ RB w' g4 sr [] 28 ∧ w'.cell? ⟨q1, 0, none⟩ = some (.int .i64 slt) ∧ w'.cell? ⟨q1, 1, none⟩ = some (.int .i64 slc) ∧ w'.cell? ⟨q1, 2, none⟩ = some (.int .i64 sle) ∧ w'.cell? ⟨q2, 0, none⟩ = some (.int .i64 slt) ∧ w'.cell? ⟨q2, 1, none⟩ = some (.int .i64 slc) ∧ w'.cell? ⟨q2, 2, none⟩ = some (.int .i64 sle) ∧ w'.cell? ⟨gm1, 0, none⟩ = some (.slice A1 sμ.W.length cp1) ∧ w'.cell? ⟨gm2, 0, none⟩ = some (.slice A2 sμ.W.length cp2)) (by kernel_rfl) ?_ (fun hHeld => ?_)
      · exact HSS.out
      refine wpAnyH_ready (rs := [0]) (by kernel_rfl) (by simp) ?_
      refine AllReadyH.cons rfl (fun K hK => ?_) AllReadyH.nil
      (go_simp; refine (known_any _ (HLD.out.below (RBW.out.trans (hHeld.1.mono RBW.out.size)))).mono ?_; rintro e wt ⟨rfl, bt⟩; try go_wp2_with fail)
      refine hK.out _ _ ⟨hHeld.1.trans (bt.mono hHeld.1.size), hHeld.2.1.below bt, hHeld.2.2.1.below bt, cell_later bt hHeld.2.2.2.1, cell_later bt hHeld.2.2.2.2.1, cell_later bt hHeld.2.2.2.2.2.1, cell_later bt hHeld.2.2.2.2.2.2.1, cell_later bt hHeld.2.2.2.2.2.2.2.1, cell_later bt hHeld.2.2.2.2.2.2.2.2.1, cell_later bt hHeld.2.2.2.2.2.2.2.2.2.1, cell_later bt hHeld.2.2.2.2.2.2.2.2.2.2⟩ (fun hHeld => ?_)
      clear hK K bt
      try simp only [Act.put, List.setIfInBounds_toArray, List.set_cons_zero, List.set_cons_succ]
      refine takeD (i := 1) (d := some 66) (v := ?_) _ rfl rfl (by kernel_rfl) (by kernel_rfl) (by kernel_rfl) (fun _ _ _ h => h) (by rfl) ?_ (by assumption) ?_
      rotate_left
      · (intro w hSw; (try dsimp only at hSw); go_simp) <;> with_reducible rfl
      try simp only [Act.put, List.setIfInBounds_toArray, List.set_cons_zero, List.set_cons_succ]
      refine takeD (i := 2) (d := some 67) (v := .agg (cells sr).toArray) _ rfl rfl (by kernel_rfl) (by kernel_rfl) (by kernel_rfl) (fun _ _ _ h => h) (by rfl) ?_ (by assumption) ?_
      · intro w hSw; exact exec_load_regs (.tmp 11) rfl rfl hSw.2.1 HLS.out
      try simp only [Act.put, List.setIfInBounds_toArray, List.set_cons_zero, List.set_cons_succ]
      refine takeD (i := 3) (d := some 68) (v := .agg (cells sr).toArray) _ rfl rfl (by kernel_rfl) (by kernel_rfl) (by kernel_rfl) (fun _ _ _ h => h) (by rfl) ?_ (by assumption) ?_
      · intro w hSw; exact exec_load_regs (.tmp 4) rfl rfl hSw.2.2.1 HLS.out
      try simp only [Act.put, List.setIfInBounds_toArray, List.set_cons_zero, List.set_cons_succ]
      refine takeD (i := 4) (d := some 69) (v := .bool true) _ rfl rfl (by kernel_rfl) (by kernel_rfl) (by kernel_rfl) (fun _ _ _ h => h) (by rfl) ?_ (by assumption) ?_
      · intro w hSw; exact exec_eql_regs (.tmp 67) (.tmp 68) 28 rfl rfl rfl HLS.out HLS.out (decide_eq_true rfl)
      try simp only [Act.put, List.setIfInBounds_toArray, List.set_cons_zero, List.set_cons_succ]
      refine takeD (i := 5) (d := some 70) (v := ?_) _ rfl rfl (by kernel_rfl) (by kernel_rfl) (by kernel_rfl) (fun _ _ _ h => h) (by rfl) ?_ (by assumption) ?_
      rotate_left
      · (intro w hSw; (try dsimp only at hSw); go_simp) <;> with_reducible rfl
      try simp only [Act.put, List.setIfInBounds_toArray, List.set_cons_zero, List.set_cons_succ]
      refine takeD (i := 6) (d := some 71) (v := ?_) _ rfl rfl (by kernel_rfl) (by kernel_rfl) (by kernel_rfl) (fun _ _ _ h => h) (by rfl) ?_ (by assumption) ?_
      rotate_left
      · (intro w hSw; (try dsimp only at hSw); go_simp) <;> with_reducible rfl
      try simp only [Act.put, List.setIfInBounds_toArray, List.set_cons_zero, List.set_cons_succ]
      refine takeD (i := 7) (d := some 72) (v := ?_) _ rfl rfl (by kernel_rfl) (by kernel_rfl) (by kernel_rfl) (fun _ _ _ h => h) (by rfl) ?_ (by assumption) ?_
      rotate_left
      · (intro w hSw; (try dsimp only at hSw); go_simp) <;> with_reducible rfl
      try simp only [Act.put, List.setIfInBounds_toArray, List.set_cons_zero, List.set_cons_succ]
      refine takeD (i := 8) (d := some 73) (v := ?_) _ rfl rfl (by kernel_rfl) (by kernel_rfl) (by kernel_rfl) (fun _ _ _ h => h) (by rfl) ?_ (by assumption) ?_
      rotate_left
      · (intro w hSw; (try dsimp only at hSw); go_simp) <;> with_reducible rfl
      try simp only [Act.put, List.setIfInBounds_toArray, List.set_cons_zero, List.set_cons_succ]
      refine takeD (i := 9) (d := some 74) (v := ?_) _ rfl rfl (by kernel_rfl) (by kernel_rfl) (by kernel_rfl) (fun _ _ _ h => h) (by rfl) ?_ (by assumption) ?_
      rotate_left
      · (intro w hSw; (try dsimp only at hSw); go_simp) <;> with_reducible rfl
      try simp only [Act.put, List.setIfInBounds_toArray, List.set_cons_zero, List.set_cons_succ]
      refine takeD (i := 10) (d := some 75) (v := ?_) _ rfl rfl (by kernel_rfl) (by kernel_rfl) (by kernel_rfl) (fun _ _ _ h => h) (by rfl) ?_ (by assumption) ?_
      rotate_left
      · (intro w hSw; (try dsimp only at hSw); go_simp) <;> with_reducible rfl
      try simp only [Act.put, List.setIfInBounds_toArray, List.set_cons_zero, List.set_cons_succ]
      refine takeD (i := 11) (d := some 76) (v := ?_) _ rfl rfl (by kernel_rfl) (by kernel_rfl) (by kernel_rfl) (fun _ _ _ h => h) (by rfl) ?_ (by assumption) ?_
      rotate_left
      · (intro w hSw; (try dsimp only at hSw); go_simp) <;> with_reducible rfl
      try simp only [Act.put, List.setIfInBounds_toArray, List.set_cons_zero, List.set_cons_succ]
      refine takeD (i := 12) (d := some 77) (v := ?_) _ rfl rfl (by kernel_rfl) (by kernel_rfl) (by kernel_rfl) (fun _ _ _ h => h) (by rfl) ?_ (by assumption) ?_
      rotate_left
      · (intro w hSw; (try dsimp only at hSw); go_simp) <;> with_reducible rfl
      try simp only [Act.put, List.setIfInBounds_toArray, List.set_cons_zero, List.set_cons_succ]
      refine takeD (i := 13) (d := some 78) (v := ?_) _ rfl rfl (by kernel_rfl) (by kernel_rfl) (by kernel_rfl) (fun _ _ _ h => h) (by rfl) ?_ (by assumption) ?_
      rotate_left
      · (intro w hSw; (try dsimp only at hSw); go_simp) <;> with_reducible rfl
      try simp only [Act.put, List.setIfInBounds_toArray, List.set_cons_zero, List.set_cons_succ]
      refine takeD (i := 14) (d := some 79) (v := ?_) _ rfl rfl (by kernel_rfl) (by kernel_rfl) (by kernel_rfl) (fun _ _ _ h => h) (by rfl) ?_ (by assumption) ?_
      rotate_left
      · (intro w hSw; (try dsimp only at hSw); go_simp) <;> with_reducible rfl
      try simp only [Act.put, List.setIfInBounds_toArray, List.set_cons_zero, List.set_cons_succ]
      refine wpAnyH_ready (rs := [15]) (by kernel_rfl) (by simp) ?_
      refine AllReadyH.cons rfl (fun K hK => ?_) AllReadyH.nil
      (go_simp; refine (words_any (.slice A1 sμ.W.length cp1) (.slice A2 sμ.W.length cp2) sμ.W _ _ _ (HSW1.out.keep hHeld.1.size (fun b hb _ => hHeld.1.block b hb) (fun _ _ h => h)) (HSW2.out.keep hHeld.1.size (fun b hb _ => hHeld.1.block b hb) (fun _ _ h => h)) HWL.out).mono ?_; rintro e wt ⟨rfl, bt⟩; try go_wp2_with fail)
      refine hK.out _ _ ⟨hHeld.1.trans (bt.mono hHeld.1.size), hHeld.2.1.below bt, hHeld.2.2.1.below bt, cell_later bt hHeld.2.2.2.1, cell_later bt hHeld.2.2.2.2.1, cell_later bt hHeld.2.2.2.2.2.1, cell_later bt hHeld.2.2.2.2.2.2.1, cell_later bt hHeld.2.2.2.2.2.2.2.1, cell_later bt hHeld.2.2.2.2.2.2.2.2.1, cell_later bt hHeld.2.2.2.2.2.2.2.2.2.1, cell_later bt hHeld.2.2.2.2.2.2.2.2.2.2⟩ (fun hHeld => ?_)
      clear hK K bt
      try simp only [Act.put, List.setIfInBounds_toArray, List.set_cons_zero, List.set_cons_succ]
      refine takeD (i := 16) (d := some 81) (v := ?_) _ rfl rfl (by kernel_rfl) (by kernel_rfl) (by kernel_rfl) (fun _ _ _ h => h) (by rfl) ?_ (by assumption) ?_
      rotate_left
      · (intro w hSw; (try dsimp only at hSw); go_simp) <;> with_reducible rfl
      try simp only [Act.put, List.setIfInBounds_toArray, List.set_cons_zero, List.set_cons_succ]
      refine takeD (i := 17) (d := some 82) (v := ?_) _ rfl rfl (by kernel_rfl) (by kernel_rfl) (by kernel_rfl) (fun _ _ _ h => h) (by rfl) ?_ (by assumption) ?_
      rotate_left
      · (intro w hSw; (try dsimp only at hSw); go_simp) <;> with_reducible rfl
      try simp only [Act.put, List.setIfInBounds_toArray, List.set_cons_zero, List.set_cons_succ]
      refine takeD (i := 18) (d := some 83) (v := ?_) _ rfl rfl (by kernel_rfl) (by kernel_rfl) (by kernel_rfl) (fun _ _ _ h => h) (by rfl) ?_ (by assumption) ?_
      rotate_left
      · (intro w hSw; (try dsimp only at hSw); go_simp) <;> with_reducible rfl
      try simp only [Act.put, List.setIfInBounds_toArray, List.set_cons_zero, List.set_cons_succ]
      refine takeD (i := 19) (d := some 84) (v := ?_) _ rfl rfl (by kernel_rfl) (by kernel_rfl) (by kernel_rfl) (fun _ _ _ h => h) (by rfl) ?_ (by assumption) ?_
      rotate_left
      · (intro w hSw; (try dsimp only at hSw); go_simp) <;> with_reducible rfl
      try simp only [Act.put, List.setIfInBounds_toArray, List.set_cons_zero, List.set_cons_succ]
      refine takeD (i := 20) (d := some 85) (v := ?_) _ rfl rfl (by kernel_rfl) (by kernel_rfl) (by kernel_rfl) (fun _ _ _ h => h) (by rfl) ?_ (by assumption) ?_
      rotate_left
      · (intro w hSw; (try dsimp only at hSw); go_simp) <;> with_reducible rfl
      try simp only [Act.put, List.setIfInBounds_toArray, List.set_cons_zero, List.set_cons_succ]
      refine takeD (i := 21) (d := some 86) (v := ?_) _ rfl rfl (by kernel_rfl) (by kernel_rfl) (by kernel_rfl) (fun _ _ _ h => h) (by rfl) ?_ (by assumption) ?_
      rotate_left
      · (intro w hSw; (try dsimp only at hSw); go_simp) <;> with_reducible rfl
      try simp only [Act.put, List.setIfInBounds_toArray, List.set_cons_zero, List.set_cons_succ]
      refine takeD (i := 22) (d := some 87) (v := ?_) _ rfl rfl (by kernel_rfl) (by kernel_rfl) (by kernel_rfl) (fun _ _ _ h => h) (by rfl) ?_ (by assumption) ?_
      rotate_left
      · (intro w hSw; (try dsimp only at hSw); go_simp) <;> with_reducible rfl
      try simp only [Act.put, List.setIfInBounds_toArray, List.set_cons_zero, List.set_cons_succ]
      refine takeD (i := 23) (d := some 88) (v := ?_) _ rfl rfl (by kernel_rfl) (by kernel_rfl) (by kernel_rfl) (fun _ _ _ h => h) (by rfl) ?_ (by assumption) ?_
      rotate_left
      · (intro w hSw; (try dsimp only at hSw); go_simp) <;> with_reducible rfl
      try simp only [Act.put, List.setIfInBounds_toArray, List.set_cons_zero, List.set_cons_succ]
      refine takeD (i := 24) (d := some 89) (v := ?_) _ rfl rfl (by kernel_rfl) (by kernel_rfl) (by kernel_rfl) (fun _ _ _ h => h) (by rfl) ?_ (by assumption) ?_
      rotate_left
      · (intro w hSw; (try dsimp only at hSw); go_simp) <;> with_reducible rfl
      try simp only [Act.put, List.setIfInBounds_toArray, List.set_cons_zero, List.set_cons_succ]
      refine takeD (i := 25) (d := some 90) (v := ?_) _ rfl rfl (by kernel_rfl) (by kernel_rfl) (by kernel_rfl) (fun _ _ _ h => h) (by rfl) ?_ (by assumption) ?_
      rotate_left
      · (intro w hSw; (try dsimp only at hSw); go_simp) <;> with_reducible rfl
      try simp only [Act.put, List.setIfInBounds_toArray, List.set_cons_zero, List.set_cons_succ]
      refine takeD (i := 26) (d := some 91) (v := ?_) _ rfl rfl (by kernel_rfl) (by kernel_rfl) (by kernel_rfl) (fun _ _ _ h => h) (by rfl) ?_ (by assumption) ?_
      rotate_left
      · (intro w hSw; (try dsimp only at hSw); go_simp) <;> with_reducible rfl
      try simp only [Act.put, List.setIfInBounds_toArray, List.set_cons_zero, List.set_cons_succ]
      refine takeD (i := 27) (d := some 92) (v := ?_) _ rfl rfl (by kernel_rfl) (by kernel_rfl) (by kernel_rfl) (fun _ _ _ h => h) (by rfl) ?_ (by assumption) ?_
      rotate_left
      · (intro w hSw; (try dsimp only at hSw); go_simp) <;> with_reducible rfl
      try simp only [Act.put, List.setIfInBounds_toArray, List.set_cons_zero, List.set_cons_succ]
      refine takeD (i := 28) (d := some 93) (v := ?_) _ rfl rfl (by kernel_rfl) (by kernel_rfl) (by kernel_rfl) (fun _ _ _ h => h) (by rfl) ?_ (by assumption) ?_
      rotate_left
      · (intro w hSw; (try dsimp only at hSw); go_simp) <;> with_reducible rfl
      try simp only [Act.put, List.setIfInBounds_toArray, List.set_cons_zero, List.set_cons_succ]
      refine takeD (i := 29) (d := some 94) (v := ?_) _ rfl rfl (by kernel_rfl) (by kernel_rfl) (by kernel_rfl) (fun _ _ _ h => h) (by rfl) ?_ (by assumption) ?_
      rotate_left
      · (intro w hSw; (try dsimp only at hSw); go_simp) <;> with_reducible rfl
      try simp only [Act.put, List.setIfInBounds_toArray, List.set_cons_zero, List.set_cons_succ]
      refine takeD (i := 30) (d := some 95) (v := ?_) _ rfl rfl (by kernel_rfl) (by kernel_rfl) (by kernel_rfl) (fun _ _ _ h => h) (by rfl) ?_ (by assumption) ?_
      rotate_left
      · (intro w hSw; (try dsimp only at hSw); go_simp) <;> with_reducible rfl
      try simp only [Act.put, List.setIfInBounds_toArray, List.set_cons_zero, List.set_cons_succ]
      refine takeD (i := 31) (d := some 96) (v := ?_) _ rfl rfl (by kernel_rfl) (by kernel_rfl) (by kernel_rfl) (fun _ _ _ h => h) (by rfl) ?_ (by assumption) ?_
      rotate_left
      · (intro w hSw; (try dsimp only at hSw); go_simp) <;> with_reducible rfl
      try simp only [Act.put, List.setIfInBounds_toArray, List.set_cons_zero, List.set_cons_succ]
      refine takeD (i := 32) (d := some 8) (v := ?_) _ rfl rfl (by kernel_rfl) (by kernel_rfl) (by kernel_rfl) (fun _ _ _ h => h) (by rfl) ?_ (by assumption) ?_
      rotate_left
      · (intro w hSw; (try dsimp only at hSw); go_simp) <;> with_reducible rfl
      try simp only [Act.put, List.setIfInBounds_toArray, List.set_cons_zero, List.set_cons_succ]
      refine wpAnyH_done (by kernel_rfl) ?_ _
      have HBF : Hid (Below w.heap.size w _) := RBW.out.trans (hHeld.1.mono RBW.out.size)
      clear hHeld HSS
      go_wp2_with fail
      go_ret
      exact ⟨rfl, HBF.out⟩

theorem row_cap {k : IntKind} {w : World} {a : Option Addr} {len cap : Nat} {zs : List Int} (h : IsRow k w a len cap zs) : len ≤ cap ∧ cap ≤ maxLen := by
  rcases h with ⟨_, rfl, rfl, _⟩ | ⟨_, _, h1, h2, _⟩
  · exact ⟨Nat.le_refl _, Nat.zero_le _⟩
  · exact ⟨h1, h2⟩
theorem runs_walk (r : List Int) (a a' : Option Addr) (len cap len' cap' : Nat) (zs zs' : List Int) (most : Int) (w : World) (hr : RegOk r) (h : IsRow .u32 w a len cap zs) (h' : IsRow .u32 w a' len' cap' zs') (hmb : -9223372036854775808 ≤ most ∧ most ≤ 9223372036854775807) (hL : Laid w) :
    Calls Tryd.prog 3 #[.agg (cells r).toArray, .slice a len cap, .slice a' len' cap', .int .i64 most] w fun e w' => e = .returned (.bool true) ∧ Below w.heap.size w w' :=
  runs_core r a a' len len' cap cap' zs zs' most w hr (words_at h) (words_at h') (row_cap h) (row_cap h') hmb hL
end Go.Proofs.YthmalhakkdjilaaDoor
