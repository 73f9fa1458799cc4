/-
  Contract of settled. Each statement bears its own conditions.
-/
import Derived.Test.YthmalhakkdjilaaDoorCpE
import Derived.Deep.LoopGhost
namespace Go.Proofs.YthmalhakkdjilaaDoor
open Go.RowKit
set_option linter.unusedVariables false
set_option linter.unusedSimpArgs false
theorem left_dep {r : List Int} (hl : r.length = 45) (hd : DepOk r) (h : ¬ leftV r = r) : (leftV r).getD 44 0 = r.getD 44 0 - 1 ∧ endsV r = true := by
  unfold leftV at h ⊢
  split at h
  next hc =>
    rw [if_pos hc]
    have h0 := ends_dep hc.1
    unfold DepOk at hd
    refine ⟨?_, hc.1⟩
    show ((((r.set 44 (r.getD 44 0 - 1)).set (20 + 3 * (r.getD 44 0 - 1).toNat) 0).set (20 + 3 * (r.getD 44 0 - 1).toNat + 1) 0).set (20 + 3 * (r.getD 44 0 - 1).toNat + 2) 0).getD 44 0 = _
    rw [getD_set_ne _ (by omega), getD_set_ne _ (by omega), getD_set_ne _ (by omega), getD_set_self _ (by omega)]
  next => exact absurd rfl h
theorem lefts_same : ∀ {n : Nat} {r : List Int}, leftV r = r → leftsV n r = r
  | 0, r, h => rfl
  | n + 1, r, h => by rw [leftsV, if_pos h]
theorem lefts_more : ∀ (n : Nat) (r : List Int), RegOk r → DepOk r → r.getD 44 0 ≤ n → leftsV (n + 1) r = leftsV n r
  | 0, r, hr, hd, h => by
    have : leftV r = r := left_no (ends_no (by omega))
    rw [lefts_same this, lefts_same this]
  | n + 1, r, hr, hd, h => by
    by_cases e : leftV r = r
    · rw [lefts_same e, lefts_same e]
    · have a1 : leftsV (n + 1 + 1) r = leftsV (n + 1) (leftV r) := by rw [leftsV, if_neg e]
      have a2 : leftsV (n + 1) r = leftsV n (leftV r) := by rw [leftsV, if_neg e]
      rw [a1, a2]
      have := (left_dep hr.len hd e).1
      exact lefts_more n (leftV r) (hr.left hd).1 (hr.left hd).2 (by omega)
theorem lefts_step {r : List Int} (hr : RegOk r) (hd : DepOk r) (h : ¬ leftV r = r) : leftsV 8 (leftV r) = leftsV 8 r := by
  have h1 : leftsV 8 r = leftsV 7 (leftV r) := by rw [leftsV, if_neg h]
  have h2 := (left_dep hr.len hd h).1
  rw [h1, lefts_more 7 _ (hr.left hd).1 (hr.left hd).2 (by have := hd.2; omega)]
theorem RegOk.lefts : ∀ (n : Nat) {r : List Int}, RegOk r → DepOk r → RegOk (leftsV n r) ∧ DepOk (leftsV n r)
  | 0, r, h, hd => ⟨h, hd⟩
  | n + 1, r, h, hd => by
    rw [leftsV]
    split
    · exact ⟨h, hd⟩
    · exact RegOk.lefts n (h.left hd).1 (h.left hd).2
section
variable {ops : Array Oper} {rest : List Oper} {op : Oper} {a : Act} {w : World} {Q : Exit → Act → World → Prop}
theorem wpList_neq_regs {p q : List Int} {t : Bool} (hgd : op.guard = none) (x y : Operand) (ty : TypeId) (ho : op.op = .binOp .neq 28 x y ty) (hx : a.eval x = .agg (cells p).toArray) (hy : a.eval y = .agg (cells q).toArray) (hp : p.length = 45) (hq : q.length = 45) (ht : decide (p = q) = !t)
    (K : wpList Tryd.prog ops Q rest (a.put op.dst (.bool t)) w) : wpList Tryd.prog ops Q (op :: rest) a w := by
  refine wpList_plain hgd fun _ hK => ?_
  unfold Oper.wp execOp
  simp only [ho, hx, hy, Sem.run_bind, run_eqGuard_agg (P := Tryd.prog) w .neq 28 x y _ _ (by kernel_rfl), run_neq_regs p q w hp hq, ht, Result.andThen_ok, Sem.run_pure, Bool.not_not]
  exact hK _ _ K
end
/-- Where a round of settled stands. -/
structure Sett (g1 g2 : Nat) (r : List Int) (w0 wr : World) (k : Nat) (p : Value) : Prop where
  ex : ∃ (rk : List Int) (g3 : Nat), p = .pointer (some ⟨g3, 0, none⟩) ∧ RB wr g1 rk [] 28 ∧ RB wr g3 (leftV rk) [] 28 ∧ RB wr g2 R0 [] 28 ∧ g1 < g2 ∧ g2 < g3 ∧ Below g1 w0 wr ∧ RegOk rk ∧ DepOk rk ∧ leftsV 8 rk = leftsV 8 r ∧ rk.getD 44 0 = (k : Int)
set_option maxRecDepth 100000 in
set_option maxHeartbeats 8000000 in
theorem settled_any (r : List Int) (w : World) (hr : RegOk r) (hd : DepOk r) : Calls Tryd.prog 46 #[.agg (cells r).toArray] w fun e w' => e = .returned (.agg (cells (settledV r)).toArray) ∧ Below w.heap.size w w' := by
  obtain ⟨W1, hW1⟩ : ∃ W1, w.alloc (.cells (cells r).toArray 28) = W1 := ⟨_, rfl⟩
  obtain ⟨g1, hg1⟩ : ∃ g1, w.heap.size = g1 := ⟨_, rfl⟩
  have h1 : RB W1 g1 r [] 28 := by rw [← hW1, ← hg1]; exact RB.new _ _ _
  have b1 : Below g1 w W1 := by rw [← hW1, ← hg1]; exact (Below.refl _ _).alloc (Nat.le_refl _) _
  obtain ⟨W2, hW2⟩ : ∃ W2, W1.alloc (.cells #[.int .u32 0, .int .u32 0, .int .u32 0, .int .u32 0, .int .u32 0, .int .u32 0, .int .u32 0, .int .u32 0, .int .u32 0, .int .u32 0, .int .u32 0, .int .u32 0, .int .u32 0, .int .u32 0, .int .u32 0, .int .u32 0, .int .u32 0, .int .u32 0, .int .u32 0, .int .u32 0, .int .u32 0, .int .u32 0, .int .i64 0, .int .u32 0, .int .u32 0, .int .i64 0, .int .u32 0, .int .u32 0, .int .i64 0, .int .u32 0, .int .u32 0, .int .i64 0, .int .u32 0, .int .u32 0, .int .i64 0, .int .u32 0, .int .u32 0, .int .i64 0, .int .u32 0, .int .u32 0, .int .i64 0, .int .u32 0, .int .u32 0, .int .i64 0, .int .i64 0] 28) = W2 := ⟨_, rfl⟩
  obtain ⟨g2, hg2⟩ : ∃ g2, W1.heap.size = g2 := ⟨_, rfl⟩
  have h2 : RB W2 g2 R0 [] 28 := by rw [← hW2, ← hg2]; exact RB.zero _ _
  have b12 : Below W1.heap.size W1 W2 := by rw [← hW2]; exact (Below.refl _ _).alloc (Nat.le_refl _) _
  have h12 := h1.below b12
  have b2 : Below g1 w W2 := b1.trans (b12.mono (by have := h1.lt; omega))
  have hlt : g1 < g2 := by have := h1.lt; omega
  have H12 := Lib.hid h12
  have H2 := Lib.hid h2
  have HB2 := Lib.hid b2
  have HLT := Lib.hid hlt
  have CE := Lib.hid (left_any r W2 hr hd)
  have HR := Lib.hid (And.intro hr hd)
  have HL := Lib.hid hr.len
  have HLL := Lib.hid (hr.left hd).1.len
  clear h1 h2 b1 b2 b12 h12 hlt hr hd
  go_enter Tryd.func46, Tryd.ntmps46
  go_upto_region 1 with (fail)
  go_wp2_with (refine wpList_load_regs rfl _ rfl rfl H12.out HL.out ?_)
  refine CE.out.mono ?_
  rintro e W3 ⟨rfl, b3⟩
  have HG := Lib.hid hg1
  clear hW1 hW2 hg1 hg2
  have h13 := H12.out.below b3
  have h23 := H2.out.below b3
  have hb3 : Below g1 w W3 := HB2.out.trans (b3.mono (by have := H12.out.lt; omega))
  clear b3 CE H12 H2
  obtain ⟨W4, hW4⟩ : ∃ W4, W3.alloc (.cells #[.int .u32 0, .int .u32 0, .int .u32 0, .int .u32 0, .int .u32 0, .int .u32 0, .int .u32 0, .int .u32 0, .int .u32 0, .int .u32 0, .int .u32 0, .int .u32 0, .int .u32 0, .int .u32 0, .int .u32 0, .int .u32 0, .int .u32 0, .int .u32 0, .int .u32 0, .int .u32 0, .int .u32 0, .int .u32 0, .int .i64 0, .int .u32 0, .int .u32 0, .int .i64 0, .int .u32 0, .int .u32 0, .int .i64 0, .int .u32 0, .int .u32 0, .int .i64 0, .int .u32 0, .int .u32 0, .int .i64 0, .int .u32 0, .int .u32 0, .int .i64 0, .int .u32 0, .int .u32 0, .int .i64 0, .int .u32 0, .int .u32 0, .int .i64 0, .int .i64 0] 28) = W4 := ⟨_, rfl⟩
  obtain ⟨g3, hg3⟩ : ∃ g3, W3.heap.size = g3 := ⟨_, rfl⟩
  have h34 : RB W4 g3 R0 [] 28 := by rw [← hW4, ← hg3]; exact RB.zero _ _
  have b34 : Below W3.heap.size W3 W4 := by rw [← hW4]; exact (Below.refl _ _).alloc (Nat.le_refl _) _
  have h14 := h13.below b34
  have h24 := h23.below b34
  have hlt3 : g2 < g3 := by have := h23.lt; omega
  obtain ⟨W5, hW5⟩ : ∃ W5, W4.setCells g3 0 (cells (leftV r)) = W5 := ⟨_, rfl⟩
  have h35 : RB W5 g3 (leftV r) [] 28 := by rw [← hW5]; exact h34.store _ HLL.out
  have p5 : Past g3 W4 W5 := by rw [← hW5]; exact past_setCells _ _ _ _
  have HLT' := HLT.out
  have h15 := h14.keep (p5.block g1 h14.lt (by omega))
  have h25 := h24.keep (p5.block g2 h24.lt (by omega))
  have hb5 : Below g1 w W5 := (hb3.trans (b34.mono (by have := h13.lt; omega))).trans (p5.below (by omega) (by have := h14.lt; omega))
  have H34 := Lib.hid h34
  have HW5 := Lib.hid hW5
  have HS' : Hid (Sett g1 g2 r w W5 (r.getD 44 0).toNat (.pointer (some ⟨g3, 0, none⟩))) := ⟨r, g3, rfl, h15, h35, h25, HLT.out, hlt3, hb5, HR.out.1, HR.out.2, rfl, by have := HR.out.2; unfold DepOk at this; omega⟩
  clear h13 h23 hb3 h34 b34 h14 h24 hlt3 h35 p5 h15 h25 hb5 hW5 HLT'
  go_wp2_with (refine wpList_store_regs rfl _ _ rfl rfl rfl H34.out r0_len HLL.out ?_; rw [HW5.out]; dsimp only [Act.put])
  clear hW4 H34 HW5 hg3
  go_loopg [3] (r.getD 44 0).toNat (fun k p wr => Sett g1 g2 r w wr k p)
  case atStart => exact HS'.out
  case round =>
    obtain ⟨rk, g3, rfl, h1, h3, h2, hlt, hlt3, hb, hr, hd, hf, hk⟩ := hrel.ex
    clear hrel
    have hl := hr.len
    have hll := (hr.left hd).1.len
    have H1 := Lib.hid h1
    have H3 := Lib.hid h3
    have H2 := Lib.hid h2
    have HLT := Lib.hid (And.intro hlt hlt3)
    have HB := Lib.hid hb
    have HRR := Lib.hid (And.intro hr hd)
    have HF := Lib.hid hf
    have HK := Lib.hid hk
    have HLK := Lib.hid hl
    have HLLK := Lib.hid hll
    clear h1 h3 h2 hlt hlt3 hb hr hd hf hk hl hll
    obtain ⟨t, ht⟩ : ∃ t : Bool, decide (leftV rk = rk) = !t := ⟨!decide (leftV rk = rk), by simp⟩
    have HT := Lib.hid ht
    clear ht
    cases t with
    | false =>
      have HE : Hid (leftV rk = rk) := by unfold Hid; have := HT.out; simpa using this
      have HLE : Hid (leftsV 8 r = rk) := by unfold Hid; rw [← HF.out]; exact lefts_same HE.out
      have CE := Lib.hid (ends_any rk wr HRR.out.1 HRR.out.2)
      obtain ⟨te, hte⟩ : ∃ te, endsV rk = te := ⟨_, rfl⟩
      rw [hte] at CE
      have HTE := Lib.hid hte
      clear hte
      go_upto_region 7 with ((first | (refine wpList_load_regs rfl _ rfl rfl H1.out HLK.out ?_) | (refine wpList_load_regs rfl _ rfl rfl H3.out HLLK.out ?_) | (refine wpList_neq_regs rfl _ _ _ rfl rfl rfl HLLK.out HLK.out HT.out ?_)))
      go_wp2_with (refine wpList_load_regs rfl _ rfl rfl H1.out HLK.out ?_)
      refine CE.out.mono ?_
      rintro e V ⟨rfl, v1⟩
      have k1 := H1.out.below v1
      have k2 := H2.out.below v1
      have HBV : Hid (Below g1 w V) := HB.out.trans (v1.mono (by have := H1.out.lt; omega))
      clear v1 CE
      have K1 := Lib.hid k1
      have K2 := Lib.hid k2
      cases te with
      | false =>
        have h6 := Lib.hid (k2.store rk HLK.out)
        have HSV : Hid (settledV r = rk) := by
          unfold Hid settledV
          rw [HLE.out]
          show (if endsV rk = true then _ else rk) = rk
          rw [HTE.out]; rfl
        clear k1 k2
        go_upto_region 11 with (fail)
        go_wp2_with (first | (refine wpList_load_regs rfl _ rfl rfl K1.out HLK.out ?_) | (refine wpList_store_regs rfl _ _ rfl rfl rfl K2.out r0_len HLK.out ?_; dsimp only [Act.put]))
        refine bodyPost_ret (results_regs rfl _ _ g2 rk _ _ HLK.out rfl h6.out) rfl ⟨?_, ?_⟩
        · rw [HSV.out]
        · rw [HG.out]; exact HBV.out.trans ((past_setCells g2 _ _ _).below (by have := HLT.out; omega) (by have := K1.out.lt; omega))
      | true =>
        obtain ⟨d, hdd⟩ : ∃ d : Nat, rk.getD 44 0 = (d : Int) + 1 := ⟨(rk.getD 44 0 - 1).toNat, by have := ends_dep HTE.out; omega⟩
        have hd8 : d < 8 := by have := HRR.out.2; unfold DepOk at this; omega
        have hd8I : (d : Int) < 8 := by omega
        have hd0 : (0 : Int) ≤ d := by omega
        have hwd : IntKind.i64.wrap (d : Int) = d := i64_ok (by omega) (by omega)
        have HLN := HLK.out
        have kf := kd_from hd8
        have kl := kd_left hd8
        rw [Nat.mul_comm 3 d] at kf kl
        have i44 := k1.cellk (o := 44) (by omega) kd_dep
        have ilf := k1.cellk (k := .i64) (o := 20 + d * 3 + 2) (by omega) kl
        have ff := k1.frozen (20 + d * 3 + 2)
        have nc1 : Hid (20 + d * 3 + 2 ≠ 20 + d * 3) := by unfold Hid; omega
        obtain ⟨lf, hlf⟩ : ∃ lf, rk.getD (20 + d * 3 + 2) 0 = lf := ⟨_, rfl⟩
        obtain ⟨fr, hfr⟩ : ∃ fr, rk.getD (20 + d * 3) 0 = fr := ⟨_, rfl⟩
        obtain ⟨lw, hlw⟩ : ∃ lw, IntKind.i64.wrap (lf - 1) = lw := ⟨_, rfl⟩
        rw [hdd] at i44
        rw [hlf] at ilf
        obtain ⟨V4, hV4⟩ : ∃ V4, V.setCell ⟨g1, 20 + d * 3 + 2, none⟩ (.int .i64 lw) = V4 := ⟨_, rfl⟩
        have k14 : RB V4 g1 (rk.set (20 + d * 3 + 2) lw) [] 28 := by rw [← hV4]; exact k1.set (by omega) kl _
        have k24 : RB V4 g2 R0 [] 28 := by rw [← hV4]; exact k2.keep (set_far _ _ (by have := HLT.out; omega))
        have p4 : Past g1 V V4 := by rw [← hV4]; exact (Past.refl _ _).setCell _ _
        have ifr := k14.cellk (k := .u32) (o := 20 + d * 3) (by rw [List.length_set]; omega) kf
        rw [getD_set_ne _ (by omega), hfr] at ifr
        have f16 := k14.frozen 16
        have i16 := k14.cellk (k := .u32) (o := 16) (by rw [List.length_set]; omega) (kd_reg (by omega))
        obtain ⟨V5, hV5⟩ : ∃ V5, V4.setCell ⟨g1, 16, none⟩ (.int .u32 fr) = V5 := ⟨_, rfl⟩
        have HSV : Hid (settledV r = (rk.set (20 + d * 3 + 2) lw).set 16 fr) := by
          unfold Hid settledV
          have e : (rk.getD 44 0 - 1).toNat = d := by omega
          rw [HLE.out]
          show (if endsV rk = true then (rk.set (20 + 3 * (rk.getD 44 0 - 1).toNat + 2) (IntKind.i64.wrap (rk.getD (20 + 3 * (rk.getD 44 0 - 1).toNat + 2) 0 - 1))).set 16 (rk.getD (20 + 3 * (rk.getD 44 0 - 1).toNat) 0) else rk) = _
          rw [if_pos HTE.out, e, Nat.mul_comm 3 d, hlf, hfr, hlw]
        have k15 : RB V5 g1 (settledV r) [] 28 := by rw [← hV5, HSV.out]; exact k14.set (by rw [List.length_set]; omega) (kd_reg (by omega)) _
        have k25 : RB V5 g2 R0 [] 28 := by rw [← hV5]; exact k24.keep (set_far _ _ (by have := HLT.out; omega))
        have p5 : Past g1 V4 V5 := by rw [← hV5]; exact (Past.refl _ _).setCell _ _
        have hls : (settledV r).length = 45 := by rw [HSV.out, List.length_set, List.length_set]; exact HLN
        have h6 := Lib.hid (k25.store (settledV r) hls)
        have HP : Hid (Below g1 w V5) := HBV.out.trans ((p4.trans p5).below (Nat.le_refl _) (by have := K1.out.lt; omega))
        have HV5 : Hid (g1 < V5.heap.size) := k15.lt
        have K15 := Lib.hid k15
        have K25 := Lib.hid k25
        have HLS := Lib.hid hls
        clear k1 k2 k14 k24 p4 p5 k15 k25 hls hlf hdd HLN hfr K1 K2
        go_upto_region 8 with (fail)
        go_wp2_with (first | (refine wpList_load_regs rfl _ rfl rfl K15.out HLS.out ?_) | (refine wpList_store_regs rfl _ _ rfl rfl rfl K25.out r0_len HLS.out ?_; dsimp only [Act.put]))
        refine bodyPost_ret (results_regs rfl _ _ g2 (settledV r) _ _ HLS.out rfl h6.out) rfl ⟨rfl, ?_⟩
        rw [HG.out]; exact HP.out.trans ((past_setCells g2 _ _ _).below (by have := HLT.out; omega) (by have := HV5.out; omega))
    | true =>
      have hne : ¬ leftV rk = rk := by have := HT.out; simpa using this
      have hdp := left_dep HLK.out HRR.out.2 hne
      have HRN := Lib.hid (HRR.out.1.left HRR.out.2)
      have HFN : Hid (leftsV 8 (leftV rk) = leftsV 8 r) := (lefts_step HRR.out.1 HRR.out.2 hne).trans HF.out
      have HLN2 := Lib.hid (HRN.out.1.left HRN.out.2).1.len
      have HKN : Hid ((leftV rk).getD 44 0 = ((gk - 1 : Nat) : Int) ∧ 0 < gk) := by
        have h1 := hdp.1
        have h2 := ends_dep hdp.2
        have h3 := HK.out
        refine ⟨?_, ?_⟩ <;> omega
      obtain ⟨V1, hV1⟩ : ∃ V1, wr.setCells g1 0 (cells (leftV rk)) = V1 := ⟨_, rfl⟩
      have a1 : RB V1 g1 (leftV rk) [] 28 := by rw [← hV1]; exact H1.out.store _ (by rw [HLLK.out, HLK.out])
      have p1 : Past g1 wr V1 := by rw [← hV1]; exact past_setCells _ _ _ _
      have l1 := HLT.out
      have a3 := H3.out.keep (p1.block g3 H3.out.lt (by omega))
      have a2 := H2.out.keep (p1.block g2 H2.out.lt (by omega))
      obtain ⟨V2, hV2⟩ : ∃ V2, V1.alloc (.cells #[.int .u32 0, .int .u32 0, .int .u32 0, .int .u32 0, .int .u32 0, .int .u32 0, .int .u32 0, .int .u32 0, .int .u32 0, .int .u32 0, .int .u32 0, .int .u32 0, .int .u32 0, .int .u32 0, .int .u32 0, .int .u32 0, .int .u32 0, .int .u32 0, .int .u32 0, .int .u32 0, .int .u32 0, .int .u32 0, .int .i64 0, .int .u32 0, .int .u32 0, .int .i64 0, .int .u32 0, .int .u32 0, .int .i64 0, .int .u32 0, .int .u32 0, .int .i64 0, .int .u32 0, .int .u32 0, .int .i64 0, .int .u32 0, .int .u32 0, .int .i64 0, .int .u32 0, .int .u32 0, .int .i64 0, .int .u32 0, .int .u32 0, .int .i64 0, .int .i64 0] 28) = V2 := ⟨_, rfl⟩
      obtain ⟨g4, hg4⟩ : ∃ g4, V1.heap.size = g4 := ⟨_, rfl⟩
      have b4 : RB V2 g4 R0 [] 28 := by rw [← hV2, ← hg4]; exact RB.zero _ _
      have p2 : Below V1.heap.size V1 V2 := by rw [← hV2]; exact (Below.refl _ _).alloc (Nat.le_refl _) _
      have b1 := a1.below p2
      have b2 := a2.below p2
      have l4 : g3 < g4 := by rw [← hg4]; exact a3.lt
      obtain ⟨V3, hV3⟩ : ∃ V3, V2.setCells g4 0 (cells (leftV rk)) = V3 := ⟨_, rfl⟩
      have c4 : RB V3 g4 (leftV rk) [] 28 := by rw [← hV3]; exact b4.store _ HLLK.out
      have p3 : Past g4 V2 V3 := by rw [← hV3]; exact past_setCells _ _ _ _
      have c1 := b1.keep (p3.block g1 b1.lt (by omega))
      have c2 := b2.keep (p3.block g2 b2.lt (by omega))
      have hb3 : Below g1 w V3 := ((HB.out.trans (p1.below (Nat.le_refl _) (Nat.le_of_lt H1.out.lt))).trans (p2.mono (by have := a1.lt; omega))).trans (p3.below (by omega) (by have := b1.lt; omega))
      have CL := Lib.hid (left_any (leftV rk) V3 HRN.out.1 HRN.out.2)
      have A3 := Lib.hid a3
      have B4 := Lib.hid b4
      have C1 := Lib.hid c1
      have C2 := Lib.hid c2
      have C4 := Lib.hid c4
      have HB3 := Lib.hid hb3
      have HL4 := Lib.hid l4
      have E1 := Lib.hid hV1
      have E3 := Lib.hid hV3
      clear hne hdp a1 p1 l1 a3 a2 b4 p2 b1 b2 l4 c4 p3 c1 c2 hb3 hV1 hV3
      go_upto_region 4 with ((first | (refine wpList_load_regs rfl _ rfl rfl H1.out HLK.out ?_) | (refine wpList_load_regs rfl _ rfl rfl H3.out HLLK.out ?_) | (refine wpList_neq_regs rfl _ _ _ rfl rfl rfl HLLK.out HLK.out HT.out ?_)))
      go_upto_region 5 with ((first | (refine wpList_load_regs rfl _ rfl rfl H3.out HLLK.out ?_) | (refine wpList_store_regs rfl _ _ rfl rfl rfl H1.out HLK.out HLLK.out ?_; rw [E1.out]; dsimp only [Act.put])))
      go_upto_region 6 with (refine wpList_load_regs rfl _ rfl rfl A3.out HLLK.out ?_)
      go_upto_region 3 with (refine wpList_store_regs rfl _ _ rfl rfl rfl B4.out r0_len HLLK.out ?_; rw [E3.out]; dsimp only [Act.put])
      clear hV2 hg4
      go_wp2_with (refine wpList_load_regs rfl _ rfl rfl C1.out HLLK.out ?_)
      refine CL.out.mono ?_
      rintro e V4 ⟨rfl, v4⟩
      have d1 := C1.out.below v4
      have d2 := C2.out.below v4
      have d4 := C4.out.below v4
      have hb4 : Below g1 w V4 := HB3.out.trans (v4.mono (by have := C1.out.lt; omega))
      obtain ⟨V5, hV5⟩ : ∃ V5, V4.setCells g4 0 (cells (leftV (leftV rk))) = V5 := ⟨_, rfl⟩
      have e4 : RB V5 g4 (leftV (leftV rk)) [] 28 := by rw [← hV5]; exact d4.store _ (by rw [HLN2.out, HLLK.out])
      have p5 : Past g4 V4 V5 := by rw [← hV5]; exact past_setCells _ _ _ _
      have l1 := HLT.out
      have l4 := HL4.out
      have e1 := d1.keep (p5.block g1 d1.lt (by omega))
      have e2 := d2.keep (p5.block g2 d2.lt (by omega))
      have hb5 : Below g1 w V5 := hb4.trans (p5.below (by omega) (by have := d1.lt; omega))
      have HS5 : Hid (Sett g1 g2 r w V5 (gk - 1) (.pointer (some ⟨g4, 0, none⟩))) := ⟨leftV rk, g4, rfl, e1, e4, e2, by omega, by omega, hb5, HRN.out.1, HRN.out.2, HFN.out, HKN.out.1⟩
      have D4 := Lib.hid d4
      have E5 := Lib.hid hV5
      have HM : Hid (gk - 1 < gk) := by have := HKN.out.2; unfold Hid; omega
      clear v4 d1 d2 d4 hb4 e4 p5 l1 l4 e1 e2 hb5 hV5 CL HKN
      go_wp2_with (refine wpList_store_regs rfl _ _ rfl rfl rfl D4.out HLLK.out HLN2.out ?_; rw [E5.out]; dsimp only [Act.put])
      go_roundg (gk - 1)
      case measure => exact HM.out
      case rel => exact HS5.out
end Go.Proofs.YthmalhakkdjilaaDoor
