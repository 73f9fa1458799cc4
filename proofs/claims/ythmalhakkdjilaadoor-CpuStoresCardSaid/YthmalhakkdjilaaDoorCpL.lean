/-
  Contract of Run over whatever memory. Each statement bears its own conditions.
-/
import Derived.Test.YthmalhakkdjilaaDoorCpK
namespace Go.Proofs.YthmalhakkdjilaaDoor
open Go.RowKit
set_option linter.unusedVariables false
set_option linter.unusedSimpArgs false
/-- Where a run stands: registers, memory, how many, their ticks, the last one's ticks, call, error. -/
structure RS where
  r : List Int
  μ : MS
  k : Nat
  t : Int
  lt : Int
  lc : Int
  le : Int
def RS.next (F : List Int → MS → SR) (s : RS) : RS := ⟨(F s.r s.μ).r, (F s.r s.μ).μ, s.k + 1, IntKind.i64.wrap (s.t + (F s.r s.μ).t), (F s.r s.μ).t, (F s.r s.μ).c, (F s.r s.μ).e⟩
def runGo (F : List Int → MS → SR) (most : Int) : Nat → RS → RS
  | 0, s => s
  | n + 1, s => if (s.k : Int) < most ∧ s.lc = -1 ∧ s.le = 0 then runGo F most n (s.next F) else s
/-- At each step of the run OK holds. -/
def okGo (F : List Int → MS → SR) (OK : List Int → MS → Prop) (most : Int) : Nat → RS → Prop
  | 0, _ => True
  | n + 1, s => (s.k : Int) < most ∧ s.lc = -1 ∧ s.le = 0 → OK s.r s.μ ∧ okGo F OK most n (s.next F)
def RS.start (r : List Int) (μ : MS) : RS := ⟨r, μ, 0, 0, 0, -1, 0⟩
def RS.val (x : RS) : Value := .tuple #[.agg (cells x.r).toArray, .int .i64 (x.k : Int), .int .i64 x.t, .agg #[.int .i64 x.lt, .int .i64 x.lc, .int .i64 x.le]]
theorem runGo_stop {F : List Int → MS → SR} {most : Int} {n : Nat} {s : RS} (h : ¬ ((s.k : Int) < most ∧ s.lc = -1 ∧ s.le = 0)) : runGo F most n s = s := by
  cases n with
  | zero => rfl
  | succ n => rw [runGo, if_neg h]
theorem results_run {tmps : Array Value} {w : World} {g k : Nat} {r : List Int} {x y z : Value} {t : TypeId} (hp : tmps.getD 6 undef = .pointer (some ⟨g, 0, none⟩)) (hq : tmps.getD 9 undef = .pointer (some ⟨k, 0, none⟩)) (h1 : RB w g r [] t) (hl : r.length = 45) (h2 : w.heap[k]? = some (.cells #[x, y, z] 35 (0, 0))) :
    (results Tryd.f10 tmps).run Tryd.prog w = .ok (.tuple #[.agg (cells r).toArray, tmps.getD 7 undef, tmps.getD 8 undef, .agg #[x, y, z]]) w := by
  have h : Tryd.f10.results = #[.cell 6 28, .tmp 7, .tmp 8, .cell 9 35] := rfl
  have hp' : tmps[6]?.getD undef = .pointer (some ⟨g, 0, none⟩) := by simpa using hp
  have hq' : tmps[9]?.getD undef = .pointer (some ⟨k, 0, none⟩) := by simpa using hq
  simp [results, h, hp', hq', asAddr, run_loadVar_mid w g 0 28 (cells r) _ h1.range Tryd.underlying28 rfl (by rw [cells_len, hl]; exact regs_info), run_loadVar_mid w k 0 35 [x, y, z] _ (range_three h2) Tryd.underlying35 rfl (by kernel_rfl)]
theorem ev_mk {w : World} {g g13 : Nat} {r : List Int} {a b c : Int} (h1 : RB w g r [] 28) (h2 : w.heap[g13]? = some (.cells #[.int .i64 a, .int .i64 b, .int .i64 c] 35 (0, 0))) :
    RB w g r [] 28 ∧ w.cell? ⟨g13, 0, none⟩ = some (.int .i64 a) ∧ w.cell? ⟨g13, 1, none⟩ = some (.int .i64 b) ∧ w.cell? ⟨g13, 2, none⟩ = some (.int .i64 c) := by
  refine ⟨h1, ?_, ?_, ?_⟩
  · simpa using (row_cell h2 0).1
  · simpa using (row_cell h2 1).1
  · simpa using (row_cell h2 2).1
theorem Laid.ps {S : Nat → Prop} {W W' : World} (h : Laid W) (hp : PS S W W') (h0 : ¬ S 0) : Laid W' := by
  refine ⟨Nat.lt_of_lt_of_le h.lt hp.size, fun i hi => ?_⟩
  obtain ⟨s, t, c0, c1, c2, c3, c4, c5⟩ := h.row i hi
  have hk : ∀ {o u}, W.cell? ⟨0, o, none⟩ = some u → W'.cell? ⟨0, o, none⟩ = some u := fun hc => (World.cell?_of_block (hp.block 0 h.lt h0)).trans hc
  exact ⟨s, t, hk c0, hk c1, hk c2, hk c3, hk c4, hk c5⟩
section
variable {Mem : World → MS → (Nat → Prop) → Prop} {S : Nat → Prop} {mv : Value} {OK : List Int → MS → Prop} {F : List Int → MS → SR}
/-- Where a round of Run stands. -/
structure RunR (Mem : World → MS → (Nat → Prop) → Prop) (S : Nat → Prop) (OK : List Int → MS → Prop) (F : List Int → MS → SR) (most : Int) (X : RS) (w W4 : World) (N3 N5 g3 g6 g9 g13 : Nat) (ng : Nat → Prop) (gk : Nat) (c t : Value) (wr : World) : Prop where
  ex : ∃ s : RS, c = .int .i64 (s.k : Int) ∧ t = .int .i64 s.t ∧ RB wr g3 s.r [] 28 ∧ wr.heap[g13]? = some (.cells #[.int .i64 s.lt, .int .i64 s.lc, .int .i64 s.le] 35 (0, 0)) ∧ RB wr g6 R0 [] 28 ∧
    wr.heap[g9]? = some (.cells #[.int .i64 0, .int .i64 0, .int .i64 0] 35 (0, 0)) ∧ (∀ b, N3 ≤ b → b < W4.heap.size → wr.heap[b]? = W4.heap[b]?) ∧ Mem wr s.μ (fun b => ng b ∨ (w.heap.size ≤ b ∧ b < N5)) ∧ PS S w wr ∧ N5 ≤ wr.heap.size ∧ RegOk s.r ∧ runGo F most gk s = X ∧ okGo F OK most gk s ∧ ((s.k : Int) < most → gk + s.k = most.toNat)
set_option maxRecDepth 100000 in
set_option maxHeartbeats 16000000 in
theorem run_any (D : Dom Mem S) (H : SC Mem S mv OK F) (r : List Int) (μ : MS) (most : Int) (w : World) (ng : Nat → Prop) (hr : RegOk r) (hok : okGo F OK most most.toNat (RS.start r μ)) (hm : Mem w μ ng) (hng : ∀ b, ng b → b < w.heap.size) (hL : Laid w) (hS : ∀ b, S b → b < w.heap.size) (h0 : ¬ S 0) (hmost : -9223372036854775808 ≤ most ∧ most ≤ 9223372036854775807) :
    Calls Tryd.prog 10 #[.agg (cells r).toArray, mv, .int .i64 most] w fun e w' => e = .returned (runGo F most most.toNat (RS.start r μ)).val ∧ Mem w' (runGo F most most.toNat (RS.start r μ)).μ ng ∧ PS S w w' := by
  obtain ⟨X, hX⟩ : ∃ X, runGo F most most.toNat (RS.start r μ) = X := ⟨_, rfl⟩
  rw [hX]
  obtain ⟨W1, hW1⟩ : ∃ W1, w.alloc (.cells (cells r).toArray 28) = W1 := ⟨_, rfl⟩
  obtain ⟨g3, hB⟩ : ∃ g3, w.heap.size = g3 := ⟨_, rfl⟩
  have h1 : RB W1 g3 r [] 28 := by rw [← hW1, ← hB]; exact RB.new _ _ _
  have b1 : Below g3 w W1 := by rw [← hW1, ← hB]; exact (Below.refl _ _).alloc (Nat.le_refl _) _
  obtain ⟨W2, hW2⟩ : ∃ W2, W1.alloc (.cells #[.int .u32 0, .int .u32 0, .int .u32 0, .int .u32 0, .int .u32 0, .int .u32 0, .int .u32 0, .int .u32 0, .int .u32 0, .int .u32 0, .int .u32 0, .int .u32 0, .int .u32 0, .int .u32 0, .int .u32 0, .int .u32 0, .int .u32 0, .int .u32 0, .int .u32 0, .int .u32 0, .int .u32 0, .int .u32 0, .int .i64 0, .int .u32 0, .int .u32 0, .int .i64 0, .int .u32 0, .int .u32 0, .int .i64 0, .int .u32 0, .int .u32 0, .int .i64 0, .int .u32 0, .int .u32 0, .int .i64 0, .int .u32 0, .int .u32 0, .int .i64 0, .int .u32 0, .int .u32 0, .int .i64 0, .int .u32 0, .int .u32 0, .int .i64 0, .int .i64 0] 28) = W2 := ⟨_, rfl⟩
  obtain ⟨g6, hg6⟩ : ∃ g6, W1.heap.size = g6 := ⟨_, rfl⟩
  have h62 : RB W2 g6 R0 [] 28 := by rw [← hW2, ← hg6]; exact RB.zero _ _
  have b2 : Below W1.heap.size W1 W2 := by rw [← hW2]; exact (Below.refl _ _).alloc (Nat.le_refl _) _
  have h12 := h1.below b2
  obtain ⟨W3, hW3⟩ : ∃ W3, W2.alloc (.cells #[.int .i64 0, .int .i64 0, .int .i64 0] 35) = W3 := ⟨_, rfl⟩
  obtain ⟨g9, hg9⟩ : ∃ g9, W2.heap.size = g9 := ⟨_, rfl⟩
  have h93 : W3.heap[g9]? = some (.cells #[.int .i64 0, .int .i64 0, .int .i64 0] 35 (0, 0)) := by rw [← hW3, ← hg9]; exact heap_alloc_new _ _
  have b3 : Below W2.heap.size W2 W3 := by rw [← hW3]; exact (Below.refl _ _).alloc (Nat.le_refl _) _
  have h13 := h12.below b3
  have h63 := h62.below b3
  have l1 : g3 < g6 := by have := h1.lt; omega
  have l2 : g6 < g9 := by have := h62.lt; omega
  have hbw : Below w.heap.size w W3 := by rw [hB]; exact (b1.trans (b2.mono (by omega))).trans (b3.mono (by omega))
  have HBW := Lib.hid hbw
  have H1 := Lib.hid h13
  have H6 := Lib.hid h63
  have H9 := Lib.hid h93
  have HLT := Lib.hid (And.intro l1 (And.intro l2 hB))
  have HM := Lib.hid hm
  have HH := Lib.hid H
  have HXX := Lib.hid (And.intro hr (And.intro hok (And.intro hng (And.intro hL (And.intro hS hmost)))))
  have HD := Lib.hid D
  have HX0 := Lib.hid hX
  have C := Lib.hid (effects_any W3.heap.size W3 (Nat.le_refl _))
  clear h1 b1 h62 b2 h12 h93 b3 h13 h63 l1 l2 hbw H hr hok hng hL hS D hm hX
  go_enter Tryd.func10, Tryd.ntmps10
  go_wp2_with fail
  clear hW1 hW2 hW3 hg6 hg9 hB
  refine C.out.mono ?_
  rintro e W4 ⟨⟨em, rfl, hem⟩, hbt⟩
  go_wp2_with fail
  have k3 := H1.out.below hbt
  have k6 := H6.out.below hbt
  have k9 := heap_keep hbt H9.out
  have hb4 : Below w.heap.size w W4 := HBW.out.trans (hbt.mono HBW.out.size)
  obtain ⟨W5, hW5⟩ : ∃ W5, W4.alloc (.cells #[.int .i64 0, .int .i64 (-1), .int .i64 0] 35) = W5 := ⟨_, rfl⟩
  obtain ⟨g13, hg13⟩ : ∃ g13, W4.heap.size = g13 := ⟨_, rfl⟩
  have k13 : W5.heap[g13]? = some (.cells #[.int .i64 0, .int .i64 (-1), .int .i64 0] 35 (0, 0)) := by rw [← hW5, ← hg13]; exact heap_alloc_new _ _
  have b5 : Below W4.heap.size W4 W5 := by rw [← hW5]; exact (Below.refl _ _).alloc (Nat.le_refl _) _
  have hb5 : Below w.heap.size w W5 := hb4.trans (b5.mono hb4.size)
  have hlt := HLT.out
  have HGS : Hid (g3 < g6 ∧ g6 < g9 ∧ g9 < g13 ∧ g13 < W5.heap.size ∧ w.heap.size = g3) := ⟨hlt.1, hlt.2.1, by rw [← hg13]; exact (Array.getElem?_eq_some_iff.1 k9).1, (Array.getElem?_eq_some_iff.1 k13).1, hlt.2.2⟩
  have HST : Hid (RunR Mem S OK F most X w W4 W3.heap.size W5.heap.size g3 g6 g9 g13 ng most.toNat (.int .i64 0) (.int .i64 0) W5) := ⟨RS.start r μ, rfl, rfl, k3.below b5, k13, k6.below b5, heap_keep b5 k9, fun b _ hb => b5.block b hb, HD.out.keep HM.out hb5.size (fun b hb _ => hb5.block b hb) (fun b hb h e => by
    rcases e with e | e
    · exact h e
    · omega), PS.of_below hb5, Nat.le_refl _, HXX.out.1, HX0.out, HXX.out.2.1, fun _ => rfl⟩
  have HL : Hid (Laid w) := HXX.out.2.2.2.1
  have HEM := Lib.hid hem
  have HN3 : Hid (g9 < W3.heap.size ∧ W3.heap.size ≤ W4.heap.size ∧ W4.heap.size ≤ g13 ∧ w.heap.size ≤ W3.heap.size) := ⟨(Array.getElem?_eq_some_iff.1 H9.out).1, hbt.size, by rw [hg13]; exact Nat.le_refl _, HBW.out.size⟩
  clear k3 k6 k9 hb4 k13 b5 hb5 hlt hbt C H1 H6 H9 HBW HM HX0 hem
  simp only [hW5, hg13]
  clear hW5 hg13
  go_loopg [11, 12] most.toNat (fun gk c t wr => RunR Mem S OK F most X w W4 W3.heap.size W5.heap.size g3 g6 g9 g13 ng gk c t wr)
  case atStart => exact HST.out
  case round =>
    obtain ⟨s, rfl, rfl, q3, q13, q6, q9, qe, qm, qp, qn, qr, qx, qok, qk⟩ := hrel.ex
    clear hrel HST
    obtain ⟨sr, sμ, sk, st, slt, slc, sle⟩ := s
    dsimp only at q3 q13 qm qr qk ⊢
    have R3 := Lib.hid q3
    have R13 := Lib.hid q13
    have R6 := Lib.hid q6
    have R9 := Lib.hid q9
    have RE := Lib.hid qe
    have RM := Lib.hid qm
    have RP := Lib.hid qp
    have RN := Lib.hid qn
    have RR := Lib.hid qr
    have HX := Lib.hid qx
    have RO := Lib.hid qok
    have RK := Lib.hid qk
    have HLR := Lib.hid qr.len
    have c0 := (row_cell q13 0).1
    have c1 := (row_cell q13 1).1
    have c2 := (row_cell q13 2).1
    simp at c0 c1 c2
    clear q3 q13 q6 q9 qe qm qp qn qr qx qok qk
    by_cases hk : (sk : Int) < most
    · have hkd : decide ((sk : Int) < most) = true := by simpa using hk
      by_cases hc : slc = -1
      · by_cases he : sle = 0
        · subst hc he
          obtain ⟨n, rfl⟩ : ∃ n, gk = n + 1 := ⟨gk - 1, by have := RK.out hk; omega⟩
          have hok1 := RO.out ⟨hk, rfl, rfl⟩
          have hxn : runGo F most n (RS.next F ⟨sr, sμ, sk, st, slt, -1, 0⟩) = X := by have := HX.out; rwa [runGo, if_pos ⟨hk, rfl, rfl⟩] at this
          have hrk := RK.out hk
          have heff := HEM.out.keep RE.out
          have hcs := HH.out sr sμ wr em (fun b => ng b ∨ (w.heap.size ≤ b ∧ b < W5.heap.size)) W3.heap.size RR.out hok1.1 RM.out (fun b h => by
            rcases h with h | h
            · have := HXX.out.2.2.1 b h; have := RP.out.size; omega
            · have := RN.out; omega) (HL.out.ps RP.out h0) heff (fun b h => by have := HXX.out.2.2.2.2.1 b h; have := HN3.out; omega)
          have HLX := Lib.hid hcs.1
          have CS := Lib.hid hcs.2
          have HOK := Lib.hid hok1.2
          have HXN := Lib.hid hxn
          have HRK : Hid (n + (sk + 1) = most.toNat) := by unfold Hid; omega
          clear hcs hok1 hxn hrk heff
          obtain ⟨Y, hY⟩ : ∃ Y, F sr sμ = Y := ⟨_, rfl⟩
          have HNX : Hid (RS.next F ⟨sr, sμ, sk, st, slt, -1, 0⟩ = ⟨Y.r, Y.μ, sk + 1, IntKind.i64.wrap (st + Y.t), Y.t, Y.c, Y.e⟩) := by unfold Hid RS.next; dsimp only; rw [hY]
          rw [hY] at HLX CS
          clear hY
          obtain ⟨xr, xt, xc, xe, xμ⟩ := Y
          unfold SR.val at CS
          dsimp only at CS HLX HNX
          have hw1 : IntKind.i64.wrap ((sk : Int) + 1) = (sk : Int) + 1 := i64_ok (by omega) (by have := HXX.out.2.2.2.2.2.2; omega)
          go_upto_region 4 with (fail)
          go_wp2_with (refine wpList_load_regs rfl _ rfl rfl R3.out HLR.out ?_)
          refine CS.out.mono ?_
          rintro e W6 ⟨rfl, hm6, hp6⟩
          have gs := HGS.out
          have n3 := HN3.out
          have nS : ∀ b, w.heap.size ≤ b → ¬ S b := fun b hb h => by have := HXX.out.2.2.2.2.1 b h; omega
          have u3 := R3.out.keep (hp6.block g3 R3.out.lt (nS g3 (by omega)))
          have u13 := (hp6.block g13 (Array.getElem?_eq_some_iff.1 R13.out).1 (nS g13 (by omega))).trans R13.out
          have u6 := R6.out.keep (hp6.block g6 R6.out.lt (nS g6 (by omega)))
          have u9 := (hp6.block g9 (Array.getElem?_eq_some_iff.1 R9.out).1 (nS g9 (by omega))).trans R9.out
          obtain ⟨W11, hW11⟩ : ∃ W11, W6.setCells g3 0 (cells xr) = W11 := ⟨_, rfl⟩
          have p11 : Past g3 W6 W11 := by rw [← hW11]; exact past_setCells _ _ _ _
          have v3 : RB W11 g3 xr [] 28 := by rw [← hW11]; exact u3.store _ (by rw [HLX.out.len, HLR.out])
          have v13 := (p11.block g13 (Array.getElem?_eq_some_iff.1 u13).1 (by omega)).trans u13
          have v6 := u6.keep (p11.block g6 u6.lt (by omega))
          have v9 := (p11.block g9 (Array.getElem?_eq_some_iff.1 u9).1 (by omega)).trans u9
          have e0 := (row_cell v13 0).1
          have e1 := (row_cell v13 1).1
          have e2 := (row_cell v13 2).1
          have e3 := (row_cell v13 0).2
          have e4 := (row_cell v13 1).2
          have e5 := (row_cell v13 2).2
          simp at e0 e1 e2
          have p12 := set3_past (Past.refl g13 W11) (.int .i64 xt) (.int .i64 xc) (.int .i64 xe)
          have x13 := set3_heap v13 (.int .i64 xt) (.int .i64 xc) (.int .i64 xe)
          have HREL : Hid (RunR Mem S OK F most X w W4 W3.heap.size W5.heap.size g3 g6 g9 g13 ng n (.int .i64 ((sk : Int) + 1)) (.int .i64 (IntKind.i64.wrap (st + xt))) (((W11.setCell ⟨g13, 0, none⟩ (.int .i64 xt)).setCell ⟨g13, 1, none⟩ (.int .i64 xc)).setCell ⟨g13, 2, none⟩ (.int .i64 xe))) := by
            refine ⟨⟨xr, xμ, sk + 1, IntKind.i64.wrap (st + xt), xt, xc, xe⟩, by go_num, rfl, v3.keep (p12.block g3 v3.lt (by omega)), x13, v6.keep (p12.block g6 v6.lt (by omega)), (p12.block g9 (Array.getElem?_eq_some_iff.1 v9).1 (by omega)).trans v9, fun b h1 h2 => ?_, ?_, ?_, ?_, HLX.out, ?_, ?_, fun _ => HRK.out⟩
            · have hbl : b < wr.heap.size := by have := RN.out; omega
              have hb6 : b < W6.heap.size := Nat.lt_of_lt_of_le hbl hp6.size
              have hb11 : b < W11.heap.size := Nat.lt_of_lt_of_le hb6 p11.size
              exact (p12.block b hb11 (by omega)).trans ((p11.block b hb6 (by omega)).trans ((hp6.block b hbl (nS b (by omega))).trans (RE.out b h1 h2)))
            · have m11 := HD.out.keep (ng' := fun b => ng b ∨ (w.heap.size ≤ b ∧ b < W5.heap.size)) hm6 p11.size (fun b hb hn => p11.block b hb (fun e => hn (Or.inr (by omega)))) (fun _ _ h => h)
              exact HD.out.keep m11 p12.size (fun b hb hn => p12.block b hb (fun e => hn (Or.inr (by omega)))) (fun _ _ h => h)
            · exact ((RP.out.trans hp6).new p11 (by omega)).new p12 (by omega)
            · have := RN.out; have := hp6.size; have := p11.size; have := p12.size; omega
            · have := HXN.out; rw [HNX.out] at this; exact this
            · have := HOK.out; rw [HNX.out] at this; exact this
          have U3 := Lib.hid u3
          have UW := Lib.hid hW11
          clear gs n3 nS u3 u13 u6 u9 hW11 p11 v3 v13 v6 v9 p12 x13 c0 c1 c2 hm6 hp6 CS hk
          go_wp2_with (refine wpList_store_regs rfl _ _ rfl rfl rfl U3.out HLR.out HLX.out.len ?_; rw [UW.out]; dsimp only [Act.put])
          go_roundg n
          case measure => omega
          case rel => rw [← IntWalk.i64_left]; exact HREL.out
        · have hcd : (slc == -1) = true := by simpa using hc
          have hed : (sle == 0) = false := by simpa using he
          have HSTOP : Hid (runGo F most gk ⟨sr, sμ, sk, st, slt, slc, sle⟩ = ⟨sr, sμ, sk, st, slt, slc, sle⟩) := runGo_stop (fun h => he h.2.2)
          clear hk hc he
          have HFX : Hid (X = ⟨sr, sμ, sk, st, slt, slc, sle⟩) := by rw [← HX.out]; exact HSTOP.out
          obtain ⟨W12, hW12⟩ : ∃ W12, wr.drew.setCells g6 0 (cells sr) = W12 := ⟨_, rfl⟩
          have p12 : Past g6 wr.drew W12 := by rw [← hW12]; exact past_setCells _ _ _ _
          have v6 : RB W12 g6 sr [] 28 := by rw [← hW12]; exact (R6.out.keep rfl : RB wr.drew g6 R0 [] 28).store _ (by rw [HLR.out]; exact r0_len.symm)
          have gs := HGS.out
          have v9 := (p12.block g9 (Array.getElem?_eq_some_iff.1 R9.out).1 (by omega)).trans R9.out
          have v13 := (p12.block g13 (Array.getElem?_eq_some_iff.1 R13.out).1 (by omega)).trans R13.out
          have v3 : RB W12 g3 sr [] 28 := R3.out.keep (p12.block g3 R3.out.lt (by omega))
          have U6 := Lib.hid v6
          have U9 := Lib.hid v9
          have U13 := Lib.hid v13
          have UW := Lib.hid hW12
          have UH := Lib.hid (ev_mk v3 v13)
          have UM : Hid (Mem W12 sμ (fun b => ng b ∨ (w.heap.size ≤ b ∧ b < W5.heap.size))) := HD.out.keep RM.out p12.size (fun b hb hn => p12.block b hb (fun e => hn (Or.inr (by omega)))) (fun _ _ h => h)
          have UP : Hid (PS S w W12) := RP.out.new (b := wr) (h := g6) ⟨p12.os, p12.tape, p12.output, p12.size, p12.block⟩ (by omega)
          have UG := Lib.hid (ev_mk (w := wr.drew) (R3.out.keep rfl) R13.out)
          clear p12 v6 v9 v13 v3 gs hW12 HSTOP
          go_upto_region 7 with (fail)
          refine wp_region_held_drew (S := fun w' => RB w' g3 sr [] 28 ∧ w'.cell? ⟨g13, 0, none⟩ = some (.int .i64 slt) ∧ w'.cell? ⟨g13, 1, none⟩ = some (.int .i64 slc) ∧ w'.cell? ⟨g13, 2, none⟩ = some (.int .i64 sle)) (by kernel_rfl) ?_ (fun hHeld => ?_)
          · exact UG.out
          refine takeD (i := 0) (d := some 42) (v := .agg (cells sr).toArray) _ rfl rfl (by kernel_rfl) (by kernel_rfl) (by kernel_rfl) (fun _ _ _ h => h) (by rfl) ?_ (by assumption) ?_
          · intro w hSw; exact exec_load_regs (.tmp 3) rfl rfl hSw.1 HLR.out
          try simp only [Act.put, List.setIfInBounds_toArray, List.set_cons_zero, List.set_cons_succ]
          refine takeD (i := 1) (d := some 43) (v := ?_) _ rfl rfl (by kernel_rfl) (by kernel_rfl) (by kernel_rfl) (fun _ _ _ h => h) (by rfl) ?_ (by assumption) ?_
          rotate_left
          · (intro w hSw; (try dsimp only at hSw); go_simp) <;> with_reducible rfl
          try simp only [Act.put, List.setIfInBounds_toArray, List.set_cons_zero, List.set_cons_succ]
          refine takeD (i := 2) (d := some 44) (v := ?_) _ rfl rfl (by kernel_rfl) (by kernel_rfl) (by kernel_rfl) (fun _ _ _ h => h) (by rfl) ?_ (by assumption) ?_
          rotate_left
          · (intro w hSw; (try dsimp only at hSw); go_simp) <;> with_reducible rfl
          try simp only [Act.put, List.setIfInBounds_toArray, List.set_cons_zero, List.set_cons_succ]
          refine takeD (i := 3) (d := some 45) (v := ?_) _ rfl rfl (by kernel_rfl) (by kernel_rfl) (by kernel_rfl) (fun _ _ _ h => h) (by rfl) ?_ (by assumption) ?_
          rotate_left
          · (intro w hSw; (try dsimp only at hSw); go_simp) <;> with_reducible rfl
          try simp only [Act.put, List.setIfInBounds_toArray, List.set_cons_zero, List.set_cons_succ]
          refine wpAnyH_ready (rs := [4]) (by kernel_rfl) (by simp) ?_
          refine AllReadyH.cons rfl (fun K hK => ?_) AllReadyH.nil
          refine wp_store_regs (g := g6) (r := sr) (r0 := R0) _ _ rfl rfl rfl (R6.out.keep rfl) r0_len HLR.out ?_
          rw [UW.out]
          refine hK.out _ _ UH.out (fun hHeld => ?_)
          clear hK K
          try simp only [Act.put, List.setIfInBounds_toArray, List.set_cons_zero, List.set_cons_succ]
          refine takeD (i := 5) (d := some 7) (v := ?_) _ rfl rfl (by kernel_rfl) (by kernel_rfl) (by kernel_rfl) (fun _ _ _ h => h) (by rfl) ?_ (by assumption) ?_
          rotate_left
          · (intro w hSw; (try dsimp only at hSw); go_simp) <;> with_reducible rfl
          try simp only [Act.put, List.setIfInBounds_toArray, List.set_cons_zero, List.set_cons_succ]
          refine takeD (i := 6) (d := some 8) (v := ?_) _ rfl rfl (by kernel_rfl) (by kernel_rfl) (by kernel_rfl) (fun _ _ _ h => h) (by rfl) ?_ (by assumption) ?_
          rotate_left
          · (intro w hSw; (try dsimp only at hSw); go_simp) <;> with_reducible rfl
          try simp only [Act.put, List.setIfInBounds_toArray, List.set_cons_zero, List.set_cons_succ]
          have e0 := (row_cell U9.out 0).1
          have e1 := (row_cell U9.out 1).1
          have e2 := (row_cell U9.out 2).1
          have e3 := (row_cell U9.out 0).2
          have e4 := (row_cell U9.out 1).2
          have e5 := (row_cell U9.out 2).2
          simp at e0 e1 e2
          refine wpAnyH_ready (rs := [7]) (by kernel_rfl) (by simp) ?_
          refine AllReadyH.cons rfl (fun K hK => ?_) AllReadyH.nil
          have HQ := Lib.hid hHeld
          clear hHeld
          go_simp
          refine hK.out _ _ ?_ (fun hHeld => ?_)
          · have hp := set3_past (Past.refl g9 W12) (.int .i64 slt) (.int .i64 slc) (.int .i64 sle)
            exact ev_mk (RB.keep HQ.out.1 (hp.block g3 HQ.out.1.lt (by have := HGS.out; omega))) ((hp.block g13 (Array.getElem?_eq_some_iff.1 U13.out).1 (by have := HGS.out; omega)).trans U13.out)
          clear hK K e0 e1 e2 e3 e4 e5 HQ
          try simp only [Act.put, List.setIfInBounds_toArray, List.set_cons_zero, List.set_cons_succ]
          refine wpAnyH_done (by kernel_rfl) ?_ _
          clear hHeld
          go_wp2_with fail
          have hp3 := set3_past (Past.refl g9 W12) (.int .i64 slt) (.int .i64 slc) (.int .i64 sle)
          have h63 := RB.keep U6.out (hp3.block g6 U6.out.lt (by have := HGS.out; omega))
          refine bodyPost_ret (results_run rfl rfl h63 HLR.out (set3_heap U9.out _ _ _)) rfl ⟨?_, ?_, ?_⟩
          · rw [HFX.out]; rfl
          · rw [HFX.out]
            exact HD.out.keep UM.out hp3.size (fun b hb hn => hp3.block b hb (fun e => hn (Or.inr (by have := HGS.out; omega)))) (fun b _ h e => h (Or.inl e))
          · exact UP.out.new hp3 (by have := HGS.out; omega)
      · have hcd : (slc == -1) = false := by simpa using hc
        have HSTOP : Hid (runGo F most gk ⟨sr, sμ, sk, st, slt, slc, sle⟩ = ⟨sr, sμ, sk, st, slt, slc, sle⟩) := runGo_stop (fun h => hc h.2.1)
        clear hk hc
        have HFX : Hid (X = ⟨sr, sμ, sk, st, slt, slc, sle⟩) := by rw [← HX.out]; exact HSTOP.out
        obtain ⟨W12, hW12⟩ : ∃ W12, wr.drew.setCells g6 0 (cells sr) = W12 := ⟨_, rfl⟩
        have p12 : Past g6 wr.drew W12 := by rw [← hW12]; exact past_setCells _ _ _ _
        have v6 : RB W12 g6 sr [] 28 := by rw [← hW12]; exact (R6.out.keep rfl : RB wr.drew g6 R0 [] 28).store _ (by rw [HLR.out]; exact r0_len.symm)
        have gs := HGS.out
        have v9 := (p12.block g9 (Array.getElem?_eq_some_iff.1 R9.out).1 (by omega)).trans R9.out
        have v13 := (p12.block g13 (Array.getElem?_eq_some_iff.1 R13.out).1 (by omega)).trans R13.out
        have v3 : RB W12 g3 sr [] 28 := R3.out.keep (p12.block g3 R3.out.lt (by omega))
        have U6 := Lib.hid v6
        have U9 := Lib.hid v9
        have U13 := Lib.hid v13
        have UW := Lib.hid hW12
        have UH := Lib.hid (ev_mk v3 v13)
        have UM : Hid (Mem W12 sμ (fun b => ng b ∨ (w.heap.size ≤ b ∧ b < W5.heap.size))) := HD.out.keep RM.out p12.size (fun b hb hn => p12.block b hb (fun e => hn (Or.inr (by omega)))) (fun _ _ h => h)
        have UP : Hid (PS S w W12) := RP.out.new (b := wr) (h := g6) ⟨p12.os, p12.tape, p12.output, p12.size, p12.block⟩ (by omega)
        have UG := Lib.hid (ev_mk (w := wr.drew) (R3.out.keep rfl) R13.out)
        clear p12 v6 v9 v13 v3 gs hW12 HSTOP
        go_upto_region 7 with (fail)
        refine wp_region_held_drew (S := fun w' => RB w' g3 sr [] 28 ∧ w'.cell? ⟨g13, 0, none⟩ = some (.int .i64 slt) ∧ w'.cell? ⟨g13, 1, none⟩ = some (.int .i64 slc) ∧ w'.cell? ⟨g13, 2, none⟩ = some (.int .i64 sle)) (by kernel_rfl) ?_ (fun hHeld => ?_)
        · exact UG.out
        refine takeD (i := 0) (d := some 42) (v := .agg (cells sr).toArray) _ rfl rfl (by kernel_rfl) (by kernel_rfl) (by kernel_rfl) (fun _ _ _ h => h) (by rfl) ?_ (by assumption) ?_
        · intro w hSw; exact exec_load_regs (.tmp 3) rfl rfl hSw.1 HLR.out
        try simp only [Act.put, List.setIfInBounds_toArray, List.set_cons_zero, List.set_cons_succ]
        refine takeD (i := 1) (d := some 43) (v := ?_) _ rfl rfl (by kernel_rfl) (by kernel_rfl) (by kernel_rfl) (fun _ _ _ h => h) (by rfl) ?_ (by assumption) ?_
        rotate_left
        · (intro w hSw; (try dsimp only at hSw); go_simp) <;> with_reducible rfl
        try simp only [Act.put, List.setIfInBounds_toArray, List.set_cons_zero, List.set_cons_succ]
        refine takeD (i := 2) (d := some 44) (v := ?_) _ rfl rfl (by kernel_rfl) (by kernel_rfl) (by kernel_rfl) (fun _ _ _ h => h) (by rfl) ?_ (by assumption) ?_
        rotate_left
        · (intro w hSw; (try dsimp only at hSw); go_simp) <;> with_reducible rfl
        try simp only [Act.put, List.setIfInBounds_toArray, List.set_cons_zero, List.set_cons_succ]
        refine takeD (i := 3) (d := some 45) (v := ?_) _ rfl rfl (by kernel_rfl) (by kernel_rfl) (by kernel_rfl) (fun _ _ _ h => h) (by rfl) ?_ (by assumption) ?_
        rotate_left
        · (intro w hSw; (try dsimp only at hSw); go_simp) <;> with_reducible rfl
        try simp only [Act.put, List.setIfInBounds_toArray, List.set_cons_zero, List.set_cons_succ]
        refine wpAnyH_ready (rs := [4]) (by kernel_rfl) (by simp) ?_
        refine AllReadyH.cons rfl (fun K hK => ?_) AllReadyH.nil
        refine wp_store_regs (g := g6) (r := sr) (r0 := R0) _ _ rfl rfl rfl (R6.out.keep rfl) r0_len HLR.out ?_
        rw [UW.out]
        refine hK.out _ _ UH.out (fun hHeld => ?_)
        clear hK K
        try simp only [Act.put, List.setIfInBounds_toArray, List.set_cons_zero, List.set_cons_succ]
        refine takeD (i := 5) (d := some 7) (v := ?_) _ rfl rfl (by kernel_rfl) (by kernel_rfl) (by kernel_rfl) (fun _ _ _ h => h) (by rfl) ?_ (by assumption) ?_
        rotate_left
        · (intro w hSw; (try dsimp only at hSw); go_simp) <;> with_reducible rfl
        try simp only [Act.put, List.setIfInBounds_toArray, List.set_cons_zero, List.set_cons_succ]
        refine takeD (i := 6) (d := some 8) (v := ?_) _ rfl rfl (by kernel_rfl) (by kernel_rfl) (by kernel_rfl) (fun _ _ _ h => h) (by rfl) ?_ (by assumption) ?_
        rotate_left
        · (intro w hSw; (try dsimp only at hSw); go_simp) <;> with_reducible rfl
        try simp only [Act.put, List.setIfInBounds_toArray, List.set_cons_zero, List.set_cons_succ]
        have e0 := (row_cell U9.out 0).1
        have e1 := (row_cell U9.out 1).1
        have e2 := (row_cell U9.out 2).1
        have e3 := (row_cell U9.out 0).2
        have e4 := (row_cell U9.out 1).2
        have e5 := (row_cell U9.out 2).2
        simp at e0 e1 e2
        refine wpAnyH_ready (rs := [7]) (by kernel_rfl) (by simp) ?_
        refine AllReadyH.cons rfl (fun K hK => ?_) AllReadyH.nil
        have HQ := Lib.hid hHeld
        clear hHeld
        go_simp
        refine hK.out _ _ ?_ (fun hHeld => ?_)
        · have hp := set3_past (Past.refl g9 W12) (.int .i64 slt) (.int .i64 slc) (.int .i64 sle)
          exact ev_mk (RB.keep HQ.out.1 (hp.block g3 HQ.out.1.lt (by have := HGS.out; omega))) ((hp.block g13 (Array.getElem?_eq_some_iff.1 U13.out).1 (by have := HGS.out; omega)).trans U13.out)
        clear hK K e0 e1 e2 e3 e4 e5 HQ
        try simp only [Act.put, List.setIfInBounds_toArray, List.set_cons_zero, List.set_cons_succ]
        refine wpAnyH_done (by kernel_rfl) ?_ _
        clear hHeld
        go_wp2_with fail
        have hp3 := set3_past (Past.refl g9 W12) (.int .i64 slt) (.int .i64 slc) (.int .i64 sle)
        have h63 := RB.keep U6.out (hp3.block g6 U6.out.lt (by have := HGS.out; omega))
        refine bodyPost_ret (results_run rfl rfl h63 HLR.out (set3_heap U9.out _ _ _)) rfl ⟨?_, ?_, ?_⟩
        · rw [HFX.out]; rfl
        · rw [HFX.out]
          exact HD.out.keep UM.out hp3.size (fun b hb hn => hp3.block b hb (fun e => hn (Or.inr (by have := HGS.out; omega)))) (fun b _ h e => h (Or.inl e))
        · exact UP.out.new hp3 (by have := HGS.out; omega)
    · have hkd : decide ((sk : Int) < most) = false := by simpa using hk
      have HSTOP : Hid (runGo F most gk ⟨sr, sμ, sk, st, slt, slc, sle⟩ = ⟨sr, sμ, sk, st, slt, slc, sle⟩) := runGo_stop (fun h => hk h.1)
      clear hk
      have HFX : Hid (X = ⟨sr, sμ, sk, st, slt, slc, sle⟩) := by rw [← HX.out]; exact HSTOP.out
      obtain ⟨W12, hW12⟩ : ∃ W12, wr.drew.setCells g6 0 (cells sr) = W12 := ⟨_, rfl⟩
      have p12 : Past g6 wr.drew W12 := by rw [← hW12]; exact past_setCells _ _ _ _
      have v6 : RB W12 g6 sr [] 28 := by rw [← hW12]; exact (R6.out.keep rfl : RB wr.drew g6 R0 [] 28).store _ (by rw [HLR.out]; exact r0_len.symm)
      have gs := HGS.out
      have v9 := (p12.block g9 (Array.getElem?_eq_some_iff.1 R9.out).1 (by omega)).trans R9.out
      have v13 := (p12.block g13 (Array.getElem?_eq_some_iff.1 R13.out).1 (by omega)).trans R13.out
      have v3 : RB W12 g3 sr [] 28 := R3.out.keep (p12.block g3 R3.out.lt (by omega))
      have U6 := Lib.hid v6
      have U9 := Lib.hid v9
      have U13 := Lib.hid v13
      have UW := Lib.hid hW12
      have UH := Lib.hid (ev_mk v3 v13)
      have UM : Hid (Mem W12 sμ (fun b => ng b ∨ (w.heap.size ≤ b ∧ b < W5.heap.size))) := HD.out.keep RM.out p12.size (fun b hb hn => p12.block b hb (fun e => hn (Or.inr (by omega)))) (fun _ _ h => h)
      have UP : Hid (PS S w W12) := RP.out.new (b := wr) (h := g6) ⟨p12.os, p12.tape, p12.output, p12.size, p12.block⟩ (by omega)
      have UG := Lib.hid (ev_mk (w := wr.drew) (R3.out.keep rfl) R13.out)
      clear p12 v6 v9 v13 v3 gs hW12 HSTOP
      go_upto_region 7 with (fail)
      refine wp_region_held_drew (S := fun w' => RB w' g3 sr [] 28 ∧ w'.cell? ⟨g13, 0, none⟩ = some (.int .i64 slt) ∧ w'.cell? ⟨g13, 1, none⟩ = some (.int .i64 slc) ∧ w'.cell? ⟨g13, 2, none⟩ = some (.int .i64 sle)) (by kernel_rfl) ?_ (fun hHeld => ?_)
      · exact UG.out
      refine takeD (i := 0) (d := some 42) (v := .agg (cells sr).toArray) _ rfl rfl (by kernel_rfl) (by kernel_rfl) (by kernel_rfl) (fun _ _ _ h => h) (by rfl) ?_ (by assumption) ?_
      · intro w hSw; exact exec_load_regs (.tmp 3) rfl rfl hSw.1 HLR.out
      try simp only [Act.put, List.setIfInBounds_toArray, List.set_cons_zero, List.set_cons_succ]
      refine takeD (i := 1) (d := some 43) (v := ?_) _ rfl rfl (by kernel_rfl) (by kernel_rfl) (by kernel_rfl) (fun _ _ _ h => h) (by rfl) ?_ (by assumption) ?_
      rotate_left
      · (intro w hSw; (try dsimp only at hSw); go_simp) <;> with_reducible rfl
      try simp only [Act.put, List.setIfInBounds_toArray, List.set_cons_zero, List.set_cons_succ]
      refine takeD (i := 2) (d := some 44) (v := ?_) _ rfl rfl (by kernel_rfl) (by kernel_rfl) (by kernel_rfl) (fun _ _ _ h => h) (by rfl) ?_ (by assumption) ?_
      rotate_left
      · (intro w hSw; (try dsimp only at hSw); go_simp) <;> with_reducible rfl
      try simp only [Act.put, List.setIfInBounds_toArray, List.set_cons_zero, List.set_cons_succ]
      refine takeD (i := 3) (d := some 45) (v := ?_) _ rfl rfl (by kernel_rfl) (by kernel_rfl) (by kernel_rfl) (fun _ _ _ h => h) (by rfl) ?_ (by assumption) ?_
      rotate_left
      · (intro w hSw; (try dsimp only at hSw); go_simp) <;> with_reducible rfl
      try simp only [Act.put, List.setIfInBounds_toArray, List.set_cons_zero, List.set_cons_succ]
      refine wpAnyH_ready (rs := [4]) (by kernel_rfl) (by simp) ?_
      refine AllReadyH.cons rfl (fun K hK => ?_) AllReadyH.nil
      refine wp_store_regs (g := g6) (r := sr) (r0 := R0) _ _ rfl rfl rfl (R6.out.keep rfl) r0_len HLR.out ?_
      rw [UW.out]
      refine hK.out _ _ UH.out (fun hHeld => ?_)
      clear hK K
      try simp only [Act.put, List.setIfInBounds_toArray, List.set_cons_zero, List.set_cons_succ]
      refine takeD (i := 5) (d := some 7) (v := ?_) _ rfl rfl (by kernel_rfl) (by kernel_rfl) (by kernel_rfl) (fun _ _ _ h => h) (by rfl) ?_ (by assumption) ?_
      rotate_left
      · (intro w hSw; (try dsimp only at hSw); go_simp) <;> with_reducible rfl
      try simp only [Act.put, List.setIfInBounds_toArray, List.set_cons_zero, List.set_cons_succ]
      refine takeD (i := 6) (d := some 8) (v := ?_) _ rfl rfl (by kernel_rfl) (by kernel_rfl) (by kernel_rfl) (fun _ _ _ h => h) (by rfl) ?_ (by assumption) ?_
      rotate_left
      · (intro w hSw; (try dsimp only at hSw); go_simp) <;> with_reducible rfl
      try simp only [Act.put, List.setIfInBounds_toArray, List.set_cons_zero, List.set_cons_succ]
      have e0 := (row_cell U9.out 0).1
      have e1 := (row_cell U9.out 1).1
      have e2 := (row_cell U9.out 2).1
      have e3 := (row_cell U9.out 0).2
      have e4 := (row_cell U9.out 1).2
      have e5 := (row_cell U9.out 2).2
      simp at e0 e1 e2
      refine wpAnyH_ready (rs := [7]) (by kernel_rfl) (by simp) ?_
      refine AllReadyH.cons rfl (fun K hK => ?_) AllReadyH.nil
      have HQ := Lib.hid hHeld
      clear hHeld
      go_simp
      refine hK.out _ _ ?_ (fun hHeld => ?_)
      · have hp := set3_past (Past.refl g9 W12) (.int .i64 slt) (.int .i64 slc) (.int .i64 sle)
        exact ev_mk (RB.keep HQ.out.1 (hp.block g3 HQ.out.1.lt (by have := HGS.out; omega))) ((hp.block g13 (Array.getElem?_eq_some_iff.1 U13.out).1 (by have := HGS.out; omega)).trans U13.out)
      clear hK K e0 e1 e2 e3 e4 e5 HQ
      try simp only [Act.put, List.setIfInBounds_toArray, List.set_cons_zero, List.set_cons_succ]
      refine wpAnyH_done (by kernel_rfl) ?_ _
      clear hHeld
      go_wp2_with fail
      have hp3 := set3_past (Past.refl g9 W12) (.int .i64 slt) (.int .i64 slc) (.int .i64 sle)
      have h63 := RB.keep U6.out (hp3.block g6 U6.out.lt (by have := HGS.out; omega))
      refine bodyPost_ret (results_run rfl rfl h63 HLR.out (set3_heap U9.out _ _ _)) rfl ⟨?_, ?_, ?_⟩
      · rw [HFX.out]; rfl
      · rw [HFX.out]
        exact HD.out.keep UM.out hp3.size (fun b hb hn => hp3.block b hb (fun e => hn (Or.inr (by have := HGS.out; omega)))) (fun b _ h e => h (Or.inl e))
      · exact UP.out.new hp3 (by have := HGS.out; omega)
end
end Go.Proofs.YthmalhakkdjilaaDoor
