/-
  What the reference answers. Each statement bears its own conditions.
-/
import Derived.Test.YtejambofnffopaaQuJ
namespace Go.Proofs.Ytejambofnffopaa.Q
open Go.RowKit Go.Proofs.Ytejambofnffopaa.F Go.Proofs.Ytejambofnffopaa.U
set_option linter.unusedVariables false
set_option linter.unusedSimpArgs false
theorem _root_.Go.Proofs.Ytejambofnffopaa.F.Ow.tyb {w : World} {p : Nat → Prop} {v : Value} {n : Nat} {xs : List Value} (h : Ow 33 w p v n xs) : Ty w (fun b => v.ownBlock = some b) := fun b hb hl => by
  rcases h.form with ⟨h0, _⟩ | ⟨b1, cap, cur, hv, _, _, hg1, _⟩
  · rw [h0] at hb; cases hb
  · rw [hv] at hb
    injection hb with hb
    have hb : b1 = b := hb
    subst hb
    exact ⟨_, _, _, hg1, fun e => ne_us e.symm⟩
theorem set_four {w : World} {g : Nat} {c0 c1 c2 c3 : Value} {t : TypeId} (h : w.heap[g]? = some (.cells #[c0, c1, c2, c3] t (0, 0))) (a b c d : Value) : ((((w.setCell ⟨g, 0, none⟩ a).setCell ⟨g, 1, none⟩ b).setCell ⟨g, 2, none⟩ c).setCell ⟨g, 3, none⟩ d).rangeAt g 0 [a, b, c, d] := by
  have h1 := set_at (set_at (set_at (set_at h 0 a) 1 b) 2 c) 3 d
  intro j v hv
  rw [Nat.zero_add, (row_cell h1 j).1]
  simpa using hv
set_option maxRecDepth 100000 in
set_option maxHeartbeats 8000000 in
theorem copies_any (P RR : Nat → Prop) (A : Option Addr) (m c : Nat) (S : List Sl) (LL : List (List Int)) (w : World) (hv : Sq w P (.slice A m c) m (CS S)) (hm : Mr w RR S LL) (hml : m ≤ 1000) (hl : ∀ L ∈ LL, L.length ≤ 1000) :
    Calls Try.prog 27 #[.slice A m c] w fun e w' => ∃ v' S', e = .returned v' ∧ Ow 33 w' (fun b => w.heap.size ≤ b) v' m (CS S') ∧ Ms w' (fun b => w.heap.size ≤ b) S' LL ∧ Below w.heap.size w w' := by
  obtain ⟨i0, hi, hz0, hz1, hz2⟩ := info_of sl_info
  obtain ⟨i1, ji, jz0, jz1, jz2⟩ := info_of u32_info
  have hmm : LL.length = m := by have := hv.len; rw [hm.len2] at this; exact this
  have HV := Lib.hid hv
  have HM := Lib.hid hm
  have HL : Hid (LL.length = m ∧ m ≤ 1000 ∧ ∀ L ∈ LL, L.length ≤ 1000) := ⟨hmm, hml, hl⟩
  clear hv hm hmm hml hl
  go_enter Try.func27, Try.ntmps27
  go_wp2_with fail
  go_loopw [3, 4] (fun v iv wr => ClR m LL w v iv wr) (fun _ i _ => m - (intOf i).toNat)
  case atStart => exact ⟨⟨0, [], Nat.zero_le _, rfl, Ow.nil _ _ _, Ms.nil _ _, Below.refl _ _⟩⟩
  case round =>
    obtain ⟨⟨j, S', hj, rfl, how, hms, hb⟩⟩ := hrel
    obtain ⟨Av, cv, rfl⟩ := how.sl
    have HO := Lib.hid how
    have HS := Lib.hid hms
    have HB := Lib.hid hb
    clear how hms hb
    by_cases hlt : j < m
    rotate_left
    · have hjm : j = m := by omega
      subst hjm
      clear hlt hj
      go_wp2_with fail
      go_ret
      refine ⟨_, S', rfl, HO.out, ?_, HB.out⟩
      have := HS.out
      rwa [List.take_of_length_le (by have := HL.out; omega)] at this
    have hjI : (j : Int) < (m : Int) := by omega
    have HJ : Hid (j < m) := hlt
    have hj1 : (j : Int) ≤ 1000 := by have := HL.out; omega
    obtain ⟨A', c', L, hs, hl, hsq⟩ := HM.out.get (i := j) (by have := HL.out; omega)
    obtain ⟨b, off, hA, hbl, hc⟩ := sl_at HV.out hlt hs
    subst hA
    have e0 : wr.cell? ⟨b, off + j, none⟩ = some (.slice A' L.length c') := (HB.out.cell hbl).trans hc
    have HLJ : Hid (LL[j]? = some L ∧ L.length ≤ 1000) := ⟨hl, HL.out.2.2 L (List.mem_of_getElem? hl)⟩
    have RD1 : Hid (Reads wr wr.heap.size 1 A' L.length (CU L)) := ((hsq.belowP HB.out).st.reads).2
    have HZ1 := Lib.hid (rowU_new wr)
    have e1 : (wr.alloc (.cells #[] 52)).cell? ⟨b, off + j, none⟩ = some (.slice A' L.length c') := ((Below.refl wr.heap.size wr).alloc (Nat.le_refl _) _).cell (by have := HB.out.size; show b < wr.heap.size; omega) |>.trans e0
    clear hs hl hsq hbl hc hlt hj
    go_wp2_with (at_builtin; refine wpList_append_any _ rfl (.tmp 12) (.tmp 16) _ rfl wr.heap.size 52 i1 _ 1 4 Try.underlying33 ji jz0 jz1 jz2 rfl (by omega) (.slice (some ⟨wr.heap.size, 0, none⟩) 0 0) 0 [] rfl HZ1.out wr.heap.size A' L.length c' (CU L) rfl (RD1.out.alloc (Nat.le_refl _) _) (CU_one _) ?d2 ?d3 ?d4 ?_)
    case d2 => have := HLJ.out; unfold maxLen; omega
    case d3 => have := HLJ.out; omega
    case d4 => simp
    intro rv w2 ho1 hg1 hb1
    have r1 : w2.ownsRow wr.heap.size 52 1 rv L.length (CU L) := by simpa using ho1
    have b2 : Below wr.heap.size wr w2 := ((Below.refl _ _).alloc (Nat.le_refl _) _).grown hg1 (by simp) (fun q hq => by have h' : some wr.heap.size = some q := hq; injection h' with h'; omega)
    obtain ⟨Ar, cr, rfl⟩ := slice_form r1
    have hx : Below w2.heap.size w2 (w2.alloc (.cells #[.slice Ar L.length cr] 33)) := (Below.refl _ _).alloc (Nat.le_refl _) _
    have O3 : Hid (Ow 33 (w2.alloc (.cells #[.slice Ar L.length cr] 33)) (fun b => w.heap.size ≤ b) (.slice Av j cv) j (CS S')) := (HO.out.below b2).below hx
    have M3 : Hid (Ms (w2.alloc (.cells #[.slice Ar L.length cr] 33)) (fun b => w.heap.size ≤ b) S' (LL.take j)) := (HS.out.below b2).below hx
    have HSB : Hid (w.heap.size ≤ wr.heap.size ∧ wr.heap.size ≤ w2.heap.size) := ⟨HB.out.size, b2.size⟩
    have N3 : Hid (Ow 52 (w2.alloc (.cells #[.slice Ar L.length cr] 33)) (fun b => w.heap.size ≤ b) (.slice Ar L.length cr) L.length (CU L)) := ((Ow.of_own r1).below hx).imp fun b _ hb => by have := HB.out.size; omega
    have B3 : Hid (Below w.heap.size w (w2.alloc (.cells #[.slice Ar L.length cr] 33))) := HB.out.trans ((b2.trans (hx.mono b2.size)).mono HB.out.size)
    have RD := Lib.hid (one_row (w := w2) (.slice Ar L.length cr) 33)
    clear r1 b2 hx ho1 hg1 hb1 RD1 HZ1
    go_wp2_with (at_builtin; refine wpList_append_any _ rfl (.tmp 11) (.tmp 18) 27 rfl 0 33 i0 (.slice none 0 0) 1 24 Try.underlying27 hi hz0 hz1 hz2 rfl (by decide) _ _ _ rfl O3.out.own (w2.heap.size + 1) (some ⟨w2.heap.size, 0, none⟩) 1 1 [.slice Ar L.length cr] rfl RD.out ?c2 ?c3 ?c4 ?c5 ?_)
    case c2 => intro u hu; simp at hu; subst hu; rfl
    case c3 => have := HJ.out; have := HL.out; unfold maxLen; omega
    case c4 => have := HJ.out; have := HL.out; omega
    case c5 => omega
    intro v2 w5 hown hgrow hblk
    have G := O3.out.grow hown hgrow (by simpa using hblk)
    have O5 : Hid (Ow 33 w5 (fun b => w.heap.size ≤ b) v2 (j + 1) (CS (S' ++ [(Ar, L.length, cr)]))) := by
      have h1 := G.1.imp (q := fun b => w.heap.size ≤ b) fun b _ hb => by
        rcases hb with hb | hb
        · exact hb
        · have := HSB.out; simp at hb; omega
      unfold Hid
      rw [CS_app]; exact h1
    have hty : Ty (w2.alloc (.cells #[.slice Ar L.length cr] 33)) (fun b => (Value.slice Av j cv).ownBlock = some b) := O3.out.tyb
    have hfo : Fo (fun b => (Value.slice Av j cv).ownBlock = some b) (w2.alloc (.cells #[.slice Ar L.length cr] 33)) w5 := ⟨hgrow.os, hgrow.tape, hgrow.output, hgrow.size, fun k hk hn => hgrow.block k hk (fun e => hn e.symm)⟩
    have M5 : Hid (Ms w5 (fun b => w.heap.size ≤ b) (S' ++ [(Ar, L.length, cr)]) (LL.take (j + 1))) := by
      have h1 : LL.take (j + 1) = LL.take j ++ [L] := by rw [List.take_add_one, HLJ.out.1]; rfl
      unfold Hid
      rw [h1]
      exact (M3.out.fot hfo hty).app (Ms.one (s := (Ar, L.length, cr)) ((Ms.one (s := (Ar, L.length, cr)) N3.out).fot hfo hty |>.at_ 0 _ _ rfl rfl))
    have B5 : Hid (Below w.heap.size w w5) := B3.out.trans (G.2.below (fun b hb => hb) (by have := HSB.out; simp; omega))
    clear hown hgrow hblk G hty hfo O3 M3 N3 RD HO HS HB B3
    go_wp2_with fail
    go_roundw
    case rel =>
      have Q : ClR m LL w v2 (.int .i64 ((j : Int) + 1)) w5 := ⟨⟨j + 1, _, HJ.out, by go_num, O5.out, M5.out, B5.out⟩⟩
      first | exact Q | ((repeat apply Exists.intro); exact ⟨Q, rfl⟩)
    case measure => have := HJ.out; simp [intOf]; omega
set_option maxRecDepth 100000 in
set_option maxHeartbeats 4000000 in
theorem rnew_ok (n k : Int) (w : World) (h1 : 1 ≤ n) (h2 : n ≤ 32) (h3 : 1 ≤ k) (h4 : k ≤ 32) : Calls Try.prog 10 #[.int .i64 n, .int .i64 k] w fun e w' => e = .returned (.tuple #[.agg #[.int .i64 n, .int .i64 k, .slice none 0 0, .bool false], .int .i64 0]) ∧ Below w.heap.size w w' := by
  have h1'' : decide (n < 1) = false := by simpa using h1
  have h2'' : decide (32 < n) = false := by simpa using h2
  have h3'' : decide (k < 1) = false := by simpa using h3
  have h4'' : decide (32 < k) = false := by simpa using h4
  obtain ⟨X, hX⟩ : ∃ X, w.heap.size = X := ⟨_, rfl⟩
  obtain ⟨W0, hW0⟩ : ∃ W0, w.alloc (.cells #[.int .i64 0, .int .i64 0, .slice none 0 0, .bool false] 29) = W0 := ⟨_, rfl⟩
  have HX0 : Hid (W0.heap[X]? = some (.cells #[.int .i64 0, .int .i64 0, .slice none 0 0, .bool false] 29 (0, 0))) := by rw [← hW0, ← hX]; exact heap_alloc_new _ _
  have B0 : Hid (Below X w W0) := by rw [← hW0, ← hX]; exact (Below.refl _ _).alloc (Nat.le_refl _) _
  have x0 : W0.cell? ⟨X, 0, none⟩ = some (.int .i64 0) := by rw [(row_cell HX0.out 0).1]; rfl
  have xf0 : W0.frozen? ⟨X, 0, none⟩ = false := (row_cell HX0.out 0).2
  have x1 : W0.cell? ⟨X, 1, none⟩ = some (.int .i64 0) := by rw [(row_cell HX0.out 1).1]; rfl
  have xf1 : W0.frozen? ⟨X, 1, none⟩ = false := (row_cell HX0.out 1).2
  have x2 : W0.cell? ⟨X, 2, none⟩ = some (.slice none 0 0) := by rw [(row_cell HX0.out 2).1]; rfl
  have xf2 : W0.frozen? ⟨X, 2, none⟩ = false := (row_cell HX0.out 2).2
  have x3 : W0.cell? ⟨X, 3, none⟩ = some (.bool false) := by rw [(row_cell HX0.out 3).1]; rfl
  have xf3 : W0.frozen? ⟨X, 3, none⟩ = false := (row_cell HX0.out 3).2
  rw [hX]
  clear h1 h2 h3 h4
  go_enter Try.func10, Try.ntmps10
  go_wp2_with fail
  refine bodyPost_ret (results_cell_tmp rfl _ _ X _ _ rfl (set_four HX0.out _ _ _ _) Try.underlying29 rfl (by kernel_rfl)) rfl ?_
  exact ⟨rfl, ((((B0.out.setCell (Nat.le_refl _) _).setCell (Nat.le_refl _) _).setCell (Nat.le_refl _) _).setCell (Nat.le_refl _) _)⟩
set_option maxRecDepth 100000 in
set_option maxHeartbeats 4000000 in
theorem rnew_bad (n k : Int) (w : World) (h : ¬ (1 ≤ n ∧ n ≤ 32 ∧ 1 ≤ k ∧ k ≤ 32)) : Calls Try.prog 10 #[.int .i64 n, .int .i64 k] w fun e w' => e = .returned (.tuple #[.agg #[.int .i64 0, .int .i64 0, .slice none 0 0, .bool false], .int .i64 2]) ∧ Below w.heap.size w w' := by
  obtain ⟨X, hX⟩ : ∃ X, w.heap.size = X := ⟨_, rfl⟩
  obtain ⟨W0, hW0⟩ : ∃ W0, w.alloc (.cells #[.int .i64 0, .int .i64 0, .slice none 0 0, .bool false] 29) = W0 := ⟨_, rfl⟩
  have HX0 : Hid (W0.heap[X]? = some (.cells #[.int .i64 0, .int .i64 0, .slice none 0 0, .bool false] 29 (0, 0))) := by rw [← hW0, ← hX]; exact heap_alloc_new _ _
  have B0 : Hid (Below X w W0) := by rw [← hW0, ← hX]; exact (Below.refl _ _).alloc (Nat.le_refl _) _
  have x0 : W0.cell? ⟨X, 0, none⟩ = some (.int .i64 0) := by rw [(row_cell HX0.out 0).1]; rfl
  have xf0 : W0.frozen? ⟨X, 0, none⟩ = false := (row_cell HX0.out 0).2
  have x1 : W0.cell? ⟨X, 1, none⟩ = some (.int .i64 0) := by rw [(row_cell HX0.out 1).1]; rfl
  have xf1 : W0.frozen? ⟨X, 1, none⟩ = false := (row_cell HX0.out 1).2
  have x2 : W0.cell? ⟨X, 2, none⟩ = some (.slice none 0 0) := by rw [(row_cell HX0.out 2).1]; rfl
  have xf2 : W0.frozen? ⟨X, 2, none⟩ = false := (row_cell HX0.out 2).2
  have x3 : W0.cell? ⟨X, 3, none⟩ = some (.bool false) := by rw [(row_cell HX0.out 3).1]; rfl
  have xf3 : W0.frozen? ⟨X, 3, none⟩ = false := (row_cell HX0.out 3).2
  rw [hX]
  by_cases h0 : n < 1
  · have g0 : decide (n < 1) = true := by simpa using h0
    clear h
    go_enter Try.func10, Try.ntmps10
    go_wp2_with fail
    refine bodyPost_ret (results_cell_tmp rfl _ _ X _ _ rfl (set_four HX0.out _ _ _ _) Try.underlying29 rfl (by kernel_rfl)) rfl ?_
    exact ⟨rfl, ((((B0.out.setCell (Nat.le_refl _) _).setCell (Nat.le_refl _) _).setCell (Nat.le_refl _) _).setCell (Nat.le_refl _) _)⟩
  have g0 : decide (n < 1) = false := by simpa using h0
  by_cases h1 : 32 < n
  · have g1 : decide (32 < n) = true := by simpa using h1
    clear h
    go_enter Try.func10, Try.ntmps10
    go_wp2_with fail
    refine bodyPost_ret (results_cell_tmp rfl _ _ X _ _ rfl (set_four HX0.out _ _ _ _) Try.underlying29 rfl (by kernel_rfl)) rfl ?_
    exact ⟨rfl, ((((B0.out.setCell (Nat.le_refl _) _).setCell (Nat.le_refl _) _).setCell (Nat.le_refl _) _).setCell (Nat.le_refl _) _)⟩
  have g1 : decide (32 < n) = false := by simpa using h1
  by_cases h2 : k < 1
  · have g2 : decide (k < 1) = true := by simpa using h2
    clear h
    go_enter Try.func10, Try.ntmps10
    go_wp2_with fail
    refine bodyPost_ret (results_cell_tmp rfl _ _ X _ _ rfl (set_four HX0.out _ _ _ _) Try.underlying29 rfl (by kernel_rfl)) rfl ?_
    exact ⟨rfl, ((((B0.out.setCell (Nat.le_refl _) _).setCell (Nat.le_refl _) _).setCell (Nat.le_refl _) _).setCell (Nat.le_refl _) _)⟩
  have g2 : decide (k < 1) = false := by simpa using h2
  have h3 : 32 < k := by omega
  have g3 : decide (32 < k) = true := by simpa using h3
  clear h
  go_enter Try.func10, Try.ntmps10
  go_wp2_with fail
  refine bodyPost_ret (results_cell_tmp rfl _ _ X _ _ rfl (set_four HX0.out _ _ _ _) Try.underlying29 rfl (by kernel_rfl)) rfl ?_
  exact ⟨rfl, ((((B0.out.setCell (Nat.le_refl _) _).setCell (Nat.le_refl _) _).setCell (Nat.le_refl _) _).setCell (Nat.le_refl _) _)⟩
set_option maxRecDepth 100000 in
set_option maxHeartbeats 4000000 in
theorem rput_big (n k : Int) (Ar : Option Addr) (nr cr : Nat) (lost : Bool) (Ak : Option Addr) (nk ck : Nat) (pu : Bool) (w : World) (hk : n < (nk : Int)) :
    Calls Try.prog 13 #[.agg #[.int .i64 n, .int .i64 k, .slice Ar nr cr, .bool lost], .slice Ak nk ck, .bool pu] w fun e w' => e = .returned (.tuple #[.agg #[.int .i64 n, .int .i64 k, .slice Ar nr cr, .bool lost], .int .i64 2]) ∧ Below w.heap.size w w' := by
  obtain ⟨X, hX⟩ : ∃ X, w.heap.size = X := ⟨_, rfl⟩
  obtain ⟨W0, hW0⟩ : ∃ W0, (w.alloc (.cells #[.int .i64 n, .int .i64 k, .slice Ar nr cr, .bool lost] 29)).alloc (.cells #[.int .i64 0, .int .i64 0, .slice none 0 0, .bool false] 29) = W0 := ⟨_, rfl⟩
  have B0 : Hid (Below X w W0) := by rw [← hW0, ← hX]; exact (((Below.refl _ _).alloc (Nat.le_refl _) _).alloc (by simp) _)
  have S0 : Hid (W0.heap.size = X + 2) := by unfold Hid; rw [← hW0, ← hX]; simp
  have HX0 : Hid (W0.heap[X]? = some (.cells #[.int .i64 n, .int .i64 k, .slice Ar nr cr, .bool lost] 29 (0, 0))) := by
    rw [← hW0, ← hX]; exact (((Below.refl _ _).alloc (Nat.le_refl _) _).block _ (by simp)).trans (heap_alloc_new _ _)
  have HY0 : Hid (W0.heap[X + 1]? = some (.cells #[.int .i64 0, .int .i64 0, .slice none 0 0, .bool false] 29 (0, 0))) := by
    rw [← hW0, ← hX]; have := heap_alloc_new (w.alloc (.cells #[.int .i64 n, .int .i64 k, .slice Ar nr cr, .bool lost] 29)) (.cells #[.int .i64 0, .int .i64 0, .slice none 0 0, .bool false] 29); unfold Hid; simpa using this
  have x0 : W0.cell? ⟨X, 0, none⟩ = some (.int .i64 n) := by rw [(row_cell HX0.out 0).1]; rfl
  have xf0 : W0.frozen? ⟨X, 0, none⟩ = false := (row_cell HX0.out 0).2
  have x1 : W0.cell? ⟨X, 1, none⟩ = some (.int .i64 k) := by rw [(row_cell HX0.out 1).1]; rfl
  have xf1 : W0.frozen? ⟨X, 1, none⟩ = false := (row_cell HX0.out 1).2
  have x2 : W0.cell? ⟨X, 2, none⟩ = some (.slice Ar nr cr) := by rw [(row_cell HX0.out 2).1]; rfl
  have xf2 : W0.frozen? ⟨X, 2, none⟩ = false := (row_cell HX0.out 2).2
  have x3 : W0.cell? ⟨X, 3, none⟩ = some (.bool lost) := by rw [(row_cell HX0.out 3).1]; rfl
  have xf3 : W0.frozen? ⟨X, 3, none⟩ = false := (row_cell HX0.out 3).2
  have y0 : W0.cell? ⟨X + 1, 0, none⟩ = some (.int .i64 0) := by rw [(row_cell HY0.out 0).1]; rfl
  have yf0 : W0.frozen? ⟨X + 1, 0, none⟩ = false := (row_cell HY0.out 0).2
  have y1 : W0.cell? ⟨X + 1, 1, none⟩ = some (.int .i64 0) := by rw [(row_cell HY0.out 1).1]; rfl
  have yf1 : W0.frozen? ⟨X + 1, 1, none⟩ = false := (row_cell HY0.out 1).2
  have y2 : W0.cell? ⟨X + 1, 2, none⟩ = some (.slice none 0 0) := by rw [(row_cell HY0.out 2).1]; rfl
  have yf2 : W0.frozen? ⟨X + 1, 2, none⟩ = false := (row_cell HY0.out 2).2
  have y3 : W0.cell? ⟨X + 1, 3, none⟩ = some (.bool false) := by rw [(row_cell HY0.out 3).1]; rfl
  have yf3 : W0.frozen? ⟨X + 1, 3, none⟩ = false := (row_cell HY0.out 3).2
  rw [hX]
  have hgt : decide (n < (nk : Int)) = true := by simpa using hk
  go_enter Try.func13, Try.ntmps13
  go_wp2_with fail
  refine bodyPost_ret (results_cell_tmp rfl _ _ (X + 1) _ _ rfl (set_four HY0.out _ _ _ _) Try.underlying29 rfl (by kernel_rfl)) rfl ?_
  exact ⟨rfl, ((((B0.out.setCell (by exact Nat.le_succ _) _).setCell (by exact Nat.le_succ _) _).setCell (by exact Nat.le_succ _) _).setCell (by exact Nat.le_succ _) _)⟩
set_option maxRecDepth 100000 in
set_option maxHeartbeats 4000000 in
theorem rput_full (n k : Int) (Ar : Option Addr) (nr cr : Nat) (lost : Bool) (Ak : Option Addr) (nk ck : Nat) (w : World) (hk : ¬ n < (nk : Int)) (hf : (nr : Int) = k) :
    Calls Try.prog 13 #[.agg #[.int .i64 n, .int .i64 k, .slice Ar nr cr, .bool lost], .slice Ak nk ck, .bool false] w fun e w' => e = .returned (.tuple #[.agg #[.int .i64 n, .int .i64 k, .slice Ar nr cr, .bool lost], .int .i64 8]) ∧ Below w.heap.size w w' := by
  obtain ⟨X, hX⟩ : ∃ X, w.heap.size = X := ⟨_, rfl⟩
  obtain ⟨W0, hW0⟩ : ∃ W0, (w.alloc (.cells #[.int .i64 n, .int .i64 k, .slice Ar nr cr, .bool lost] 29)).alloc (.cells #[.int .i64 0, .int .i64 0, .slice none 0 0, .bool false] 29) = W0 := ⟨_, rfl⟩
  have B0 : Hid (Below X w W0) := by rw [← hW0, ← hX]; exact (((Below.refl _ _).alloc (Nat.le_refl _) _).alloc (by simp) _)
  have S0 : Hid (W0.heap.size = X + 2) := by unfold Hid; rw [← hW0, ← hX]; simp
  have HX0 : Hid (W0.heap[X]? = some (.cells #[.int .i64 n, .int .i64 k, .slice Ar nr cr, .bool lost] 29 (0, 0))) := by
    rw [← hW0, ← hX]; exact (((Below.refl _ _).alloc (Nat.le_refl _) _).block _ (by simp)).trans (heap_alloc_new _ _)
  have HY0 : Hid (W0.heap[X + 1]? = some (.cells #[.int .i64 0, .int .i64 0, .slice none 0 0, .bool false] 29 (0, 0))) := by
    rw [← hW0, ← hX]; have := heap_alloc_new (w.alloc (.cells #[.int .i64 n, .int .i64 k, .slice Ar nr cr, .bool lost] 29)) (.cells #[.int .i64 0, .int .i64 0, .slice none 0 0, .bool false] 29); unfold Hid; simpa using this
  have x0 : W0.cell? ⟨X, 0, none⟩ = some (.int .i64 n) := by rw [(row_cell HX0.out 0).1]; rfl
  have xf0 : W0.frozen? ⟨X, 0, none⟩ = false := (row_cell HX0.out 0).2
  have x1 : W0.cell? ⟨X, 1, none⟩ = some (.int .i64 k) := by rw [(row_cell HX0.out 1).1]; rfl
  have xf1 : W0.frozen? ⟨X, 1, none⟩ = false := (row_cell HX0.out 1).2
  have x2 : W0.cell? ⟨X, 2, none⟩ = some (.slice Ar nr cr) := by rw [(row_cell HX0.out 2).1]; rfl
  have xf2 : W0.frozen? ⟨X, 2, none⟩ = false := (row_cell HX0.out 2).2
  have x3 : W0.cell? ⟨X, 3, none⟩ = some (.bool lost) := by rw [(row_cell HX0.out 3).1]; rfl
  have xf3 : W0.frozen? ⟨X, 3, none⟩ = false := (row_cell HX0.out 3).2
  have y0 : W0.cell? ⟨X + 1, 0, none⟩ = some (.int .i64 0) := by rw [(row_cell HY0.out 0).1]; rfl
  have yf0 : W0.frozen? ⟨X + 1, 0, none⟩ = false := (row_cell HY0.out 0).2
  have y1 : W0.cell? ⟨X + 1, 1, none⟩ = some (.int .i64 0) := by rw [(row_cell HY0.out 1).1]; rfl
  have yf1 : W0.frozen? ⟨X + 1, 1, none⟩ = false := (row_cell HY0.out 1).2
  have y2 : W0.cell? ⟨X + 1, 2, none⟩ = some (.slice none 0 0) := by rw [(row_cell HY0.out 2).1]; rfl
  have yf2 : W0.frozen? ⟨X + 1, 2, none⟩ = false := (row_cell HY0.out 2).2
  have y3 : W0.cell? ⟨X + 1, 3, none⟩ = some (.bool false) := by rw [(row_cell HY0.out 3).1]; rfl
  have yf3 : W0.frozen? ⟨X + 1, 3, none⟩ = false := (row_cell HY0.out 3).2
  rw [hX]
  have hgt : decide (n < (nk : Int)) = false := by simpa using hk
  have hfb : ((nr : Int) == k) = true := by simpa using hf
  clear hf
  go_enter Try.func13, Try.ntmps13
  go_wp2_with fail
  refine bodyPost_ret (results_cell_tmp rfl _ _ (X + 1) _ _ rfl (set_four HY0.out _ _ _ _) Try.underlying29 rfl (by kernel_rfl)) rfl ?_
  exact ⟨rfl, ((((B0.out.setCell (by exact Nat.le_succ _) _).setCell (by exact Nat.le_succ _) _).setCell (by exact Nat.le_succ _) _).setCell (by exact Nat.le_succ _) _)⟩
set_option maxRecDepth 100000 in
set_option maxHeartbeats 4000000 in
theorem rput_lost (n k : Int) (Ar : Option Addr) (nr cr : Nat) (lost : Bool) (Ak : Option Addr) (nk ck : Nat) (w : World) (hk : ¬ n < (nk : Int)) (hf : (nr : Int) = k) :
    Calls Try.prog 13 #[.agg #[.int .i64 n, .int .i64 k, .slice Ar nr cr, .bool lost], .slice Ak nk ck, .bool true] w fun e w' => e = .returned (.tuple #[.agg #[.int .i64 n, .int .i64 k, .slice Ar nr cr, .bool true], .int .i64 17]) ∧ Below w.heap.size w w' := by
  obtain ⟨X, hX⟩ : ∃ X, w.heap.size = X := ⟨_, rfl⟩
  obtain ⟨W0, hW0⟩ : ∃ W0, (w.alloc (.cells #[.int .i64 n, .int .i64 k, .slice Ar nr cr, .bool lost] 29)).alloc (.cells #[.int .i64 0, .int .i64 0, .slice none 0 0, .bool false] 29) = W0 := ⟨_, rfl⟩
  have B0 : Hid (Below X w W0) := by rw [← hW0, ← hX]; exact (((Below.refl _ _).alloc (Nat.le_refl _) _).alloc (by simp) _)
  have S0 : Hid (W0.heap.size = X + 2) := by unfold Hid; rw [← hW0, ← hX]; simp
  have HX0 : Hid (W0.heap[X]? = some (.cells #[.int .i64 n, .int .i64 k, .slice Ar nr cr, .bool lost] 29 (0, 0))) := by
    rw [← hW0, ← hX]; exact (((Below.refl _ _).alloc (Nat.le_refl _) _).block _ (by simp)).trans (heap_alloc_new _ _)
  have HY0 : Hid (W0.heap[X + 1]? = some (.cells #[.int .i64 0, .int .i64 0, .slice none 0 0, .bool false] 29 (0, 0))) := by
    rw [← hW0, ← hX]; have := heap_alloc_new (w.alloc (.cells #[.int .i64 n, .int .i64 k, .slice Ar nr cr, .bool lost] 29)) (.cells #[.int .i64 0, .int .i64 0, .slice none 0 0, .bool false] 29); unfold Hid; simpa using this
  have x0 : W0.cell? ⟨X, 0, none⟩ = some (.int .i64 n) := by rw [(row_cell HX0.out 0).1]; rfl
  have xf0 : W0.frozen? ⟨X, 0, none⟩ = false := (row_cell HX0.out 0).2
  have x1 : W0.cell? ⟨X, 1, none⟩ = some (.int .i64 k) := by rw [(row_cell HX0.out 1).1]; rfl
  have xf1 : W0.frozen? ⟨X, 1, none⟩ = false := (row_cell HX0.out 1).2
  have x2 : W0.cell? ⟨X, 2, none⟩ = some (.slice Ar nr cr) := by rw [(row_cell HX0.out 2).1]; rfl
  have xf2 : W0.frozen? ⟨X, 2, none⟩ = false := (row_cell HX0.out 2).2
  have x3 : W0.cell? ⟨X, 3, none⟩ = some (.bool lost) := by rw [(row_cell HX0.out 3).1]; rfl
  have xf3 : W0.frozen? ⟨X, 3, none⟩ = false := (row_cell HX0.out 3).2
  have y0 : W0.cell? ⟨X + 1, 0, none⟩ = some (.int .i64 0) := by rw [(row_cell HY0.out 0).1]; rfl
  have yf0 : W0.frozen? ⟨X + 1, 0, none⟩ = false := (row_cell HY0.out 0).2
  have y1 : W0.cell? ⟨X + 1, 1, none⟩ = some (.int .i64 0) := by rw [(row_cell HY0.out 1).1]; rfl
  have yf1 : W0.frozen? ⟨X + 1, 1, none⟩ = false := (row_cell HY0.out 1).2
  have y2 : W0.cell? ⟨X + 1, 2, none⟩ = some (.slice none 0 0) := by rw [(row_cell HY0.out 2).1]; rfl
  have yf2 : W0.frozen? ⟨X + 1, 2, none⟩ = false := (row_cell HY0.out 2).2
  have y3 : W0.cell? ⟨X + 1, 3, none⟩ = some (.bool false) := by rw [(row_cell HY0.out 3).1]; rfl
  have yf3 : W0.frozen? ⟨X + 1, 3, none⟩ = false := (row_cell HY0.out 3).2
  rw [hX]
  have hgt : decide (n < (nk : Int)) = false := by simpa using hk
  have hfb : ((nr : Int) == k) = true := by simpa using hf
  obtain ⟨W3, hW3⟩ : ∃ W3, W0.setCell ⟨X, 3, none⟩ (.bool true) = W3 := ⟨_, rfl⟩
  have X3 : Hid (W3.heap[X]? = some (.cells #[.int .i64 n, .int .i64 k, .slice Ar nr cr, .bool true] 29 (0, 0))) := by rw [← hW3]; exact set_at HX0.out 3 _
  have Y3 : Hid (W3.heap[X + 1]? = some (.cells #[.int .i64 0, .int .i64 0, .slice none 0 0, .bool false] 29 (0, 0))) := by rw [← hW3]; exact (set_far 3 _ (by omega)).trans HY0.out
  have B3 : Hid (Below X w W3) := by rw [← hW3]; exact B0.out.setCell (Nat.le_refl _) _
  clear hf
  have r0 : W3.cell? ⟨X, 0, none⟩ = some (.int .i64 n) := by rw [(row_cell X3.out 0).1]; rfl
  have rf0 : W3.frozen? ⟨X, 0, none⟩ = false := (row_cell X3.out 0).2
  have r1 : W3.cell? ⟨X, 1, none⟩ = some (.int .i64 k) := by rw [(row_cell X3.out 1).1]; rfl
  have rf1 : W3.frozen? ⟨X, 1, none⟩ = false := (row_cell X3.out 1).2
  have r2 : W3.cell? ⟨X, 2, none⟩ = some (.slice Ar nr cr) := by rw [(row_cell X3.out 2).1]; rfl
  have rf2 : W3.frozen? ⟨X, 2, none⟩ = false := (row_cell X3.out 2).2
  have r3 : W3.cell? ⟨X, 3, none⟩ = some (.bool true) := by rw [(row_cell X3.out 3).1]; rfl
  have rf3 : W3.frozen? ⟨X, 3, none⟩ = false := (row_cell X3.out 3).2
  have s0 : W3.cell? ⟨X + 1, 0, none⟩ = some (.int .i64 0) := by rw [(row_cell Y3.out 0).1]; rfl
  have sf0 : W3.frozen? ⟨X + 1, 0, none⟩ = false := (row_cell Y3.out 0).2
  have s1 : W3.cell? ⟨X + 1, 1, none⟩ = some (.int .i64 0) := by rw [(row_cell Y3.out 1).1]; rfl
  have sf1 : W3.frozen? ⟨X + 1, 1, none⟩ = false := (row_cell Y3.out 1).2
  have s2 : W3.cell? ⟨X + 1, 2, none⟩ = some (.slice none 0 0) := by rw [(row_cell Y3.out 2).1]; rfl
  have sf2 : W3.frozen? ⟨X + 1, 2, none⟩ = false := (row_cell Y3.out 2).2
  have s3 : W3.cell? ⟨X + 1, 3, none⟩ = some (.bool false) := by rw [(row_cell Y3.out 3).1]; rfl
  have sf3 : W3.frozen? ⟨X + 1, 3, none⟩ = false := (row_cell Y3.out 3).2
  go_enter Try.func13, Try.ntmps13
  go_wp2_with fail
  refine bodyPost_ret (results_cell_tmp rfl _ _ (X + 1) _ _ rfl (set_four Y3.out _ _ _ _) Try.underlying29 rfl (by kernel_rfl)) rfl ?_
  exact ⟨rfl, ((((B3.out.setCell (by exact Nat.le_succ _) _).setCell (by exact Nat.le_succ _) _).setCell (by exact Nat.le_succ _) _).setCell (by exact Nat.le_succ _) _)⟩
set_option maxRecDepth 100000 in
set_option maxHeartbeats 8000000 in
theorem rput_ok (n k : Int) (Ar : Option Addr) (nr cr : Nat) (lost : Bool) (P RR PK : Nat → Prop) (S : List Sl) (LM : List (List Int)) (Ak : Option Addr) (nk ck : Nat) (K : List Int) (pu : Bool) (w : World) (hv : Sq w P (.slice Ar nr cr) nr (CS S)) (hm : Mr w RR S LM) (hml : nr ≤ 1000) (hl : ∀ L ∈ LM, L.length ≤ 1000) (hkq : Sq w PK (.slice Ak nk ck) nk (CU K)) (hnk : nk ≤ 1000) (hk : ¬ n < (nk : Int)) (hf : ¬ (nr : Int) = k) :
    Calls Try.prog 13 #[.agg #[.int .i64 n, .int .i64 k, .slice Ar nr cr, .bool lost], .slice Ak nk ck, .bool pu] w fun e w' => ∃ A' c' S', e = .returned (.tuple #[.agg #[.int .i64 n, .int .i64 k, .slice A' (nr + 1) c', .bool lost], .int .i64 0]) ∧ Ow 33 w' (fun b => w.heap.size ≤ b) (.slice A' (nr + 1) c') (nr + 1) (CS S') ∧ Ms w' (fun b => w.heap.size ≤ b) S' (LM ++ [K]) ∧ Below w.heap.size w w' := by
  obtain ⟨i0, hi, hz0, hz1, hz2⟩ := info_of sl_info
  obtain ⟨i1, ji, jz0, jz1, jz2⟩ := info_of u32_info
  obtain ⟨X, hX⟩ : ∃ X, w.heap.size = X := ⟨_, rfl⟩
  obtain ⟨W0, hW0⟩ : ∃ W0, (w.alloc (.cells #[.int .i64 n, .int .i64 k, .slice Ar nr cr, .bool lost] 29)).alloc (.cells #[.int .i64 0, .int .i64 0, .slice none 0 0, .bool false] 29) = W0 := ⟨_, rfl⟩
  have B0 : Hid (Below X w W0) := by rw [← hW0, ← hX]; exact (((Below.refl _ _).alloc (Nat.le_refl _) _).alloc (by simp) _)
  have S0 : Hid (W0.heap.size = X + 2) := by unfold Hid; rw [← hW0, ← hX]; simp
  have HX0 : Hid (W0.heap[X]? = some (.cells #[.int .i64 n, .int .i64 k, .slice Ar nr cr, .bool lost] 29 (0, 0))) := by
    rw [← hW0, ← hX]; exact (((Below.refl _ _).alloc (Nat.le_refl _) _).block _ (by simp)).trans (heap_alloc_new _ _)
  have HY0 : Hid (W0.heap[X + 1]? = some (.cells #[.int .i64 0, .int .i64 0, .slice none 0 0, .bool false] 29 (0, 0))) := by
    rw [← hW0, ← hX]; have := heap_alloc_new (w.alloc (.cells #[.int .i64 n, .int .i64 k, .slice Ar nr cr, .bool lost] 29)) (.cells #[.int .i64 0, .int .i64 0, .slice none 0 0, .bool false] 29); unfold Hid; simpa using this
  have x0 : W0.cell? ⟨X, 0, none⟩ = some (.int .i64 n) := by rw [(row_cell HX0.out 0).1]; rfl
  have xf0 : W0.frozen? ⟨X, 0, none⟩ = false := (row_cell HX0.out 0).2
  have x1 : W0.cell? ⟨X, 1, none⟩ = some (.int .i64 k) := by rw [(row_cell HX0.out 1).1]; rfl
  have xf1 : W0.frozen? ⟨X, 1, none⟩ = false := (row_cell HX0.out 1).2
  have x2 : W0.cell? ⟨X, 2, none⟩ = some (.slice Ar nr cr) := by rw [(row_cell HX0.out 2).1]; rfl
  have xf2 : W0.frozen? ⟨X, 2, none⟩ = false := (row_cell HX0.out 2).2
  have x3 : W0.cell? ⟨X, 3, none⟩ = some (.bool lost) := by rw [(row_cell HX0.out 3).1]; rfl
  have xf3 : W0.frozen? ⟨X, 3, none⟩ = false := (row_cell HX0.out 3).2
  have y0 : W0.cell? ⟨X + 1, 0, none⟩ = some (.int .i64 0) := by rw [(row_cell HY0.out 0).1]; rfl
  have yf0 : W0.frozen? ⟨X + 1, 0, none⟩ = false := (row_cell HY0.out 0).2
  have y1 : W0.cell? ⟨X + 1, 1, none⟩ = some (.int .i64 0) := by rw [(row_cell HY0.out 1).1]; rfl
  have yf1 : W0.frozen? ⟨X + 1, 1, none⟩ = false := (row_cell HY0.out 1).2
  have y2 : W0.cell? ⟨X + 1, 2, none⟩ = some (.slice none 0 0) := by rw [(row_cell HY0.out 2).1]; rfl
  have yf2 : W0.frozen? ⟨X + 1, 2, none⟩ = false := (row_cell HY0.out 2).2
  have y3 : W0.cell? ⟨X + 1, 3, none⟩ = some (.bool false) := by rw [(row_cell HY0.out 3).1]; rfl
  have yf3 : W0.frozen? ⟨X + 1, 3, none⟩ = false := (row_cell HY0.out 3).2
  have CC := Lib.hid (copies_any P RR Ar nr cr S LM W0 (hv.belowP (by rw [hX]; exact B0.out)) (hm.below (by rw [hX]; exact B0.out)) hml hl)
  have HKQ : Hid (Sq W0 PK (.slice Ak nk ck) nk (CU K)) := hkq.belowP (by rw [hX]; exact B0.out)
  have HN : Hid (nk ≤ 1000 ∧ nr ≤ 1000) := ⟨hnk, hml⟩
  have hlk : K.length = nk := by have := hkq.len; simpa [CU] using this
  have HLK := Lib.hid hlk
  rw [hX]
  have hgt : decide (n < (nk : Int)) = false := by simpa using hk
  have hfb : ((nr : Int) == k) = false := by rw [beq_eq_false_iff_ne]; exact hf
  clear hv hm hml hl hkq hnk hlk hk
  go_enter Try.func13, Try.ntmps13
  go_wp2_with fail
  refine CC.out.mono ?_
  rintro e w1 ⟨v1, S1, rfl, o1, m1, b1⟩
  obtain ⟨A1, c1, rfl⟩ := o1.sl
  have O1 := Lib.hid o1
  have M1 := Lib.hid m1
  have B1 := Lib.hid b1
  have RD1 : Hid (Reads w1 w1.heap.size 1 Ak nk (CU K)) := ((HKQ.out.belowP b1).st.reads).2
  have HZ1 := Lib.hid (rowU_new w1)
  clear o1 m1 b1 CC HKQ
  go_wp2_with (at_builtin; refine wpList_append_any _ rfl (.tmp 27) (.tmp 28) _ rfl w1.heap.size 52 i1 _ 1 4 Try.underlying33 ji jz0 jz1 jz2 rfl (by omega) (.slice (some ⟨w1.heap.size, 0, none⟩) 0 0) 0 [] rfl HZ1.out w1.heap.size Ak nk ck (CU K) rfl (RD1.out.alloc (Nat.le_refl _) _) (CU_one _) ?d2 ?d3 ?d4 ?_)
  case d2 => have := HN.out; unfold maxLen; omega
  case d3 => have := HN.out; omega
  case d4 => simp
  intro rv w2 ho1 hg1 hb1
  have r1 : w2.ownsRow w1.heap.size 52 1 rv nk (CU K) := by simpa using ho1
  have b2 : Below w1.heap.size w1 w2 := ((Below.refl _ _).alloc (Nat.le_refl _) _).grown hg1 (by simp) (fun q hq => by have h' : some w1.heap.size = some q := hq; injection h' with h'; omega)
  obtain ⟨Aq, cq, rfl⟩ := slice_form r1
  have hx : Below w2.heap.size w2 (w2.alloc (.cells #[.slice Aq nk cq] 33)) := (Below.refl _ _).alloc (Nat.le_refl _) _
  have O3 : Hid (Ow 33 (w2.alloc (.cells #[.slice Aq nk cq] 33)) (fun b => W0.heap.size ≤ b) (.slice A1 nr c1) nr (CS S1)) := (O1.out.below b2).below hx
  have M3 : Hid (Ms (w2.alloc (.cells #[.slice Aq nk cq] 33)) (fun b => W0.heap.size ≤ b) S1 LM) := (M1.out.below b2).below hx
  have HSB : Hid (W0.heap.size ≤ w1.heap.size ∧ w1.heap.size ≤ w2.heap.size) := ⟨B1.out.size, b2.size⟩
  have N3 : Hid (Ow 52 (w2.alloc (.cells #[.slice Aq nk cq] 33)) (fun b => W0.heap.size ≤ b) (.slice Aq nk cq) nk (CU K)) := ((Ow.of_own r1).below hx).imp fun b _ hb => by have := B1.out.size; omega
  have B3 : Hid (Below W0.heap.size W0 (w2.alloc (.cells #[.slice Aq nk cq] 33))) := B1.out.trans ((b2.trans (hx.mono b2.size)).mono B1.out.size)
  have RD := Lib.hid (one_row (w := w2) (.slice Aq nk cq) 33)
  clear r1 b2 hx ho1 hg1 hb1 RD1 HZ1 O1 M1 B1
  go_wp2_with (at_builtin; refine wpList_append_any _ rfl (.tmp 26) (.tmp 30) 27 rfl 0 33 i0 (.slice none 0 0) 1 24 Try.underlying27 hi hz0 hz1 hz2 rfl (by decide) _ _ _ rfl O3.out.own (w2.heap.size + 1) (some ⟨w2.heap.size, 0, none⟩) 1 1 [.slice Aq nk cq] rfl RD.out ?c2 ?c3 ?c4 ?c5 ?_)
  case c2 => intro u hu; simp at hu; subst hu; rfl
  case c3 => have := HN.out; unfold maxLen; omega
  case c4 => have := HN.out; omega
  case c5 => omega
  intro v2 w5 hown hgrow hblk
  obtain ⟨A2, c2, rfl⟩ := slice_form hown
  have G := O3.out.grow hown hgrow (by simpa using hblk)
  have O5 : Hid (Ow 33 w5 (fun b => W0.heap.size ≤ b) (.slice A2 (nr + 1) c2) (nr + 1) (CS (S1 ++ [(Aq, nk, cq)]))) := by
    have h1 := G.1.imp (q := fun b => W0.heap.size ≤ b) fun b _ hb => by
      rcases hb with hb | hb
      · exact hb
      · have := HSB.out; simp at hb; omega
    unfold Hid
    rw [CS_app]; exact h1
  have hty := O3.out.tyb
  have hfo : Fo (fun b => (Value.slice A1 nr c1).ownBlock = some b) (w2.alloc (.cells #[.slice Aq nk cq] 33)) w5 := ⟨hgrow.os, hgrow.tape, hgrow.output, hgrow.size, fun k hk hn => hgrow.block k hk (fun e => hn e.symm)⟩
  have M5 : Hid (Ms w5 (fun b => W0.heap.size ≤ b) (S1 ++ [(Aq, nk, cq)]) (LM ++ [K])) := by
    have hN : Ow 52 (w2.alloc (.cells #[.slice Aq nk cq] 33)) (fun b => W0.heap.size ≤ b) (slv (Aq, nk, cq)) K.length (CU K) := by rw [HLK.out]; exact N3.out
    exact (M3.out.app (Ms.one hN)).fot hfo hty
  have B5 : Hid (Below W0.heap.size W0 w5) := B3.out.trans (G.2.below (fun b hb => hb) (by have := HSB.out; simp; omega))
  clear hown hgrow hblk G hty hfo O3 M3 N3 RD B3
  have X5 : Hid (w5.heap[X]? = some (.cells #[.int .i64 n, .int .i64 k, .slice Ar nr cr, .bool lost] 29 (0, 0))) := (B5.out.block X (by have := S0.out; omega)).trans HX0.out
  have Y5 : Hid (w5.heap[X + 1]? = some (.cells #[.int .i64 0, .int .i64 0, .slice none 0 0, .bool false] 29 (0, 0))) := (B5.out.block (X + 1) (by have := S0.out; omega)).trans HY0.out
  obtain ⟨W3, hW3⟩ : ∃ W3, w5.setCell ⟨X, 2, none⟩ (.slice A2 (nr + 1) c2) = W3 := ⟨_, rfl⟩
  have X3 : Hid (W3.heap[X]? = some (.cells #[.int .i64 n, .int .i64 k, .slice A2 (nr + 1) c2, .bool lost] 29 (0, 0))) := by rw [← hW3]; exact set_at X5.out 2 _
  have Y3 : Hid (W3.heap[X + 1]? = some (.cells #[.int .i64 0, .int .i64 0, .slice none 0 0, .bool false] 29 (0, 0))) := by rw [← hW3]; exact (set_far 2 _ (by omega)).trans Y5.out
  have B3 : Hid (Below X w W3) := by rw [← hW3]; exact (B0.out.trans (B5.out.mono (by have := S0.out; omega))).setCell (Nat.le_refl _) _
  have hf3 : Fo (fun b => b = X ∨ b = X + 1) w5 W3 := by rw [← hW3]; exact (Fo.refl _ _).setCell (.inl (.inl rfl)) 2 _
  have O3 : Hid (Ow 33 W3 (fun b => W0.heap.size ≤ b) (.slice A2 (nr + 1) c2) (nr + 1) (CS (S1 ++ [(Aq, nk, cq)]))) := O5.out.fo hf3 (fun b hb e => by have := S0.out; omega)
  have M3 : Hid (Ms W3 (fun b => W0.heap.size ≤ b) (S1 ++ [(Aq, nk, cq)]) (LM ++ [K])) := M5.out.fo hf3 (fun b hb e => by have := S0.out; omega)
  clear hf3 x0 xf0 x1 xf1 x2 xf2 x3 xf3 y0 yf0 y1 yf1 y2 yf2 y3 yf3
  have p0 : w5.cell? ⟨X, 0, none⟩ = some (.int .i64 n) := by rw [(row_cell X5.out 0).1]; rfl
  have pf0 : w5.frozen? ⟨X, 0, none⟩ = false := (row_cell X5.out 0).2
  have p1 : w5.cell? ⟨X, 1, none⟩ = some (.int .i64 k) := by rw [(row_cell X5.out 1).1]; rfl
  have pf1 : w5.frozen? ⟨X, 1, none⟩ = false := (row_cell X5.out 1).2
  have p2 : w5.cell? ⟨X, 2, none⟩ = some (.slice Ar nr cr) := by rw [(row_cell X5.out 2).1]; rfl
  have pf2 : w5.frozen? ⟨X, 2, none⟩ = false := (row_cell X5.out 2).2
  have p3 : w5.cell? ⟨X, 3, none⟩ = some (.bool lost) := by rw [(row_cell X5.out 3).1]; rfl
  have pf3 : w5.frozen? ⟨X, 3, none⟩ = false := (row_cell X5.out 3).2
  have r0 : W3.cell? ⟨X, 0, none⟩ = some (.int .i64 n) := by rw [(row_cell X3.out 0).1]; rfl
  have rf0 : W3.frozen? ⟨X, 0, none⟩ = false := (row_cell X3.out 0).2
  have r1 : W3.cell? ⟨X, 1, none⟩ = some (.int .i64 k) := by rw [(row_cell X3.out 1).1]; rfl
  have rf1 : W3.frozen? ⟨X, 1, none⟩ = false := (row_cell X3.out 1).2
  have r2 : W3.cell? ⟨X, 2, none⟩ = some (.slice A2 (nr + 1) c2) := by rw [(row_cell X3.out 2).1]; rfl
  have rf2 : W3.frozen? ⟨X, 2, none⟩ = false := (row_cell X3.out 2).2
  have r3 : W3.cell? ⟨X, 3, none⟩ = some (.bool lost) := by rw [(row_cell X3.out 3).1]; rfl
  have rf3 : W3.frozen? ⟨X, 3, none⟩ = false := (row_cell X3.out 3).2
  have s0 : W3.cell? ⟨X + 1, 0, none⟩ = some (.int .i64 0) := by rw [(row_cell Y3.out 0).1]; rfl
  have sf0 : W3.frozen? ⟨X + 1, 0, none⟩ = false := (row_cell Y3.out 0).2
  have s1 : W3.cell? ⟨X + 1, 1, none⟩ = some (.int .i64 0) := by rw [(row_cell Y3.out 1).1]; rfl
  have sf1 : W3.frozen? ⟨X + 1, 1, none⟩ = false := (row_cell Y3.out 1).2
  have s2 : W3.cell? ⟨X + 1, 2, none⟩ = some (.slice none 0 0) := by rw [(row_cell Y3.out 2).1]; rfl
  have sf2 : W3.frozen? ⟨X + 1, 2, none⟩ = false := (row_cell Y3.out 2).2
  have s3 : W3.cell? ⟨X + 1, 3, none⟩ = some (.bool false) := by rw [(row_cell Y3.out 3).1]; rfl
  have sf3 : W3.frozen? ⟨X + 1, 3, none⟩ = false := (row_cell Y3.out 3).2
  go_wp2_with fail
  refine bodyPost_ret (results_cell_tmp rfl _ _ (X + 1) _ _ rfl (set_four Y3.out _ _ _ _) Try.underlying29 rfl (by kernel_rfl)) rfl ?_
  have hf : Fo (fun b => b = X ∨ b = X + 1) W3 ((((W3.setCell ⟨X + 1, 0, none⟩ (.int .i64 n)).setCell ⟨X + 1, 1, none⟩ (.int .i64 k)).setCell ⟨X + 1, 2, none⟩ (.slice A2 (nr + 1) c2)).setCell ⟨X + 1, 3, none⟩ (.bool lost)) := ((((Fo.refl _ W3).setCell (.inl (.inr rfl)) 0 _).setCell (.inl (.inr rfl)) 1 _).setCell (.inl (.inr rfl)) 2 _).setCell (.inl (.inr rfl)) 3 _
  have O4 := O3.out.fo hf (fun b hb e => by have := S0.out; omega)
  have M4 := M3.out.fo hf (fun b hb e => by have := S0.out; omega)
  first | exact ⟨A2, c2, _, rfl, O4.imp fun b _ hb => by have := S0.out; omega, M4.imp fun b _ hb => by have := S0.out; omega, ((((B3.out.setCell (by exact Nat.le_succ _) _).setCell (by exact Nat.le_succ _) _).setCell (by exact Nat.le_succ _) _).setCell (by exact Nat.le_succ _) _)⟩ | exact ⟨A2, c2, rfl, _, O4.imp fun b _ hb => by have := S0.out; omega, M4.imp fun b _ hb => by have := S0.out; omega, ((((B3.out.setCell (by exact Nat.le_succ _) _).setCell (by exact Nat.le_succ _) _).setCell (by exact Nat.le_succ _) _).setCell (by exact Nat.le_succ _) _)⟩
end Go.Proofs.Ytejambofnffopaa.Q
