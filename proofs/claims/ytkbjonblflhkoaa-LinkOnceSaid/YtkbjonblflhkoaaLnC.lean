/-
  Clone and Same of a sender. Each statement bears its own conditions.
-/
import Derived.Test.YtkbjonblflhkoaaLnB
import Derived.Laws.StructEq
namespace Go.Proofs.Ytkbjonblflhkoaa.Ln
open Go.RowKit Go.Proofs.Ytkbjonblflhkoaa.F Go.Proofs.Ytkbjonblflhkoaa.U Go.Proofs.Ytkbjonblflhkoaa.Q
set_option linter.unusedVariables false
set_option linter.unusedSimpArgs false
structure LeR (n : Nat) (LL LL' : List (List Int)) (w : World) (iv : Value) (wr : World) : Prop where
  ex : ∃ j : Nat, j ≤ n ∧ iv = .int .i64 (j : Int) ∧ (∀ i, i < j → LL[i]? = LL'[i]?) ∧ Below w.heap.size w wr
set_option maxRecDepth 100000 in
set_option maxHeartbeats 8000000 in
theorem eqf_any (P P' R R' : Nat → Prop) (A A' : Option Addr) (m m' c c' : Nat) (S S' : List Sl) (LL LL' : List (List Int)) (w : World) (hv : Sq w P (.slice A m c) m (CS S)) (hm : Mr w R S LL) (hv' : Sq w P' (.slice A' m' c') m' (CS S')) (hm' : Mr w R' S' LL') (hml : m ≤ 1000) (hl : ∀ L ∈ LL, L.length ≤ 1000) :
    Calls Try.prog 38 #[.slice A m c, .slice A' m' c', .func (.func 39) #[] #[]] w fun e w' => e = .returned (.bool (decide (LL = LL'))) ∧ Below w.heap.size w w' := by
  have hmm : LL.length = m := by have := hv.len; rw [hm.len2] at this; exact this
  have hmm' : LL'.length = m' := by have := hv'.len; rw [hm'.len2] at this; exact this
  have HV := Lib.hid hv
  have HM := Lib.hid hm
  have HV' := Lib.hid hv'
  have HM' := Lib.hid hm'
  have HL : Hid (LL.length = m ∧ LL'.length = m' ∧ m ≤ 1000 ∧ ∀ L ∈ LL, L.length ≤ 1000) := ⟨hmm, hmm', hml, hl⟩
  obtain ⟨t, ht⟩ : ∃ t, decide (LL = LL') = t := ⟨_, rfl⟩
  have HT := Lib.hid ht
  rw [ht]
  clear hv hm hv' hm' hmm hmm' hml hl ht
  by_cases hnm : m = m'
  rotate_left
  · have HF : Hid (t = false) := by
      unfold Hid
      rw [← HT.out, decide_eq_false_iff_not]
      intro e
      have := HL.out
      rw [e] at this
      omega
    have hb1 : ((m : Int) == (m' : Int)) = false := by rw [beq_eq_false_iff_ne]; omega
    have hb2 : ((m : Int) != (m' : Int)) = true := by rw [bne_iff_ne]; omega
    clear hnm
    go_enter Try.func38, Try.ntmps38
    go_wp2_with fail
    go_ret
    exact ⟨by rw [HF.out]; rfl, Below.refl _ _⟩
  subst hnm
  go_enter Try.func38, Try.ntmps38
  go_wp2_with fail
  go_loopw [17] (fun iv wr => LeR m LL LL' w iv wr) (fun i _ => m - (intOf i).toNat)
  case atStart => exact ⟨⟨0, Nat.zero_le _, rfl, fun i hi => by omega, Below.refl _ _⟩⟩
  case round =>
    obtain ⟨⟨j, hj, rfl, hall, hb⟩⟩ := hrel
    have HA := Lib.hid hall
    have HB := Lib.hid hb
    clear hall hb
    by_cases hlt : j < m
    rotate_left
    · have HF : Hid (t = true) := by
        unfold Hid
        rw [← HT.out, decide_eq_true_eq]
        exact eq_of_all HL.out.1 HL.out.2.1 fun i hi => HA.out i (by omega)
      have hjI : ¬ (j : Int) < (m : Int) := by omega
      clear hlt hj
      go_wp2_with fail
      go_ret
      exact ⟨by rw [HF.out]; rfl, HB.out⟩
    have hjI : (j : Int) < (m : Int) := by omega
    have HJ : Hid (j < m) := hlt
    have hj1 : (j : Int) ≤ 1000 := by have := HL.out; omega
    obtain ⟨A1, c1, L, hs, hl, hsq⟩ := HM.out.get (i := j) (by have := HL.out; omega)
    obtain ⟨b, off, hA, hbl, hc⟩ := sl_at HV.out hlt hs
    obtain ⟨A2, c2, L', hs', hl', hsq'⟩ := HM'.out.get (i := j) (by have := HL.out; omega)
    obtain ⟨b', off', hA', hbl', hc'⟩ := sl_at HV'.out hlt hs'
    subst hA hA'
    have e0 : wr.cell? ⟨b, off + j, none⟩ = some (.slice A1 L.length c1) := (HB.out.cell hbl).trans hc
    have e1 : wr.cell? ⟨b', off' + j, none⟩ = some (.slice A2 L'.length c2) := (HB.out.cell hbl').trans hc'
    have HLJ : Hid (LL[j]? = some L ∧ LL'[j]? = some L' ∧ L.length ≤ 1000) := ⟨hl, hl', HL.out.2.2.2 L (List.mem_of_getElem? hl)⟩
    have CE : Hid (∀ W, Below wr.heap.size wr W → Calls Try.prog 39 #[.slice A1 L.length c1, .slice A2 L'.length c2] W fun e w' => e = .returned (.bool (decide (L = L'))) ∧ Below W.heap.size W w') := fun W hb => U.uequal_any _ _ _ _ L L' W ((hsq.belowP HB.out).belowP hb).st ((hsq'.belowP HB.out).belowP hb).st (by have := HLJ.out; omega)
    clear hs hl hsq hbl hc hs' hl' hsq' hbl' hc' hlt hj
    obtain ⟨nl, hnl⟩ : ∃ nl, L.length = nl := ⟨_, rfl⟩
    obtain ⟨nl', hnl'⟩ : ∃ nl', L'.length = nl' := ⟨_, rfl⟩
    rw [hnl] at e0 CE
    rw [hnl'] at e1 CE
    clear hnl hnl'
    by_cases hLL : L = L'
    · rw [decide_eq_true hLL] at CE
      have HA1 : Hid (∀ i, i < j + 1 → LL[i]? = LL'[i]?) := fun i hi => by
        by_cases h1 : i < j
        · exact HA.out i h1
        · have : i = j := by omega
          subst this
          rw [HLJ.out.1, HLJ.out.2.1, hLL]
      clear hLL
      go_wp2_with fail
      refine (CE.out wr (Below.refl _ _)).mono ?_
      rintro e w2 ⟨rfl, b2⟩
      have B2 : Hid (Below w.heap.size w w2) := HB.out.trans (b2.mono HB.out.size)
      clear b2 CE
      go_wp2_with fail
      go_roundw
      case rel =>
        have Q : LeR m LL LL' w (.int .i64 ((j : Int) + 1)) _ := ⟨⟨j + 1, HJ.out, by go_num, HA1.out, B2.out⟩⟩
        first | exact Q | ((repeat apply Exists.intro); exact ⟨Q, rfl⟩)
      case measure => have := HJ.out; simp [intOf]; omega
    · rw [decide_eq_false hLL] at CE
      have HF : Hid (t = false) := by
        unfold Hid
        rw [← HT.out, decide_eq_false_iff_not]
        intro e
        have h1 := HLJ.out
        rw [e, h1.2.1] at h1
        exact hLL (by injection h1.1 with h1; exact h1.symm)
      clear hLL
      go_wp2_with fail
      refine (CE.out wr (Below.refl _ _)).mono ?_
      rintro e w2 ⟨rfl, b2⟩
      have B2 : Hid (Below w.heap.size w w2) := HB.out.trans (b2.mono HB.out.size)
      clear b2 CE
      go_wp2_with fail
      go_ret
      exact ⟨by rw [HF.out]; rfl, B2.out⟩
/-- Are two senders the same but for their messages? -/
def SS.eqB (a b : SS) : Bool := a.gap == b.gap && (a.words == b.words && (a.room == b.room && (a.next == b.next && (a.sent == b.sent && a.last == b.last))))
theorem SS.eqB_self (a : SS) : a.eqB a = true := by unfold SS.eqB; simp
set_option maxRecDepth 100000 in
set_option maxHeartbeats 4000000 in
theorem state_eql (a b : SS) (w : World) : (binOp .eql 85 (.agg #[.int .i64 a.gap, .int .i64 a.words, .int .i64 a.room, .int .i64 a.next, .bool a.sent, .int .i64 a.last]) (.agg #[.int .i64 b.gap, .int .i64 b.words, .int .i64 b.room, .int .i64 b.next, .bool b.sent, .int .i64 b.last])).run Try.prog w = .ok (.bool (a.eqB b)) w := by
  have u3 := Try.underlying3
  have a3 := Try.isAgg3
  have z3 := Try.sizeOf3
  have u4 := Try.underlying4
  have a4 := Try.isAgg4
  have z4 := Try.sizeOf4
  have hS : Try.prog.underlying 85 = some (.struct (Try.prog.fieldsOf 85)) := by kernel_rfl
  have hp : Try.prog.stoodInHeld 85 = false := by kernel_rfl
  obtain ⟨a0, a1, a2, a3', a4', a5⟩ := a
  obtain ⟨b0, b1, b2, b3, b4, b5⟩ := b
  simp only [binOp, Op.equal, Op.maxDepth]
  rw [show (10000 : Nat) = 9999 + 1 from rfl]
  simp only [Sem.run_bind]
  rw [run_equalIn_agg w 9999 85 _ _ hS hp]
  simp only [Program.fieldsOf, Try.underlying85]
  go_simp
  unfold SS.eqB
  simp only
  by_cases h0 : a0 = b0
  rotate_left
  · rw [if_neg h0]; simp [h0]
  rw [if_pos h0]
  subst h0
  by_cases h1 : a1 = b1
  rotate_left
  · rw [if_neg h1]; simp [h1]
  rw [if_pos h1]
  subst h1
  by_cases h2 : a2 = b2
  rotate_left
  · rw [if_neg h2]; simp [h2]
  rw [if_pos h2]
  subst h2
  by_cases h3 : a3' = b3
  rotate_left
  · rw [if_neg h3]; simp [h3]
  rw [if_pos h3]
  subst h3
  by_cases h4 : a4' = b4
  rotate_left
  · rw [if_neg h4]; simp [h4]
  rw [if_pos h4]
  subst h4
  by_cases h5 : a5 = b5
  rotate_left
  · rw [if_neg h5]; simp [h5]
  rw [if_pos h5]
  subst h5
  simp
structure ClR (X m : Nat) (s : SS) (r : Nat → Prop) (LL : List (List Int)) (w : World) (iv : Value) (wr : World) : Prop where
  ex : ∃ (j : Nat) (p : Nat → Prop), j ≤ m ∧ iv = .int .i64 (j : Int) ∧ SV X wr p r X s (LL.take j) ∧ Below X w wr
set_option maxRecDepth 100000 in
set_option maxHeartbeats 8000000 in
theorem clone_any (lo : Nat) (p r : Nat → Prop) (g : Nat) (s : SS) (LL : List (List Int)) (w : World) (h : SV lo w p r g s LL) (hr : ∀ b, w.heap.size ≤ b → r b) :
    Calls Try.prog 23 #[.pointer (some ⟨g, 0, none⟩)] w fun e w' => ∃ q, e = .returned (.pointer (some ⟨w.heap.size, 0, none⟩)) ∧ SV w.heap.size w' q r w.heap.size s LL ∧ Below w.heap.size w w' := by
  obtain ⟨i0, hi, hz0, hz1, hz2⟩ := info_of sl_info
  obtain ⟨X, hX⟩ : ∃ X, w.heap.size = X := ⟨_, rfl⟩
  obtain ⟨Am, cm, S, a, b, c⟩ := h.seven
  have d0 : w.cell? ⟨g, 0, none⟩ = some (.int .i64 s.gap) := by rw [(row_cell a 0).1]; rfl
  have d1 : w.cell? ⟨g, 1, none⟩ = some (.int .i64 s.words) := by rw [(row_cell a 1).1]; rfl
  have d2 : w.cell? ⟨g, 2, none⟩ = some (.int .i64 s.room) := by rw [(row_cell a 2).1]; rfl
  have d3 : w.cell? ⟨g, 3, none⟩ = some (.int .i64 s.next) := by rw [(row_cell a 3).1]; rfl
  have d4 : w.cell? ⟨g, 4, none⟩ = some (.bool s.sent) := by rw [(row_cell a 4).1]; rfl
  have d5 : w.cell? ⟨g, 5, none⟩ = some (.int .i64 s.last) := by rw [(row_cell a 5).1]; rfl
  have d6 : w.cell? ⟨g, 6, none⟩ = some (.slice Am LL.length cm) := by rw [(row_cell a 6).1]; rfl
  obtain ⟨m, hm⟩ : ∃ k, LL.length = k := ⟨_, rfl⟩
  have hm32 : m ≤ 32 := by have := h.few.1; omega
  obtain ⟨W0, hW0⟩ : ∃ W0, w.alloc (.cells #[.int .i64 s.gap, .int .i64 s.words, .int .i64 s.room, .int .i64 s.next, .bool s.sent, .int .i64 s.last, .slice none 0 0] 87) = W0 := ⟨_, rfl⟩
  have B0 : Hid (Below X w W0) := by rw [← hW0, ← hX]; exact ((Below.refl _ _).alloc (Nat.le_refl _) _)
  have HY0 : Hid (W0.heap[X]? = some (.cells #[.int .i64 s.gap, .int .i64 s.words, .int .i64 s.room, .int .i64 s.next, .bool s.sent, .int .i64 s.last, .slice none 0 0] 87 (0, 0))) := by rw [← hW0, ← hX]; exact heap_alloc_new _ _
  have HS0 : Hid (SV X W0 (fun b => b = X) r X s []) := ⟨fun b hb => by subst hb; exact ⟨Nat.le_refl _, (Array.getElem?_eq_some_iff.1 HY0.out).1⟩, fun b hb _ => by subst hb; exact ⟨_, _, _, HY0.out, fun e => ne_uq e.symm⟩, rfl, ⟨_, [], HY0.out, Ow.nil _ _ _, Ms.nil _ _⟩, h.ok, by have := h.ok.r; simp; omega⟩
  have HA : Hid (∀ W, Below X w W → Sq W p (.slice Am m cm) m (CS S) ∧ Mr W r S LL ∧ W.cell? ⟨g, 6, none⟩ = some (.slice Am m cm)) := fun W hb => by
    have hb' : Below w.heap.size w W := by rw [hX]; exact hb
    rw [← hm]
    exact ⟨(b.below hb').sq, (c.below hb').mr, cell_later hb' d6⟩
  have HX : Hid (w.heap.size = X ∧ LL.length = m ∧ m ≤ 32 ∧ (∀ L ∈ LL, L.length ≤ 32) ∧ (m : Int) ≤ s.room ∧ ∀ L ∈ LL, (L.length : Int) ≤ s.words) := ⟨hX, hm, hm32, h.few.2, by have := h.bd.1; omega, h.bd.2⟩
  have HR : Hid (∀ b, X ≤ b → r b) := by rw [← hX]; exact hr
  rw [hm] at d6
  have k6 : W0.cell? ⟨g, 6, none⟩ = some (.slice Am m cm) := (HA.out W0 B0.out).2.2
  clear a b c h hr hm
  go_enter Try.func23, Try.ntmps23
  go_wp2_with fail
  go_loopw [19] (fun iv wr => ClR X m s r LL w iv wr) (fun i _ => m - (intOf i).toNat)
  case atStart => exact ⟨⟨0, _, Nat.zero_le _, rfl, HS0.out, B0.out⟩⟩
  case round =>
    obtain ⟨⟨j, p', hj, rfl, hs, hb⟩⟩ := hrel
    have HH := Lib.hid hs
    have HB := Lib.hid hb
    clear hs hb
    by_cases hlt : j < m
    rotate_left
    · have hjm : j = m := by omega
      subst hjm
      have hjI : ¬ (j : Int) < (j : Int) := by omega
      clear hlt hj
      go_wp2_with fail
      go_ret
      have hq := HH.out
      rw [List.take_of_length_le (by have := HX.out; omega)] at hq
      exact ⟨rfl, ⟨p', hq⟩, HB.out⟩
    have hjI : (j : Int) < (m : Int) := by omega
    have HJ : Hid (j < m) := hlt
    have hj1 : (j : Int) ≤ 32 := by omega
    obtain ⟨hsq, hmr, _⟩ := HA.out wr HB.out
    obtain ⟨A, c, L, hs, hl, hsq2⟩ := hmr.get (i := j) (by have := HX.out; omega)
    obtain ⟨b, off, hA, hbl, hc⟩ := sl_at hsq hlt hs
    subst hA
    have HLJ : Hid (LL[j]? = some L ∧ L.length ≤ 32 ∧ (L.length : Int) ≤ s.words) := ⟨hl, HX.out.2.2.2.1 L (List.mem_of_getElem? hl), HX.out.2.2.2.2.2 L (List.mem_of_getElem? hl)⟩
    obtain ⟨nl, hnl⟩ : ∃ k, L.length = k := ⟨_, rfl⟩
    have CE : Hid (∀ W (hb : Below wr.heap.size wr W), Calls Try.prog 33 #[.slice A nl c] W fun e w' => (∃ r, e = .returned r ∧ w'.ownsRow W.heap.size 47 1 r nl (CU L)) ∧ Below W.heap.size W w') := fun W hb => by rw [← hnl]; exact U.uclone_any _ _ _ _ W (hsq2.belowP hb).st (CU_one _) (by have := HLJ.out; omega)
    obtain ⟨Am', cm', S', a', b', c'⟩ := HH.out.seven
    obtain ⟨nm, hnm⟩ : ∃ k, (LL.take j).length = k := ⟨_, rfl⟩
    have hnmj : nm = j := by rw [← hnm, List.length_take]; have := HX.out; omega
    rw [hnm] at a' b'
    have e0 : wr.cell? ⟨b, off + j, none⟩ = some (.slice A nl c) := by rw [← hnl]; exact hc
    have HK : Hid (L.length = nl ∧ nm ≤ 32 ∧ nl ≤ 32) := ⟨hnl, by omega, by have := HLJ.out; omega⟩
    have HK2 : Hid (LL.take j ++ [L] = LL.take (j + 1)) := by unfold Hid; rw [take_snoc HLJ.out.1]
    have HBD : Hid (((LL.take j ++ [L]).length : Int) ≤ s.room ∧ ∀ L' ∈ LL.take j ++ [L], (L'.length : Int) ≤ s.words) := by
      rw [HK2.out]
      refine ⟨?_, fun L' hL' => HX.out.2.2.2.2.2 L' (List.mem_of_mem_take hL')⟩
      have := HX.out; rw [List.length_take]; omega
    have HSZ : Hid (X ≤ wr.heap.size) := by have := HB.out.size; have := HX.out; unfold Hid; omega
    have HQ : Hid (∀ W, Below wr.heap.size wr W → W.heap[X]? = some (.cells #[.int .i64 s.gap, .int .i64 s.words, .int .i64 s.room, .int .i64 s.next, .bool s.sent, .int .i64 s.last, (.slice Am' nm cm')] 87 (0, 0)) ∧ ∃ S, Ow 33 W p' (.slice Am' nm cm') nm (CS S) ∧ Ms W r S (LL.take j)) := fun W hb => ⟨(hb.block X HH.out.lt).trans a', S', b'.below hb, c'.below hb⟩
    have H6 : Hid (∀ W, Below wr.heap.size wr W → W.cell? ⟨X, 6, none⟩ = some (.slice Am' nm cm')) := fun W hb => by rw [(row_cell (HQ.out W hb).1 6).1]; rfl
    clear hsq hmr hs hl hsq2 hbl hc hlt hj hnl hnm hnmj a' b' c'
    go_wp2_with fail
    refine wp_region_held_drew (S := (fun _ => True)) (by kernel_rfl) trivial (fun hHeld => ?_)
    clear hHeld
    refine takeD (i := 0) (d := some 23) (v := ?_) _ rfl rfl (by kernel_rfl) (by kernel_rfl) (by kernel_rfl) (fun _ _ _ h => h) (by rfl) ?_ trivial ?_
    rotate_left
    · (intro w hSw; (try dsimp only at hSw); go_simp) <;> with_reducible rfl
    try simp only [Act.put, List.setIfInBounds_toArray, List.set_cons_zero, List.set_cons_succ]
    refine takeD (i := 1) (d := some 24) (v := ?_) _ rfl rfl (by kernel_rfl) (by kernel_rfl) (by kernel_rfl) (fun _ _ _ h => h) (by rfl) ?_ trivial ?_
    rotate_left
    · (intro w hSw; (try dsimp only at hSw); go_simp) <;> with_reducible rfl
    try simp only [Act.put, List.setIfInBounds_toArray, List.set_cons_zero, List.set_cons_succ]
    refine takeD (i := 2) (d := some 25) (v := ?_) _ rfl rfl (by kernel_rfl) (by kernel_rfl) (by kernel_rfl) (fun _ _ _ h => h) (by rfl) ?_ trivial ?_
    rotate_left
    · (intro w hSw; (try dsimp only at hSw); go_simp) <;> with_reducible rfl
    try simp only [Act.put, List.setIfInBounds_toArray, List.set_cons_zero, List.set_cons_succ]
    refine takeD (i := 3) (d := some 26) (v := ?_) _ rfl rfl (by kernel_rfl) (by kernel_rfl) (by kernel_rfl) (fun _ _ _ h => h) (by rfl) ?_ trivial ?_
    rotate_left
    · (intro w hSw; (try dsimp only at hSw); go_simp) <;> with_reducible rfl
    try simp only [Act.put, List.setIfInBounds_toArray, List.set_cons_zero, List.set_cons_succ]
    refine takeD (i := 5) (d := some 28) (v := ?_) _ rfl rfl (by kernel_rfl) (by kernel_rfl) (by kernel_rfl) (fun _ _ _ h => h) (by rfl) ?_ trivial ?_
    rotate_left
    · (intro w hSw; (try dsimp only at hSw); go_simp) <;> with_reducible rfl
    try simp only [Act.put, List.setIfInBounds_toArray, List.set_cons_zero, List.set_cons_succ]
    obtain ⟨V, hV⟩ : ∃ V, wr.drew = V := ⟨_, rfl⟩
    have B_V : Hid (Below wr.heap.size wr V) := by rw [← hV]; exact (Below.refl _ _).drew
    simp only [hV]
    clear hV
    refine wpAnyH_ready (rs := [4, 6]) (by kernel_rfl) (by simp) ?_
    refine AllReadyH.cons rfl (fun K0 hK => ?_) (AllReadyH.cons rfl (fun K0 hK => ?_) (AllReadyH.nil))
    · have l0 := H6.out V B_V.out
      try go_simp
      refine hK.out _ _ trivial (fun _ => ?_)
      clear l0
      clear hK K0
      try simp only [Act.put, List.getElem_toArray, List.getElem_cons_succ, List.getElem_cons_zero, List.setIfInBounds_toArray, List.set_cons_zero, List.set_cons_succ]
      refine wpAnyH_ready (rs := [6]) (by kernel_rfl) (by simp) ?_
      refine AllReadyH.cons rfl (fun K0 hK => ?_) (AllReadyH.nil)
      try go_simp
      go_at_call 33
      refine (CE.out V B_V.out).mono ?_
      rintro e Vb ⟨⟨rv, rfl, r1⟩, b_Vb⟩
      obtain ⟨Ar, cr, rfl⟩ := slice_form r1
      have NM : Hid (Ow 47 Vb (fun b => X ≤ b) (.slice Ar nl cr) nl (CU L)) := (Ow.of_own r1).imp fun b _ hb => by have := B_V.out.size; have := HSZ.out; omega
      have B_Vb : Hid (Below wr.heap.size wr Vb) := B_V.out.trans (b_Vb.mono B_V.out.size)
      clear r1 b_Vb
      try go_wp2_with fail
      refine hK.out _ _ trivial (fun _ => ?_)
      clear hK K0
      try simp only [Act.put, List.getElem_toArray, List.getElem_cons_succ, List.getElem_cons_zero, List.setIfInBounds_toArray, List.set_cons_zero, List.set_cons_succ]
      refine wpAnyH_ready (rs := [7]) (by kernel_rfl) (by simp) ?_
      refine AllReadyH.cons rfl (fun K0 hK => ?_) (AllReadyH.nil)
      have hx : Below Vb.heap.size Vb (Vb.alloc (.cells #[.slice Ar nl cr] 33)) := (Below.refl _ _).alloc (Nat.le_refl _) _
      have RD := Lib.hid (one_row (w := Vb) (.slice Ar nl cr) 33)
      obtain ⟨Vba, h_Vba⟩ : ∃ W, Vb.alloc (.cells #[.slice Ar nl cr] 33) = W := ⟨_, rfl⟩
      obtain ⟨bz, h_bz⟩ : ∃ vb, Vb.heap.size = vb := ⟨_, rfl⟩
      rw [h_Vba] at hx RD
      have NM := Lib.hid (NM.out.below hx)
      have B_Vba : Hid (Below wr.heap.size wr Vba) := B_Vb.out.trans (hx.mono B_Vb.out.size)
      rw [h_bz] at RD
      try go_simp
      try rw [h_Vba]
      try rw [h_bz]
      refine hK.out _ _ trivial (fun _ => ?_)
      clear h_Vba h_bz hx
      clear hK K0
      try simp only [Act.put, List.getElem_toArray, List.getElem_cons_succ, List.getElem_cons_zero, List.setIfInBounds_toArray, List.set_cons_zero, List.set_cons_succ]
      refine wpAnyH_ready (rs := [8]) (by kernel_rfl) (by simp) ?_
      refine AllReadyH.cons rfl (fun K0 hK => ?_) (AllReadyH.nil)
      obtain ⟨hg8, S8, ho8, hm8⟩ := HQ.out Vba B_Vba.out
      have HG8 := Lib.hid hg8
      have HO8 := Lib.hid ho8
      have HM8 := Lib.hid hm8
      clear hg8 ho8 hm8
      refine wp_append_any Vba (.tmp 27) (.tmp 30) 25 rfl 0 33 i0 (.slice none 0 0) 1 24 Try.underlying25 hi hz0 hz1 hz2 rfl (by decide) (.slice Am' nm cm') nm (CS S8) rfl HO8.out.own (bz + 1) (some ⟨bz, 0, none⟩) 1 1 [.slice Ar nl cr] rfl RD.out (fun u hu => by simp at hu; subst hu; rfl) (by have := HK.out; unfold maxLen; omega) (by have := HK.out; omega) (Nat.zero_le _) ?_
      intro v2 w5 hown hgrow hblk
      obtain ⟨A2, c2, rfl⟩ := slice_form hown
      have G := HO8.out.grow hown hgrow (by
        rcases hblk with h | h
        · exact .inl h
        · exact .inr h)
      have hng : (Value.slice Am' nm cm').ownBlock ≠ some X := fun e => ((HO8.out.not HG8.out ne_sq).at_ X e).1.2 rfl
      have hg5 : w5.heap[X]? = some (.cells #[.int .i64 s.gap, .int .i64 s.words, .int .i64 s.room, .int .i64 s.next, .bool s.sent, .int .i64 s.last, .slice Am' nm cm'] 87 (0, 0)) := (hgrow.block X (Array.getElem?_eq_some_iff.1 HG8.out).1 (fun e => hng e.symm)).trans HG8.out
      have hm5 : Ms w5 r (S8 ++ [(Ar, nl, cr)]) ((LL.take j) ++ [L]) := by
        have hty : Ty Vba (fun b => (Value.slice Am' nm cm').ownBlock = some b) := fun b hb hl => by
          rcases HO8.out.form with ⟨h0, _⟩ | ⟨b1, cap, cur, hv, _, _, hg1, _⟩
          · rw [h0] at hb; cases hb
          · rw [hv] at hb
            injection hb with hb
            have hb : b1 = b := hb
            subst hb
            exact ⟨_, _, _, hg1, fun e => ne_us e.symm⟩
        have hfo : Fo (fun b => (Value.slice Am' nm cm').ownBlock = some b) Vba w5 := ⟨hgrow.os, hgrow.tape, hgrow.output, hgrow.size, fun k hk hn => hgrow.block k hk (fun e => hn e.symm)⟩
        have hn : Ow 47 Vba r (slv (Ar, nl, cr)) L.length (CU L) := by rw [HK.out.1]; exact NM.out.imp fun b _ hb => HR.out b hb
        exact (HM8.out.app (Ms.one hn)).fot hfo hty
      have hf5 : Fo p' wr w5 := (Fo.of_below B_Vba.out).trans G.2 fun i hi => .inl hi
      have g5 : w5.cell? ⟨X, 6, none⟩ = some (.slice Am' nm cm') := by rw [(row_cell hg5 6).1]; rfl
      have gf : w5.frozen? ⟨X, 6, none⟩ = false := (row_cell hg5 6).2
      have Q : Hid (∃ q, SV X (w5.setCell ⟨X, 6, none⟩ (.slice A2 (nm + 1) c2)) q r X s ((LL.take j) ++ [L]) ∧ Nx p' q wr (w5.setCell ⟨X, 6, none⟩ (.slice A2 (nm + 1) c2))) := by
        have ho5 : Ow 33 w5 (fun b => p' b ∨ (Vba.heap.size ≤ b ∧ b < w5.heap.size)) (.slice A2 (nm + 1) c2) (nm + 1) (CS (S8 ++ [(Ar, nl, cr)])) := by rw [CS_app]; exact G.1
        refine HH.out.lay hg5 ho5 hm5 hf5 (fun b hb => ?_) HH.out.ok HBD.out (set_at hg5 6 _) ((Fo.refl (fun b => b = X) w5).setCell (.inl rfl) 6 _)
        rcases (ho5.at_ b hb).1 with h | h
        · exact .inl h
        · exact .inr (by have := B_Vba.out.size; omega)
      clear hown hgrow hblk G hng hg5 hm5 hf5
      refine hK.out _ _ trivial (fun _ => ?_)
      clear hK K0
      try simp only [Act.put, List.getElem_toArray, List.getElem_cons_succ, List.getElem_cons_zero, List.setIfInBounds_toArray, List.set_cons_zero, List.set_cons_succ]
      refine takeD (i := 9) (d := some 32) (v := ?_) _ rfl rfl (by kernel_rfl) (by kernel_rfl) (by kernel_rfl) (fun _ _ _ h => h) (by rfl) ?_ trivial ?_
      rotate_left
      · (intro w hSw; (try dsimp only at hSw); go_simp) <;> with_reducible rfl
      try simp only [Act.put, List.setIfInBounds_toArray, List.set_cons_zero, List.set_cons_succ]
      refine takeD (i := 10) (d := some 33) (v := ?_) _ rfl rfl (by kernel_rfl) (by kernel_rfl) (by kernel_rfl) (fun _ _ _ h => h) (by rfl) ?_ trivial ?_
      rotate_left
      · (intro w hSw; (try dsimp only at hSw); go_simp) <;> with_reducible rfl
      try simp only [Act.put, List.setIfInBounds_toArray, List.set_cons_zero, List.set_cons_succ]
      refine wpAnyH_ready (rs := [11]) (by kernel_rfl) (by simp) ?_
      refine AllReadyH.cons rfl (fun K0 hK => ?_) (AllReadyH.nil)
      try go_simp
      refine hK.out _ _ trivial (fun _ => ?_)
      clear hK K0
      try simp only [Act.put, List.getElem_toArray, List.getElem_cons_succ, List.getElem_cons_zero, List.setIfInBounds_toArray, List.set_cons_zero, List.set_cons_succ]
      refine wpAnyH_done (by kernel_rfl) ?_ _
      go_wp2_with fail
      go_roundw
      case rel =>
        obtain ⟨q, q1, q2⟩ := Q.out
        rw [HK2.out] at q1
        have Q2 : ClR X m s r LL w (.int .i64 ((j : Int) + 1)) _ := ⟨⟨j + 1, q, HJ.out, by go_num, q1, HB.out.trans ((HH.out.nx q2).mono (by have := HX.out; omega))⟩⟩
        first | exact Q2 | ((repeat apply Exists.intro); exact ⟨Q2, rfl⟩)
      case measure => have := HJ.out; simp [intOf]; omega
    · try go_simp
      go_at_call 33
      refine (CE.out V B_V.out).mono ?_
      rintro e Vb ⟨⟨rv, rfl, r1⟩, b_Vb⟩
      obtain ⟨Ar, cr, rfl⟩ := slice_form r1
      have NM : Hid (Ow 47 Vb (fun b => X ≤ b) (.slice Ar nl cr) nl (CU L)) := (Ow.of_own r1).imp fun b _ hb => by have := B_V.out.size; have := HSZ.out; omega
      have B_Vb : Hid (Below wr.heap.size wr Vb) := B_V.out.trans (b_Vb.mono B_V.out.size)
      clear r1 b_Vb
      try go_wp2_with fail
      refine hK.out _ _ trivial (fun _ => ?_)
      clear hK K0
      try simp only [Act.put, List.getElem_toArray, List.getElem_cons_succ, List.getElem_cons_zero, List.setIfInBounds_toArray, List.set_cons_zero, List.set_cons_succ]
      refine wpAnyH_ready (rs := [4, 7]) (by kernel_rfl) (by simp) ?_
      refine AllReadyH.cons rfl (fun K0 hK => ?_) (AllReadyH.cons rfl (fun K0 hK => ?_) (AllReadyH.nil))
      · have l0 := H6.out Vb B_Vb.out
        try go_simp
        refine hK.out _ _ trivial (fun _ => ?_)
        clear l0
        clear hK K0
        try simp only [Act.put, List.getElem_toArray, List.getElem_cons_succ, List.getElem_cons_zero, List.setIfInBounds_toArray, List.set_cons_zero, List.set_cons_succ]
        refine wpAnyH_ready (rs := [7]) (by kernel_rfl) (by simp) ?_
        refine AllReadyH.cons rfl (fun K0 hK => ?_) (AllReadyH.nil)
        have hx : Below Vb.heap.size Vb (Vb.alloc (.cells #[.slice Ar nl cr] 33)) := (Below.refl _ _).alloc (Nat.le_refl _) _
        have RD := Lib.hid (one_row (w := Vb) (.slice Ar nl cr) 33)
        obtain ⟨Vba, h_Vba⟩ : ∃ W, Vb.alloc (.cells #[.slice Ar nl cr] 33) = W := ⟨_, rfl⟩
        obtain ⟨bz, h_bz⟩ : ∃ vb, Vb.heap.size = vb := ⟨_, rfl⟩
        rw [h_Vba] at hx RD
        have NM := Lib.hid (NM.out.below hx)
        have B_Vba : Hid (Below wr.heap.size wr Vba) := B_Vb.out.trans (hx.mono B_Vb.out.size)
        rw [h_bz] at RD
        try go_simp
        try rw [h_Vba]
        try rw [h_bz]
        refine hK.out _ _ trivial (fun _ => ?_)
        clear h_Vba h_bz hx
        clear hK K0
        try simp only [Act.put, List.getElem_toArray, List.getElem_cons_succ, List.getElem_cons_zero, List.setIfInBounds_toArray, List.set_cons_zero, List.set_cons_succ]
        refine wpAnyH_ready (rs := [8]) (by kernel_rfl) (by simp) ?_
        refine AllReadyH.cons rfl (fun K0 hK => ?_) (AllReadyH.nil)
        obtain ⟨hg8, S8, ho8, hm8⟩ := HQ.out Vba B_Vba.out
        have HG8 := Lib.hid hg8
        have HO8 := Lib.hid ho8
        have HM8 := Lib.hid hm8
        clear hg8 ho8 hm8
        refine wp_append_any Vba (.tmp 27) (.tmp 30) 25 rfl 0 33 i0 (.slice none 0 0) 1 24 Try.underlying25 hi hz0 hz1 hz2 rfl (by decide) (.slice Am' nm cm') nm (CS S8) rfl HO8.out.own (bz + 1) (some ⟨bz, 0, none⟩) 1 1 [.slice Ar nl cr] rfl RD.out (fun u hu => by simp at hu; subst hu; rfl) (by have := HK.out; unfold maxLen; omega) (by have := HK.out; omega) (Nat.zero_le _) ?_
        intro v2 w5 hown hgrow hblk
        obtain ⟨A2, c2, rfl⟩ := slice_form hown
        have G := HO8.out.grow hown hgrow (by
          rcases hblk with h | h
          · exact .inl h
          · exact .inr h)
        have hng : (Value.slice Am' nm cm').ownBlock ≠ some X := fun e => ((HO8.out.not HG8.out ne_sq).at_ X e).1.2 rfl
        have hg5 : w5.heap[X]? = some (.cells #[.int .i64 s.gap, .int .i64 s.words, .int .i64 s.room, .int .i64 s.next, .bool s.sent, .int .i64 s.last, .slice Am' nm cm'] 87 (0, 0)) := (hgrow.block X (Array.getElem?_eq_some_iff.1 HG8.out).1 (fun e => hng e.symm)).trans HG8.out
        have hm5 : Ms w5 r (S8 ++ [(Ar, nl, cr)]) ((LL.take j) ++ [L]) := by
          have hty : Ty Vba (fun b => (Value.slice Am' nm cm').ownBlock = some b) := fun b hb hl => by
            rcases HO8.out.form with ⟨h0, _⟩ | ⟨b1, cap, cur, hv, _, _, hg1, _⟩
            · rw [h0] at hb; cases hb
            · rw [hv] at hb
              injection hb with hb
              have hb : b1 = b := hb
              subst hb
              exact ⟨_, _, _, hg1, fun e => ne_us e.symm⟩
          have hfo : Fo (fun b => (Value.slice Am' nm cm').ownBlock = some b) Vba w5 := ⟨hgrow.os, hgrow.tape, hgrow.output, hgrow.size, fun k hk hn => hgrow.block k hk (fun e => hn e.symm)⟩
          have hn : Ow 47 Vba r (slv (Ar, nl, cr)) L.length (CU L) := by rw [HK.out.1]; exact NM.out.imp fun b _ hb => HR.out b hb
          exact (HM8.out.app (Ms.one hn)).fot hfo hty
        have hf5 : Fo p' wr w5 := (Fo.of_below B_Vba.out).trans G.2 fun i hi => .inl hi
        have g5 : w5.cell? ⟨X, 6, none⟩ = some (.slice Am' nm cm') := by rw [(row_cell hg5 6).1]; rfl
        have gf : w5.frozen? ⟨X, 6, none⟩ = false := (row_cell hg5 6).2
        have Q : Hid (∃ q, SV X (w5.setCell ⟨X, 6, none⟩ (.slice A2 (nm + 1) c2)) q r X s ((LL.take j) ++ [L]) ∧ Nx p' q wr (w5.setCell ⟨X, 6, none⟩ (.slice A2 (nm + 1) c2))) := by
          have ho5 : Ow 33 w5 (fun b => p' b ∨ (Vba.heap.size ≤ b ∧ b < w5.heap.size)) (.slice A2 (nm + 1) c2) (nm + 1) (CS (S8 ++ [(Ar, nl, cr)])) := by rw [CS_app]; exact G.1
          refine HH.out.lay hg5 ho5 hm5 hf5 (fun b hb => ?_) HH.out.ok HBD.out (set_at hg5 6 _) ((Fo.refl (fun b => b = X) w5).setCell (.inl rfl) 6 _)
          rcases (ho5.at_ b hb).1 with h | h
          · exact .inl h
          · exact .inr (by have := B_Vba.out.size; omega)
        clear hown hgrow hblk G hng hg5 hm5 hf5
        refine hK.out _ _ trivial (fun _ => ?_)
        clear hK K0
        try simp only [Act.put, List.getElem_toArray, List.getElem_cons_succ, List.getElem_cons_zero, List.setIfInBounds_toArray, List.set_cons_zero, List.set_cons_succ]
        refine takeD (i := 9) (d := some 32) (v := ?_) _ rfl rfl (by kernel_rfl) (by kernel_rfl) (by kernel_rfl) (fun _ _ _ h => h) (by rfl) ?_ trivial ?_
        rotate_left
        · (intro w hSw; (try dsimp only at hSw); go_simp) <;> with_reducible rfl
        try simp only [Act.put, List.setIfInBounds_toArray, List.set_cons_zero, List.set_cons_succ]
        refine takeD (i := 10) (d := some 33) (v := ?_) _ rfl rfl (by kernel_rfl) (by kernel_rfl) (by kernel_rfl) (fun _ _ _ h => h) (by rfl) ?_ trivial ?_
        rotate_left
        · (intro w hSw; (try dsimp only at hSw); go_simp) <;> with_reducible rfl
        try simp only [Act.put, List.setIfInBounds_toArray, List.set_cons_zero, List.set_cons_succ]
        refine wpAnyH_ready (rs := [11]) (by kernel_rfl) (by simp) ?_
        refine AllReadyH.cons rfl (fun K0 hK => ?_) (AllReadyH.nil)
        try go_simp
        refine hK.out _ _ trivial (fun _ => ?_)
        clear hK K0
        try simp only [Act.put, List.getElem_toArray, List.getElem_cons_succ, List.getElem_cons_zero, List.setIfInBounds_toArray, List.set_cons_zero, List.set_cons_succ]
        refine wpAnyH_done (by kernel_rfl) ?_ _
        go_wp2_with fail
        go_roundw
        case rel =>
          obtain ⟨q, q1, q2⟩ := Q.out
          rw [HK2.out] at q1
          have Q2 : ClR X m s r LL w (.int .i64 ((j : Int) + 1)) _ := ⟨⟨j + 1, q, HJ.out, by go_num, q1, HB.out.trans ((HH.out.nx q2).mono (by have := HX.out; omega))⟩⟩
          first | exact Q2 | ((repeat apply Exists.intro); exact ⟨Q2, rfl⟩)
        case measure => have := HJ.out; simp [intOf]; omega
      · have hx : Below Vb.heap.size Vb (Vb.alloc (.cells #[.slice Ar nl cr] 33)) := (Below.refl _ _).alloc (Nat.le_refl _) _
        have RD := Lib.hid (one_row (w := Vb) (.slice Ar nl cr) 33)
        obtain ⟨Vba, h_Vba⟩ : ∃ W, Vb.alloc (.cells #[.slice Ar nl cr] 33) = W := ⟨_, rfl⟩
        obtain ⟨bz, h_bz⟩ : ∃ vb, Vb.heap.size = vb := ⟨_, rfl⟩
        rw [h_Vba] at hx RD
        have NM := Lib.hid (NM.out.below hx)
        have B_Vba : Hid (Below wr.heap.size wr Vba) := B_Vb.out.trans (hx.mono B_Vb.out.size)
        rw [h_bz] at RD
        try go_simp
        try rw [h_Vba]
        try rw [h_bz]
        refine hK.out _ _ trivial (fun _ => ?_)
        clear h_Vba h_bz hx
        clear hK K0
        try simp only [Act.put, List.getElem_toArray, List.getElem_cons_succ, List.getElem_cons_zero, List.setIfInBounds_toArray, List.set_cons_zero, List.set_cons_succ]
        refine wpAnyH_ready (rs := [4]) (by kernel_rfl) (by simp) ?_
        refine AllReadyH.cons rfl (fun K0 hK => ?_) (AllReadyH.nil)
        have l0 := H6.out Vba B_Vba.out
        try go_simp
        refine hK.out _ _ trivial (fun _ => ?_)
        clear l0
        clear hK K0
        try simp only [Act.put, List.getElem_toArray, List.getElem_cons_succ, List.getElem_cons_zero, List.setIfInBounds_toArray, List.set_cons_zero, List.set_cons_succ]
        refine wpAnyH_ready (rs := [8]) (by kernel_rfl) (by simp) ?_
        refine AllReadyH.cons rfl (fun K0 hK => ?_) (AllReadyH.nil)
        obtain ⟨hg8, S8, ho8, hm8⟩ := HQ.out Vba B_Vba.out
        have HG8 := Lib.hid hg8
        have HO8 := Lib.hid ho8
        have HM8 := Lib.hid hm8
        clear hg8 ho8 hm8
        refine wp_append_any Vba (.tmp 27) (.tmp 30) 25 rfl 0 33 i0 (.slice none 0 0) 1 24 Try.underlying25 hi hz0 hz1 hz2 rfl (by decide) (.slice Am' nm cm') nm (CS S8) rfl HO8.out.own (bz + 1) (some ⟨bz, 0, none⟩) 1 1 [.slice Ar nl cr] rfl RD.out (fun u hu => by simp at hu; subst hu; rfl) (by have := HK.out; unfold maxLen; omega) (by have := HK.out; omega) (Nat.zero_le _) ?_
        intro v2 w5 hown hgrow hblk
        obtain ⟨A2, c2, rfl⟩ := slice_form hown
        have G := HO8.out.grow hown hgrow (by
          rcases hblk with h | h
          · exact .inl h
          · exact .inr h)
        have hng : (Value.slice Am' nm cm').ownBlock ≠ some X := fun e => ((HO8.out.not HG8.out ne_sq).at_ X e).1.2 rfl
        have hg5 : w5.heap[X]? = some (.cells #[.int .i64 s.gap, .int .i64 s.words, .int .i64 s.room, .int .i64 s.next, .bool s.sent, .int .i64 s.last, .slice Am' nm cm'] 87 (0, 0)) := (hgrow.block X (Array.getElem?_eq_some_iff.1 HG8.out).1 (fun e => hng e.symm)).trans HG8.out
        have hm5 : Ms w5 r (S8 ++ [(Ar, nl, cr)]) ((LL.take j) ++ [L]) := by
          have hty : Ty Vba (fun b => (Value.slice Am' nm cm').ownBlock = some b) := fun b hb hl => by
            rcases HO8.out.form with ⟨h0, _⟩ | ⟨b1, cap, cur, hv, _, _, hg1, _⟩
            · rw [h0] at hb; cases hb
            · rw [hv] at hb
              injection hb with hb
              have hb : b1 = b := hb
              subst hb
              exact ⟨_, _, _, hg1, fun e => ne_us e.symm⟩
          have hfo : Fo (fun b => (Value.slice Am' nm cm').ownBlock = some b) Vba w5 := ⟨hgrow.os, hgrow.tape, hgrow.output, hgrow.size, fun k hk hn => hgrow.block k hk (fun e => hn e.symm)⟩
          have hn : Ow 47 Vba r (slv (Ar, nl, cr)) L.length (CU L) := by rw [HK.out.1]; exact NM.out.imp fun b _ hb => HR.out b hb
          exact (HM8.out.app (Ms.one hn)).fot hfo hty
        have hf5 : Fo p' wr w5 := (Fo.of_below B_Vba.out).trans G.2 fun i hi => .inl hi
        have g5 : w5.cell? ⟨X, 6, none⟩ = some (.slice Am' nm cm') := by rw [(row_cell hg5 6).1]; rfl
        have gf : w5.frozen? ⟨X, 6, none⟩ = false := (row_cell hg5 6).2
        have Q : Hid (∃ q, SV X (w5.setCell ⟨X, 6, none⟩ (.slice A2 (nm + 1) c2)) q r X s ((LL.take j) ++ [L]) ∧ Nx p' q wr (w5.setCell ⟨X, 6, none⟩ (.slice A2 (nm + 1) c2))) := by
          have ho5 : Ow 33 w5 (fun b => p' b ∨ (Vba.heap.size ≤ b ∧ b < w5.heap.size)) (.slice A2 (nm + 1) c2) (nm + 1) (CS (S8 ++ [(Ar, nl, cr)])) := by rw [CS_app]; exact G.1
          refine HH.out.lay hg5 ho5 hm5 hf5 (fun b hb => ?_) HH.out.ok HBD.out (set_at hg5 6 _) ((Fo.refl (fun b => b = X) w5).setCell (.inl rfl) 6 _)
          rcases (ho5.at_ b hb).1 with h | h
          · exact .inl h
          · exact .inr (by have := B_Vba.out.size; omega)
        clear hown hgrow hblk G hng hg5 hm5 hf5
        refine hK.out _ _ trivial (fun _ => ?_)
        clear hK K0
        try simp only [Act.put, List.getElem_toArray, List.getElem_cons_succ, List.getElem_cons_zero, List.setIfInBounds_toArray, List.set_cons_zero, List.set_cons_succ]
        refine takeD (i := 9) (d := some 32) (v := ?_) _ rfl rfl (by kernel_rfl) (by kernel_rfl) (by kernel_rfl) (fun _ _ _ h => h) (by rfl) ?_ trivial ?_
        rotate_left
        · (intro w hSw; (try dsimp only at hSw); go_simp) <;> with_reducible rfl
        try simp only [Act.put, List.setIfInBounds_toArray, List.set_cons_zero, List.set_cons_succ]
        refine takeD (i := 10) (d := some 33) (v := ?_) _ rfl rfl (by kernel_rfl) (by kernel_rfl) (by kernel_rfl) (fun _ _ _ h => h) (by rfl) ?_ trivial ?_
        rotate_left
        · (intro w hSw; (try dsimp only at hSw); go_simp) <;> with_reducible rfl
        try simp only [Act.put, List.setIfInBounds_toArray, List.set_cons_zero, List.set_cons_succ]
        refine wpAnyH_ready (rs := [11]) (by kernel_rfl) (by simp) ?_
        refine AllReadyH.cons rfl (fun K0 hK => ?_) (AllReadyH.nil)
        try go_simp
        refine hK.out _ _ trivial (fun _ => ?_)
        clear hK K0
        try simp only [Act.put, List.getElem_toArray, List.getElem_cons_succ, List.getElem_cons_zero, List.setIfInBounds_toArray, List.set_cons_zero, List.set_cons_succ]
        refine wpAnyH_done (by kernel_rfl) ?_ _
        go_wp2_with fail
        go_roundw
        case rel =>
          obtain ⟨q, q1, q2⟩ := Q.out
          rw [HK2.out] at q1
          have Q2 : ClR X m s r LL w (.int .i64 ((j : Int) + 1)) _ := ⟨⟨j + 1, q, HJ.out, by go_num, q1, HB.out.trans ((HH.out.nx q2).mono (by have := HX.out; omega))⟩⟩
          first | exact Q2 | ((repeat apply Exists.intro); exact ⟨Q2, rfl⟩)
        case measure => have := HJ.out; simp [intOf]; omega
set_option maxRecDepth 100000 in
set_option maxHeartbeats 8000000 in
theorem same_any (lo lo' : Nat) (p p' r r' : Nat → Prop) (g g' : Nat) (s s' : SS) (LL LL' : List (List Int)) (w : World) (h : SV lo w p r g s LL) (h' : SV lo' w p' r' g' s' LL') :
    Calls Try.prog 24 #[.pointer (some ⟨g, 0, none⟩), .pointer (some ⟨g', 0, none⟩)] w fun e w' => e = .returned (.bool (s.eqB s' && decide (LL = LL'))) ∧ Below w.heap.size w w' := by
  obtain ⟨Am, cm, S, a, b, c⟩ := h.seven
  have d0 : w.cell? ⟨g, 0, none⟩ = some (.int .i64 s.gap) := by rw [(row_cell a 0).1]; rfl
  have d1 : w.cell? ⟨g, 1, none⟩ = some (.int .i64 s.words) := by rw [(row_cell a 1).1]; rfl
  have d2 : w.cell? ⟨g, 2, none⟩ = some (.int .i64 s.room) := by rw [(row_cell a 2).1]; rfl
  have d3 : w.cell? ⟨g, 3, none⟩ = some (.int .i64 s.next) := by rw [(row_cell a 3).1]; rfl
  have d4 : w.cell? ⟨g, 4, none⟩ = some (.bool s.sent) := by rw [(row_cell a 4).1]; rfl
  have d5 : w.cell? ⟨g, 5, none⟩ = some (.int .i64 s.last) := by rw [(row_cell a 5).1]; rfl
  have d6 : w.cell? ⟨g, 6, none⟩ = some (.slice Am LL.length cm) := by rw [(row_cell a 6).1]; rfl
  obtain ⟨Am', cm', S2, a', b', c2⟩ := h'.seven
  have e0 : w.cell? ⟨g', 0, none⟩ = some (.int .i64 s'.gap) := by rw [(row_cell a' 0).1]; rfl
  have e1 : w.cell? ⟨g', 1, none⟩ = some (.int .i64 s'.words) := by rw [(row_cell a' 1).1]; rfl
  have e2 : w.cell? ⟨g', 2, none⟩ = some (.int .i64 s'.room) := by rw [(row_cell a' 2).1]; rfl
  have e3 : w.cell? ⟨g', 3, none⟩ = some (.int .i64 s'.next) := by rw [(row_cell a' 3).1]; rfl
  have e4 : w.cell? ⟨g', 4, none⟩ = some (.bool s'.sent) := by rw [(row_cell a' 4).1]; rfl
  have e5 : w.cell? ⟨g', 5, none⟩ = some (.int .i64 s'.last) := by rw [(row_cell a' 5).1]; rfl
  have e6 : w.cell? ⟨g', 6, none⟩ = some (.slice Am' LL'.length cm') := by rw [(row_cell a' 6).1]; rfl
  have CM : Hid (∀ W (hb : Below w.heap.size w W), Calls Try.prog 38 #[.slice Am LL.length cm, .slice Am' LL'.length cm', .func (.func 39) #[] #[]] W fun e w' => e = .returned (.bool (decide (LL = LL'))) ∧ Below W.heap.size W w') := fun W hb => eqf_any p p' r r' _ _ _ _ _ _ S S2 LL LL' W (b.sq.belowP hb) (c.mr.below hb) (b'.sq.belowP hb) (c2.mr.below hb) (by have := h.few; omega) (fun L hL => by have := h.few.2 L hL; omega)
  obtain ⟨nm, hnm⟩ : ∃ k, LL.length = k := ⟨_, rfl⟩
  obtain ⟨nm', hnm'⟩ : ∃ k, LL'.length = k := ⟨_, rfl⟩
  rw [hnm] at CM d6
  rw [hnm'] at CM e6
  obtain ⟨t4, ht4⟩ : ∃ t, decide (LL = LL') = t := ⟨_, rfl⟩
  rw [ht4] at CM ⊢
  obtain ⟨t1, ht1⟩ : ∃ t, s.eqB s' = t := ⟨_, rfl⟩
  have hq : ∀ w : World, (binOp .eql 85 (.agg #[.int .i64 s.gap, .int .i64 s.words, .int .i64 s.room, .int .i64 s.next, .bool s.sent, .int .i64 s.last]) (.agg #[.int .i64 s'.gap, .int .i64 s'.words, .int .i64 s'.room, .int .i64 s'.next, .bool s'.sent, .int .i64 s'.last])).run Try.prog w = .ok (.bool t1) w := fun w => by
    rw [← ht1]
    exact state_eql s s' w
  rw [ht1]
  clear a b c a' b' c2 h h' hnm hnm' ht4 ht1
  cases t1 with
  | false =>
    go_enter Try.func24, Try.ntmps24
    go_wp2_with fail
    refine wp_region_held_drew (S := (fun w' => Below w.heap.size w w' ∧ w'.cell? ⟨g, 0, none⟩ = some (.int .i64 s.gap) ∧ w'.cell? ⟨g, 1, none⟩ = some (.int .i64 s.words) ∧ w'.cell? ⟨g, 2, none⟩ = some (.int .i64 s.room) ∧ w'.cell? ⟨g, 3, none⟩ = some (.int .i64 s.next) ∧ w'.cell? ⟨g, 4, none⟩ = some (.bool s.sent) ∧ w'.cell? ⟨g, 5, none⟩ = some (.int .i64 s.last) ∧ w'.cell? ⟨g, 6, none⟩ = some (.slice Am nm cm) ∧ w'.cell? ⟨g', 0, none⟩ = some (.int .i64 s'.gap) ∧ w'.cell? ⟨g', 1, none⟩ = some (.int .i64 s'.words) ∧ w'.cell? ⟨g', 2, none⟩ = some (.int .i64 s'.room) ∧ w'.cell? ⟨g', 3, none⟩ = some (.int .i64 s'.next) ∧ w'.cell? ⟨g', 4, none⟩ = some (.bool s'.sent) ∧ w'.cell? ⟨g', 5, none⟩ = some (.int .i64 s'.last) ∧ w'.cell? ⟨g', 6, none⟩ = some (.slice Am' nm' cm'))) (by kernel_rfl) ?_ (fun hHeld => ?_)
    · exact ⟨(Below.refl _ _).drew, d0, d1, d2, d3, d4, d5, d6, e0, e1, e2, e3, e4, e5, e6⟩
    refine takeD (i := 0) (d := some 14) (v := ?_) _ rfl rfl (by kernel_rfl) (by kernel_rfl) (by kernel_rfl) (fun _ _ _ h => h) (by rfl) ?_ (by assumption) ?_
    rotate_left
    · (intro w hSw; (try dsimp only at hSw); go_simp) <;> with_reducible rfl
    try simp only [Act.put, List.setIfInBounds_toArray, List.set_cons_zero, List.set_cons_succ]
    refine takeD (i := 1) (d := some 15) (v := ?_) _ rfl rfl (by kernel_rfl) (by kernel_rfl) (by kernel_rfl) (fun _ _ _ h => h) (by rfl) ?_ (by assumption) ?_
    rotate_left
    · (intro w hSw; (try dsimp only at hSw); go_simp) <;> with_reducible rfl
    try simp only [Act.put, List.setIfInBounds_toArray, List.set_cons_zero, List.set_cons_succ]
    refine takeD (i := 2) (d := some 16) (v := ?_) _ rfl rfl (by kernel_rfl) (by kernel_rfl) (by kernel_rfl) (fun _ _ _ h => h) (by rfl) ?_ (by assumption) ?_
    rotate_left
    · (intro w hSw; (try dsimp only at hSw); go_simp) <;> with_reducible rfl
    try simp only [Act.put, List.setIfInBounds_toArray, List.set_cons_zero, List.set_cons_succ]
    refine takeD (i := 3) (d := some 17) (v := ?_) _ rfl rfl (by kernel_rfl) (by kernel_rfl) (by kernel_rfl) (fun _ _ _ h => h) (by rfl) ?_ (by assumption) ?_
    rotate_left
    · (intro w hSw; (try dsimp only at hSw); go_simp) <;> with_reducible rfl
    try simp only [Act.put, List.setIfInBounds_toArray, List.set_cons_zero, List.set_cons_succ]
    refine takeD (i := 4) (d := some 18) (v := ?_) _ rfl rfl (by kernel_rfl) (by kernel_rfl) (by kernel_rfl) (fun _ _ _ h => h) (by rfl) ?_ (by assumption) ?_
    rotate_left
    · (intro w hSw; (try dsimp only at hSw); go_simp) <;> with_reducible rfl
    try simp only [Act.put, List.setIfInBounds_toArray, List.set_cons_zero, List.set_cons_succ]
    refine takeD (i := 5) (d := some 19) (v := ?_) _ rfl rfl (by kernel_rfl) (by kernel_rfl) (by kernel_rfl) (fun _ _ _ h => h) (by rfl) ?_ (by assumption) ?_
    rotate_left
    · (intro w hSw; (try dsimp only at hSw); go_simp) <;> with_reducible rfl
    try simp only [Act.put, List.setIfInBounds_toArray, List.set_cons_zero, List.set_cons_succ]
    refine takeD (i := 6) (d := some 20) (v := ?_) _ rfl rfl (by kernel_rfl) (by kernel_rfl) (by kernel_rfl) (fun _ _ _ h => h) (by rfl) ?_ (by assumption) ?_
    rotate_left
    · (intro w hSw; (try dsimp only at hSw); go_simp) <;> with_reducible rfl
    try simp only [Act.put, List.setIfInBounds_toArray, List.set_cons_zero, List.set_cons_succ]
    refine takeD (i := 7) (d := some 21) (v := ?_) _ rfl rfl (by kernel_rfl) (by kernel_rfl) (by kernel_rfl) (fun _ _ _ h => h) (by rfl) ?_ (by assumption) ?_
    rotate_left
    · (intro w hSw; (try dsimp only at hSw); go_simp) <;> with_reducible rfl
    try simp only [Act.put, List.setIfInBounds_toArray, List.set_cons_zero, List.set_cons_succ]
    refine takeD (i := 8) (d := some 22) (v := ?_) _ rfl rfl (by kernel_rfl) (by kernel_rfl) (by kernel_rfl) (fun _ _ _ h => h) (by rfl) ?_ (by assumption) ?_
    rotate_left
    · (intro w hSw; (try dsimp only at hSw); go_simp) <;> with_reducible rfl
    try simp only [Act.put, List.setIfInBounds_toArray, List.set_cons_zero, List.set_cons_succ]
    refine takeD (i := 9) (d := some 23) (v := ?_) _ rfl rfl (by kernel_rfl) (by kernel_rfl) (by kernel_rfl) (fun _ _ _ h => h) (by rfl) ?_ (by assumption) ?_
    rotate_left
    · (intro w hSw; (try dsimp only at hSw); go_simp) <;> with_reducible rfl
    try simp only [Act.put, List.setIfInBounds_toArray, List.set_cons_zero, List.set_cons_succ]
    refine skipD (i := 10) (d := some 24) _ rfl rfl (by kernel_rfl) (by kernel_rfl) (by kernel_rfl) (fun _ _ _ h => h) (by rfl) (by assumption) ?_
    try simp only [Act.put, List.setIfInBounds_toArray, List.set_cons_zero, List.set_cons_succ]
    refine skipD (i := 11) (d := some 25) _ rfl rfl (by kernel_rfl) (by kernel_rfl) (by kernel_rfl) (fun _ _ _ h => h) (by rfl) (by assumption) ?_
    try simp only [Act.put, List.setIfInBounds_toArray, List.set_cons_zero, List.set_cons_succ]
    refine skipD (i := 12) (d := some 26) _ rfl rfl (by kernel_rfl) (by kernel_rfl) (by kernel_rfl) (fun _ _ _ h => h) (by rfl) (by assumption) ?_
    try simp only [Act.put, List.setIfInBounds_toArray, List.set_cons_zero, List.set_cons_succ]
    refine skipD (i := 13) (d := some 27) _ rfl rfl (by kernel_rfl) (by kernel_rfl) (by kernel_rfl) (fun _ _ _ h => h) (by rfl) (by assumption) ?_
    try simp only [Act.put, List.setIfInBounds_toArray, List.set_cons_zero, List.set_cons_succ]
    refine skipD (i := 14) (d := some 28) _ rfl rfl (by kernel_rfl) (by kernel_rfl) (by kernel_rfl) (fun _ _ _ h => h) (by rfl) (by assumption) ?_
    try simp only [Act.put, List.setIfInBounds_toArray, List.set_cons_zero, List.set_cons_succ]
    refine skipD (i := 15) (d := some 29) _ rfl rfl (by kernel_rfl) (by kernel_rfl) (by kernel_rfl) (fun _ _ _ h => h) (by rfl) (by assumption) ?_
    try simp only [Act.put, List.setIfInBounds_toArray, List.set_cons_zero, List.set_cons_succ]
    refine skipD (i := 16) (d := some 30) _ rfl rfl (by kernel_rfl) (by kernel_rfl) (by kernel_rfl) (fun _ _ _ h => h) (by rfl) (by assumption) ?_
    try simp only [Act.put, List.setIfInBounds_toArray, List.set_cons_zero, List.set_cons_succ]
    refine skipD (i := 17) (d := some 31) _ rfl rfl (by kernel_rfl) (by kernel_rfl) (by kernel_rfl) (fun _ _ _ h => h) (by rfl) (by assumption) ?_
    try simp only [Act.put, List.setIfInBounds_toArray, List.set_cons_zero, List.set_cons_succ]
    refine skipD (i := 18) (d := some 32) _ rfl rfl (by kernel_rfl) (by kernel_rfl) (by kernel_rfl) (fun _ _ _ h => h) (by rfl) (by assumption) ?_
    try simp only [Act.put, List.setIfInBounds_toArray, List.set_cons_zero, List.set_cons_succ]
    refine takeD (i := 19) (d := some 33) (v := ?_) _ rfl rfl (by kernel_rfl) (by kernel_rfl) (by kernel_rfl) (fun _ _ _ h => h) (by rfl) ?_ (by assumption) ?_
    rotate_left
    · (intro w hSw; (try dsimp only at hSw); go_simp) <;> with_reducible rfl
    try simp only [Act.put, List.setIfInBounds_toArray, List.set_cons_zero, List.set_cons_succ]
    refine takeD (i := 20) (d := some 4) (v := ?_) _ rfl rfl (by kernel_rfl) (by kernel_rfl) (by kernel_rfl) (fun _ _ _ h => h) (by rfl) ?_ (by assumption) ?_
    rotate_left
    · (intro w hSw; (try dsimp only at hSw); go_simp) <;> with_reducible rfl
    try simp only [Act.put, List.setIfInBounds_toArray, List.set_cons_zero, List.set_cons_succ]
    refine wpAnyH_done (by kernel_rfl) ?_ _
    have HB := Lib.hid hHeld.1
    clear hHeld
    go_wp2_with fail
    go_ret
    exact ⟨by simp, HB.out⟩
  | true =>
    go_enter Try.func24, Try.ntmps24
    go_wp2_with fail
    refine wp_region_held_drew (S := (fun w' => Below w.heap.size w w' ∧ w'.cell? ⟨g, 0, none⟩ = some (.int .i64 s.gap) ∧ w'.cell? ⟨g, 1, none⟩ = some (.int .i64 s.words) ∧ w'.cell? ⟨g, 2, none⟩ = some (.int .i64 s.room) ∧ w'.cell? ⟨g, 3, none⟩ = some (.int .i64 s.next) ∧ w'.cell? ⟨g, 4, none⟩ = some (.bool s.sent) ∧ w'.cell? ⟨g, 5, none⟩ = some (.int .i64 s.last) ∧ w'.cell? ⟨g, 6, none⟩ = some (.slice Am nm cm) ∧ w'.cell? ⟨g', 0, none⟩ = some (.int .i64 s'.gap) ∧ w'.cell? ⟨g', 1, none⟩ = some (.int .i64 s'.words) ∧ w'.cell? ⟨g', 2, none⟩ = some (.int .i64 s'.room) ∧ w'.cell? ⟨g', 3, none⟩ = some (.int .i64 s'.next) ∧ w'.cell? ⟨g', 4, none⟩ = some (.bool s'.sent) ∧ w'.cell? ⟨g', 5, none⟩ = some (.int .i64 s'.last) ∧ w'.cell? ⟨g', 6, none⟩ = some (.slice Am' nm' cm'))) (by kernel_rfl) ?_ (fun hHeld => ?_)
    · exact ⟨(Below.refl _ _).drew, d0, d1, d2, d3, d4, d5, d6, e0, e1, e2, e3, e4, e5, e6⟩
    refine takeD (i := 0) (d := some 14) (v := ?_) _ rfl rfl (by kernel_rfl) (by kernel_rfl) (by kernel_rfl) (fun _ _ _ h => h) (by rfl) ?_ (by assumption) ?_
    rotate_left
    · (intro w hSw; (try dsimp only at hSw); go_simp) <;> with_reducible rfl
    try simp only [Act.put, List.setIfInBounds_toArray, List.set_cons_zero, List.set_cons_succ]
    refine takeD (i := 1) (d := some 15) (v := ?_) _ rfl rfl (by kernel_rfl) (by kernel_rfl) (by kernel_rfl) (fun _ _ _ h => h) (by rfl) ?_ (by assumption) ?_
    rotate_left
    · (intro w hSw; (try dsimp only at hSw); go_simp) <;> with_reducible rfl
    try simp only [Act.put, List.setIfInBounds_toArray, List.set_cons_zero, List.set_cons_succ]
    refine takeD (i := 2) (d := some 16) (v := ?_) _ rfl rfl (by kernel_rfl) (by kernel_rfl) (by kernel_rfl) (fun _ _ _ h => h) (by rfl) ?_ (by assumption) ?_
    rotate_left
    · (intro w hSw; (try dsimp only at hSw); go_simp) <;> with_reducible rfl
    try simp only [Act.put, List.setIfInBounds_toArray, List.set_cons_zero, List.set_cons_succ]
    refine takeD (i := 3) (d := some 17) (v := ?_) _ rfl rfl (by kernel_rfl) (by kernel_rfl) (by kernel_rfl) (fun _ _ _ h => h) (by rfl) ?_ (by assumption) ?_
    rotate_left
    · (intro w hSw; (try dsimp only at hSw); go_simp) <;> with_reducible rfl
    try simp only [Act.put, List.setIfInBounds_toArray, List.set_cons_zero, List.set_cons_succ]
    refine takeD (i := 4) (d := some 18) (v := ?_) _ rfl rfl (by kernel_rfl) (by kernel_rfl) (by kernel_rfl) (fun _ _ _ h => h) (by rfl) ?_ (by assumption) ?_
    rotate_left
    · (intro w hSw; (try dsimp only at hSw); go_simp) <;> with_reducible rfl
    try simp only [Act.put, List.setIfInBounds_toArray, List.set_cons_zero, List.set_cons_succ]
    refine takeD (i := 5) (d := some 19) (v := ?_) _ rfl rfl (by kernel_rfl) (by kernel_rfl) (by kernel_rfl) (fun _ _ _ h => h) (by rfl) ?_ (by assumption) ?_
    rotate_left
    · (intro w hSw; (try dsimp only at hSw); go_simp) <;> with_reducible rfl
    try simp only [Act.put, List.setIfInBounds_toArray, List.set_cons_zero, List.set_cons_succ]
    refine takeD (i := 6) (d := some 20) (v := ?_) _ rfl rfl (by kernel_rfl) (by kernel_rfl) (by kernel_rfl) (fun _ _ _ h => h) (by rfl) ?_ (by assumption) ?_
    rotate_left
    · (intro w hSw; (try dsimp only at hSw); go_simp) <;> with_reducible rfl
    try simp only [Act.put, List.setIfInBounds_toArray, List.set_cons_zero, List.set_cons_succ]
    refine takeD (i := 7) (d := some 21) (v := ?_) _ rfl rfl (by kernel_rfl) (by kernel_rfl) (by kernel_rfl) (fun _ _ _ h => h) (by rfl) ?_ (by assumption) ?_
    rotate_left
    · (intro w hSw; (try dsimp only at hSw); go_simp) <;> with_reducible rfl
    try simp only [Act.put, List.setIfInBounds_toArray, List.set_cons_zero, List.set_cons_succ]
    refine takeD (i := 8) (d := some 22) (v := ?_) _ rfl rfl (by kernel_rfl) (by kernel_rfl) (by kernel_rfl) (fun _ _ _ h => h) (by rfl) ?_ (by assumption) ?_
    rotate_left
    · (intro w hSw; (try dsimp only at hSw); go_simp) <;> with_reducible rfl
    try simp only [Act.put, List.setIfInBounds_toArray, List.set_cons_zero, List.set_cons_succ]
    refine takeD (i := 9) (d := some 23) (v := ?_) _ rfl rfl (by kernel_rfl) (by kernel_rfl) (by kernel_rfl) (fun _ _ _ h => h) (by rfl) ?_ (by assumption) ?_
    rotate_left
    · (intro w hSw; (try dsimp only at hSw); go_simp) <;> with_reducible rfl
    try simp only [Act.put, List.setIfInBounds_toArray, List.set_cons_zero, List.set_cons_succ]
    refine takeD (i := 10) (d := some 24) (v := ?_) _ rfl rfl (by kernel_rfl) (by kernel_rfl) (by kernel_rfl) (fun _ _ _ h => h) (by rfl) ?_ (by assumption) ?_
    rotate_left
    · (intro w hSw; (try dsimp only at hSw); go_simp) <;> with_reducible rfl
    try simp only [Act.put, List.setIfInBounds_toArray, List.set_cons_zero, List.set_cons_succ]
    refine takeD (i := 11) (d := some 25) (v := ?_) _ rfl rfl (by kernel_rfl) (by kernel_rfl) (by kernel_rfl) (fun _ _ _ h => h) (by rfl) ?_ (by assumption) ?_
    rotate_left
    · (intro w hSw; (try dsimp only at hSw); go_simp) <;> with_reducible rfl
    try simp only [Act.put, List.setIfInBounds_toArray, List.set_cons_zero, List.set_cons_succ]
    refine takeD (i := 12) (d := some 26) (v := ?_) _ rfl rfl (by kernel_rfl) (by kernel_rfl) (by kernel_rfl) (fun _ _ _ h => h) (by rfl) ?_ (by assumption) ?_
    rotate_left
    · (intro w hSw; (try dsimp only at hSw); go_simp) <;> with_reducible rfl
    try simp only [Act.put, List.setIfInBounds_toArray, List.set_cons_zero, List.set_cons_succ]
    refine takeD (i := 13) (d := some 27) (v := ?_) _ rfl rfl (by kernel_rfl) (by kernel_rfl) (by kernel_rfl) (fun _ _ _ h => h) (by rfl) ?_ (by assumption) ?_
    rotate_left
    · (intro w hSw; (try dsimp only at hSw); go_simp) <;> with_reducible rfl
    try simp only [Act.put, List.setIfInBounds_toArray, List.set_cons_zero, List.set_cons_succ]
    refine takeD (i := 14) (d := some 28) (v := ?_) _ rfl rfl (by kernel_rfl) (by kernel_rfl) (by kernel_rfl) (fun _ _ _ h => h) (by rfl) ?_ (by assumption) ?_
    rotate_left
    · (intro w hSw; (try dsimp only at hSw); go_simp) <;> with_reducible rfl
    try simp only [Act.put, List.setIfInBounds_toArray, List.set_cons_zero, List.set_cons_succ]
    refine takeD (i := 15) (d := some 29) (v := ?_) _ rfl rfl (by kernel_rfl) (by kernel_rfl) (by kernel_rfl) (fun _ _ _ h => h) (by rfl) ?_ (by assumption) ?_
    rotate_left
    · (intro w hSw; (try dsimp only at hSw); go_simp) <;> with_reducible rfl
    try simp only [Act.put, List.setIfInBounds_toArray, List.set_cons_zero, List.set_cons_succ]
    refine takeD (i := 16) (d := some 30) (v := ?_) _ rfl rfl (by kernel_rfl) (by kernel_rfl) (by kernel_rfl) (fun _ _ _ h => h) (by rfl) ?_ (by assumption) ?_
    rotate_left
    · (intro w hSw; (try dsimp only at hSw); go_simp) <;> with_reducible rfl
    try simp only [Act.put, List.setIfInBounds_toArray, List.set_cons_zero, List.set_cons_succ]
    refine takeD (i := 17) (d := some 31) (v := ?_) _ rfl rfl (by kernel_rfl) (by kernel_rfl) (by kernel_rfl) (fun _ _ _ h => h) (by rfl) ?_ (by assumption) ?_
    rotate_left
    · (intro w hSw; (try dsimp only at hSw); go_simp) <;> with_reducible rfl
    try simp only [Act.put, List.setIfInBounds_toArray, List.set_cons_zero, List.set_cons_succ]
    refine wpAnyH_ready (rs := [18]) (by kernel_rfl) (by simp) ?_
    refine AllReadyH.cons rfl (fun K hK => ?_) AllReadyH.nil
    try go_simp
    go_at_call 38
    refine (CM.out _ hHeld.1).mono ?_
    rintro e w29 ⟨rfl, hb2⟩
    try go_wp2_with fail
    refine hK.out _ _ ?_ (fun hHeld => ?_)
    · exact ⟨hHeld.1.trans (hb2.mono hHeld.1.size), cell_later hb2 hHeld.2.1, cell_later hb2 hHeld.2.2.1, cell_later hb2 hHeld.2.2.2.1, cell_later hb2 hHeld.2.2.2.2.1, cell_later hb2 hHeld.2.2.2.2.2.1, cell_later hb2 hHeld.2.2.2.2.2.2.1, cell_later hb2 hHeld.2.2.2.2.2.2.2.1, cell_later hb2 hHeld.2.2.2.2.2.2.2.2.1, cell_later hb2 hHeld.2.2.2.2.2.2.2.2.2.1, cell_later hb2 hHeld.2.2.2.2.2.2.2.2.2.2.1, cell_later hb2 hHeld.2.2.2.2.2.2.2.2.2.2.2.1, cell_later hb2 hHeld.2.2.2.2.2.2.2.2.2.2.2.2.1, cell_later hb2 hHeld.2.2.2.2.2.2.2.2.2.2.2.2.2.1, cell_later hb2 hHeld.2.2.2.2.2.2.2.2.2.2.2.2.2.2⟩
    clear hK K
    try simp only [Act.put, List.setIfInBounds_toArray, List.set_cons_zero, List.set_cons_succ]
    refine takeD (i := 19) (d := some 33) (v := ?_) _ rfl rfl (by kernel_rfl) (by kernel_rfl) (by kernel_rfl) (fun _ _ _ h => h) (by rfl) ?_ (by assumption) ?_
    rotate_left
    · (intro w hSw; (try dsimp only at hSw); go_simp) <;> with_reducible rfl
    try simp only [Act.put, List.setIfInBounds_toArray, List.set_cons_zero, List.set_cons_succ]
    refine takeD (i := 20) (d := some 4) (v := ?_) _ rfl rfl (by kernel_rfl) (by kernel_rfl) (by kernel_rfl) (fun _ _ _ h => h) (by rfl) ?_ (by assumption) ?_
    rotate_left
    · (intro w hSw; (try dsimp only at hSw); go_simp) <;> with_reducible rfl
    try simp only [Act.put, List.setIfInBounds_toArray, List.set_cons_zero, List.set_cons_succ]
    refine wpAnyH_done (by kernel_rfl) ?_ _
    have HB := Lib.hid hHeld.1
    clear hHeld
    go_wp2_with fail
    go_ret
    exact ⟨by simp, HB.out⟩
theorem same_nil_r (g : Nat) (w : World) : Calls Try.prog 24 #[.pointer (some ⟨g, 0, none⟩), .pointer none] w fun e w' => e = .returned (.bool false) ∧ w' = w := by
  have he : ∀ w : World, (binOp .eql 24 (.pointer (some ⟨g, 0, none⟩)) (.pointer none)).run Try.prog w = .ok (.bool false) w := fun _ => rfl
  go_enter Try.func24, Try.ntmps24
  go_wp2_with fail
  go_ret
  exact ⟨rfl, rfl⟩
theorem same_nil_l (g : Nat) (w : World) : Calls Try.prog 24 #[.pointer none, .pointer (some ⟨g, 0, none⟩)] w fun e w' => e = .returned (.bool false) ∧ w' = w := by
  have he : ∀ w : World, (binOp .eql 24 (.pointer none) (.pointer (some ⟨g, 0, none⟩))).run Try.prog w = .ok (.bool false) w := fun _ => rfl
  go_enter Try.func24, Try.ntmps24
  go_wp2_with fail
  go_ret
  exact ⟨rfl, rfl⟩
theorem same_nil_nil (w : World) : Calls Try.prog 24 #[.pointer none, .pointer none] w fun e w' => e = .returned (.bool true) ∧ w' = w := by
  go_enter Try.func24, Try.ntmps24
  go_wp2_with fail
  go_ret
  exact ⟨rfl, rfl⟩
theorem clone_nil (w : World) : Calls Try.prog 23 #[.pointer none] w fun e w' => e = .returned (.pointer none) ∧ w' = w := by
  go_enter Try.func23, Try.ntmps23
  go_wp2_with fail
  go_ret
  exact ⟨rfl, rfl⟩
end Go.Proofs.Ytkbjonblflhkoaa.Ln
