/-
  Same and Clone. Each statement bears its own conditions.
-/
import Derived.Test.YtbkjcjkbicaibaaKnown
namespace Go.Proofs.Ytbkjcjkbicaibaa
open Go.RowKit
set_option linter.unusedVariables false
set_option linter.unusedSimpArgs false
/-- The lines of a list, as the values that are stored. -/
structure VL (w : World) (g : Nat) (rb : Nat → Nat) (Ls : Nat → List Int) (vs : List Value) : Prop where
  len : vs.length = 64
  cell : ∀ p v, vs[p]? = some v → w.cell? ⟨g, 1 + p, none⟩ = some v
  row : ∀ p v, p < 64 → vs[p]? = some v → RowV w v (rb p) (Ls p)
theorem LF.vl {w : World} {g : Nat} {rb : Nat → Nat} {Ls : Nat → List Int} (h : LF w g rb Ls) : ∃ vs, VL w g rb Ls vs := by
  have hv : ∀ p, ∃ v, p < 64 → w.cell? ⟨g, 1 + p, none⟩ = some v ∧ RowV w v (rb p) (Ls p) := fun p => by
    by_cases hp : p < 64
    · obtain ⟨v, a, b, _⟩ := h.ln p hp
      exact ⟨v, fun _ => ⟨a, b⟩⟩
    · exact ⟨undef, fun h => absurd h hp⟩
  refine ⟨(List.range 64).map fun p => Classical.choose (hv p), by simp, fun p v hpv => ?_, fun p v hp hpv => ?_⟩
  · obtain ⟨h1, h2⟩ := List.getElem?_eq_some_iff.1 hpv
    simp at h1 h2
    rw [← h2]
    exact (Classical.choose_spec (hv p) h1).1
  · obtain ⟨h1, h2⟩ := List.getElem?_eq_some_iff.1 hpv
    simp at h1 h2
    rw [← h2]
    exact (Classical.choose_spec (hv p) h1).2
theorem VL.range {w : World} {g : Nat} {rb : Nat → Nat} {Ls : Nat → List Int} {vs : List Value} (h : VL w g rb Ls vs) : w.rangeAt g 1 vs := h.cell
theorem size51 : (Try.prog.info? 51).map (·.size) = some 64 := by kernel_rfl
def eqL (Ls Ms : Nat → List Int) : Bool := decide (∀ p : Nat, p < 64 → Ls p = Ms p)
structure SmRel (Ls Ms : Nat → List Int) (w : World) (v : Value) (wr : World) : Prop where
  ex : ∃ k : Nat, k ≤ 64 ∧ v = .int .i64 (k : Int) ∧ (∀ p, p < k → Ls p = Ms p) ∧ Below w.heap.size w wr
set_option maxRecDepth 100000 in
set_option maxHeartbeats 400000 in
theorem same_any (g g' : Nat) (rb rb' : Nat → Nat) (Ls Ms : Nat → List Int) (w : World) (h : LF w g rb Ls) (hs : Sm Ls) (h' : LF w g' rb' Ms) (hs' : Sm Ms) :
    Calls Try.prog 19 #[.pointer (some ⟨g, 0, none⟩), .pointer (some ⟨g', 0, none⟩)] w fun e w' => e = .returned (.bool (eqL Ls Ms)) ∧ Below w.heap.size w w' := by
  have he : ∀ (x : Nat) (w : World), (binOp .eql 23 (.pointer (some ⟨x, 0, none⟩)) (.pointer none)).run Try.prog w = .ok (.bool false) w := fun _ _ => rfl
  obtain ⟨vs, hvs⟩ := h.vl
  have RNG := Lib.hid hvs.range
  have HSZ : Hid ((Try.prog.info? 51).map (·.size) = some vs.length) := by unfold Hid; rw [hvs.len]; exact size51
  have HV := Lib.hid hvs
  have H' := Lib.hid h'
  have HS := Lib.hid hs
  have HS' := Lib.hid hs'
  obtain ⟨eq, heq⟩ : ∃ eq, eqL Ls Ms = eq := ⟨_, rfl⟩
  rw [heq]
  unfold eqL at heq
  have HE := Lib.hid heq
  clear h h' hs hs' hvs heq
  go_enter Try.func19, Try.ntmps19
  go_wp2_with (refine wpList_load_mid rfl 51 (.tmp 18) rfl g 1 rfl vs _ RNG.out Try.underlying51 rfl HSZ.out ?_)
  go_loopw [20] (fun v wr => SmRel Ls Ms w v wr) (fun v => fun _ => 65 - (intOf v).toNat)
  case atStart => exact ⟨⟨0, Nat.zero_le _, rfl, fun p hp => by omega, Below.refl _ _⟩⟩
  case round =>
    obtain ⟨⟨k, hk, rfl, hall, hb⟩⟩ := hrel
    have HALL := Lib.hid hall
    have HB := Lib.hid hb
    have HK := Lib.hid hk
    clear hall hb hk
    by_cases hlt : k < 64
    · have hkI : (k : Int) < 64 := by omega
      have HX : Hid (k < 64) := hlt
      obtain ⟨v, hv⟩ : ∃ v, vs[k]? = some v := ⟨vs[k]'(by rw [HV.out.len]; exact hlt), List.getElem?_eq_getElem _⟩
      have HR := Lib.hid ((HV.out.row k v hlt hv).below HB.out)
      obtain ⟨v', hc', hr', _⟩ := (H'.out.below HB.out).ln k hlt
      have HR' := Lib.hid hr'
      have hix : (Instr.index 51 (.agg vs.toArray) (.int .i64 (k : Int))).run Try.prog wr = .ok v wr := by
        have hsz : vs.toArray.size = 64 := by simpa using HV.out.len
        have hvk : vs[k]'(by rw [HV.out.len]; exact hlt) = v := (List.getElem?_eq_some_iff.1 hv).2
        have hk64 : ¬ (64 : Int) ≤ (k : Int) := by omega
        have hks : k < vs.toArray.size := by rw [hsz]; exact hlt
        unfold Instr.index
        simp [asIntOf, run_underlying Try.underlying51, hkI, part, Try.isAgg43, Try.sizeOf43, hv, hlt]
      clear hlt hr' hv
      obtain ⟨e, he1⟩ : ∃ e, decide (Ls k = Ms k) = e := ⟨_, rfl⟩
      have HE1 := Lib.hid he1
      have EQ := Lib.hid (equal_any v v' (rb k) (rb' k) (Ls k) (Ms k) wr HR.out HR'.out (HS.out k HX.out) (HS'.out k HX.out))
      rw [he1] at EQ
      clear he1
      go_wp2_with fail
      refine EQ.out.mono ?_
      rintro e1 w2 ⟨rfl, b2⟩
      have HB2 := Lib.hid (HB.out.trans (b2.mono HB.out.size))
      clear b2
      cases e with
      | true =>
        have HA2 : Hid (∀ p, p < k + 1 → Ls p = Ms p) := fun p hp => by
          by_cases hpk : p = k
          · subst hpk; exact of_decide_eq_true HE1.out
          · exact HALL.out p (by omega)
        go_wp2_with fail
        go_roundw
        case rel =>
          have Q : SmRel Ls Ms w (.int .i64 ((k : Int) + 1)) w2 := ⟨⟨k + 1, HX.out, by go_num, HA2.out, HB2.out⟩⟩
          first | exact Q | ((repeat apply Exists.intro); exact ⟨Q, rfl⟩)
        case measure => have := HX.out; simp [intOf]; omega
      | false =>
        have HF : Hid (eq = false) := by
          unfold Hid
          rw [← HE.out, decide_eq_false_iff_not]
          exact fun h => of_decide_eq_false HE1.out (h k HX.out)
        go_wp2_with fail
        go_ret
        exact ⟨by rw [HF.out]; rfl, HB2.out⟩
    · have hkI : ¬ (k : Int) < 64 := by omega
      have HF : Hid (eq = true) := by
        unfold Hid
        rw [← HE.out, decide_eq_true_iff]
        exact fun p hp => HALL.out p (by have := HK.out; omega)
      clear hlt
      go_wp2_with fail
      go_ret
      exact ⟨by rw [HF.out]; rfl, HB.out⟩
/-- The lines below k. -/
def lo (Ls : Nat → List Int) (k : Nat) : Nat → List Int := fun p => if p < k then Ls p else []
theorem lo_nil {Ls : Nat → List Int} {k : Nat} (h : Ls k = []) : lo Ls (k + 1) = lo Ls k := by
  funext p
  simp only [lo]
  by_cases h1 : p < k
  · rw [if_pos h1, if_pos (by omega)]
  · by_cases h2 : p = k
    · subst h2; rw [if_pos (by omega), if_neg h1, h]
    · rw [if_neg h1, if_neg (by omega)]
theorem lo_all (Ls : Nat → List Int) {p : Nat} (hp : p < 64) : lo Ls 64 p = Ls p := by simp only [lo]; rw [if_pos hp]
theorem lo_succ (Ls : Nat → List Int) (k : Nat) : lo Ls (k + 1) = upd (lo Ls k) k (Ls k) := by
  funext p
  simp only [lo, upd]
  by_cases h2 : p = k
  · subst h2; simp
  · rw [if_neg h2]
    by_cases h1 : p < k
    · rw [if_pos h1, if_pos (by omega)]
    · rw [if_neg h1, if_neg (by omega)]
theorem Kp.of_below {g rb : Nat} {w w' : World} (h : Below w.heap.size w w') : Kp g rb w w' := ⟨h.os, h.tape, h.output, h.size, fun k hk _ => h.block k hk⟩
theorem Kp.refl (g rb : Nat) (w : World) : Kp g rb w w := ⟨rfl, rfl, rfl, Nat.le_refl _, fun _ _ _ => rfl⟩
theorem LF.same {w : World} {g : Nat} {rb : Nat → Nat} {Ls Ms : Nat → List Int} (h : LF w g rb Ls) (e : ∀ p, p < 64 → Ls p = Ms p) : LF w g rb Ms := by
  refine ⟨h.lt, h.fz, ?_, fun p hp => ?_, h.ap⟩
  · obtain ⟨F, a, b, c⟩ := h.wd
    exact ⟨F, a, fun p hp => by rw [b p hp, e p hp], c⟩
  · obtain ⟨v, a, b, c⟩ := h.ln p hp
    exact ⟨v, a, by rw [← e p hp]; exact b, c⟩
theorem lx_new (w : World) (cs : Array Value) (F : Nat) (hc : cs = (Value.int .u64 (F : Int) :: List.replicate 64 (Value.slice none 0 0)).toArray) (hF : F < 2 ^ 64) : LX (w.alloc (.cells cs 53)) w.heap.size (fun _ => w.heap.size) (fun _ => []) F := by
  subst hc
  refine ⟨by simp, fun o => by simp, hF, by rw [World.cell?_alloc_new]; rfl, fun p hp => ⟨.slice none 0 0, ?_, ⟨⟨rfl, .inl ⟨rfl, rfl⟩⟩, fun b hb => by cases hb⟩, .inl ⟨rfl, rfl⟩⟩, fun p q _ _ _ h => absurd rfl h⟩
  rw [World.cell?_alloc_new]
  show (Value.int .u64 (F : Int) :: List.replicate 64 (Value.slice none 0 0)).toArray[1 + p]? = _
  rw [List.getElem?_toArray, show 1 + p = p + 1 by omega, List.getElem?_cons_succ, List.getElem?_replicate]
  simp [hp]
theorem LX.lineNil {w : World} {g pr F : Nat} {rb : Nat → Nat} {Ls : Nat → List Int} (h : LX w g rb Ls F) (hp : pr < 64) (hr : rb pr = g) (hl : Ls pr = []) : LX (w.setCell ⟨g, 1 + pr, none⟩ (.slice none 0 0)) g rb Ls F := by
  obtain ⟨v0, hv0, _, _⟩ := h.ln pr hp
  refine ⟨by simpa [World.setCell] using h.lt, fun o => by rw [World.frozen?_setCell]; exact h.fz o, h.flt, ?_, fun p hpp => ?_, h.ap⟩
  · rw [World.cell?_setCell_other _ _ _ _ (by intro e; injection e with _ e; omega)]; exact h.wc
  · by_cases hpe : p = pr
    · subst hpe
      exact ⟨_, World.cell?_setCell_same' _ _ _ (by rw [hv0]; rfl), ⟨⟨by rw [hl]; rfl, .inl ⟨rfl, by rw [hl]; rfl⟩⟩, fun b hb => by cases hb⟩, .inl ⟨rfl, hr⟩⟩
    · obtain ⟨v, a, b, c⟩ := h.ln p hpp
      refine ⟨v, ?_, ?_, c.imp (fun c => c) (fun c => ⟨c.1, by simpa [World.setCell] using c.2⟩)⟩
      · rw [World.cell?_setCell_other _ _ _ _ (by intro e; injection e with _ e; omega)]; exact a
      · rcases c with ⟨c, _⟩ | ⟨c1, c2⟩
        · exact b.keep (.inl c)
        · exact b.keep (.inr (Below.heap_setCell _ _ _ _ c1))
structure ClRel (Ls : Nat → List Int) (F : Nat) (w : World) (v : Value) (wr : World) : Prop where
  ex : ∃ (k : Nat) (rb1 : Nat → Nat), k ≤ 64 ∧ v = .int .i64 (k : Int) ∧ LX wr w.heap.size rb1 (lo Ls k) F ∧ Own w.heap.size w.heap.size rb1 ∧ (∀ p, k ≤ p → p < 64 → rb1 p = w.heap.size) ∧ Below w.heap.size w wr
set_option maxRecDepth 100000 in
set_option maxHeartbeats 400000 in
theorem clone_l (g : Nat) (rb : Nat → Nat) (Ls : Nat → List Int) (w : World) (h : LF w g rb Ls) (hs : Sm Ls) :
    Calls Try.prog 18 #[.pointer (some ⟨g, 0, none⟩)] w fun e w' => ∃ g' rb', e = .returned (.pointer (some ⟨g', 0, none⟩)) ∧ LF w' g' rb' Ls ∧ Own w.heap.size g' rb' ∧ Below w.heap.size w w' := by
  have he : ∀ (x : Nat) (w : World), (binOp .eql 23 (.pointer (some ⟨x, 0, none⟩)) (.pointer none)).run Try.prog w = .ok (.bool false) w := fun _ _ => rfl
  obtain ⟨cs, hz, hcs⟩ : ∃ cs : Array Value, (∀ w, (zeroValue 53).run Try.prog w = .ok (.agg cs) w) ∧ cs = (Value.int .u64 0 :: List.replicate 64 (Value.slice none 0 0)).toArray := ⟨_, zero53, rfl⟩
  obtain ⟨F, hx, hw⟩ := h.lx
  have hwc := hx.wc
  obtain ⟨vs, hvs⟩ := h.vl
  have HSZ : Hid ((Try.prog.info? 51).map (·.size) = some vs.length) := by unfold Hid; rw [hvs.len]; exact size51
  have HV := Lib.hid hvs
  have HC := Lib.hid hcs
  have HX := Lib.hid hx
  have HW := Lib.hid hw
  have HS := Lib.hid hs
  have RNG : Hid (∀ o, (w.alloc o).rangeAt g 1 vs) := fun o => World.rangeAt_alloc hvs.range o
  clear h hx hw hs hvs hcs
  have hsz : ¬ cs = #[] := by rw [HC.out]; simp
  have HC1 : Hid (cs.setIfInBounds 0 (.int .u64 (F : Int)) = (Value.int .u64 (F : Int) :: List.replicate 64 (Value.slice none 0 0)).toArray) := by
    unfold Hid; rw [HC.out]; simp
  go_enter Try.func18, Try.ntmps18
  go_wp2_with (refine wpList_load_mid rfl 51 (.tmp 16) rfl g 1 rfl vs _ (RNG.out _) Try.underlying51 rfl HSZ.out ?_)
  obtain ⟨c1, hc1⟩ : ∃ c1, cs.setIfInBounds 0 (.int .u64 (F : Int)) = c1 := ⟨_, rfl⟩
  rw [hc1] at HC1 ⊢
  obtain ⟨wa, hwa⟩ : ∃ wa, w.alloc (.cells c1 53) = wa := ⟨_, rfl⟩
  have BA : Hid (Below w.heap.size w wa) := by unfold Hid; rw [← hwa]; exact (Below.refl _ _).alloc (Nat.le_refl _) _
  have LA : Hid (LX wa w.heap.size (fun _ => w.heap.size) (lo Ls 0) F) := by unfold Hid; rw [← hwa]; exact lx_new w c1 F HC1.out HX.out.flt
  rw [hwa]
  clear hc1 hwa hz hwc hsz
  go_loopw [18] (fun v wr => ClRel Ls F w v wr) (fun v => fun _ => 65 - (intOf v).toNat)
  case atStart => exact ⟨⟨0, fun _ => w.heap.size, Nat.zero_le _, rfl, LA.out, ⟨Nat.le_refl _, fun _ _ => Nat.le_refl _⟩, fun _ _ _ => rfl, BA.out⟩⟩
  case round =>
    obtain ⟨⟨k, rb1, hk, rfl, hlx, ho, hn, hb⟩⟩ := hrel
    have HL1 := Lib.hid hlx
    have HO2 := Lib.hid ho
    have HN2 := Lib.hid hn
    have HB := Lib.hid hb
    have HK := Lib.hid hk
    clear hlx ho hn hb hk LA BA
    by_cases hlt : k < 64
    · have hkI : (k : Int) < 64 := by omega
      have HK1 : Hid (k < 64) := hlt
      obtain ⟨v, hv⟩ : ∃ v, vs[k]? = some v := ⟨vs[k]'(by rw [HV.out.len]; exact hlt), List.getElem?_eq_getElem _⟩
      have HR := Lib.hid ((HV.out.row k v hlt hv).below HB.out)
      have hix : (Instr.index 51 (.agg vs.toArray) (.int .i64 (k : Int))).run Try.prog wr = .ok v wr := by
        unfold Instr.index
        simp [asIntOf, run_underlying Try.underlying51, hkI, part, Try.isAgg43, Try.sizeOf43, hv, hlt]
      clear hlt hv
      go_wp2_with fail
      refine wp_region_held_drew (S := (fun _ => True)) (by kernel_rfl) trivial (fun _ => ?_)
      have HR := Lib.hid (HR.out.below (Below.refl _ _).drew)
      have HX2 := Lib.hid (HL1.out.below (Below.refl _ _).drew)
      have HB2 := Lib.hid HB.out.drew
      clear hix HL1 HB
      generalize wr.drew = w2 at HR HX2 HB2 ⊢
      refine takeD (i := 0) (d := some 22) (v := ?_) _ rfl rfl (by kernel_rfl) (by kernel_rfl) (by kernel_rfl) (fun _ _ _ h => h) (by rfl) ?_ trivial ?_
      rotate_left
      · (intro w hSw; (try dsimp only at hSw); go_simp) <;> with_reducible rfl
      try simp only [Act.put, List.setIfInBounds_toArray, List.set_cons_zero, List.set_cons_succ]
      refine takeD (i := 1) (d := some 23) (v := ?_) _ rfl rfl (by kernel_rfl) (by kernel_rfl) (by kernel_rfl) (fun _ _ _ h => h) (by rfl) ?_ trivial ?_
      rotate_left
      · (intro w hSw; (try dsimp only at hSw); go_simp) <;> with_reducible rfl
      try simp only [Act.put, List.setIfInBounds_toArray, List.set_cons_zero, List.set_cons_succ]
      refine takeD (i := 2) (d := some 24) (v := ?_) _ rfl rfl (by kernel_rfl) (by kernel_rfl) (by kernel_rfl) (fun _ _ _ h => h) (by rfl) ?_ trivial ?_
      rotate_left
      · (intro w hSw; (try dsimp only at hSw); go_simp) <;> with_reducible rfl
      try simp only [Act.put, List.setIfInBounds_toArray, List.set_cons_zero, List.set_cons_succ]
      refine takeD (i := 4) (d := some 26) (v := ?_) _ rfl rfl (by kernel_rfl) (by kernel_rfl) (by kernel_rfl) (fun _ _ _ h => h) (by rfl) ?_ trivial ?_
      rotate_left
      · (intro w hSw; (try dsimp only at hSw); go_simp) <;> with_reducible rfl
      try simp only [Act.put, List.setIfInBounds_toArray, List.set_cons_zero, List.set_cons_succ]
      refine takeD (i := 5) (d := some 27) (v := ?_) _ rfl rfl (by kernel_rfl) (by kernel_rfl) (by kernel_rfl) (fun _ _ _ h => h) (by rfl) ?_ trivial ?_
      rotate_left
      · (intro w hSw; (try dsimp only at hSw); go_simp) <;> with_reducible rfl
      try simp only [Act.put, List.setIfInBounds_toArray, List.set_cons_zero, List.set_cons_succ]
      refine wpAnyH_ready (rs := [3]) (by kernel_rfl) (by simp) ?_
      refine AllReadyH.cons rfl (fun K hK => ?_) AllReadyH.nil
      go_simp
      go_at_call 34
      refine (clone_any v (rb k) (Ls k) w2 HR.out (HS.out k HK1.out)).mono ?_
      rintro e wc ⟨A3, n3, c3, r3, rfl, hr3, hor3, b3⟩
      try go_wp2_with fail
      refine hK.out _ _ trivial (fun _ => ?_)
      clear hK K
      try simp only [Act.put, List.setIfInBounds_toArray, List.set_cons_zero, List.set_cons_succ]
      refine takeD (i := 6) (d := some 28) (v := ?_) _ rfl rfl (by kernel_rfl) (by kernel_rfl) (by kernel_rfl) (fun _ _ _ h => h) (by rfl) ?_ trivial ?_
      rotate_left
      · (intro w hSw; (try dsimp only at hSw); go_simp) <;> with_reducible rfl
      try simp only [Act.put, List.setIfInBounds_toArray, List.set_cons_zero, List.set_cons_succ]
      have hXV := HX2.out.below b3
      obtain ⟨v0, k0, _, _⟩ := hXV.ln k HK1.out
      have kf := hXV.fz
      have hst : Hid (∃ rb2, LX (wc.setCell ⟨w.heap.size, 1 + k, none⟩ (.slice A3 n3 c3)) w.heap.size rb2 (lo Ls (k + 1)) F ∧ Own w.heap.size w.heap.size rb2 ∧ ∀ p, k + 1 ≤ p → p < 64 → rb2 p = w.heap.size) := by
        unfold Hid
        rcases hor3 with hn | ⟨h1, h2⟩
        · have hnil : Ls k = [] := by
            rcases hr3.form with ⟨_, h0⟩ | ⟨_, _, h0, _⟩
            · exact h0
            · rw [hn] at h0; cases h0
          refine ⟨rb1, ?_, HO2.out, fun p h1 h2 => HN2.out p (by omega) h2⟩
          rw [hn, lo_nil hnil]
          exact hXV.lineNil HK1.out (HN2.out k (Nat.le_refl _) HK1.out) (by simp [lo])
        · refine ⟨upd rb1 k r3, ?_, ⟨Nat.le_refl _, fun p hp => ?_⟩, fun p h3 h4 => ?_⟩
          · rw [lo_succ]
            exact HX2.out.line HK1.out (Kp.of_below b3) hr3 (by have := HX2.out.lt; omega) h2 (.inr h1)
          · by_cases e : p = k
            · subst e; rw [upd_same]; have := HB2.out.size; omega
            · rw [upd_other _ _ e]; exact HO2.out.2 p hp
          · rw [upd_other _ _ (by omega)]; exact HN2.out p (by omega) h4
      have hbl : Hid (Below w.heap.size w (wc.setCell ⟨w.heap.size, 1 + k, none⟩ (.slice A3 n3 c3))) := (HB2.out.trans (b3.mono HB2.out.size)).setCell (Nat.le_refl _) _
      clear hr3 hor3 b3 hXV
      refine wpAnyH_ready (rs := [7]) (by kernel_rfl) (by simp) ?_
      refine AllReadyH.cons rfl (fun K hK => ?_) AllReadyH.nil
      go_simp
      refine hK.out _ _ trivial (fun _ => ?_)
      clear hK K
      try simp only [Act.put, List.setIfInBounds_toArray, List.set_cons_zero, List.set_cons_succ]
      refine wpAnyH_done (by kernel_rfl) ?_ _
      clear k0 kf
      generalize wc.setCell ⟨w.heap.size, 1 + k, none⟩ (.slice A3 n3 c3) = wd at hst hbl ⊢
      go_wp2_with fail
      go_roundw
      case rel =>
        have Q : ClRel Ls F w (.int .i64 ((k : Int) + 1)) wd := by
          obtain ⟨rb2, h1, h2, h3⟩ := hst.out
          exact ⟨⟨k + 1, rb2, HK1.out, by go_num, h1, h2, h3, hbl.out⟩⟩
        first | exact Q | ((repeat apply Exists.intro); exact ⟨Q, rfl⟩)
      case measure => have := HK1.out; simp [intOf]; omega
    · have hkI : ¬ (k : Int) < 64 := by omega
      have hk : k = 64 := by have := HK.out; omega
      subst hk
      clear hlt
      go_wp2_with fail
      go_ret
      refine ⟨w.heap.size, rfl, rb1, ?_, HO2.out, HB.out⟩
      exact (HL1.out.lf (F := F) (fun p hp => by rw [HW.out p hp, lo_all Ls hp])).same (fun p hp => lo_all Ls hp)
end Go.Proofs.Ytbkjcjkbicaibaa
