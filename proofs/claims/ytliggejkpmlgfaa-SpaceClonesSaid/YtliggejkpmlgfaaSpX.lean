/-
  What is done with a space, and with the document's. Each statement bears its own conditions.
-/
import Derived.Test.YtliggejkpmlgfaaSpW
namespace Go.Proofs.Ytliggejkpmlgfaa
open Go.RowKit
set_option linter.unusedVariables false
set_option linter.unusedSimpArgs false
theorem rt_five {q : Nat} (h : (q : Int) < 5) : q = 0 ∨ q = 1 ∨ q = 2 ∨ q = 3 ∨ q = 4 := by omega
def DoPost (lo hi p rb : Nat) (l : List MA) (LL : List (List Int)) (va vl : Value) (w : World) (e : Ending) (w' : World) : Prop :=
  ∃ vl' LL', e = .returned (.tuple #[.agg #[va, vl'], .bool true]) ∧ SP lo hi w' p rb l LL'.flatten ∧ Turns w w' va vl vl' l LL LL' ∧ Sh l LL' ∧ Past rb w w'
theorem hp_keep {g : Nat} {w w' : World} {b : Nat} {o : Obj} (hb : Past g w w') (hg : b ≠ g) (h : w.heap[b]? = some o) : w'.heap[b]? = some o := (hb.block _ (Array.getElem?_eq_some_iff.1 h).1 hg).trans h
set_option maxRecDepth 100000 in
set_option maxHeartbeats 16000000 in
theorem do_any (lo hi p rb : Nat) (va vl v2 : Value) (l : List MA) (LL : List (List Int)) (kind at_ y : Int) (keep : Bool) (ns : List Int) (w : World) (h : SP lo hi w p rb l LL.flatten) (hr : RS rb w va vl l LL) (hs : Sh l LL) (ha : U32 at_) (hy : U32 y) (hv : St rb w 1 v2 ns.length (CU ns)) (hcap : ∀ a n c, v2 = .slice a n c → n ≤ c) (hu : ∀ x ∈ ns, U32 x) :
    Calls Try.prog 15 #[.pointer (some ⟨p, 0, none⟩), .agg #[va, vl], .agg #[.int .i64 kind, .int .u32 at_, .int .u32 y, v2, .bool keep]] w (DoPost lo hi p rb l LL va vl w) := by
  obtain ⟨A2, c2, rfl⟩ := hv.form
  have hn2 := hcap _ _ _ rfl
  obtain ⟨n2, hnn⟩ : ∃ n2, ns.length = n2 := ⟨_, rfl⟩
  rw [hnn] at hv hn2 ⊢
  have HNN := Lib.hid hnn
  have HV := Lib.hid hv
  have HU := Lib.hid hu
  have HSP := Lib.hid h
  have HRS := Lib.hid hr
  have HS := Lib.hid hs
  have HA := Lib.hid ha
  have HY := Lib.hid hy
  have HRB : Hid (rb < w.heap.size) := by have := h.hr.2; have := h.hs; unfold Hid; omega
  obtain ⟨A, c, A', c', hva, hvl⟩ := hr.form
  obtain ⟨n, hn⟩ : ∃ n, l.length = n := ⟨_, rfl⟩
  obtain ⟨m, hm⟩ : ∃ m, LL.length = m := ⟨_, rfl⟩
  rw [hn] at hva
  rw [hm] at hvl
  subst hva hvl
  clear hnn hv hu h hr hs ha hy hcap hn hm
  obtain ⟨u, q, a1, a2, a3, a4, a5⟩ := lowK 5 (by omega) kind
  obtain ⟨W0, hW0⟩ : ∃ W0, ((w.alloc (.cells #[.slice A n c, .slice A' m c'] 31)).alloc (.cells #[.int .i64 kind, .int .u32 at_, .int .u32 y, .slice A2 n2 c2, .bool keep] 42)).alloc (.cells #[.slice none 0 0, .slice none 0 0] 31) = W0 := ⟨_, rfl⟩
  have HS0 : Hid (W0.heap.size = w.heap.size + 3) := by rw [← hW0]; unfold Hid; simp
  have B0 : Hid (Below w.heap.size w W0) := by rw [← hW0]; exact (((Below.refl _ _).alloc (Nat.le_refl _) _).alloc (by simp) _).alloc (by simp; omega) _
  have HX0 : Hid (W0.heap[w.heap.size]? = some (.cells #[.slice A n c, .slice A' m c'] 31 (0, 0))) := by
    rw [← hW0]; exact heap_keep ((Below.refl _ _).alloc (Nat.le_refl _) _) ((((Below.refl _ _).alloc (Nat.le_refl _) _).block _ (by simp)).trans (heap_alloc_new _ _))
  have HO0 : Hid (W0.heap[w.heap.size + 1]? = some (.cells #[.int .i64 kind, .int .u32 at_, .int .u32 y, .slice A2 n2 c2, .bool keep] 42 (0, 0))) := by
    rw [← hW0]
    have h1 := heap_alloc_new (w.alloc (.cells #[.slice A n c, .slice A' m c'] 31)) (.cells #[.int .i64 kind, .int .u32 at_, .int .u32 y, .slice A2 n2 c2, .bool keep] 42)
    have h2 : ((w.alloc (.cells #[.slice A n c, .slice A' m c'] 31)).alloc (.cells #[.int .i64 kind, .int .u32 at_, .int .u32 y, .slice A2 n2 c2, .bool keep] 42)).heap[w.heap.size + 1]? = some (.cells #[.int .i64 kind, .int .u32 at_, .int .u32 y, .slice A2 n2 c2, .bool keep] 42 (0, 0)) := by simpa using h1
    exact heap_keep ((Below.refl _ _).alloc (Nat.le_refl _) _) h2
  have HZ0 : Hid (W0.heap[w.heap.size + 2]? = some (.cells #[.slice none 0 0, .slice none 0 0] 31 (0, 0))) := by
    rw [← hW0]
    have h1 := heap_alloc_new ((w.alloc (.cells #[.slice A n c, .slice A' m c'] 31)).alloc (.cells #[.int .i64 kind, .int .u32 at_, .int .u32 y, .slice A2 n2 c2, .bool keep] 42)) (.cells #[.slice none 0 0, .slice none 0 0] 31)
    unfold Hid
    simpa using h1
  have HSP0 := Lib.hid (HSP.out.below B0.out)
  have HRS0 := Lib.hid (HRS.out.below B0.out)
  have P0 := Lib.hid (Past.of_below (g := rb) B0.out)
  -- a block that the call made may be written
  have FIN : Hid (∀ (W : World) (vl' : Value) (LL' : List (List Int)) (u0 u1 : Value), Past rb w W → SP lo hi W p rb l LL'.flatten → (∀ g, g < w.heap.size + 3 → RS g w (.slice A n c) (.slice A' m c') l LL → RS g W (.slice A n c) vl' l LL') → Sh l LL' →
      DoPost lo hi p rb l LL (.slice A n c) (.slice A' m c') w (.returned (.tuple #[.agg #[.slice A n c, vl'], .bool true])) ((W.setCell ⟨w.heap.size + 2, 0, none⟩ u0).setCell ⟨w.heap.size + 2, 1, none⟩ u1)) := by
    intro W vl' LL' u0 u1 hp hsp htt hsh
    have PV : Past (w.heap.size + 2) W ((W.setCell ⟨w.heap.size + 2, 0, none⟩ u0).setCell ⟨w.heap.size + 2, 1, none⟩ u1) := ((Past.refl _ _).setCell 0 _).setCell 1 _
    refine ⟨vl', LL', rfl, hsp.past PV (Or.inr (by have := HSP.out.hs; omega)), fun g hg hr => (htt g (by omega) hr).both (htt (w.heap.size + 2) (by omega) (HRS.out.fresh (by omega))) PV, hsh, PV.os.trans hp.os, PV.tape.trans hp.tape, PV.output.trans hp.output, Nat.le_trans hp.size PV.size, fun k hk hg => ?_⟩
    rw [PV.block k (Nat.lt_of_lt_of_le hk hp.size) (by omega)]
    exact hp.block k hk hg
  have x0 := (row_cell HX0.out 0).1
  have x1 := (row_cell HX0.out 1).1
  simp at x0 x1
  have o0 := (row_cell HO0.out 0).1
  have o1 := (row_cell HO0.out 1).1
  have o2 := (row_cell HO0.out 2).1
  have o3 := (row_cell HO0.out 3).1
  have o4 := (row_cell HO0.out 4).1
  simp at o0 o1 o2 o3 o4
  rcases rt_five a4 with rfl | rfl | rfl | rfl | rfl
  · have C1 := Lib.hid (load_any lo hi p rb l LL at_ W0 HSP0.out HS.out HA.out)
    have C2 := Lib.hid fun (W : World) (hb : Below W0.heap.size W0 W) => rload_any rb _ _ l LL at_ W (HRS0.out.below hb) HS.out HA.out
    obtain ⟨r1, r2, hr⟩ : ∃ r1 r2, ldV at_ l LL = (r1, r2) := ⟨_, _, rfl⟩
    rw [hr] at C1 C2
    dsimp only at C1 C2
    clear hr
    go_enter Try.func15, Try.ntmps15
    go_wp2_with fail
    refine C1.out.mono ?_
    rintro e W1 ⟨rfl, b1⟩
    have HX1 := Lib.hid (heap_keep b1 HX0.out)
    have HO1 := Lib.hid (heap_keep b1 HO0.out)
    have HZ1 := Lib.hid (heap_keep b1 HZ0.out)
    have HB1 := Lib.hid b1
    clear b1 C1 x0 x1 o0 o1 o2 o3 o4
    have x0 := (row_cell HX1.out 0).1
    have x1 := (row_cell HX1.out 1).1
    simp at x0 x1
    have o0 := (row_cell HO1.out 0).1
    have o1 := (row_cell HO1.out 1).1
    have o2 := (row_cell HO1.out 2).1
    have o3 := (row_cell HO1.out 3).1
    have o4 := (row_cell HO1.out 4).1
    simp at o0 o1 o2 o3 o4
    go_wp2_with fail
    refine (C2.out W1 HB1.out).mono ?_
    rintro e W2 ⟨rfl, b2⟩
    have HX2 := Lib.hid (heap_keep b2 HX1.out)
    have HZ2 := Lib.hid (heap_keep b2 HZ1.out)
    have HB2 : Hid (Below W0.heap.size W0 W2) := HB1.out.trans (b2.mono HB1.out.size)
    clear b2 C2 x0 x1 o0 o1 o2 o3 o4
    have x0 := (row_cell HX2.out 0).1
    have x1 := (row_cell HX2.out 1).1
    simp at x0 x1
    have z0 := (row_cell HZ2.out 0).1
    have z1 := (row_cell HZ2.out 1).1
    have zf0 := (row_cell HZ2.out 0).2
    have zf1 := (row_cell HZ2.out 1).2
    simp at z0 z1
    go_wp2_with fail
    (try unfold Exit.noGoto)
    (try simp only [Exit.inBlock, Exit.then])
    refine bodyPost_ret (results_cell_tmp rfl _ _ (w.heap.size + 2) _ _ rfl (set_two HZ2.out _ _) Try.underlying31 rfl (by kernel_rfl)) rfl ?_
    exact FIN.out W2 (.slice A' m c') LL _ _ (P0.out.then_ HB2.out) (HSP0.out.below HB2.out) (fun g hg hr => (hr.below B0.out).below HB2.out) HS.out
  · have C1 := Lib.hid (fetch_any lo hi p rb l LL at_ W0 HSP0.out HS.out HA.out)
    have C2 := Lib.hid fun (W : World) (hb : Below W0.heap.size W0 W) => rfetch_any rb _ _ l LL at_ W (HRS0.out.below hb) HS.out HA.out
    obtain ⟨r1, r2, hr⟩ : ∃ r1 r2, ftV at_ l LL = (r1, r2) := ⟨_, _, rfl⟩
    rw [hr] at C1 C2
    dsimp only at C1 C2
    clear hr
    go_enter Try.func15, Try.ntmps15
    go_wp2_with fail
    refine C1.out.mono ?_
    rintro e W1 ⟨rfl, b1⟩
    have HX1 := Lib.hid (heap_keep b1 HX0.out)
    have HO1 := Lib.hid (heap_keep b1 HO0.out)
    have HZ1 := Lib.hid (heap_keep b1 HZ0.out)
    have HB1 := Lib.hid b1
    clear b1 C1 x0 x1 o0 o1 o2 o3 o4
    have x0 := (row_cell HX1.out 0).1
    have x1 := (row_cell HX1.out 1).1
    simp at x0 x1
    have o0 := (row_cell HO1.out 0).1
    have o1 := (row_cell HO1.out 1).1
    have o2 := (row_cell HO1.out 2).1
    have o3 := (row_cell HO1.out 3).1
    have o4 := (row_cell HO1.out 4).1
    simp at o0 o1 o2 o3 o4
    go_wp2_with fail
    refine (C2.out W1 HB1.out).mono ?_
    rintro e W2 ⟨rfl, b2⟩
    have HX2 := Lib.hid (heap_keep b2 HX1.out)
    have HZ2 := Lib.hid (heap_keep b2 HZ1.out)
    have HB2 : Hid (Below W0.heap.size W0 W2) := HB1.out.trans (b2.mono HB1.out.size)
    clear b2 C2 x0 x1 o0 o1 o2 o3 o4
    have x0 := (row_cell HX2.out 0).1
    have x1 := (row_cell HX2.out 1).1
    simp at x0 x1
    have z0 := (row_cell HZ2.out 0).1
    have z1 := (row_cell HZ2.out 1).1
    have zf0 := (row_cell HZ2.out 0).2
    have zf1 := (row_cell HZ2.out 1).2
    simp at z0 z1
    go_wp2_with fail
    (try unfold Exit.noGoto)
    (try simp only [Exit.inBlock, Exit.then])
    refine bodyPost_ret (results_cell_tmp rfl _ _ (w.heap.size + 2) _ _ rfl (set_two HZ2.out _ _) Try.underlying31 rfl (by kernel_rfl)) rfl ?_
    exact FIN.out W2 (.slice A' m c') LL _ _ (P0.out.then_ HB2.out) (HSP0.out.below HB2.out) (fun g hg hr => (hr.below B0.out).below HB2.out) HS.out
  · have C1 := Lib.hid (rstore_any rb _ _ l LL at_ y W0 HRS0.out HS.out HA.out)
    have C2 := Lib.hid fun (W : World) (hb : Below W0.heap.size W0 W) => store_any lo hi p rb l LL at_ y W (HSP0.out.below hb) HS.out HA.out
    obtain ⟨LL', r2, hr⟩ : ∃ LL' r2, stV at_ y l LL = (LL', r2) := ⟨_, _, rfl⟩
    have HSH : Hid (Sh l LL') := by
      have h1 : (stV at_ y l LL).1 = LL' := by rw [hr]
      unfold Hid
      rw [← h1]; unfold stV
      split
      · exact HS.out
      · split
        · exact HS.out
        · exact HS.out.put _ _ HY.out
    rw [hr] at C1 C2
    dsimp only at C1 C2
    clear hr
    go_enter Try.func15, Try.ntmps15
    go_wp2_with fail
    refine C1.out.mono ?_
    rintro e W1 ⟨⟨vl', rfl, htn⟩, b1⟩
    have HR1 : Hid (RS rb W1 (.slice A n c) vl' l LL') := htn rb (by have := HRB.out; have := HS0.out; omega) HRS0.out
    have HR2 : Hid (∀ g, g < w.heap.size + 3 → RS g w (.slice A n c) (.slice A' m c') l LL → RS g W1 (.slice A n c) vl' l LL') := fun g hg hr => htn g (by have := HS0.out; omega) (hr.below B0.out)
    obtain ⟨A3, c3, rfl⟩ : ∃ A3 c3, vl' = .slice A3 LL'.length c3 := by
      obtain ⟨_, _, A3, c3, _, e⟩ := HR1.out.form
      exact ⟨A3, c3, e⟩
    obtain ⟨m3, hm3⟩ : ∃ m3, LL'.length = m3 := ⟨_, rfl⟩
    rw [hm3] at htn HR1 HR2 ⊢
    have HO1 := Lib.hid (heap_keep b1 HO0.out)
    have HZ1 := Lib.hid (heap_keep b1 HZ0.out)
    have HB1 := Lib.hid b1
    clear b1 C1 x0 x1 o0 o1 o2 o3 o4 htn hm3
    have o0 := (row_cell HO1.out 0).1
    have o1 := (row_cell HO1.out 1).1
    have o2 := (row_cell HO1.out 2).1
    have o3 := (row_cell HO1.out 3).1
    have o4 := (row_cell HO1.out 4).1
    simp at o0 o1 o2 o3 o4
    go_wp2_with fail
    obtain ⟨W2, hW2⟩ : ∃ W2, W1.alloc (.cells #[.slice A n c, .slice A3 m3 c3] 31) = W2 := ⟨_, rfl⟩
    simp only [hW2]
    have b12 : Below W1.heap.size W1 W2 := by rw [← hW2]; exact (Below.refl _ _).alloc (Nat.le_refl _) _
    have HO2 := Lib.hid (heap_keep b12 HO1.out)
    have HZ2 := Lib.hid (heap_keep b12 HZ1.out)
    obtain ⟨b3, hb3⟩ : ∃ b3, W1.heap.size = b3 := ⟨_, rfl⟩
    have HQ2 : Hid (W2.heap[b3]? = some (.cells #[.slice A n c, .slice A3 m3 c3] 31 (0, 0))) := by rw [← hW2, ← hb3]; exact heap_alloc_new _ _
    have HB3 : Hid (w.heap.size + 3 ≤ b3) := by have := HB1.out.size; have := HS0.out; unfold Hid; omega
    have HB2 : Hid (Below W0.heap.size W0 W2) := HB1.out.trans (b12.mono HB1.out.size)
    have HR3 := Lib.hid (HR1.out.below b12)
    have HR4 : Hid (∀ g, g < w.heap.size + 3 → RS g w (.slice A n c) (.slice A' m c') l LL → RS g W2 (.slice A n c) (.slice A3 m3 c3) l LL') := fun g hg hr => (HR2.out g hg hr).below b12
    have q0 : W2.cell? ⟨b3, 0, none⟩ = some (.slice A n c) := by have := (row_cell HQ2.out 0).1; simpa using this
    have q1 : W2.cell? ⟨b3, 1, none⟩ = some (.slice A3 m3 c3) := by have := (row_cell HQ2.out 1).1; simpa using this
    have p1 : W2.cell? ⟨w.heap.size + 1, 1, none⟩ = some (.int .u32 at_) := by have := (row_cell HO2.out 1).1; simpa using this
    have p2 : W2.cell? ⟨w.heap.size + 1, 2, none⟩ = some (.int .u32 y) := by have := (row_cell HO2.out 2).1; simpa using this
    try simp only [hb3]
    clear o0 o1 o2 o3 o4 hW2 b12 hb3
    have HQ := Lib.hid (And.intro q0 (And.intro q1 (And.intro p1 p2)))
    refine wp_region_held_drew (S := (fun w' => w'.cell? ⟨b3, 0, none⟩ = some (.slice A n c) ∧ w'.cell? ⟨b3, 1, none⟩ = some (.slice A3 m3 c3) ∧ w'.cell? ⟨w.heap.size + 1, 1, none⟩ = some (.int .u32 at_) ∧ w'.cell? ⟨w.heap.size + 1, 2, none⟩ = some (.int .u32 y))) (by kernel_rfl) ?_ (fun hHeld => ?_)
    · exact HQ.out
    refine takeD (i := 0) (d := some 87) (v := ?_) _ rfl rfl (by kernel_rfl) (by kernel_rfl) (by kernel_rfl) (fun _ _ _ h => h) (by rfl) ?_ (by assumption) ?_
    rotate_left
    · (intro w hSw; (try dsimp only at hSw); go_simp) <;> with_reducible rfl
    try simp only [Act.put, List.setIfInBounds_toArray, List.set_cons_zero, List.set_cons_succ]
    refine takeD (i := 1) (d := some 88) (v := ?_) _ rfl rfl (by kernel_rfl) (by kernel_rfl) (by kernel_rfl) (fun _ _ _ h => h) (by rfl) ?_ (by assumption) ?_
    rotate_left
    · (intro w hSw; (try dsimp only at hSw); go_simp) <;> with_reducible rfl
    try simp only [Act.put, List.setIfInBounds_toArray, List.set_cons_zero, List.set_cons_succ]
    refine takeD (i := 2) (d := some 89) (v := ?_) _ rfl rfl (by kernel_rfl) (by kernel_rfl) (by kernel_rfl) (fun _ _ _ h => h) (by rfl) ?_ (by assumption) ?_
    rotate_left
    · (intro w hSw; (try dsimp only at hSw); go_simp) <;> with_reducible rfl
    try simp only [Act.put, List.setIfInBounds_toArray, List.set_cons_zero, List.set_cons_succ]
    refine takeD (i := 3) (d := some 90) (v := ?_) _ rfl rfl (by kernel_rfl) (by kernel_rfl) (by kernel_rfl) (fun _ _ _ h => h) (by rfl) ?_ (by assumption) ?_
    rotate_left
    · (intro w hSw; (try dsimp only at hSw); go_simp) <;> with_reducible rfl
    try simp only [Act.put, List.setIfInBounds_toArray, List.set_cons_zero, List.set_cons_succ]
    refine takeD (i := 4) (d := some 91) (v := ?_) _ rfl rfl (by kernel_rfl) (by kernel_rfl) (by kernel_rfl) (fun _ _ _ h => h) (by rfl) ?_ (by assumption) ?_
    rotate_left
    · (intro w hSw; (try dsimp only at hSw); go_simp) <;> with_reducible rfl
    try simp only [Act.put, List.setIfInBounds_toArray, List.set_cons_zero, List.set_cons_succ]
    refine takeD (i := 5) (d := some 92) (v := ?_) _ rfl rfl (by kernel_rfl) (by kernel_rfl) (by kernel_rfl) (fun _ _ _ h => h) (by rfl) ?_ (by assumption) ?_
    rotate_left
    · (intro w hSw; (try dsimp only at hSw); go_simp) <;> with_reducible rfl
    try simp only [Act.put, List.setIfInBounds_toArray, List.set_cons_zero, List.set_cons_succ]
    refine takeD (i := 7) (d := some 94) (v := ?_) _ rfl rfl (by kernel_rfl) (by kernel_rfl) (by kernel_rfl) (fun _ _ _ h => h) (by rfl) ?_ (by assumption) ?_
    rotate_left
    · (intro w hSw; (try dsimp only at hSw); go_simp) <;> with_reducible rfl
    try simp only [Act.put, List.setIfInBounds_toArray, List.set_cons_zero, List.set_cons_succ]
    refine wpAnyH_ready (rs := [6]) (by kernel_rfl) (by simp) ?_
    refine AllReadyH.cons rfl (fun K hK => ?_) AllReadyH.nil
    go_simp
    go_at_call 22
    refine (C2.out _ (below_drewN HB2.out 1)).mono ?_
    rintro e W3 ⟨rfl, hsp3, hp3'⟩
    have hp3 : Past rb W2 W3 := (Past.refl rb W2).drew.trans hp3'
    have HP3 : Hid (Past rb w W3) := (P0.out.then_ HB2.out).trans hp3
    have HSP3 := Lib.hid hsp3
    have HZ3 := Lib.hid (hp_keep hp3 (by have := HRB.out; omega) HZ2.out)
    have HR6 : Hid (∀ g, g < w.heap.size + 3 → RS g w (.slice A n c) (.slice A' m c') l LL → RS g W3 (.slice A n c) (.slice A3 m3 c3) l LL') := fun g hg hr => (HR4.out g hg hr).both HR3.out hp3
    have hl3 := (Array.getElem?_eq_some_iff.1 HQ2.out).1
    have hl1 := (Array.getElem?_eq_some_iff.1 HO2.out).1
    have hrb := HRB.out
    have hb3 := HB3.out
    have q0' := cell_past hp3 (by omega) (by omega) q0
    have q1' := cell_past hp3 (by omega) (by omega) q1
    have p1' := cell_past hp3 (by omega) (by omega) p1
    have p2' := cell_past hp3 (by omega) (by omega) p2
    try go_wp2_with fail
    refine hK.out _ _ ⟨q0', q1', p1', p2'⟩ (fun hHeld => ?_)
    clear hK K hp3 hp3' hsp3 q0 q1 p1 p2 q0' q1' p1' p2' C2
    try simp only [Act.put, List.setIfInBounds_toArray, List.set_cons_zero, List.set_cons_succ]
    refine takeD (i := 8) (d := some 95) (v := ?_) _ rfl rfl (by kernel_rfl) (by kernel_rfl) (by kernel_rfl) (fun _ _ _ h => h) (by rfl) ?_ (by assumption) ?_
    rotate_left
    · (intro w hSw; (try dsimp only at hSw); go_simp) <;> with_reducible rfl
    try simp only [Act.put, List.setIfInBounds_toArray, List.set_cons_zero, List.set_cons_succ]
    have z0 := (row_cell HZ3.out 0).1
    have z1 := (row_cell HZ3.out 1).1
    have zf0 := (row_cell HZ3.out 0).2
    have zf1 := (row_cell HZ3.out 1).2
    simp at z0 z1
    refine wpAnyH_ready (rs := [9]) (by kernel_rfl) (by simp) ?_
    refine AllReadyH.cons rfl (fun K hK => ?_) AllReadyH.nil
    go_simp
    refine hK.out _ _ ?_ (fun hHeld => ?_)
    · rw [World.cell?_setCell_far _ _ _ _ (by simp <;> omega), World.cell?_setCell_far _ _ _ _ (by simp <;> omega), World.cell?_setCell_far _ _ _ _ (by simp <;> omega), World.cell?_setCell_far _ _ _ _ (by simp <;> omega), World.cell?_setCell_far _ _ _ _ (by simp <;> omega), World.cell?_setCell_far _ _ _ _ (by simp <;> omega), World.cell?_setCell_far _ _ _ _ (by simp <;> omega), World.cell?_setCell_far _ _ _ _ (by simp <;> omega)]
      exact hHeld
    clear hK K
    try simp only [Act.put, List.setIfInBounds_toArray, List.set_cons_zero, List.set_cons_succ]
    refine takeD (i := 10) (d := some 7) (v := ?_) _ rfl rfl (by kernel_rfl) (by kernel_rfl) (by kernel_rfl) (fun _ _ _ h => h) (by rfl) ?_ (by assumption) ?_
    rotate_left
    · (intro w hSw; (try dsimp only at hSw); go_simp) <;> with_reducible rfl
    try simp only [Act.put, List.setIfInBounds_toArray, List.set_cons_zero, List.set_cons_succ]
    refine wpAnyH_done (by kernel_rfl) ?_ _
    clear hHeld
    go_wp2_with fail
    (try unfold Exit.noGoto)
    (try simp only [Exit.inBlock, Exit.then])
    refine bodyPost_ret (results_cell_tmp rfl _ _ (w.heap.size + 2) _ _ rfl (set_two HZ3.out _ _) Try.underlying31 rfl (by kernel_rfl)) rfl ?_
    exact FIN.out W3 (.slice A3 m3 c3) LL' _ _ HP3.out HSP3.out HR6.out HSH.out
  · have hw0 : min n2 40 ≤ n2 := Nat.min_le_left _ _
    obtain ⟨nk, hnk⟩ : ∃ nk, min n2 40 = nk := ⟨_, rfl⟩
    have HNK : Hid (nk ≤ n2 ∧ nk ≤ 40) := by unfold Hid; omega
    have hnkI : min (n2 : Int) 40 = (nk : Int) := by omega
    have HTL : Hid ((ns.take nk).length = nk) := by unfold Hid; rw [List.length_take, HNN.out]; have := HNK.out; omega
    have HVK : Hid (St rb w 1 (.slice A2 nk c2) (ns.take nk).length (CU (ns.take nk))) := by
      unfold Hid
      have h1 := HV.out.cut HNK.out.1
      rw [HTL.out]
      have h2 : (CU ns).take nk = CU (ns.take nk) := by simp [CU, List.map_take]
      rw [← h2]; exact h1
    have HUK : Hid (∀ x ∈ ns.take nk, U32 x) := fun x hx => HU.out x (List.mem_of_mem_take hx)
    have hkc : nk ≤ c2 := by have := HNK.out; omega
    have C1 := Lib.hid (rfill_any rb _ _ (.slice A2 nk c2) l LL (ns.take nk) at_ W0 HRS0.out HS.out HA.out (HVK.out.below B0.out) HUK.out (by rw [HTL.out]; have := HNK.out; omega))
    have C2 := Lib.hid fun (W : World) (hb : Below W0.heap.size W0 W) => fill_any lo hi p rb l LL (ns.take nk) (.slice A2 nk c2) at_ W (HSP0.out.below hb) HS.out ((HVK.out.below B0.out).below hb) HUK.out (by rw [HTL.out]; have := HNK.out; omega) HA.out
    obtain ⟨LL', r2, hr⟩ : ∃ LL' r2, flV at_ l (ns.take nk) LL = (LL', r2) := ⟨_, _, rfl⟩
    have HSH : Hid (Sh l LL') := by
      have h1 : (flV at_ l (ns.take nk) LL).1 = LL' := by rw [hr]
      unfold Hid
      rw [← h1]; unfold flV
      split
      · exact HS.out
      next M hM => exact fillGo_sh HS.out HUK.out hM
    rw [hr] at C1 C2
    dsimp only at C1 C2
    clear hr hw0 hnk
    go_enter Try.func15, Try.ntmps15
    go_wp2_with fail
    refine C1.out.mono ?_
    rintro e W1 ⟨⟨vl', rfl, htn⟩, b1⟩
    have HR1 : Hid (RS rb W1 (.slice A n c) vl' l LL') := htn rb (by have := HRB.out; have := HS0.out; omega) HRS0.out
    have HR2 : Hid (∀ g, g < w.heap.size + 3 → RS g w (.slice A n c) (.slice A' m c') l LL → RS g W1 (.slice A n c) vl' l LL') := fun g hg hr => htn g (by have := HS0.out; omega) (hr.below B0.out)
    obtain ⟨A3, c3, rfl⟩ : ∃ A3 c3, vl' = .slice A3 LL'.length c3 := by
      obtain ⟨_, _, A3, c3, _, e⟩ := HR1.out.form
      exact ⟨A3, c3, e⟩
    obtain ⟨m3, hm3⟩ : ∃ m3, LL'.length = m3 := ⟨_, rfl⟩
    rw [hm3] at htn HR1 HR2 ⊢
    have HO1 := Lib.hid (heap_keep b1 HO0.out)
    have HZ1 := Lib.hid (heap_keep b1 HZ0.out)
    have HB1 := Lib.hid b1
    clear b1 C1 x0 x1 o0 o1 o2 o3 o4 htn hm3
    have o0 := (row_cell HO1.out 0).1
    have o1 := (row_cell HO1.out 1).1
    have o2 := (row_cell HO1.out 2).1
    have o3 := (row_cell HO1.out 3).1
    have o4 := (row_cell HO1.out 4).1
    simp at o0 o1 o2 o3 o4
    go_wp2_with fail
    obtain ⟨W2, hW2⟩ : ∃ W2, W1.alloc (.cells #[.slice A n c, .slice A3 m3 c3] 31) = W2 := ⟨_, rfl⟩
    simp only [hW2]
    have b12 : Below W1.heap.size W1 W2 := by rw [← hW2]; exact (Below.refl _ _).alloc (Nat.le_refl _) _
    have HO2 := Lib.hid (heap_keep b12 HO1.out)
    have HZ2 := Lib.hid (heap_keep b12 HZ1.out)
    obtain ⟨b3, hb3⟩ : ∃ b3, W1.heap.size = b3 := ⟨_, rfl⟩
    have HQ2 : Hid (W2.heap[b3]? = some (.cells #[.slice A n c, .slice A3 m3 c3] 31 (0, 0))) := by rw [← hW2, ← hb3]; exact heap_alloc_new _ _
    have HB3 : Hid (w.heap.size + 3 ≤ b3) := by have := HB1.out.size; have := HS0.out; unfold Hid; omega
    have HB2 : Hid (Below W0.heap.size W0 W2) := HB1.out.trans (b12.mono HB1.out.size)
    have HR3 := Lib.hid (HR1.out.below b12)
    have HR4 : Hid (∀ g, g < w.heap.size + 3 → RS g w (.slice A n c) (.slice A' m c') l LL → RS g W2 (.slice A n c) (.slice A3 m3 c3) l LL') := fun g hg hr => (HR2.out g hg hr).below b12
    have q0 : W2.cell? ⟨b3, 0, none⟩ = some (.slice A n c) := by have := (row_cell HQ2.out 0).1; simpa using this
    have q1 : W2.cell? ⟨b3, 1, none⟩ = some (.slice A3 m3 c3) := by have := (row_cell HQ2.out 1).1; simpa using this
    have p1 : W2.cell? ⟨w.heap.size + 1, 1, none⟩ = some (.int .u32 at_) := by have := (row_cell HO2.out 1).1; simpa using this
    try simp only [hb3]
    clear o0 o1 o2 o3 o4 hW2 b12 hb3
    have HQ := Lib.hid (And.intro q0 (And.intro q1 p1))
    refine wp_region_held_drew (S := (fun w' => w'.cell? ⟨b3, 0, none⟩ = some (.slice A n c) ∧ w'.cell? ⟨b3, 1, none⟩ = some (.slice A3 m3 c3) ∧ w'.cell? ⟨w.heap.size + 1, 1, none⟩ = some (.int .u32 at_))) (by kernel_rfl) ?_ (fun hHeld => ?_)
    · exact HQ.out
    refine takeD (i := 0) (d := some 113) (v := ?_) _ rfl rfl (by kernel_rfl) (by kernel_rfl) (by kernel_rfl) (fun _ _ _ h => h) (by rfl) ?_ (by assumption) ?_
    rotate_left
    · (intro w hSw; (try dsimp only at hSw); go_simp) <;> with_reducible rfl
    try simp only [Act.put, List.setIfInBounds_toArray, List.set_cons_zero, List.set_cons_succ]
    refine takeD (i := 1) (d := some 114) (v := ?_) _ rfl rfl (by kernel_rfl) (by kernel_rfl) (by kernel_rfl) (fun _ _ _ h => h) (by rfl) ?_ (by assumption) ?_
    rotate_left
    · (intro w hSw; (try dsimp only at hSw); go_simp) <;> with_reducible rfl
    try simp only [Act.put, List.setIfInBounds_toArray, List.set_cons_zero, List.set_cons_succ]
    refine takeD (i := 2) (d := some 115) (v := ?_) _ rfl rfl (by kernel_rfl) (by kernel_rfl) (by kernel_rfl) (fun _ _ _ h => h) (by rfl) ?_ (by assumption) ?_
    rotate_left
    · (intro w hSw; (try dsimp only at hSw); go_simp) <;> with_reducible rfl
    try simp only [Act.put, List.setIfInBounds_toArray, List.set_cons_zero, List.set_cons_succ]
    refine takeD (i := 3) (d := some 116) (v := ?_) _ rfl rfl (by kernel_rfl) (by kernel_rfl) (by kernel_rfl) (fun _ _ _ h => h) (by rfl) ?_ (by assumption) ?_
    rotate_left
    · (intro w hSw; (try dsimp only at hSw); go_simp) <;> with_reducible rfl
    try simp only [Act.put, List.setIfInBounds_toArray, List.set_cons_zero, List.set_cons_succ]
    refine takeD (i := 4) (d := some 117) (v := ?_) _ rfl rfl (by kernel_rfl) (by kernel_rfl) (by kernel_rfl) (fun _ _ _ h => h) (by rfl) ?_ (by assumption) ?_
    rotate_left
    · (intro w hSw; (try dsimp only at hSw); go_simp) <;> with_reducible rfl
    try simp only [Act.put, List.setIfInBounds_toArray, List.set_cons_zero, List.set_cons_succ]
    refine takeD (i := 6) (d := some 119) (v := ?_) _ rfl rfl (by kernel_rfl) (by kernel_rfl) (by kernel_rfl) (fun _ _ _ h => h) (by rfl) ?_ (by assumption) ?_
    rotate_left
    · (intro w hSw; (try dsimp only at hSw); go_simp) <;> with_reducible rfl
    try simp only [Act.put, List.setIfInBounds_toArray, List.set_cons_zero, List.set_cons_succ]
    refine wpAnyH_ready (rs := [5]) (by kernel_rfl) (by simp) ?_
    refine AllReadyH.cons rfl (fun K hK => ?_) AllReadyH.nil
    go_simp
    go_at_call 23
    refine (C2.out _ (below_drewN HB2.out 1)).mono ?_
    rintro e W3 ⟨rfl, hsp3, hp3'⟩
    have hp3 : Past rb W2 W3 := (Past.refl rb W2).drew.trans hp3'
    have HP3 : Hid (Past rb w W3) := (P0.out.then_ HB2.out).trans hp3
    have HSP3 := Lib.hid hsp3
    have HZ3 := Lib.hid (hp_keep hp3 (by have := HRB.out; omega) HZ2.out)
    have HR6 : Hid (∀ g, g < w.heap.size + 3 → RS g w (.slice A n c) (.slice A' m c') l LL → RS g W3 (.slice A n c) (.slice A3 m3 c3) l LL') := fun g hg hr => (HR4.out g hg hr).both HR3.out hp3
    have hl3 := (Array.getElem?_eq_some_iff.1 HQ2.out).1
    have hl1 := (Array.getElem?_eq_some_iff.1 HO2.out).1
    have hrb := HRB.out
    have hb3 := HB3.out
    have q0' := cell_past hp3 (by omega) (by omega) q0
    have q1' := cell_past hp3 (by omega) (by omega) q1
    have p1' := cell_past hp3 (by omega) (by omega) p1
    try go_wp2_with fail
    refine hK.out _ _ ⟨q0', q1', p1'⟩ (fun hHeld => ?_)
    clear hK K hp3 hp3' hsp3 q0 q1 p1 q0' q1' p1' C2
    try simp only [Act.put, List.setIfInBounds_toArray, List.set_cons_zero, List.set_cons_succ]
    refine takeD (i := 7) (d := some 120) (v := ?_) _ rfl rfl (by kernel_rfl) (by kernel_rfl) (by kernel_rfl) (fun _ _ _ h => h) (by rfl) ?_ (by assumption) ?_
    rotate_left
    · (intro w hSw; (try dsimp only at hSw); go_simp) <;> with_reducible rfl
    try simp only [Act.put, List.setIfInBounds_toArray, List.set_cons_zero, List.set_cons_succ]
    have z0 := (row_cell HZ3.out 0).1
    have z1 := (row_cell HZ3.out 1).1
    have zf0 := (row_cell HZ3.out 0).2
    have zf1 := (row_cell HZ3.out 1).2
    simp at z0 z1
    refine wpAnyH_ready (rs := [8]) (by kernel_rfl) (by simp) ?_
    refine AllReadyH.cons rfl (fun K hK => ?_) AllReadyH.nil
    go_simp
    refine hK.out _ _ ?_ (fun hHeld => ?_)
    · rw [World.cell?_setCell_far _ _ _ _ (by simp <;> omega), World.cell?_setCell_far _ _ _ _ (by simp <;> omega), World.cell?_setCell_far _ _ _ _ (by simp <;> omega), World.cell?_setCell_far _ _ _ _ (by simp <;> omega), World.cell?_setCell_far _ _ _ _ (by simp <;> omega), World.cell?_setCell_far _ _ _ _ (by simp <;> omega)]
      exact hHeld
    clear hK K
    try simp only [Act.put, List.setIfInBounds_toArray, List.set_cons_zero, List.set_cons_succ]
    refine takeD (i := 9) (d := some 7) (v := ?_) _ rfl rfl (by kernel_rfl) (by kernel_rfl) (by kernel_rfl) (fun _ _ _ h => h) (by rfl) ?_ (by assumption) ?_
    rotate_left
    · (intro w hSw; (try dsimp only at hSw); go_simp) <;> with_reducible rfl
    try simp only [Act.put, List.setIfInBounds_toArray, List.set_cons_zero, List.set_cons_succ]
    refine wpAnyH_done (by kernel_rfl) ?_ _
    clear hHeld
    go_wp2_with fail
    (try unfold Exit.noGoto)
    (try simp only [Exit.inBlock, Exit.then])
    refine bodyPost_ret (results_cell_tmp rfl _ _ (w.heap.size + 2) _ _ rfl (set_two HZ3.out _ _) Try.underlying31 rfl (by kernel_rfl)) rfl ?_
    exact FIN.out W3 (.slice A3 m3 c3) LL' _ _ HP3.out HSP3.out HR6.out HSH.out
  · have C1 := Lib.hid (fresh_any lo hi p rb l LL keep W0 HSP0.out HS.out)
    have C2 := Lib.hid fun (W : World) (hr : RS rb W (.slice A n c) (.slice A' m c') l LL) => rfresh_any rb (.slice A n c) (.slice A' m c') l LL keep W hr HS.out
    have HSH := Lib.hid (HS.out.fresh keep l.length)
    obtain ⟨LL', hr⟩ : ∃ LL', frS keep l LL l.length = LL' := ⟨_, rfl⟩
    rw [hr] at C1 C2 HSH
    clear hr
    go_enter Try.func15, Try.ntmps15
    go_wp2_with fail
    refine C1.out.mono ?_
    rintro e W1 ⟨rfl, hsp1, hp1⟩
    have HNR : Hid (rb < w.heap.size) := HRB.out
    have HX1 := Lib.hid (hp_keep hp1 (by have := HRB.out; omega) HX0.out)
    have HO1 := Lib.hid (hp_keep hp1 (by have := HRB.out; omega) HO0.out)
    have HZ1 := Lib.hid (hp_keep hp1 (by have := HRB.out; omega) HZ0.out)
    have HSP1 := Lib.hid hsp1
    have HP1 := Lib.hid (P0.out.trans hp1)
    have HR1 := Lib.hid (HRS0.out.past hp1)
    have HR2 : Hid (∀ g, RS g w (.slice A n c) (.slice A' m c') l LL → RS g W1 (.slice A n c) (.slice A' m c') l LL) := fun g hr => (hr.below B0.out).both HRS0.out hp1
    clear hp1 hsp1 C1 x0 x1 o0 o1 o2 o3 o4
    have x0 := (row_cell HX1.out 0).1
    have x1 := (row_cell HX1.out 1).1
    simp at x0 x1
    have o0 := (row_cell HO1.out 0).1
    have o1 := (row_cell HO1.out 1).1
    have o2 := (row_cell HO1.out 2).1
    have o3 := (row_cell HO1.out 3).1
    have o4 := (row_cell HO1.out 4).1
    simp at o0 o1 o2 o3 o4
    go_wp2_with fail
    refine (C2.out W1 HR1.out).mono ?_
    rintro e W2 ⟨⟨vl', rfl, htn⟩, b2⟩
    have HR3 : Hid (RS rb W2 (.slice A n c) vl' l LL') := htn rb (by have := HRB.out; have := HP1.out.size; omega) HR1.out
    have HR4 : Hid (∀ g, g < w.heap.size + 3 → RS g w (.slice A n c) (.slice A' m c') l LL → RS g W2 (.slice A n c) vl' l LL') := fun g hg hr => htn g (by have := (Array.getElem?_eq_some_iff.1 HZ1.out).1; omega) (HR2.out g hr)
    obtain ⟨A3, c3, rfl⟩ : ∃ A3 c3, vl' = .slice A3 LL'.length c3 := by
      obtain ⟨_, _, A3, c3, _, e⟩ := HR3.out.form
      exact ⟨A3, c3, e⟩
    obtain ⟨m3, hm3⟩ : ∃ m3, LL'.length = m3 := ⟨_, rfl⟩
    rw [hm3] at htn HR3 HR4 ⊢
    have HZ2 := Lib.hid (heap_keep b2 HZ1.out)
    have HSP2 := Lib.hid (HSP1.out.below b2)
    have HP2 := Lib.hid (HP1.out.then_ b2)
    clear b2 C2 x0 x1 o0 o1 o2 o3 o4 htn hm3
    have z0 := (row_cell HZ2.out 0).1
    have z1 := (row_cell HZ2.out 1).1
    have zf0 := (row_cell HZ2.out 0).2
    have zf1 := (row_cell HZ2.out 1).2
    simp at z0 z1
    go_wp2_with fail
    refine bodyPost_ret (results_cell_tmp rfl _ _ (w.heap.size + 2) _ _ rfl (set_two HZ2.out _ _) Try.underlying31 rfl (by kernel_rfl)) rfl ?_
    exact FIN.out W2 (.slice A3 m3 c3) LL' _ _ HP2.out HSP2.out HR4.out HSH.out
end Go.Proofs.Ytliggejkpmlgfaa
