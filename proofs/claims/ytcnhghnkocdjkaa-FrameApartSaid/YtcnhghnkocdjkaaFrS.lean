/-
  Clones of plans, and plans that are the same. Each statement bears its own conditions.
-/
import Derived.Test.YtcnhghnkocdjkaaFrQ
namespace Go.Proofs.Ytcnhghnkocdjkaa
open Go.RowKit
set_option linter.unusedVariables false
set_option linter.unusedSimpArgs false
set_option maxRecDepth 100000 in
set_option maxHeartbeats 4000000 in
theorem pclone_any (lo hi g : Nat) (p : MP) (w : World) (h : PF lo hi g w p) (hlen : p.ts.length ≤ 9) (hws : ∀ t ∈ p.ts, t.ws.length ≤ 70) :
    Calls Try.prog 22 #[.pointer (some ⟨g, 0, none⟩)] w fun e w' => (∃ g' hi', e = .returned (.pointer (some ⟨g', 0, none⟩)) ∧ PF w.heap.size hi' g' w' p) ∧ Below w.heap.size w w' := by
  obtain ⟨a, c, h1, h2, h3, hm⟩ := h.open_
  obtain ⟨ts, mode, next, now, tick⟩ := p
  dsimp only at h1 h2 h3 hm hlen hws
  have hgl : g < w.heap.size := by have := h.lt; omega
  have HRW := Lib.hid h2
  have CT := Lib.hid fun W (hb : Below w.heap.size w W) => tables_any (.slice a ts.length c) ts W (h2.keep hb fun _ _ h => h.below hb) hlen hws
  obtain ⟨n, hn⟩ : ∃ n, ts.length = n := ⟨_, rfl⟩
  rw [hn] at CT h1
  have d0 := (row_cell h1 0).1
  have d1 := (row_cell h1 1).1
  have d2 := (row_cell h1 2).1
  have d3 := (row_cell h1 3).1
  have d4 := (row_cell h1 4).1
  simp at d0 d1 d2 d3 d4
  have D0 := Lib.hid d0
  clear h h1 h2 h3 hm hlen hws
  go_enter Try.func22, Try.ntmps22
  have dx := cell_al (.cells #[.slice a n c, .int .i64 mode, .int .i64 next, .int .i64 now, .int .i64 tick] 79) d0
  go_wp2_with fail
  obtain ⟨W1, hW1⟩ : ∃ W1, w.alloc (.cells #[.slice a n c, .int .i64 mode, .int .i64 next, .int .i64 now, .int .i64 tick] 79) = W1 := ⟨_, rfl⟩
  have B1 : Hid (Below w.heap.size w W1) := by rw [← hW1]; exact (Below.refl _ _).alloc (Nat.le_refl _) _
  have HS1 : Hid (W1.heap.size = w.heap.size + 1) := by rw [← hW1]; unfold Hid; simp
  have HH1 : Hid (W1.heap[w.heap.size]? = some (.cells #[.slice a n c, .int .i64 mode, .int .i64 next, .int .i64 now, .int .i64 tick] 79 (0, 0))) := by rw [← hW1]; exact heap_alloc_new _ _
  simp only [hW1]
  clear hW1 dx d0 d1 d2 d3 d4
  refine (CT.out W1 B1.out).mono ?_
  rintro e W2 ⟨⟨r, rfl, hr⟩, b2⟩
  obtain ⟨ra, rc, rfl⟩ := hr.form
  rw [hn] at hr
  simp only [hn]
  have HH2 : Hid (W2.heap[w.heap.size]? = some (.cells #[.slice a n c, .int .i64 mode, .int .i64 next, .int .i64 now, .int .i64 tick] 79 (0, 0))) := (b2.block _ (by rw [HS1.out]; omega)).trans HH1.out
  have B2 : Hid (Below w.heap.size w W2) := B1.out.trans (b2.mono B1.out.size)
  have HSZ : Hid (w.heap.size + 1 ≤ W2.heap.size) := by have := b2.size; rw [HS1.out] at this; exact this
  have k0 := (row_cell HH2.out 0).1
  have y0 := (row_cell HH2.out 0).2
  simp at k0
  have HP : Hid (PF w.heap.size W2.heap.size w.heap.size (W2.setCell ⟨w.heap.size, 0, none⟩ (.slice ra n rc)) ⟨ts, mode, next, now, tick⟩) := by
    refine ⟨.slice ra n rc, by have h := set_at HH2.out 0 (.slice ra n rc); simpa using h, Nat.le_refl _, by have := HSZ.out; omega, by simp [World.setCell], fun w' hs hk => ?_⟩
    refine (hr.same fun q q1 q2 => ?_).row
    have hq : w.heap.size + 1 ≤ q := by rw [← HS1.out]; exact q1
    rw [hk q (by omega) q2 (by omega), set_far _ _ (by omega)]
  have HB : Hid (Below w.heap.size w (W2.setCell ⟨w.heap.size, 0, none⟩ (.slice ra n rc))) := B2.out.setCell (p := ⟨w.heap.size, 0, none⟩) (Nat.le_refl _) _
  clear CT hr b2
  go_wp2_with fail
  go_ret
  exact ⟨⟨_, _, rfl, HP.out⟩, HB.out⟩
structure WERel (n : Nat) (w : World) (v : Value) (wr : World) : Prop where
  ex : ∃ k : Nat, k ≤ n ∧ v = .int .i64 (k : Int) ∧ Below w.heap.size w wr
set_option maxRecDepth 100000 in
set_option maxHeartbeats 4000000 in
theorem weq_same (v v' : Value) (ws : List MW) (w : World) (h : Row w 3 RW v ws) (h' : Row w 3 RW v' ws) :
    Calls Try.prog 42 #[v, v'] w fun e w' => e = .returned (.bool true) ∧ Below w.heap.size w w' := by
  obtain ⟨a, c, rfl, hm⟩ := h.form
  obtain ⟨a', c', rfl, _⟩ := h'.form
  obtain ⟨n, hn⟩ : ∃ n, ws.length = n := ⟨_, rfl⟩
  rw [hn] at h h' hm ⊢
  have H := Lib.hid h
  have H' := Lib.hid h'
  unfold rowMax at hm
  clear h h' hn
  have hnn : ((n : Int) != (n : Int)) = false := by simp
  go_enter Try.func42, Try.ntmps42
  go_wp2_with fail
  go_loopw [13] (fun v wr => WERel n w v wr) (fun v => fun _ => n - (intOf v).toNat)
  case atStart => exact ⟨⟨0, Nat.zero_le _, rfl, Below.refl _ _⟩⟩
  case round =>
    obtain ⟨⟨k, hk, rfl, hb⟩⟩ := hrel
    have HB := Lib.hid hb
    clear hk hb
    by_cases hlt : k < n
    · have hkI : (k : Int) < (n : Int) := by omega
      have HX : Hid (k < n) := hlt
      obtain ⟨hnx, b, off, x, cs, rfl, hbl, hx, hR, _, hc⟩ := H.out.at_ k hlt
      obtain ⟨hnx', b', off', x', cs', rfl, hbl', hx', hR', _, hc'⟩ := H'.out.at_ k hlt
      have hxx : x = x' := by rw [hx] at hx'; injection hx'
      subst hxx
      obtain ⟨xw, xf, xl⟩ := x
      obtain ⟨rfl, _, _, _⟩ := hR
      obtain ⟨rfl, _, _, _⟩ := hR'
      have RUN : ∀ W : World, (binOp .neq 40 (.agg #[.int .i64 xw, .int .i64 xf, .int .i64 xl]) (.agg #[.int .i64 xw, .int .i64 xf, .int .i64 xl])).run Try.prog W = .ok (.bool false) W := fun W => by go_simp
      have d0 : wr.cell? ⟨b, off + k * 3, none⟩ = some (.int .i64 xw) := cell_later HB.out (hc 0 _ rfl)
      have d1 : wr.cell? ⟨b, off + k * 3 + 1, none⟩ = some (.int .i64 xf) := cell_later HB.out (hc 1 _ rfl)
      have d2 : wr.cell? ⟨b, off + k * 3 + 2, none⟩ = some (.int .i64 xl) := cell_later HB.out (hc 2 _ rfl)
      have d3 : wr.cell? ⟨b', off' + k * 3, none⟩ = some (.int .i64 xw) := cell_later HB.out (hc' 0 _ rfl)
      have d4 : wr.cell? ⟨b', off' + k * 3 + 1, none⟩ = some (.int .i64 xf) := cell_later HB.out (hc' 1 _ rfl)
      have d5 : wr.cell? ⟨b', off' + k * 3 + 2, none⟩ = some (.int .i64 xl) := cell_later HB.out (hc' 2 _ rfl)
      clear hnx hnx' hc hc' hbl hbl' hx hx' hlt
      go_wp2_with fail
      go_quiet (fail)
      go_wp2_with fail
      go_roundw
      case rel =>
        have Q : ∀ N, WERel n w (.int .i64 ((k : Int) + 1)) (wr.drewN N) := fun N => ⟨⟨k + 1, HX.out, by go_num, below_drewN HB.out N⟩⟩
        first | exact Q _ | ((repeat apply Exists.intro); exact ⟨Q _, rfl⟩)
      case measure => have := HX.out; simp [intOf]; omega
    · have hkI : ¬ (k : Int) < (n : Int) := by omega
      go_wp2_with fail
      go_ret
      exact ⟨rfl, HB.out⟩
set_option maxRecDepth 100000 in
set_option maxHeartbeats 4000000 in
theorem tsame_any (fr : Int) (v v' : Value) (ws : List MW) (w : World) (h : Row w 3 RW v ws) (h' : Row w 3 RW v' ws) :
    Calls Try.prog 39 #[.agg #[.int .i64 fr, v], .agg #[.int .i64 fr, v']] w fun e w' => e = .returned (.bool true) ∧ Below w.heap.size w w' := by
  have bb : Below w.heap.size w ((w.alloc (.cells #[.int .i64 fr, v] 24)).alloc (.cells #[.int .i64 fr, v'] 24)) := ((Below.refl _ _).alloc (Nat.le_refl _) _).alloc (by simp) _
  have C := Lib.hid (weq_same v v' ws _ (h.below bb) (h'.below bb))
  have HBB := Lib.hid bb
  obtain ⟨a, c, rfl, hm⟩ := h.form
  obtain ⟨a', c', rfl, _⟩ := h'.form
  clear h h' bb
  go_enter Try.func39, Try.ntmps39
  go_wp2_with fail
  refine C.out.mono ?_
  rintro e W1 ⟨rfl, b1⟩
  go_wp2_with fail
  go_ret
  exact ⟨rfl, HBB.out.trans (b1.mono HBB.out.size)⟩
set_option maxRecDepth 100000 in
set_option maxHeartbeats 4000000 in
theorem eqf_same (v v' : Value) (ts : List MT) (w : World) (h : Row w 2 (RT w) v ts) (h' : Row w 2 (RT w) v' ts) :
    Calls Try.prog 38 #[v, v', .func (.func 39) #[] #[]] w fun e w' => e = .returned (.bool true) ∧ Below w.heap.size w w' := by
  obtain ⟨a, c, rfl, hm⟩ := h.form
  obtain ⟨a', c', rfl, _⟩ := h'.form
  obtain ⟨n, hn⟩ : ∃ n, ts.length = n := ⟨_, rfl⟩
  rw [hn] at h h' hm ⊢
  have H := Lib.hid h
  have H' := Lib.hid h'
  unfold rowMax at hm
  clear h h' hn
  have hnn : ((n : Int) != (n : Int)) = false := by simp
  go_enter Try.func38, Try.ntmps38
  go_wp2_with fail
  go_loopw [17] (fun v wr => WERel n w v wr) (fun v => fun _ => n - (intOf v).toNat)
  case atStart => exact ⟨⟨0, Nat.zero_le _, rfl, Below.refl _ _⟩⟩
  case round =>
    obtain ⟨⟨k, hk, rfl, hb⟩⟩ := hrel
    have HB := Lib.hid hb
    clear hk hb
    by_cases hlt : k < n
    · have hkI : (k : Int) < (n : Int) := by omega
      have HX : Hid (k < n) := hlt
      obtain ⟨hnx, b, off, x, cs, rfl, hbl, hx, hR, _, hc⟩ := H.out.at_ k hlt
      obtain ⟨hnx', b', off', x', cs', rfl, hbl', hx', hR', _, hc'⟩ := H'.out.at_ k hlt
      have hxx : x = x' := by rw [hx] at hx'; injection hx'
      subst hxx
      obtain ⟨xf, xws⟩ := x
      obtain ⟨xv, rfl, _, hr⟩ := hR
      obtain ⟨xv', rfl, _, hr'⟩ := hR'
      dsimp only at hr hr'
      have d0 : wr.cell? ⟨b, off + k * 2, none⟩ = some (.int .i64 xf) := cell_later HB.out (hc 0 _ rfl)
      have d1 : wr.cell? ⟨b, off + k * 2 + 1, none⟩ = some xv := cell_later HB.out (hc 1 _ rfl)
      have d2 : wr.cell? ⟨b', off' + k * 2, none⟩ = some (.int .i64 xf) := cell_later HB.out (hc' 0 _ rfl)
      have d3 : wr.cell? ⟨b', off' + k * 2 + 1, none⟩ = some xv' := cell_later HB.out (hc' 1 _ rfl)
      have d2 := cell_al (.cells #[.int .i64 xf, xv] 24) d2
      have d3 := cell_al (.cells #[.int .i64 xf, xv] 24) d3
      have bw : Below w.heap.size w ((wr.alloc (.cells #[.int .i64 xf, xv] 24)).alloc (.cells #[.int .i64 xf, xv'] 24)) := (HB.out.alloc HB.out.size _).alloc (by have := HB.out.size; simp; omega) _
      have C := Lib.hid (tsame_any xf xv xv' xws _ (hr.below bw) (hr'.below bw))
      have HBW := Lib.hid bw
      obtain ⟨xa, xc, rfl, _⟩ := hr.form
      obtain ⟨xa', xc', rfl, _⟩ := hr'.form
      clear hnx hnx' hc hc' hbl hbl' hx hx' hlt hr hr' bw
      go_wp2_with fail
      refine C.out.mono ?_
      rintro e W1 ⟨rfl, b1⟩
      have HB1 : Hid (Below w.heap.size w W1) := HBW.out.trans (b1.mono HBW.out.size)
      clear b1 C
      go_wp2_with fail
      go_roundw
      case rel =>
        have Q : WERel n w (.int .i64 ((k : Int) + 1)) W1 := ⟨⟨k + 1, HX.out, by go_num, HB1.out⟩⟩
        first | exact Q | ((repeat apply Exists.intro); exact ⟨Q, rfl⟩)
      case measure => have := HX.out; simp [intOf]; omega
    · have hkI : ¬ (k : Int) < (n : Int) := by omega
      go_wp2_with fail
      go_ret
      exact ⟨rfl, HB.out⟩
end Go.Proofs.Ytcnhghnkocdjkaa
