/-
  The document's own space: Store and Fill. Each statement bears its own conditions.
-/
import Derived.Test.YtliggejkpmlgfaaSpQ
namespace Go.Proofs.Ytliggejkpmlgfaa
open Go.RowKit
set_option linter.unusedVariables false
set_option linter.unusedSimpArgs false
theorem heap_keep {w w' : World} {b : Nat} {o : Obj} (hb : Below w.heap.size w w') (h : w.heap[b]? = some o) : w'.heap[b]? = some o := (hb.block _ (Array.getElem?_eq_some_iff.1 h).1).trans h
set_option maxRecDepth 100000 in
set_option maxHeartbeats 8000000 in
theorem rstore_any (g : Nat) (va vl : Value) (l : List MA) (LL : List (List Int)) (at_ y : Int) (w : World) (h : RS g w va vl l LL) (hs : Sh l LL) (ha : U32 at_) :
    Calls Try.prog 34 #[.agg #[va, vl], .int .u32 at_, .int .u32 y] w fun e w' => (∃ vl', e = .returned (.tuple #[.agg #[va, vl'], .int .i64 (stV at_ y l LL).2]) ∧ Turns w w' va vl vl' l LL (stV at_ y l LL).1) ∧ Below w.heap.size w w' := by
  have HH := Lib.hid h
  obtain ⟨A, c, A', c', hva, hvl⟩ := h.form
  have CT := Lib.hid fun (W : World) (hb : Below w.heap.size w W) => rat_any g va A' LL.length c' l at_ W (h.a.below hb) hs.good hs.few ha
  have CP := Lib.hid fun (i k : Nat) (L : List Int) (W : World) (hb : Below w.heap.size w W) (hL : LL[i]? = some L) (hk : k < L.length) => put_any g va vl l LL L i k y W (h.below hb) hL hk (by rw [hs.len]; exact hs.few) (by
    have h1 := flat_set (M := L) hs.len hs.each hL
    have h2 := hs.flat
    have h3 := hs.sum
    omega)
  rw [← hvl] at CT
  obtain ⟨R, hR⟩ : ∃ R, stV at_ y l LL = R := ⟨_, rfl⟩
  rw [hR]
  have HR := Lib.hid hR
  obtain ⟨n, hn⟩ : ∃ n, l.length = n := ⟨_, rfl⟩
  obtain ⟨m, hm⟩ : ∃ m, LL.length = m := ⟨_, rfl⟩
  rw [hn] at hva
  rw [hm] at hvl
  subst hva hvl
  obtain ⟨W0, hW0⟩ : ∃ W0, (w.alloc (.cells #[.slice A n c, .slice A' m c'] 31)).alloc (.cells #[.slice none 0 0, .slice none 0 0] 31) = W0 := ⟨_, rfl⟩
  have HS0 : Hid (W0.heap.size = w.heap.size + 2) := by rw [← hW0]; unfold Hid; simp
  have B0 : Hid (Below w.heap.size w W0) := by rw [← hW0]; exact ((Below.refl _ _).alloc (Nat.le_refl _) _).alloc (by simp) _
  have HX0 : Hid (W0.heap[w.heap.size]? = some (.cells #[.slice A n c, .slice A' m c'] 31 (0, 0))) := by
    rw [← hW0]; exact (((Below.refl _ _).alloc (Nat.le_refl _) _).block _ (by simp)).trans (heap_alloc_new _ _)
  have HY0 : Hid (W0.heap[w.heap.size + 1]? = some (.cells #[.slice none 0 0, .slice none 0 0] 31 (0, 0))) := by
    rw [← hW0]; have := heap_alloc_new (w.alloc (.cells #[.slice A n c, .slice A' m c'] 31)) (.cells #[.slice none 0 0, .slice none 0 0] 31); unfold Hid; simpa using this
  have x0 := (row_cell HX0.out 0).1
  have x1 := (row_cell HX0.out 1).1
  simp at x0 x1
  rcases hq : atL at_ l 0 with _ | ⟨i, k⟩
  · have HF : Hid (R = (LL, 2)) := by unfold Hid; rw [← HR.out]; unfold stV; rw [hq]
    have hr : rtV at_ l = (-1, 0) := by unfold rtV; rw [hq]
    rw [hr] at CT
    dsimp only at CT
    clear hr hq hs ha h hn hm hR
    go_enter Try.func34, Try.ntmps34
    go_wp2_with fail
    refine (CT.out _ B0.out).mono ?_
    rintro e W1 ⟨rfl, b1⟩
    have HB1 : Hid (Below w.heap.size w W1) := B0.out.trans (b1.mono B0.out.size)
    have HX1 := Lib.hid (heap_keep b1 HX0.out)
    have HY1 := Lib.hid (heap_keep b1 HY0.out)
    clear b1 CT x0 x1 hW0
    have s0 := (row_cell HX1.out 0).1
    have s1 := (row_cell HX1.out 1).1
    have t0 := (row_cell HY1.out 0).1
    have t1 := (row_cell HY1.out 1).1
    have f0 := (row_cell HY1.out 0).2
    have f1 := (row_cell HY1.out 1).2
    simp at s0 s1 t0 t1
    go_wp2_with fail
    refine bodyPost_ret (results_cell_tmp rfl _ _ (w.heap.size + 1) _ _ rfl (set_two HY1.out _ _) Try.underlying31 rfl (by kernel_rfl)) rfl ?_
    have BW := (HB1.out.setCell (p := ⟨w.heap.size + 1, 0, none⟩) (by simp) (.slice A n c)).setCell (p := ⟨w.heap.size + 1, 1, none⟩) (by simp) (.slice A' m c')
    exact ⟨⟨_, by rw [HF.out]; rfl, by rw [HF.out]; exact fun _ _ hrs => hrs.below BW⟩, BW⟩
  · obtain ⟨x, L, u, e1, e2, e3, e4, e5, e6⟩ := hs.rt hq
    rw [e1] at CT
    dsimp only at CT
    have hi0 : (0 : Int) ≤ (i : Int) := by omega
    rw [hn] at e6
    have hh := h.a
    rw [hn] at hh
    obtain ⟨_, b3, off3, rfl, hb3, _, hc3⟩ := hh.at_ e6
    have hca := CA_at e3
    obtain ⟨xf, xw, xx, xr, xk⟩ := x
    have z5 : W0.cell? ⟨b3, off3 + i * 5 + 2, none⟩ = some (.bool xx) := by have := hc3 _ _ (hca 2 _ rfl); exact cell_later B0.out (by simpa [Nat.add_assoc] using this)
    have HE4 := Lib.hid e4
    have HE5 := Lib.hid (List.getElem?_eq_some_iff.1 e5).1
    cases xx with
    | false =>
      have HF : Hid (R = (LL, 11)) := by unfold Hid; rw [← HR.out]; unfold stV; rw [hq]; dsimp only; rw [e2]; rfl
      clear hq hs ha h hn hm e1 e2 e3 e4 e5 hh hc3 hca hb3 hR CP
      go_enter Try.func34, Try.ntmps34
      go_wp2_with fail
      refine (CT.out _ B0.out).mono ?_
      rintro e W1 ⟨rfl, b1⟩
      have HB1 : Hid (Below w.heap.size w W1) := B0.out.trans (b1.mono B0.out.size)
      have HX1 := Lib.hid (heap_keep b1 HX0.out)
      have HY1 := Lib.hid (heap_keep b1 HY0.out)
      have y5 := cell_later b1 z5
      clear b1 CT x0 x1 hW0 z5
      have s0 := (row_cell HX1.out 0).1
      have s1 := (row_cell HX1.out 1).1
      have t0 := (row_cell HY1.out 0).1
      have t1 := (row_cell HY1.out 1).1
      have f0 := (row_cell HY1.out 0).2
      have f1 := (row_cell HY1.out 1).2
      simp at s0 s1 t0 t1
      go_wp2_with fail
      refine bodyPost_ret (results_cell_tmp rfl _ _ (w.heap.size + 1) _ _ rfl (set_two HY1.out _ _) Try.underlying31 rfl (by kernel_rfl)) rfl ?_
      have BW := (HB1.out.setCell (p := ⟨w.heap.size + 1, 0, none⟩) (by simp) (.slice (some ⟨b3, off3, none⟩) n c)).setCell (p := ⟨w.heap.size + 1, 1, none⟩) (by simp) (.slice A' m c')
      exact ⟨⟨_, by rw [HF.out]; rfl, by rw [HF.out]; exact fun _ _ hrs => hrs.below BW⟩, BW⟩
    | true =>
      have HF : Hid (R = (putL LL i k y, 0)) := by unfold Hid; rw [← HR.out]; unfold stV; rw [hq]; dsimp only; rw [e2]; rfl
      clear hq hs ha h hn hm e1 e2 e3 e4 e5 hh hc3 hca hb3 hR
      go_enter Try.func34, Try.ntmps34
      go_wp2_with fail
      refine (CT.out _ B0.out).mono ?_
      rintro e W1 ⟨rfl, b1⟩
      have HB1 : Hid (Below w.heap.size w W1) := B0.out.trans (b1.mono B0.out.size)
      have HX1 := Lib.hid (heap_keep b1 HX0.out)
      have HY1 := Lib.hid (heap_keep b1 HY0.out)
      have y5 := cell_later b1 z5
      have y0 := cell_later b1 x0
      have y1 := cell_later b1 x1
      clear b1 CT x0 x1 hW0 z5
      go_wp2_with fail
      refine (CP.out i k L W1 HB1.out HE4.out HE5.out).mono ?_
      rintro e W2 ⟨⟨vl', rfl, hrs⟩, b2⟩
      obtain ⟨A3, c3, rfl⟩ : ∃ A3 c3, vl' = .slice A3 (putL LL i k y).length c3 := by
        obtain ⟨_, _, A3, c3, _, e⟩ := (hrs (w.heap.size + 1) (Array.getElem?_eq_some_iff.1 HY1.out).1 ((HH.out.fresh (by omega)).below HB1.out)).form
        exact ⟨A3, c3, e⟩
      obtain ⟨m3, hm3⟩ : ∃ m3, (putL LL i k y).length = m3 := ⟨_, rfl⟩
      rw [hm3] at hrs ⊢
      have HRS := Lib.hid hrs
      have HB2 : Hid (Below w.heap.size w W2) := HB1.out.trans (b2.mono HB1.out.size)
      have HY2 := Lib.hid (heap_keep b2 HY1.out)
      clear b2 hrs hm3 y5 y0 y1
      have t0 := (row_cell HY2.out 0).1
      have t1 := (row_cell HY2.out 1).1
      have f0 := (row_cell HY2.out 0).2
      have f1 := (row_cell HY2.out 1).2
      simp at t0 t1
      go_wp2_with fail
      refine bodyPost_ret (results_cell_tmp rfl _ _ (w.heap.size + 1) _ _ rfl (set_two HY2.out _ _) Try.underlying31 rfl (by kernel_rfl)) rfl ?_
      have BW := (HB2.out.setCell (p := ⟨w.heap.size + 1, 0, none⟩) (by simp) (.slice (some ⟨b3, off3, none⟩) n c)).setCell (p := ⟨w.heap.size + 1, 1, none⟩) (by simp) (.slice A3 m3 c3)
      have PV : Past (w.heap.size + 1) W2 ((W2.setCell ⟨w.heap.size + 1, 0, none⟩ (.slice (some ⟨b3, off3, none⟩) n c)).setCell ⟨w.heap.size + 1, 1, none⟩ (.slice A3 m3 c3)) := ((Past.refl _ _).setCell 0 _).setCell 1 _
      refine ⟨⟨_, by rw [HF.out]; rfl, ?_⟩, BW⟩
      rw [HF.out]
      intro gg hgg hr
      exact (HRS.out gg (Nat.lt_of_lt_of_le hgg HB1.out.size) (hr.below HB1.out)).both (HRS.out (w.heap.size + 1) (Array.getElem?_eq_some_iff.1 HY1.out).1 ((hr.fresh (by omega)).below HB1.out)) PV
theorem atL_far {p : Int} : ∀ {l : List MA} {i : Nat}, GA l → 65536 ≤ p → atL p l i = none
  | [], _, _, _ => rfl
  | x :: r, i, h, hp => by
    have := h x (by simp)
    unfold atL
    rw [if_neg (by omega)]
    exact atL_far (fun y hy => h y (by simp [hy])) hp
theorem Turns.trans {a b c : World} {va vl vm vn : Value} {l : List MA} {LL MM NN : List (List Int)} (h : Turns a b va vl vm l LL MM) (h' : Turns b c va vm vn l MM NN) (hs : a.heap.size ≤ b.heap.size) : Turns a c va vl vn l LL NN :=
  fun g hg hr => h' g (Nat.lt_of_lt_of_le hg hs) (h g hg hr)
theorem Turns.below {a b c : World} {va vl vm : Value} {l : List MA} {LL MM : List (List Int)} (h : Turns a b va vl vm l LL MM) (h' : Below b.heap.size b c) : Turns a c va vl vm l LL MM :=
  fun g hg hr => (h g hg hr).below h'
theorem Turns.past {a b c : World} {va vl vm : Value} {l : List MA} {LL MM : List (List Int)} {q : Nat} (h : Turns a b va vl vm l LL MM) (hq : q < a.heap.size) (hr : RS q a va vl l LL) (h' : Past q b c) : Turns a c va vl vm l LL MM :=
  fun g hg hr' => (h g hg hr').both (h q hq hr) h'
structure RfRel (at_ : Int) (n : Nat) (l : List MA) (ns : List Int) (LL : List (List Int)) (va vl : Value) (b0 : Nat) (w W0 : World) (v9 : Value) (wr : World) : Prop where
  ex : ∃ (k : Nat) (M : List (List Int)) (A : Option Addr) (z c : Nat), k ≤ n ∧ v9 = .int .i64 (k : Int) ∧ fillGo l at_ ns LL = fillGo l (at_ + k) (ns.drop k) M ∧ Sh l M ∧ z = M.length ∧ Turns W0 wr va vl (.slice A z c) l LL M ∧ Below b0 w wr ∧ W0.heap.size ≤ wr.heap.size ∧
    wr.heap[b0]? = some (.cells #[va, vl] 31 (0, 0)) ∧ wr.heap[b0 + 1]? = some (.cells #[.slice none 0 0, .slice none 0 0] 31 (0, 0)) ∧ wr.heap[b0 + 2]? = some (.cells #[va, .slice A z c] 31 (0, 0))
set_option maxRecDepth 100000 in
set_option maxHeartbeats 8000000 in
theorem rfill_any (g : Nat) (va vl v : Value) (l : List MA) (LL : List (List Int)) (ns : List Int) (at_ : Int) (w : World) (h : RS g w va vl l LL) (hs : Sh l LL) (ha : U32 at_) (hv : St g w 1 v ns.length (CU ns)) (hu : ∀ x ∈ ns, U32 x) (hn : ns.length ≤ 64) :
    Calls Try.prog 26 #[.agg #[va, vl], .int .u32 at_, v] w fun e w' => (∃ vl', e = .returned (.tuple #[.agg #[va, vl'], .int .i64 (flV at_ l ns LL).2]) ∧ Turns w w' va vl vl' l LL (flV at_ l ns LL).1) ∧ Below w.heap.size w w' := by
  have HH := Lib.hid h
  obtain ⟨a, cap0, rfl⟩ := hv.form
  obtain ⟨A, c, A', c', hva, hvl⟩ := h.form
  obtain ⟨n, hnn⟩ : ∃ n, ns.length = n := ⟨_, rfl⟩
  rw [hnn] at hv hn ⊢
  have HNN := Lib.hid hnn
  have HV := Lib.hid hv
  have HU := Lib.hid hu
  have HS := Lib.hid hs
  have HAT := Lib.hid ha
  have CT := Lib.hid fun (k : Nat) (hk : U32 (at_ + k)) (W : World) (hb : Below w.heap.size w W) => rat_any g va A' LL.length c' l (at_ + k) W (h.a.below hb) hs.good hs.few hk
  have CP := Lib.hid fun (y : Int) (i k : Nat) (q : Nat) (vm : Value) (M : List (List Int)) (L : List Int) (W : World) (hsM : Sh l M) (hr : RS q W va vm l M) (hL : M[i]? = some L) (hk : k < L.length) => put_any q va vm l M L i k y W hr hL hk (by rw [hsM.len]; exact hsM.few) (by
    have h1 := flat_set (M := L) hsM.len hsM.each hL
    have h2 := hsM.flat
    have h3 := hsM.sum
    omega)
  rw [← hvl] at CT
  obtain ⟨R, hR⟩ : ∃ R, flV at_ l ns LL = R := ⟨_, rfl⟩
  rw [hR]
  have HR := Lib.hid hR
  obtain ⟨na, hna⟩ : ∃ na, l.length = na := ⟨_, rfl⟩
  obtain ⟨m, hm⟩ : ∃ m, LL.length = m := ⟨_, rfl⟩
  rw [hna] at hva
  rw [hm] at hvl
  subst hva hvl
  have HLM := Lib.hid hm
  clear hnn hv hu hs h hR hna hm ha
  have hwa : IntKind.u64.wrap at_ = at_ := by
    have := HAT.out; unfold U32 at this
    rw [IntKind.wrap_u64]; omega
  go_enter Try.func26, Try.ntmps26
  go_wp2_with fail
  obtain ⟨W0, hW0⟩ : ∃ W0, ((w.alloc (.cells #[.slice A na c, .slice A' m c'] 31)).alloc (.cells #[.slice none 0 0, .slice none 0 0] 31)).alloc (.cells #[.slice A na c, .slice A' m c'] 31) = W0 := ⟨_, rfl⟩
  simp only [hW0]
  have HS0 : Hid (W0.heap.size = w.heap.size + 3) := by rw [← hW0]; unfold Hid; simp
  have B0 : Hid (Below w.heap.size w W0) := by rw [← hW0]; exact (((Below.refl _ _).alloc (Nat.le_refl _) _).alloc (by simp) _).alloc (by simp; omega) _
  have HX0 : Hid (W0.heap[w.heap.size]? = some (.cells #[.slice A na c, .slice A' m c'] 31 (0, 0))) := by
    rw [← hW0]; exact heap_keep ((Below.refl _ _).alloc (Nat.le_refl _) _) ((((Below.refl _ _).alloc (Nat.le_refl _) _).block _ (by simp)).trans (heap_alloc_new _ _))
  have HY0 : Hid (W0.heap[w.heap.size + 1]? = some (.cells #[.slice none 0 0, .slice none 0 0] 31 (0, 0))) := by
    rw [← hW0]
    have h1 := heap_alloc_new (w.alloc (.cells #[.slice A na c, .slice A' m c'] 31)) (.cells #[.slice none 0 0, .slice none 0 0] 31)
    have h2 : ((w.alloc (.cells #[.slice A na c, .slice A' m c'] 31)).alloc (.cells #[.slice none 0 0, .slice none 0 0] 31)).heap[w.heap.size + 1]? = some (.cells #[.slice none 0 0, .slice none 0 0] 31 (0, 0)) := by simpa using h1
    exact heap_keep ((Below.refl _ _).alloc (Nat.le_refl _) _) h2
  have HZ0 : Hid (W0.heap[w.heap.size + 2]? = some (.cells #[.slice A na c, .slice A' m c'] 31 (0, 0))) := by
    rw [← hW0]
    have h1 := heap_alloc_new ((w.alloc (.cells #[.slice A na c, .slice A' m c'] 31)).alloc (.cells #[.slice none 0 0, .slice none 0 0] 31)) (.cells #[.slice A na c, .slice A' m c'] 31)
    unfold Hid
    simpa using h1
  have HR0 : Hid (∀ q, w.heap.size ≤ q → RS q W0 (.slice A na c) (.slice A' m c') l LL) := fun q hq => (HH.out.fresh hq).below B0.out
  clear hW0
  go_loopw [9] (fun v wr => RfRel at_ n l ns LL (.slice A na c) (.slice A' m c') w.heap.size w W0 v wr) (fun v => fun _ => n - (intOf v).toNat)
  case atStart => exact ⟨⟨0, LL, A', m, c', Nat.zero_le _, rfl, by simp, HS.out, HLM.out.symm, fun q hq hr => hr, B0.out, Nat.le_refl _, HX0.out, HY0.out, HZ0.out⟩⟩
  case round =>
    obtain ⟨⟨k, M, Am, z, cm, hk, rfl, hgo, hsh, hz, htn, hb, hsz, hx, hy, hzz⟩⟩ := hrel
    have HK := Lib.hid hk
    have HGO := Lib.hid hgo
    have HSH := Lib.hid hsh
    have HZL := Lib.hid hz
    have HT := Lib.hid htn
    have HB := Lib.hid hb
    have HSZ := Lib.hid hsz
    have HX := Lib.hid hx
    have HY := Lib.hid hy
    have HZ := Lib.hid hzz
    clear hk hgo hsh hz htn hb hsz hx hy hzz HX0 HY0 HZ0
    by_cases hlt : k < n
    · have hkI : (k : Int) < (n : Int) := by omega
      have HLT : Hid (k < n) := hlt
      have hwk : IntKind.u64.wrap (k : Int) = (k : Int) := by rw [IntKind.wrap_u64]; omega
      have hwk2 : IntKind.u64.wrap (at_ + (k : Int)) = at_ + (k : Int) := by
        have := HAT.out; unfold U32 at this
        rw [IntKind.wrap_u64]; omega
      by_cases hbig : 4294967295 < at_ + (k : Int)
      · have HF : Hid (R = (LL, 2)) := by
          unfold Hid
          rw [← HR.out]; unfold flV
          rw [fillGo_none (by rw [HNN.out]; exact hlt) (atL_far HS.out.good (by omega))]
        clear hlt
        have s0 := (row_cell HX.out 0).1
        have s1 := (row_cell HX.out 1).1
        have t0 := (row_cell HY.out 0).1
        have t1 := (row_cell HY.out 1).1
        have f0 := (row_cell HY.out 0).2
        have f1 := (row_cell HY.out 1).2
        simp at s0 s1 t0 t1
        go_wp2_with fail
        (try unfold Exit.noGoto)
        (try simp only [Exit.inBlock, Exit.then])
        refine bodyPost_ret (results_cell_tmp rfl _ _ (w.heap.size + 1) _ _ rfl (set_two HY.out _ _) Try.underlying31 rfl (by kernel_rfl)) rfl ?_
        have PV : Past (w.heap.size + 1) wr ((wr.setCell ⟨w.heap.size + 1, 0, none⟩ (.slice A na c)).setCell ⟨w.heap.size + 1, 1, none⟩ (.slice A' m c')) := ((Past.refl _ _).setCell 0 _).setCell 1 _
        have BW := (HB.out.setCell (p := ⟨w.heap.size + 1, 0, none⟩) (by simp) (.slice A na c)).setCell (p := ⟨w.heap.size + 1, 1, none⟩) (by simp) (.slice A' m c')
        exact ⟨⟨_, by rw [HF.out]; rfl, by rw [HF.out]; exact fun _ _ hrs => hrs.below BW⟩, BW⟩
      · have hwk3 : IntKind.u32.wrap (k : Int) = (k : Int) := by rw [IntKind.wrap_u32]; omega
        have hwk4 : IntKind.u32.wrap (at_ + (k : Int)) = at_ + (k : Int) := by
          have := HAT.out; unfold U32 at this
          rw [IntKind.wrap_u32]; omega
        have hat : U32 (at_ + (k : Int)) := by have := HAT.out; unfold U32 at this ⊢; omega
        have CK := Lib.hid (CT.out k hat wr HB.out)
        have x0 := (row_cell HX.out 0).1
        have x1 := (row_cell HX.out 1).1
        simp at x0 x1
        rcases hq : atL (at_ + k) l 0 with _ | ⟨i, kk⟩
        · have HF : Hid (R = (LL, 2)) := by
            unfold Hid
            rw [← HR.out]; unfold flV
            rw [fillGo_none (by rw [HNN.out]; exact hlt) hq]
          have hr : rtV (at_ + k) l = (-1, 0) := by unfold rtV; rw [hq]
          rw [hr] at CK
          dsimp only at CK
          clear hlt hq hr hat
          go_wp2_with fail
          refine CK.out.mono ?_
          rintro e W1 ⟨rfl, b1⟩
          have HB1 : Hid (Below w.heap.size w W1) := HB.out.trans (b1.mono HB.out.size)
          have HX1 := Lib.hid (heap_keep b1 HX.out)
          have HY1 := Lib.hid (heap_keep b1 HY.out)
          clear b1 CK x0 x1
          have s0 := (row_cell HX1.out 0).1
          have s1 := (row_cell HX1.out 1).1
          have t0 := (row_cell HY1.out 0).1
          have t1 := (row_cell HY1.out 1).1
          have f0 := (row_cell HY1.out 0).2
          have f1 := (row_cell HY1.out 1).2
          simp at s0 s1 t0 t1
          go_wp2_with fail
          (try unfold Exit.noGoto)
          (try simp only [Exit.inBlock, Exit.then])
          refine bodyPost_ret (results_cell_tmp rfl _ _ (w.heap.size + 1) _ _ rfl (set_two HY1.out _ _) Try.underlying31 rfl (by kernel_rfl)) rfl ?_
          have PV : Past (w.heap.size + 1) W1 ((W1.setCell ⟨w.heap.size + 1, 0, none⟩ (.slice A na c)).setCell ⟨w.heap.size + 1, 1, none⟩ (.slice A' m c')) := ((Past.refl _ _).setCell 0 _).setCell 1 _
          have BW := (HB1.out.setCell (p := ⟨w.heap.size + 1, 0, none⟩) (by simp) (.slice A na c)).setCell (p := ⟨w.heap.size + 1, 1, none⟩) (by simp) (.slice A' m c')
          exact ⟨⟨_, by rw [HF.out]; rfl, by rw [HF.out]; exact fun _ _ hrs => hrs.below BW⟩, BW⟩
        · obtain ⟨x, L, u, e1, e2, e3, e4, e5, e6⟩ := HSH.out.rt hq
          rw [e1] at CK
          dsimp only at CK
          have hi0 : (0 : Int) ≤ (i : Int) := by omega
          have hys : ns[k]? = some (ns[k]'(by have := HNN.out; omega)) := List.getElem?_eq_getElem _
          obtain ⟨y, hy⟩ : ∃ y, ns[k]'(by have := HNN.out; omega) = y := ⟨_, rfl⟩
          rw [hy] at hys
          have HUY : Hid (U32 y) := HU.out y (List.mem_of_getElem? hys)
          have HST := Lib.hid (fillGo_step (LL := M) hys hq)
          have HNS : Hid (Sh l (putL M i kk y)) := HSH.out.put i kk HUY.out
          have HE4 := Lib.hid e4
          have HE5 := Lib.hid (List.getElem?_eq_some_iff.1 e5).1
          obtain ⟨_, b, off, rfl, hbl, hg, hc⟩ := HV.out.at_ hlt
          have dl : wr.cell? ⟨b, off + k, none⟩ = some (.int .u32 y) := (HB.out.cell (p := ⟨b, off + k, none⟩) hbl).trans (hc k _ (CU_at hys))
          have HBL : Hid (b < w.heap.size) := hbl
          clear hlt hq e1 e2 e3 e4 e5 e6 hys hy hbl hg hc hat
          go_wp2_with fail
          refine CK.out.mono ?_
          rintro e W1 ⟨rfl, b1⟩
          have HB1 : Hid (Below w.heap.size w W1) := HB.out.trans (b1.mono HB.out.size)
          have HX1 := Lib.hid (heap_keep b1 HX.out)
          have HY1 := Lib.hid (heap_keep b1 HY.out)
          have HZ1 := Lib.hid (heap_keep b1 HZ.out)
          have HT1 := Lib.hid (HT.out.below b1)
          have HSZ1 : Hid (W0.heap.size ≤ W1.heap.size) := Nat.le_trans HSZ.out b1.size
          have dl1 := cell_later b1 dl
          have HD1 := Lib.hid dl1
          have o0 : W1.drew.cell? ⟨w.heap.size + 2, 0, none⟩ = some (.slice A na c) := by have := (row_cell HZ1.out 0).1; simpa using this
          have o1 : W1.drew.cell? ⟨w.heap.size + 2, 1, none⟩ = some (.slice Am z cm) := by have := (row_cell HZ1.out 1).1; simpa using this
          clear b1 CK x0 x1 dl
          go_wp2_with fail
          refine wp_region_held_drew (S := fun w' => w'.cell? ⟨b, off + k, none⟩ = some (.int .u32 y)) (by kernel_rfl) ?_ (fun hHeld => ?_)
          · exact HD1.out
          refine takeD (i := 1) (d := some 39) (v := ?_) _ rfl rfl (by kernel_rfl) (by kernel_rfl) (by kernel_rfl) (fun _ _ _ h => h) (by rfl) ?_ (by assumption) ?_
          rotate_left
          · (intro w hSw; (try dsimp only at hSw); go_simp) <;> with_reducible rfl
          try simp only [Act.put, List.setIfInBounds_toArray, List.set_cons_zero, List.set_cons_succ]
          refine takeD (i := 2) (d := some 40) (v := ?_) _ rfl rfl (by kernel_rfl) (by kernel_rfl) (by kernel_rfl) (fun _ _ _ h => h) (by rfl) ?_ (by assumption) ?_
          rotate_left
          · (intro w hSw; (try dsimp only at hSw); go_simp) <;> with_reducible rfl
          try simp only [Act.put, List.setIfInBounds_toArray, List.set_cons_zero, List.set_cons_succ]
          refine takeD (i := 3) (d := some 41) (v := ?_) _ rfl rfl (by kernel_rfl) (by kernel_rfl) (by kernel_rfl) (fun _ _ _ h => h) (by rfl) ?_ (by assumption) ?_
          rotate_left
          · (intro w hSw; (try dsimp only at hSw); go_simp) <;> with_reducible rfl
          try simp only [Act.put, List.setIfInBounds_toArray, List.set_cons_zero, List.set_cons_succ]
          refine takeD (i := 4) (d := some 42) (v := ?_) _ rfl rfl (by kernel_rfl) (by kernel_rfl) (by kernel_rfl) (fun _ _ _ h => h) (by rfl) ?_ (by assumption) ?_
          rotate_left
          · (intro w hSw; (try dsimp only at hSw); go_simp) <;> with_reducible rfl
          try simp only [Act.put, List.setIfInBounds_toArray, List.set_cons_zero, List.set_cons_succ]
          refine takeD (i := 5) (d := some 43) (v := ?_) _ rfl rfl (by kernel_rfl) (by kernel_rfl) (by kernel_rfl) (fun _ _ _ h => h) (by rfl) ?_ (by assumption) ?_
          rotate_left
          · (intro w hSw; (try dsimp only at hSw); go_simp) <;> with_reducible rfl
          try simp only [Act.put, List.setIfInBounds_toArray, List.set_cons_zero, List.set_cons_succ]
          refine takeD (i := 6) (d := some 44) (v := ?_) _ rfl rfl (by kernel_rfl) (by kernel_rfl) (by kernel_rfl) (fun _ _ _ h => h) (by rfl) ?_ (by assumption) ?_
          rotate_left
          · (intro w hSw; (try dsimp only at hSw); go_simp) <;> with_reducible rfl
          try simp only [Act.put, List.setIfInBounds_toArray, List.set_cons_zero, List.set_cons_succ]
          refine wpAnyH_ready (rs := [0]) (by kernel_rfl) (by simp) ?_
          refine AllReadyH.cons rfl (fun K hK => ?_) AllReadyH.nil
          go_simp
          refine hK.out _ _ hHeld (fun hHeld => ?_)
          clear hK K
          try simp only [Act.put, List.setIfInBounds_toArray, List.set_cons_zero, List.set_cons_succ]
          refine wpAnyH_ready (rs := [7]) (by kernel_rfl) (by simp) ?_
          refine AllReadyH.cons rfl (fun K hK => ?_) AllReadyH.nil
          go_simp
          go_at_call 40
          refine (CP.out y i kk (w.heap.size + 2) (.slice Am z cm) M L W1.drew HSH.out ((HT1.out (w.heap.size + 2) (by have := HS0.out; omega) (HR0.out _ (by omega))).below (below_drewN (Below.refl _ _) 1)) HE4.out HE5.out).mono ?_
          rintro e W2 ⟨⟨vl', rfl, hrs⟩, b2⟩
          have b2' : Below W1.heap.size W1 W2 := (below_drewN (Below.refl W1.heap.size W1) 1).trans b2
          have hrs' : Turns W1 W2 (.slice A na c) (.slice Am z cm) vl' l M (putL M i kk y) := fun q hq hr => hrs q hq (hr.below (below_drewN (Below.refl _ _) 1))
          obtain ⟨A3, c3, rfl⟩ : ∃ A3 c3, vl' = .slice A3 (putL M i kk y).length c3 := by
            obtain ⟨_, _, A3, c3, _, e⟩ := (hrs' (w.heap.size + 2) (Array.getElem?_eq_some_iff.1 HZ1.out).1 (HT1.out (w.heap.size + 2) (by have := HS0.out; omega) (HR0.out _ (by omega)))).form
            exact ⟨A3, c3, e⟩
          obtain ⟨z3, hz3⟩ : ∃ z3, (putL M i kk y).length = z3 := ⟨_, rfl⟩
          rw [hz3] at hrs hrs' ⊢
          have HZ3 := Lib.hid hz3
          have HB2 : Hid (Below w.heap.size w W2) := HB1.out.trans (b2'.mono HB1.out.size)
          have HX2 := Lib.hid (heap_keep b2' HX1.out)
          have HY2 := Lib.hid (heap_keep b2' HY1.out)
          have HZ2 := Lib.hid (heap_keep b2' HZ1.out)
          have HSZ2 : Hid (W0.heap.size ≤ W2.heap.size) := Nat.le_trans HSZ1.out b2'.size
          have HT2 := Lib.hid (HT1.out.trans hrs' HSZ1.out)
          have HD2 := cell_later b2' HD1.out
          try go_wp2_with fail
          refine hK.out _ _ HD2 (fun hHeld => ?_)
          clear hK K b2 b2' hrs hrs' hz3 o0 o1 dl1
          try simp only [Act.put, List.setIfInBounds_toArray, List.set_cons_zero, List.set_cons_succ]
          have t0 := (row_cell HZ2.out 0).1
          have t1 := (row_cell HZ2.out 1).1
          have f0 := (row_cell HZ2.out 0).2
          have f1 := (row_cell HZ2.out 1).2
          simp at t0 t1
          refine wpAnyH_ready (rs := [8]) (by kernel_rfl) (by simp) ?_
          refine AllReadyH.cons rfl (fun K hK => ?_) AllReadyH.nil
          go_simp
          refine hK.out _ _ ?_ (fun hHeld => ?_)
          · rw [World.cell?_setCell_far _ _ _ _ (by simp; have := HBL.out; omega), World.cell?_setCell_far _ _ _ _ (by simp; have := HBL.out; omega)]; exact HD2
          clear hK K
          try simp only [Act.put, List.setIfInBounds_toArray, List.set_cons_zero, List.set_cons_succ]
          refine wpAnyH_done (by kernel_rfl) ?_ _
          have PV : Past (w.heap.size + 2) W2 ((W2.setCell ⟨w.heap.size + 2, 0, none⟩ (.slice A na c)).setCell ⟨w.heap.size + 2, 1, none⟩ (.slice A3 z3 c3)) := ((Past.refl _ _).setCell 0 _).setCell 1 _
          have HX3 : Hid (((W2.setCell ⟨w.heap.size + 2, 0, none⟩ (.slice A na c)).setCell ⟨w.heap.size + 2, 1, none⟩ (.slice A3 z3 c3)).heap[w.heap.size]? = some (.cells #[.slice A na c, .slice A' m c'] 31 (0, 0))) := (PV.block _ (Array.getElem?_eq_some_iff.1 HX2.out).1 (by omega)).trans HX2.out
          have HY3 : Hid (((W2.setCell ⟨w.heap.size + 2, 0, none⟩ (.slice A na c)).setCell ⟨w.heap.size + 2, 1, none⟩ (.slice A3 z3 c3)).heap[w.heap.size + 1]? = some (.cells #[.slice none 0 0, .slice none 0 0] 31 (0, 0))) := (PV.block _ (Array.getElem?_eq_some_iff.1 HY2.out).1 (by omega)).trans HY2.out
          have HZ4 : Hid (((W2.setCell ⟨w.heap.size + 2, 0, none⟩ (.slice A na c)).setCell ⟨w.heap.size + 2, 1, none⟩ (.slice A3 z3 c3)).heap[w.heap.size + 2]? = some (.cells #[.slice A na c, .slice A3 z3 c3] 31 (0, 0))) := by
            have h1 := set_at (set_at HZ2.out 0 (.slice A na c)) 1 (.slice A3 z3 c3)
            unfold Hid; simpa using h1
          have HB3 : Hid (Below w.heap.size w ((W2.setCell ⟨w.heap.size + 2, 0, none⟩ (.slice A na c)).setCell ⟨w.heap.size + 2, 1, none⟩ (.slice A3 z3 c3))) := (HB2.out.setCell (p := ⟨w.heap.size + 2, 0, none⟩) (by simp) _).setCell (p := ⟨w.heap.size + 2, 1, none⟩) (by simp) _
          have HT3 := Lib.hid (HT2.out.past (q := w.heap.size + 2) (by have := HS0.out; omega) (HR0.out _ (by omega)) PV)
          have HSZ3 : Hid (W0.heap.size ≤ ((W2.setCell ⟨w.heap.size + 2, 0, none⟩ (.slice A na c)).setCell ⟨w.heap.size + 2, 1, none⟩ (.slice A3 z3 c3)).heap.size) := Nat.le_trans HSZ2.out PV.size
          generalize (W2.setCell ⟨w.heap.size + 2, 0, none⟩ (.slice A na c)).setCell ⟨w.heap.size + 2, 1, none⟩ (.slice A3 z3 c3) = W4 at HX3 HY3 HZ4 HB3 HT3 HSZ3 ⊢
          clear hHeld PV t0 t1 f0 f1 HD2
          go_wp2_with fail
          go_roundw
          case rel =>
            have Q : RfRel at_ n l ns LL (.slice A na c) (.slice A' m c') w.heap.size w W0 (.int .i64 ((k : Int) + 1)) W4 := ⟨⟨k + 1, putL M i kk y, A3, z3, c3, HLT.out, by go_num, by rw [HGO.out, HST.out], HNS.out, HZ3.out.symm, HT3.out, HB3.out, HSZ3.out, HX3.out, HY3.out, HZ4.out⟩⟩
            first | exact Q | ((repeat apply Exists.intro); exact ⟨Q, rfl⟩)
          case measure => have := HLT.out; simp [intOf]; omega
    · have hkn : k = n := by have := HK.out; omega
      have HF : Hid (R = (M, 0)) := by
        unfold Hid
        rw [← HR.out]; unfold flV
        rw [HGO.out, List.drop_of_length_le (by have := HNN.out; omega)]
        rfl
      clear hlt
      subst hkn
      have s0 := (row_cell HZ.out 0).1
      have s1 := (row_cell HZ.out 1).1
      have t0 := (row_cell HY.out 0).1
      have t1 := (row_cell HY.out 1).1
      have f0 := (row_cell HY.out 0).2
      have f1 := (row_cell HY.out 1).2
      simp at s0 s1 t0 t1
      go_wp2_with fail
      (try unfold Exit.noGoto)
      (try simp only [Exit.inBlock, Exit.then])
      refine bodyPost_ret (results_cell_tmp rfl _ _ (w.heap.size + 1) _ _ rfl (set_two HY.out _ _) Try.underlying31 rfl (by kernel_rfl)) rfl ?_
      have PV : Past (w.heap.size + 1) wr ((wr.setCell ⟨w.heap.size + 1, 0, none⟩ (.slice A na c)).setCell ⟨w.heap.size + 1, 1, none⟩ (.slice Am z cm)) := ((Past.refl _ _).setCell 0 _).setCell 1 _
      have BW := (HB.out.setCell (p := ⟨w.heap.size + 1, 0, none⟩) (by simp) (.slice A na c)).setCell (p := ⟨w.heap.size + 1, 1, none⟩) (by simp) (.slice Am z cm)
      refine ⟨⟨_, by rw [HF.out]; rfl, ?_⟩, BW⟩
      rw [HF.out]
      have ht := HT.out.past (q := w.heap.size + 1) (by have := HS0.out; omega) (HR0.out _ (by omega)) PV
      exact fun q hq hrs => ht q (by have := HS0.out; omega) (hrs.below B0.out)
end Go.Proofs.Ytliggejkpmlgfaa
