/-
  The document's own space: At, Load, Fetch and Words. Each statement bears its own conditions.
-/
import Derived.Test.YtliggejkpmlgfaaSpK
namespace Go.Proofs.Ytliggejkpmlgfaa
open Go.RowKit
set_option linter.unusedVariables false
set_option linter.unusedSimpArgs false
/-- The document's own space, by value. -/
structure RS (g : Nat) (w : World) (va vl : Value) (l : List MA) (LL : List (List Int)) : Prop where
  a : St g w 5 va l.length (CA l)
  s : SL g w vl LL
theorem RS.past {g : Nat} {w w' : World} {va vl : Value} {l : List MA} {LL : List (List Int)} (h : RS g w va vl l LL) (hp : Past g w w') : RS g w' va vl l LL := ⟨h.a.past hp, h.s.past hp⟩
theorem RS.below {g : Nat} {w w' : World} {va vl : Value} {l : List MA} {LL : List (List Int)} (h : RS g w va vl l LL) (hp : Below w.heap.size w w') : RS g w' va vl l LL := ⟨h.a.below hp, h.s.below hp⟩
theorem RS.form {g : Nat} {w : World} {va vl : Value} {l : List MA} {LL : List (List Int)} (h : RS g w va vl l LL) : ∃ A c A' c', va = .slice A l.length c ∧ vl = .slice A' LL.length c' := by
  obtain ⟨A, c, e⟩ := h.a.form
  obtain ⟨vs, h1, _⟩ := h.s.ex
  obtain ⟨A', c', e'⟩ := h1.form
  exact ⟨A, c, A', c', e, e'⟩
theorem sl_word {g : Nat} {w : World} {A : Option Addr} {n c i k : Nat} {LL : List (List Int)} {L : List Int} {u : Int} (h : SL g w (.slice A n c) LL) (hL : LL[i]? = some L) (hu : L[k]? = some u) :
    ∃ b off b2 off2 c2, A = some ⟨b, off, none⟩ ∧ i < n ∧ w.cell? ⟨b, off + i, none⟩ = some (.slice (some ⟨b2, off2, none⟩) L.length c2) ∧ k < L.length ∧ w.cell? ⟨b2, off2 + k, none⟩ = some (.int .u32 u) := by
  obtain ⟨vs, h1, h2, h3⟩ := h.ex
  have hi : i < LL.length := (List.getElem?_eq_some_iff.1 hL).1
  obtain ⟨hn, b, off, rfl, hb, hg, hc⟩ := h1.at_ hi
  have hvl : vs.length = LL.length := by have := h1.len; omega
  have hv := List.getElem?_eq_getElem (l := vs) (i := i) (by omega)
  have hs := h2 i _ L hv hL
  obtain ⟨A2, c2, e2⟩ := hs.form
  have hk : k < L.length := (List.getElem?_eq_some_iff.1 hu).1
  rw [e2] at hs
  obtain ⟨_, b2, off2, rfl, hb2, hg2, hc2⟩ := hs.at_ hk
  refine ⟨b, off, b2, off2, c2, rfl, by omega, ?_, hk, hc2 k _ (CU_at hu)⟩
  rw [← e2]
  exact hc i _ hv
/-- In which area a place is, and where. -/
def rtV (at_ : Int) (l : List MA) : Int × Int := match atL at_ l 0 with
  | none => (-1, 0)
  | some (i, k) => ((i : Int), (k : Int))
structure RAtRel (at_ : Int) (n : Nat) (l : List MA) (W0 : World) (v : Value) (wr : World) : Prop where
  ex : ∃ k : Nat, k ≤ n ∧ v = .int .i64 (k : Int) ∧ atL at_ l 0 = atL at_ (l.drop k) k ∧ wr = W0
set_option maxRecDepth 100000 in
set_option maxHeartbeats 8000000 in
theorem rat_any (g : Nat) (va : Value) (A' : Option Addr) (m c' : Nat) (l : List MA) (at_ : Int) (w : World) (h : St g w 5 va l.length (CA l)) (hg : GA l) (hf : l.length ≤ 16) (ha : U32 at_) :
    Calls Try.prog 27 #[.agg #[va, .slice A' m c'], .int .u32 at_] w fun e w' => e = .returned (.tuple #[.int .i64 (rtV at_ l).1, .int .i64 (rtV at_ l).2]) ∧ Below w.heap.size w w' := by
  obtain ⟨A, c, rfl⟩ := h.form
  obtain ⟨n, hn⟩ : ∃ n, l.length = n := ⟨_, rfl⟩
  rw [hn] at h hf ⊢
  have HN := Lib.hid hn
  have H := Lib.hid h
  have HG := Lib.hid hg
  have HA := Lib.hid ha
  have HM := Lib.hid hf
  obtain ⟨R, hR⟩ : ∃ R, rtV at_ l = R := ⟨_, rfl⟩
  rw [hR]
  have HR := Lib.hid hR
  have hwa : IntKind.i64.wrap at_ = at_ := wrap_ok (by have := ha.1; omega) (by have := ha.2; omega)
  obtain ⟨W0, hW0⟩ : ∃ W0, w.alloc (.cells #[.slice A n c, .slice A' m c'] 31) = W0 := ⟨_, rfl⟩
  have BW : Hid (Below w.heap.size w W0) := by rw [← hW0]; exact (Below.refl _ _).alloc (Nat.le_refl _) _
  have x0 : W0.cell? ⟨w.heap.size, 0, none⟩ = some (.slice A n c) := by rw [← hW0]; simp
  clear hn h hg ha hR
  go_enter Try.func27, Try.ntmps27
  go_wp2_with fail
  go_loopw [6] (fun v wr => RAtRel at_ n l W0 v wr) (fun v => fun _ => n - (intOf v).toNat)
  case atStart => exact ⟨⟨0, Nat.zero_le _, rfl, by simp, rfl⟩⟩
  case round =>
    obtain ⟨⟨k, hk, rfl, hat, hw⟩⟩ := hrel
    subst hw
    have HK := Lib.hid hk
    have HAT := Lib.hid hat
    clear hk hat hW0
    by_cases hlt : k < n
    · have hkI : (k : Int) < (n : Int) := by omega
      have HX : Hid (k < n) := hlt
      obtain ⟨_, b, off, rfl, hbl, hg, hc⟩ := H.out.at_ hlt
      have hxs : l[k]? = some (l[k]'(by have := HN.out; omega)) := List.getElem?_eq_getElem _
      obtain ⟨x, hx⟩ : ∃ x, l[k]'(by have := HN.out; omega) = x := ⟨_, rfl⟩
      rw [hx] at hxs
      have hgx := HG.out x (List.mem_of_getElem? hxs)
      have hca := CA_at hxs
      have HST : Hid (atL at_ l 0 = if x.frm ≤ at_ ∧ at_ < x.frm + x.wds then some (k, (at_ - x.frm).toNat) else atL at_ (l.drop (k + 1)) (k + 1)) := by
        unfold Hid; rw [HAT.out, drop_cons hxs]; rfl
      obtain ⟨xf, xw, xx, xr, xk⟩ := x
      dsimp only at hgx HST
      have HGX := Lib.hid hgx
      have d0 : wr.cell? ⟨b, off + k * 5, none⟩ = some (.int .i64 xf) := by have := hc _ _ (hca 0 _ rfl); exact cell_later BW.out (by simpa [Nat.add_assoc] using this)
      have d1 : wr.cell? ⟨b, off + k * 5 + 1, none⟩ = some (.int .i64 xw) := by have := hc _ _ (hca 1 _ rfl); exact cell_later BW.out (by simpa [Nat.add_assoc] using this)
      have hw1 : IntKind.i64.wrap (at_ - xf) = at_ - xf := wrap_ok (by have := HA.out.1; omega) (by have := HA.out.2; omega)
      clear hc hca hx hlt hbl hg hxs hgx
      by_cases ha1 : 0 ≤ at_ - xf
      · by_cases ha2 : at_ - xf < xw
        · have HF : Hid (R = ((k : Int), at_ - xf)) := by
            unfold Hid
            rw [← HR.out]; unfold rtV
            rw [HST.out, if_pos ⟨by omega, by omega⟩]
            dsimp only
            rw [Int.toNat_of_nonneg ha1]
          go_wp2_with fail
          go_ret2
          exact ⟨by rw [HF.out]; rfl, BW.out⟩
        · have HAL : Hid (atL at_ l 0 = atL at_ (l.drop (k + 1)) (k + 1)) := by unfold Hid; rw [HST.out, if_neg (by omega)]
          go_wp2_with fail
          go_roundw
          case rel =>
            have Q : RAtRel at_ n l wr (.int .i64 ((k : Int) + 1)) wr := ⟨⟨k + 1, HX.out, by go_num, HAL.out, rfl⟩⟩
            first | exact Q | ((repeat apply Exists.intro); exact ⟨Q, rfl⟩)
          case measure => have := HX.out; simp [intOf]; omega
      · have HAL : Hid (atL at_ l 0 = atL at_ (l.drop (k + 1)) (k + 1)) := by unfold Hid; rw [HST.out, if_neg (by omega)]
        have ha1b : decide (0 ≤ at_ - xf) = false := by simpa using ha1
        go_wp2_with fail
        go_roundw
        case rel =>
          have Q : RAtRel at_ n l wr (.int .i64 ((k : Int) + 1)) wr := ⟨⟨k + 1, HX.out, by go_num, HAL.out, rfl⟩⟩
          first | exact Q | ((repeat apply Exists.intro); exact ⟨Q, rfl⟩)
        case measure => have := HX.out; simp [intOf]; omega
    · have hkn : k = n := by have := HK.out; omega
      have HF : Hid (R = (-1, 0)) := by
        unfold Hid
        rw [← HR.out]; unfold rtV
        rw [HAT.out, List.drop_of_length_le (by have := HN.out; omega)]; rfl
      clear hlt
      subst hkn
      go_wp2_with fail
      go_ret2
      exact ⟨by rw [HF.out]; rfl, BW.out⟩
theorem Sh.rt {l : List MA} {LL : List (List Int)} (h : Sh l LL) {at_ : Int} {i k : Nat} (hp : atL at_ l 0 = some (i, k)) :
    ∃ (x : MA) (L : List Int) (u : Int), rtV at_ l = ((i : Int), (k : Int)) ∧ fdA at_ l = x ∧ l[i]? = some x ∧ LL[i]? = some L ∧ L[k]? = some u ∧ i < l.length := by
  obtain ⟨x, L, u, h1, h2, h3, h4, h5, h6⟩ := h.at_ hp
  refine ⟨x, L, u, ?_, ?_, h1, h2, h3, (List.getElem?_eq_some_iff.1 h1).1⟩
  · unfold rtV; rw [hp]
  · unfold fdA; rw [hp]; dsimp only; rw [h1]; rfl
set_option maxRecDepth 100000 in
set_option maxHeartbeats 4000000 in
theorem rload_any (g : Nat) (va vl : Value) (l : List MA) (LL : List (List Int)) (at_ : Int) (w : World) (h : RS g w va vl l LL) (hs : Sh l LL) (ha : U32 at_) :
    Calls Try.prog 28 #[.agg #[va, vl], .int .u32 at_] w fun e w' => e = .returned (.tuple #[.int .u32 (ldV at_ l LL).1, .int .i64 (ldV at_ l LL).2]) ∧ Below w.heap.size w w' := by
  obtain ⟨A, c, A', c', rfl, rfl⟩ := h.form
  have CT := Lib.hid fun (W : World) (hb : Below w.heap.size w W) => rat_any g _ A' LL.length c' l at_ W (h.a.below hb) hs.good hs.few ha
  obtain ⟨n, hn⟩ : ∃ n, l.length = n := ⟨_, rfl⟩
  obtain ⟨m, hm⟩ : ∃ m, LL.length = m := ⟨_, rfl⟩
  rw [hn, hm] at CT ⊢
  have HH := Lib.hid h
  obtain ⟨W0, hW0⟩ : ∃ W0, w.alloc (.cells #[.slice A n c, .slice A' m c'] 31) = W0 := ⟨_, rfl⟩
  have BW : Hid (Below w.heap.size w W0) := by rw [← hW0]; exact (Below.refl _ _).alloc (Nat.le_refl _) _
  have x0 : W0.cell? ⟨w.heap.size, 0, none⟩ = some (.slice A n c) := by rw [← hW0]; simp
  have x1 : W0.cell? ⟨w.heap.size, 1, none⟩ = some (.slice A' m c') := by rw [← hW0]; simp
  rcases hq : atL at_ l 0 with _ | ⟨i, k⟩
  · have hv : ldV at_ l LL = (0, 2) := by unfold ldV; rw [hq]
    have hr : rtV at_ l = (-1, 0) := by unfold rtV; rw [hq]
    rw [hr] at CT
    rw [hv]
    dsimp only at CT ⊢
    clear hv hr hq hs ha h hn hm
    go_enter Try.func28, Try.ntmps28
    go_wp2_with fail
    refine (CT.out _ BW.out).mono ?_
    rintro e W1 ⟨rfl, b1⟩
    go_wp2_with fail
    go_ret2
    exact ⟨rfl, BW.out.trans (b1.mono BW.out.size)⟩
  · obtain ⟨x, L, u, e1, e2, e3, e4, e5, e6⟩ := hs.rt hq
    rw [e1] at CT
    dsimp only at CT
    obtain ⟨b, off, b2, off2, c2, rfl, q1, q2, q3, q4⟩ := sl_word h.s e4 e5
    have z2 := cell_later BW.out q2
    have z4 := cell_later BW.out q4
    rw [hm] at q1
    have hi0 : (0 : Int) ≤ (i : Int) := by omega
    obtain ⟨ll, hll⟩ : ∃ ll, L.length = ll := ⟨_, rfl⟩
    rw [hll] at z2 q3
    have hv : ldV at_ l LL = (u, 0) := by unfold ldV; rw [hq]; dsimp only; rw [e4]; dsimp only [Option.getD]; rw [e5]
    rw [hv]
    dsimp only
    clear hv hq hs ha h hn hm e1 e2 e3 e4 e5 e6 q2 q4 hll
    go_enter Try.func28, Try.ntmps28
    go_wp2_with fail
    refine (CT.out _ BW.out).mono ?_
    rintro e W1 ⟨rfl, b1⟩
    have y1 := cell_later b1 x1
    have y2 := cell_later b1 z2
    have y4 := cell_later b1 z4
    clear x0 x1 z2 z4 CT
    go_wp2_with fail
    go_ret2
    exact ⟨rfl, BW.out.trans (b1.mono BW.out.size)⟩
set_option maxRecDepth 100000 in
set_option maxHeartbeats 4000000 in
theorem rfetch_any (g : Nat) (va vl : Value) (l : List MA) (LL : List (List Int)) (at_ : Int) (w : World) (h : RS g w va vl l LL) (hs : Sh l LL) (ha : U32 at_) :
    Calls Try.prog 33 #[.agg #[va, vl], .int .u32 at_] w fun e w' => e = .returned (.tuple #[.int .u32 (ftV at_ l LL).1, .int .i64 (ftV at_ l LL).2]) ∧ Below w.heap.size w w' := by
  obtain ⟨A, c, A', c', rfl, rfl⟩ := h.form
  have CT := Lib.hid fun (W : World) (hb : Below w.heap.size w W) => rat_any g _ A' LL.length c' l at_ W (h.a.below hb) hs.good hs.few ha
  obtain ⟨n, hn⟩ : ∃ n, l.length = n := ⟨_, rfl⟩
  obtain ⟨m, hm⟩ : ∃ m, LL.length = m := ⟨_, rfl⟩
  rw [hn, hm] at CT ⊢
  have HH := Lib.hid h
  obtain ⟨W0, hW0⟩ : ∃ W0, w.alloc (.cells #[.slice A n c, .slice A' m c'] 31) = W0 := ⟨_, rfl⟩
  have BW : Hid (Below w.heap.size w W0) := by rw [← hW0]; exact (Below.refl _ _).alloc (Nat.le_refl _) _
  have x0 : W0.cell? ⟨w.heap.size, 0, none⟩ = some (.slice A n c) := by rw [← hW0]; simp
  have x1 : W0.cell? ⟨w.heap.size, 1, none⟩ = some (.slice A' m c') := by rw [← hW0]; simp
  rcases hq : atL at_ l 0 with _ | ⟨i, k⟩
  · have hv : ftV at_ l LL = (0, 2) := by unfold ftV; rw [hq]
    have hr : rtV at_ l = (-1, 0) := by unfold rtV; rw [hq]
    rw [hr] at CT
    rw [hv]
    dsimp only at CT ⊢
    clear hv hr hq hs ha h hn hm
    go_enter Try.func33, Try.ntmps33
    go_wp2_with fail
    refine (CT.out _ BW.out).mono ?_
    rintro e W1 ⟨rfl, b1⟩
    go_wp2_with fail
    go_ret2
    exact ⟨rfl, BW.out.trans (b1.mono BW.out.size)⟩
  · obtain ⟨x, L, u, e1, e2, e3, e4, e5, e6⟩ := hs.rt hq
    rw [e1] at CT
    dsimp only at CT
    obtain ⟨b, off, b2, off2, c2, rfl, q1, q2, q3, q4⟩ := sl_word h.s e4 e5
    have z2 := cell_later BW.out q2
    have z4 := cell_later BW.out q4
    rw [hm] at q1
    have hi0 : (0 : Int) ≤ (i : Int) := by omega
    obtain ⟨ll, hll⟩ : ∃ ll, L.length = ll := ⟨_, rfl⟩
    rw [hll] at z2 q3
    rw [hn] at e6
    have hh := h.a
    rw [hn] at hh
    obtain ⟨_, b3, off3, rfl, hb3, _, hc3⟩ := hh.at_ e6
    have hca := CA_at e3
    obtain ⟨xf, xw, xx, xr, xk⟩ := x
    have z5 : W0.cell? ⟨b3, off3 + i * 5 + 3, none⟩ = some (.bool xr) := by have := hc3 _ _ (hca 3 _ rfl); exact cell_later BW.out (by simpa [Nat.add_assoc] using this)
    cases xr with
    | false =>
      have hv : ftV at_ l LL = (0, 11) := by unfold ftV; rw [hq]; dsimp only; rw [e2]; rfl
      rw [hv]
      dsimp only
      clear hv hq hs ha h hn hm e1 e2 e3 e4 e5 q2 q4 hll hh hc3 hca hb3
      go_enter Try.func33, Try.ntmps33
      go_wp2_with fail
      refine (CT.out _ BW.out).mono ?_
      rintro e W1 ⟨rfl, b1⟩
      have y0 := cell_later b1 x0
      have y1 := cell_later b1 x1
      have y2 := cell_later b1 z2
      have y4 := cell_later b1 z4
      have y5 := cell_later b1 z5
      clear x0 x1 z2 z4 z5 CT
      go_wp2_with fail
      go_ret2
      exact ⟨rfl, BW.out.trans (b1.mono BW.out.size)⟩
    | true =>
      have hv : ftV at_ l LL = (u, 0) := by unfold ftV; rw [hq]; dsimp only; rw [e2]; rw [e4]; dsimp only [Option.getD]; rw [e5]; rfl
      rw [hv]
      dsimp only
      clear hv hq hs ha h hn hm e1 e2 e3 e4 e5 q2 q4 hll hh hc3 hca hb3
      go_enter Try.func33, Try.ntmps33
      go_wp2_with fail
      refine (CT.out _ BW.out).mono ?_
      rintro e W1 ⟨rfl, b1⟩
      have y0 := cell_later b1 x0
      have y1 := cell_later b1 x1
      have y2 := cell_later b1 z2
      have y4 := cell_later b1 z4
      have y5 := cell_later b1 z5
      clear x0 x1 z2 z4 z5 CT
      go_wp2_with fail
      go_ret2
      exact ⟨rfl, BW.out.trans (b1.mono BW.out.size)⟩
theorem flat_snoc {LL : List (List Int)} {k : Nat} {L : List Int} (h : LL[k]? = some L) : (LL.take (k + 1)).flatten = (LL.take k).flatten ++ L := by
  rw [take_snoc h]; simp
theorem flat_take_le (LL : List (List Int)) (k : Nat) : (LL.take k).flatten.length ≤ LL.flatten.length := by
  conv => rhs; rw [← List.take_append_drop k LL]
  rw [List.flatten_append, List.length_append]; omega
structure RwRel (b0 n : Nat) (LL : List (List Int)) (vl : Value) (w : World) (v3 v : Value) (wr : World) : Prop where
  ex : ∃ (k : Nat) (A : Option Addr) (m c : Nat), k ≤ n ∧ v = .int .i64 (k : Int) ∧ v3 = .slice A m c ∧ m = (LL.take k).flatten.length ∧ wr.ownsRow (b0 + 1) 39 1 (.slice A m c) m (CU (LL.take k).flatten) ∧ Below w.heap.size w wr ∧ wr.cell? ⟨b0, 1, none⟩ = some vl
set_option maxRecDepth 100000 in
set_option maxHeartbeats 8000000 in
theorem rwords_any (g : Nat) (va vl : Value) (l : List MA) (LL : List (List Int)) (w : World) (h : RS g w va vl l LL) (hf : LL.length ≤ 16) (hm : LL.flatten.length ≤ 5000) :
    Calls Try.prog 18 #[.agg #[va, vl]] w fun e w' => (∃ r, e = .returned r ∧ w'.ownsRow w.heap.size 39 1 r LL.flatten.length (CU LL.flatten)) ∧ Below w.heap.size w w' := by
  obtain ⟨i0, hinf, hz0, hz1, hz2⟩ := info_of u32_info
  obtain ⟨A, c, A', c', rfl, rfl⟩ := h.form
  obtain ⟨vs, h1, h2, h3⟩ := h.s.ex
  obtain ⟨n, hn⟩ : ∃ n, LL.length = n := ⟨_, rfl⟩
  obtain ⟨na, hna⟩ : ∃ na, l.length = na := ⟨_, rfl⟩
  obtain ⟨R, hR⟩ : ∃ R, LL.flatten = R := ⟨_, rfl⟩
  rw [hn] at h1 hf ⊢
  rw [hna]
  have HN := Lib.hid hn
  have H1 := Lib.hid h1
  have H2 := Lib.hid h2
  have HVL : Hid (vs.length = n) := by have := h1.len; unfold Hid; omega
  have HM := Lib.hid hm
  have HRR := Lib.hid hR
  rw [hR]
  clear hn h1 h2 h3 h hna hm hR
  obtain ⟨W0, hW0⟩ : ∃ W0, w.alloc (.cells #[.slice A na c, .slice A' n c'] 31) = W0 := ⟨_, rfl⟩
  have BW : Hid (Below w.heap.size w W0) := by rw [← hW0]; exact (Below.refl _ _).alloc (Nat.le_refl _) _
  have x1 : W0.cell? ⟨w.heap.size, 1, none⟩ = some (.slice A' n c') := by rw [← hW0]; simp
  go_enter Try.func18, Try.ntmps18
  go_wp2_with fail
  go_loopw [3, 4] (fun v3 v wr => RwRel w.heap.size n LL (.slice A' n c') w v3 v wr) (fun _ v => fun _ => n - (intOf v).toNat)
  case atStart => exact ⟨⟨0, none, 0, 0, Nat.zero_le _, rfl, rfl, rfl, World.ownsRow_nil _ _ _ _, BW.out, x1⟩⟩
  case round =>
    obtain ⟨⟨k, B, m, cb, hk, rfl, rfl, hml, hown, hb, hx⟩⟩ := hrel
    have HK := Lib.hid hk
    have HML := Lib.hid hml
    have HO := Lib.hid hown
    have HB := Lib.hid hb
    have HXX := Lib.hid hx
    clear hk hml hown hb x1 hW0 BW
    by_cases hlt : k < n
    · have hkI : (k : Int) < (n : Int) := by omega
      have HX : Hid (k < n) := hlt
      obtain ⟨L, hL⟩ : ∃ L, LL[k]? = some L := ⟨_, List.getElem?_eq_getElem (by have := HN.out; omega)⟩
      obtain ⟨u, hu⟩ : ∃ u, vs[k]? = some u := ⟨_, List.getElem?_eq_getElem (by have := HVL.out; omega)⟩
      have hst := (H2.out k u L hu hL).below HB.out
      obtain ⟨A2, c2, rfl⟩ := hst.form
      have RD := Lib.hid hst.reads.2
      obtain ⟨_, b, off, rfl, hbl, hg, hc⟩ := H1.out.at_ hlt
      have dl := cell_later HB.out (hc k _ hu)
      have HSN := Lib.hid (flat_snoc hL)
      have HLE : Hid (m + L.length ≤ 5000) := by
        have h1 := flat_take_le LL (k + 1)
        rw [flat_snoc hL, List.length_append, ← HML.out] at h1
        have := HM.out
        unfold Hid; omega
      obtain ⟨ll, hll⟩ : ∃ ll, L.length = ll := ⟨_, rfl⟩
      have HLL := Lib.hid hll
      rw [hll] at dl RD HLE
      clear hlt hL hu hst hc hbl hg hll
      go_wp2_with (at_builtin; refine wpList_append_any _ rfl (.tmp 12) (.tmp 17) _ rfl (w.heap.size + 1) 39 i0 (.int .u32 0) 1 4 Try.underlying40 hinf hz0 hz1 hz2 rfl (by decide) _ _ _ rfl HO.out wr.heap.size A2 ll c2 (CU L) rfl RD.out (CU_one _) ?c2 ?c3 ?c4 ?_)
      case c2 => have := HLE.out; unfold maxLen; omega
      case c3 => have := HLE.out; omega
      case c4 => exact World.block_lt_of_cell? _ _ HXX.out
      intro v2 w2 hown hgr hbl
      obtain ⟨B2, cb2, rfl⟩ := slice_form hown
      have HO2 : Hid (w2.ownsRow (w.heap.size + 1) 39 1 (.slice B2 (m + ll) cb2) (m + ll) (CU (LL.take (k + 1)).flatten)) := by
        unfold Hid; rw [HSN.out, CU_app]; exact hown
      have HML2 : Hid (m + ll = (LL.take (k + 1)).flatten.length) := by unfold Hid; rw [HSN.out, List.length_append, HML.out, HLL.out]
      have HB2 : Hid (Below w.heap.size w w2) := HB.out.grown hgr HB.out.size (fun q hq => by have := (HO.out.lt q hq).1; omega)
      have HX2 : Hid (w2.cell? ⟨w.heap.size, 1, none⟩ = some (.slice (some ⟨b, off, none⟩) n c')) := (World.cell?_of_block (hgr.block _ (World.block_lt_of_cell? _ _ HXX.out) (fun e => by have := (HO.out.lt _ e.symm).1; dsimp only at this; omega))).trans HXX.out
      clear hown hgr hbl
      go_wp2_with fail
      go_roundw
      case rel =>
        have Q : RwRel w.heap.size n LL (.slice (some ⟨b, off, none⟩) n c') w (.slice B2 (m + ll) cb2) (.int .i64 ((k : Int) + 1)) w2 := ⟨⟨k + 1, B2, m + ll, cb2, HX.out, by go_num, rfl, HML2.out, HO2.out, HB2.out, HX2.out⟩⟩
        first | exact Q | ((repeat apply Exists.intro); exact ⟨Q, rfl⟩)
      case measure => have := HX.out; simp [intOf]; omega
    · have hkn : k = n := by have := HK.out; omega
      clear hlt
      subst hkn
      have HF : Hid ((LL.take k).flatten = R) := by
        unfold Hid
        rw [List.take_of_length_le (by have := HN.out; omega), HRR.out]
      go_wp2_with fail
      go_ret
      refine ⟨⟨_, rfl, ?_⟩, HB.out⟩
      have := own_base (b0 := w.heap.size) HO.out (by omega)
      rw [HF.out] at this
      rw [HML.out, HF.out] at this ⊢
      exact this
end Go.Proofs.Ytliggejkpmlgfaa
